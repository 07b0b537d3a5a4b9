import PyProof.Rows.All
import Wide.All
import OpenK.AllK
import Wide.FinOn
import HandS.Base
import HandS.Call
import HandS.List
import HandS.Comp
import HandS.Ends
import HandS.Dict
import HandS.Iter
import HandS.Text
import HandS.Words
import HandS.WordsList
import HandS.WordsDict
import HandS.OwnEq
import HandS.IsInst
import HandS.Style
import HandS.Wide
import HandS.Zip
import HandS.Strs
import HandS.Evl
import HandS.Defaults
import HandS.Exc
import HandS.ExcInit
import HandS.ExcField
import HandS.TryOnly
import HandS.WordsExc
import HandS.CallSlots
import HandS.ExcOwn
import HandS.Property
import HandS.Walk
import KE.KSortedM
import HandS.SetFor
import KE.KMinKey
import KE.DataMinKey
import HandS.SortKw
import KE.GoesEnum
import KE.GoesEnumKw
import HandS.Deep
import OpenK.KLine
import KE.KOpsOwn
import HandS.More
import HandS.DeepEq
import HandS.DictComp
import PySem.Challenge.RW_rankpicks_k13_ends_of_trees
set_option Elab.async false
set_option linter.all false
set_option maxRecDepth 100000
set_option maxHeartbeats 4000000
/-! the own operators of instances: len, in, getitem, ==, !=; methods and properties of one of two classes -/
namespace RkN
open PySem PySem.Spec PyProof.Rows
section
variable {M : Model} {prog : Program} {w : World} {A : Around} {E : Value → Shared → Prop} {s : Shared} {K : PySem.W.Frag} {x y C f : Addr} {ox : Obj} {od : Option Obj}
theorem back {P : Value → Shared → Prop} {z : L2.V} {v : Value} {s' : Shared} (r : L2.RelV z v) (h : P v s') : PySem.W.CmpBack P v s' := by
  cases z with
  | non => cases (show v = Value.none from r); exact h
  | bl b => cases (show v = Value.bool b from r); exact h
  | int i =>
    obtain ⟨t, e⟩ := (show ∃ t, v = Value.int i t from r)
    cases e
    exact h
  | str x =>
    obtain ⟨t, e⟩ := (show ∃ t, v = Value.str x t from r)
    cases e
    exact h
  | byt b =>
    obtain ⟨t, e⟩ := (show ∃ t, v = Value.bytes b t from r)
    cases e
    exact h
  | flt b =>
    obtain ⟨t, e⟩ := (show ∃ t, v = Value.float b t from r)
    cases e
    exact h
  | ref a => cases (show v = Value.ref a from r); exact h
  | ty n => cases (show v = Value.type n from r); exact h
/-- object.__ne__, by the own == -/
theorem objNe {b : Value} {Q : Fin → Shared → Prop} (X : K.In s.heap) (I : PySem.W.InstAt s.heap x ox C od) (hu : A.units < cLine) (hs : PySem.W.findIn K (.ref C) "__eq__" = some (some (.ref f))) (hf : PySem.W.isFn K (.ref f) = true)
    (h : wpAny (model prog w) A (call (.ref f) [.ref x, b]) (fun v s' => ∃ r, v = .bool r ∧ Q (.done (.ret (.bool (!r)))) s') E s) :
    wpAny (model prog w) A (Builtin.«object.__ne__» ⟨[.ref x, b], []⟩) Q E s := by
  unfold Builtin.«object.__ne__»
  repeat (first
    | with_reducible refine wpAny_cRoomFor hu ?_
    | (refine wpAny_bind (m := callSpecialIfBound? (.ref x) (Str.ofString "__eq__") [b])
        (PySem.W.ifBound_K X I hs hf (wpAny_mono h (fun r s' hr => by
          obtain ⟨q, rfl, hq⟩ := hr
          repeat (first | exact hq | exact wpAny_pure hq | exact wpAny_truthy_bool hq | (refine wpAny_bind (m := truthy (.bool _)) (wpAny_truthy_bool ?_)) | wp_step)) fun _ _ e => e)))
    | wp_step)
theorem ifBound_ne {args : List Value} {Q : Option Value → Shared → Prop} (X : K.In s.heap) (I : PySem.W.InstAt s.heap x ox C od) (hs : PySem.W.findIn K (.ref C) "__ne__" = some (some (.builtin "object.__ne__")))
    (h : wpAny M A (call (.builtin "object.__ne__") (.ref x :: args)) (fun v => Q (some v)) E s) : wpAny M A (callSpecialIfBound? (.ref x) "__ne__" args) Q E s := by
  simp only [callSpecialIfBound?, bindSpecialIfBound?]
  refine wpAny_holding (wpAny_bind (wpAny_bind (wpAny_bind (I.type.here ((PySem.W.looks_findIn X hs).here ?_)))))
  refine wpAny_bind (wpAny_askSetting (wpAny_ite ?_))
  have fin : wpAny M A (call (.builtin "object.__ne__") ([.ref x] ++ args) >>= fun v => pure (some v)) Q E s := wpAny_bind (wpAny_mono h (fun v s' h' => wpAny_pure h') fun _ _ h' => h')
  split
  · exact wpAny_bind (wpAny_of_eq (F.cmp_object.ne.bind _) (wpAny_pure (by exact fin)))
  · exact wpAny_tryCatch (wpAny_bind (wpAny_of_eq (F.cmp_object.ne.bind _) (wpAny_pure (by exact fin))))
theorem ne_K {b tb : Value} {Q : Value → Shared → Prop} (X : K.In s.heap) (I : PySem.W.InstAt s.heap x ox C od) (hb : PySem.W.Looks (model prog w) s.heap (typeOf b) tb) (hn : PySem.W.notFirst K C tb = true) (hu : A.units + 1 < cLine)
    (hm : PySem.W.mroIn K C (.type "object") = some true) (hs : PySem.W.findIn K (.ref C) "__eq__" = some (some (.ref f))) (hf : PySem.W.isFn K (.ref f) = true) (hne : PySem.W.findIn K (.ref C) "__ne__" = some (some (.builtin "object.__ne__")))
    (h : wpAny (model prog w) A.in1 (call (.ref f) [.ref x, b]) (fun v s' => ∃ r, v = .bool r ∧ Q (.bool (!r)) s') E s) : wpAny (model prog w) A (richCompare .NotEq (.ref x) b) Q E s := by
  have one : wpAny (model prog w) A (tryCompare (.ref x) "__ne__" b) (fun r s' => ∃ v, r = some v ∧ Q v s') E s := by
    unfold tryCompare
    refine wpAny_bind (ifBound_ne X I hne ?_)
    refine wpAny_call (codeAny_call_builtin F.cmp_object.ne.plain F.cmpEntry_ne (PySem.W.check_slot F.cmpKind_ne F.cmpSplit_ne (I.type.andThen (PySem.W.looks_mroIn X hm)) (F.cmpArgs_ne _ _)
      (objNe (A := A.in1) X I (by show A.units + 1 < cLine; exact hu) hs hf (wpAny_mono h (fun v s' hv => ?_) fun _ _ e => e))))
    obtain ⟨r, rfl, hq⟩ := hv
    first | exact ⟨r, rfl, wpAny_pure ⟨_, rfl, hq⟩⟩ | exact ⟨r, rfl, wpAny_pure (wpAny_pure ⟨_, rfl, hq⟩)⟩ | exact ⟨r, rfl, ⟨_, rfl, hq⟩⟩
  unfold richCompare
  simp only [oneThing_ref]
  refine wpAny_holding (wpAny_bind (wpAny_cRoomFor (Nat.lt_of_succ_lt hu) ?_))
  refine wpAny_bind (I.type.here (wpAny_bind (hb.here ?_)))
  split
  · rename_i q
    have e : PySem.W.subIn K tb (.ref C) = some false := by
      rcases Bool.or_eq_true_iff.mp hn with e | e
      · rw [beq_iff_eq.mp e] at q; simp at q
      · exact beq_iff_eq.mp e
    refine wpAny_bind ((PySem.W.looks_subIn X e).here ?_)
    simp only [Bool.false_eq_true, if_false]
    refine wpAny_bind (wpAny_mono one (fun r s' z => ?_) fun _ _ e => e)
    obtain ⟨v, rfl, hq⟩ := z
    exact wpAny_pure hq
  · refine wpAny_bind (wpAny_pure ?_)
    simp only [Bool.false_eq_true, if_false]
    refine wpAny_bind (wpAny_mono one (fun r s' z => ?_) fun _ _ e => e)
    obtain ⟨v, rfl, hq⟩ := z
    exact wpAny_pure hq
end
end RkN

namespace RkO
open PySem PySem.Spec PyProof.Rows L2
variable {X : Cx} {CX : CXT} {k : Nat} {C f : Addr} {fd : FuncData} {ps : List Str} {sp : Sp} {E : XK}

/-- the own def is run with us -/
theorem run_here {A : Around} {pins : List (Addr × Obj)} {σ : L2.St} {H : Hp} {s : Shared} {Q : VK} {us : List Value} {vs : List V} (F : FnOk X.prog X.w X.K X.mg X.base CX k f fd ps sp) (hr : Room k A) (hfr : A.frames = X.A.frames) (hb : Binds X.K fd ps [])
    (hx : Passes CX X E) (I : Inv X pins σ H s) (r : Vals vs us) (h : sp vs H Q E) : wpAny (model X.prog X.w) A (call (.ref f) us) (EP X pins σ Q) X.xe s := by
  have hl : us.length = ps.length := by rw [← r.length]; exact F.len _ _ _ _ h
  have e0 : Env0 X.prog X.w X.K X.mg X.base A X.stack s H := by
    have e := I.env0
    exact ⟨by rw [hfr]; exact e.frames, e.mod, e.bs, e.bsz, e.funs, e.frf, e.hok, e.bare⟩
  refine wpAny_call (codeAny_mono (F.run A X.stack s H ⟨us, []⟩ us vs Q E hr e0 (by
    have := hb s us I.kIn (by simpa using hl)
    simpa using this) r h) fun r s' hq => ?_)
  cases r with
  | error e => exact hx pins σ H s e s' I hq
  | ok fl =>
    cases fl with
    | ret u => exact I.after hq
    | next => exact False.elim hq
    | brk => exact False.elim hq
    | cont => exact False.elim hq

/-- len(o) -/
def rLenO (C : Addr) (sp : Sp) (E : XK) : List V → Hp → VK → Prop := fun xs H Q => ∃ a dx fs, xs = [V.ref a] ∧ H a = some (.ins C dx fs) ∧ sp [.ref a] H (fun z H' => ∃ i : Int, z = .int i ∧ 0 ≤ i ∧ i < 2 ^ 63 ∧ Q z H') E
theorem call_lenO (hm : Meth X.K C "__len__" f) (F : FnOk X.prog X.w X.K X.mg X.base CX k f fd ps sp) (hr : Room (k + 1) X.A) (hb : Binds X.K fd ps []) (hx : Passes CX X E) : CallR X (.builtin "len") (rLenO C sp E) := by
  intro pins s σ H xs us Q I r h
  obtain ⟨a, dx, fs, rfl, ha, q⟩ := h
  obtain ⟨u, rfl, ru⟩ := r.one
  cases (show u = Value.ref a from ru)
  obtain ⟨mA, O, _⟩ := ins_get I.hok ha
  obtain ⟨od, J, _⟩ := O.look
  obtain ⟨m, hF⟩ := I.fr
  refine PySem.W.len_K hF I.ok.mod.kin J hm.at_ hm.fn (wpAny_mono (run_here (A := X.A.in1) (us := [.ref a]) (vs := [.ref a]) F hr.in1 rfl hb hx I (.cons rfl .nil) q) (fun v s' z => ?_) fun _ _ e => e)
  obtain ⟨z, H', I', rz, i, rfl, h0, h1, q⟩ := z
  obtain ⟨t, rfl⟩ := (show ∃ t, v = Value.int i t from rz)
  exact ⟨⟨h0, h1⟩, .int i, H', I'.tok _, ⟨_, rfl⟩, q⟩

/-- x in o, x not in o -/
def rInO (C : Addr) (neg : Bool) (sp : Sp) (E : XK) : R2 := fun x y H Q => ∃ a dx fs, y = .ref a ∧ H a = some (.ins C dx fs) ∧ sp [.ref a, x] H (fun z H' => ∃ b, z = .bl b ∧ Q (.bl (if neg then !b else b)) H') E
theorem op_inO (hm : Meth X.K C "__contains__" f) (F : FnOk X.prog X.w X.K X.mg X.base CX k f fd ps sp) (hr : Room k X.A) (hb : Binds X.K fd ps []) (hx : Passes CX X E) : OpR X (compareOp .In) (rInO C false sp E) := by
  intro pins s σ H x y v u Q I rx ry h
  obtain ⟨a, dx, fs, rfl, ha, q⟩ := h
  cases (show u = Value.ref a from ry)
  obtain ⟨mA, O, _⟩ := ins_get I.hok ha
  obtain ⟨od, J, _⟩ := O.look
  obtain ⟨m, hF⟩ := I.fr
  refine PySem.W.in_K hF I.ok.mod.kin J hm.at_ hm.fn (wpAny_mono (run_here (us := [.ref a, v]) (vs := [.ref a, x]) F hr rfl hb hx I (.cons rfl (.cons rx .nil)) q) (fun r s' z => ?_) fun _ _ e => e)
  obtain ⟨z, H', I', rz, b, rfl, q⟩ := z
  cases (show r = Value.bool b from rz)
  exact wpAny_truthy_bool ⟨.bl b, H', I', rfl, q⟩
theorem op_notInO (hm : Meth X.K C "__contains__" f) (F : FnOk X.prog X.w X.K X.mg X.base CX k f fd ps sp) (hr : Room k X.A) (hb : Binds X.K fd ps []) (hx : Passes CX X E) : OpR X (compareOp .NotIn) (rInO C true sp E) := by
  intro pins s σ H x y v u Q I rx ry h
  obtain ⟨a, dx, fs, rfl, ha, q⟩ := h
  cases (show u = Value.ref a from ry)
  obtain ⟨mA, O, _⟩ := ins_get I.hok ha
  obtain ⟨od, J, _⟩ := O.look
  obtain ⟨m, hF⟩ := I.fr
  refine PySem.W.notIn_K hF I.ok.mod.kin J hm.at_ hm.fn (wpAny_mono (run_here (us := [.ref a, v]) (vs := [.ref a, x]) F hr rfl hb hx I (.cons rfl (.cons rx .nil)) q) (fun r s' z => ?_) fun _ _ e => e)
  obtain ⟨z, H', I', rz, b, rfl, q⟩ := z
  cases (show r = Value.bool b from rz)
  exact wpAny_truthy_bool ⟨.bl (!b), H', I', rfl, q⟩

/-- o[x] -/
def rIxO (C : Addr) (sp : Sp) (E : XK) : R2 := fun x y H Q => ∃ a dx fs, x = .ref a ∧ H a = some (.ins C dx fs) ∧ sp [.ref a, y] H Q E
theorem ix_own (hq : PySem.W.noSeq X.K C = true) (hm : Meth X.K C "__getitem__" f) (F : FnOk X.prog X.w X.K X.mg X.base CX k f fd ps sp) (hr : Room k X.A) (hb : Binds X.K fd ps []) (hx : Passes CX X E) : OpR X getItem (rIxO C sp E) := by
  intro pins s σ H x y v u Q I rx ry h
  obtain ⟨a, dx, fs, rfl, ha, q⟩ := h
  cases (show v = Value.ref a from rx)
  obtain ⟨mA, O, _⟩ := ins_get I.hok ha
  obtain ⟨od, J, _⟩ := O.look
  obtain ⟨m, hF⟩ := I.fr
  exact PySem.W.getItem_K hF I.ok.mod.kin J hq hm.at_ hm.fn (run_here (us := [.ref a, u]) (vs := [.ref a, y]) F hr rfl hb hx I (.cons rfl (.cons ry .nil)) q)

/-- o == p, o != p, both instances, by o's own == -/
def rEqO (K : PySem.W.Frag) (C : Addr) (neg : Bool) (sp : Sp) (E : XK) : R2 := fun x y H Q => ∃ a dx fs b C' dy gs, x = .ref a ∧ y = .ref b ∧ H a = some (.ins C dx fs) ∧ H b = some (.ins C' dy gs) ∧ PySem.W.notFirst K C (.ref C') = true ∧
  sp [x, y] H (fun z H' => ∃ b, z = .bl b ∧ Q (.bl (if neg then !b else b)) H') E
theorem op_eqO (hm : Meth X.K C "__eq__" f) (F : FnOk X.prog X.w X.K X.mg X.base CX k f fd ps sp) (hr : Room k X.A) (hb : Binds X.K fd ps []) (hx : Passes CX X E) : OpR X (compareOp .Eq) (rEqO X.K C false sp E) := by
  intro pins s σ H x y v u Q I rx ry h
  obtain ⟨a, dx, fs, b, C', dy, gs, rfl, rfl, ha, hb', hn, q⟩ := h
  cases (show v = Value.ref a from rx)
  cases (show u = Value.ref b from ry)
  obtain ⟨mA, O, _⟩ := ins_get I.hok ha
  obtain ⟨od, J, _⟩ := O.look
  obtain ⟨mB, O', _⟩ := ins_get I.hok hb'
  obtain ⟨od', J', _⟩ := O'.look
  obtain ⟨m, hF⟩ := I.fr
  show wpAny _ _ (richCompare .Eq (.ref a) (.ref b)) _ _ _
  refine PySem.W.cmp_K (op := .Eq) (tb := .ref C') hr.units0 hF I.ok.mod.kin J J'.type hn hm.at_ hm.fn ?_
  refine wpAny_mono (run_here (us := [.ref a, .ref b]) (vs := [.ref a, .ref b]) F hr rfl hb hx I (.cons rfl (.cons rfl .nil)) q) (fun w s' z => ?_) fun _ _ x => x
  obtain ⟨z', H', I', rz, r, rfl, qz⟩ := z
  cases (show w = Value.bool r from rz)
  exact ⟨.bl r, H', I', rfl, qz⟩
theorem op_neO (hmo : PySem.W.mroIn X.K C (.type "object") = some true) (hne : PySem.W.findIn X.K (.ref C) "__ne__" = some (some (.builtin "object.__ne__"))) (hm : Meth X.K C "__eq__" f) (F : FnOk X.prog X.w X.K X.mg X.base CX k f fd ps sp) (hr : Room (k + 1) X.A)
    (hb : Binds X.K fd ps []) (hx : Passes CX X E) : OpR X (compareOp .NotEq) (rEqO X.K C true sp E) := by
  intro pins s σ H x y v u Q I rx ry h
  obtain ⟨a, dx, fs, b, C', dy, gs, rfl, rfl, ha, hb', hn, q⟩ := h
  cases (show v = Value.ref a from rx)
  cases (show u = Value.ref b from ry)
  obtain ⟨mA, O, _⟩ := ins_get I.hok ha
  obtain ⟨od, J, _⟩ := O.look
  obtain ⟨mB, O', _⟩ := ins_get I.hok hb'
  obtain ⟨od', J', _⟩ := O'.look
  show wpAny _ _ (richCompare .NotEq (.ref a) (.ref b)) _ _ _
  refine RkN.ne_K I.kIn J J'.type hn (by have := hr.units; omega) hmo hm.at_ hm.fn hne ?_
  refine wpAny_mono (run_here (A := X.A.in1) (us := [.ref a, .ref b]) (vs := [.ref a, .ref b]) F hr.in1 rfl hb hx I (.cons rfl (.cons rfl .nil)) q) (fun w s' z => ?_) fun _ _ x => x
  obtain ⟨z', H', I', rz, r, rfl, qz⟩ := z
  cases (show w = Value.bool r from rz)
  exact ⟨r, rfl, .bl (!r), H', I', rfl, qz⟩

/-- an operator by one of two rules -/
def r2or (r r' : R2) : R2 := fun x y H Q => r x y H Q ∨ r' x y H Q
theorem op_or {g : Value → Value → Sem Value} {r r' : R2} (h : OpR X g r) (h' : OpR X g r') : OpR X g (r2or r r') := fun pins s σ H x y v u Q I rx ry q =>
  q.elim (fun q => h pins s σ H x y v u Q I rx ry q) (fun q => h' pins s σ H x y v u Q I rx ry q)
def rcor (r r' : List V → Hp → VK → Prop) : List V → Hp → VK → Prop := fun xs H Q => r xs H Q ∨ r' xs H Q
theorem call_or {g : Value} {r r' : List V → Hp → VK → Prop} (h : CallR X g r) (h' : CallR X g r') : CallR X g (rcor r r') := fun pins s σ H xs us Q I rx q =>
  q.elim (fun q => h pins s σ H xs us Q I rx q) (fun q => h' pins s σ H xs us Q I rx q)
/-- an expression by one of two rules: which is known from the arguments' reading -/
def teor (t t' : TE) : TE := fun σ H Q => t σ H Q ∨ t' σ H Q
theorem pe_or2 {e : Expr} {t t' : TE} (h : PE X e t) (h' : PE X e t') : PE X e (teor t t') :=
  ⟨fun pins s σ H Q I q => q.elim (fun q => h.run pins s σ H Q I q) (fun q => h'.run pins s σ H Q I q)⟩
end RkO
namespace RkO
open PySem PySem.Spec PyProof.Rows L2
variable {X : Cx} {K : PySem.W.Frag}
/-- within a comprehension's block: the written part by its own name -/
theorem pi_listK {tg e : Expr} {tl : TE} (hK : X.K = K) (h : PE X e tl) : PI X tg e (iList K tl) := by
  subst hK
  exact pi_list h
theorem pe_fldK {o : Expr} {to : TE} {f : Str} {pos : Pos} (hK : X.K = K) (h : PE X (.Attribute o f pos) (tFld X.K to f)) : PE X (.Attribute o f pos) (tFld K to f) := by
  subst hK
  exact h
theorem pe_K {e : Expr} {t : PySem.W.Frag → TE} (hK : X.K = K) (h : PE X e (t X.K)) : PE X e (t K) := by
  subst hK
  exact h
theorem pt_K {e : Expr} {t : PySem.W.Frag → TT} (hK : X.K = K) (h : PT X e (t X.K)) : PT X e (t K) := by
  subst hK
  exact h
end RkO
set_option Elab.async false
set_option linter.all false
set_option maxRecDepth 100000
set_option maxHeartbeats 4000000
namespace Rk
open PySem PySem.Spec PyProof.Rows L2
theorem kit_type {K : PySem.W.Frag} {A : Addr} {b : String} (m : PySem.W.kitMeta b = true) (h : PySem.W.subIn K (.ref A) (.type b) = some false) : PySem.W.kitOne K (.ref A) (.type b) = some false := by
  unfold PySem.W.kitOne
  rw [if_neg (by intro z; cases eq_of_beq z)]
  show (if PySem.W.kitMeta b = true then _ else _) = _
  rw [if_pos m]
  exact h
theorem kit_ref {K : PySem.W.Frag} {A B : Addr} (n : A ≠ B) (c : PySem.W.isClsIn K B = true) (t : PySem.W.typeIn K (.ref B) = some (.type "type")) (h : PySem.W.subIn K (.ref A) (.ref B) = some false) : PySem.W.kitOne K (.ref A) (.ref B) = some false := by
  unfold PySem.W.kitOne
  rw [if_neg (by intro z; exact n (Value.ref.inj (eq_of_beq z)))]
  show (if ((PySem.W.clsIn K B).isSome && PySem.W.typeIn K (.ref B) == some (.type "type")) = true then _ else _) = _
  rw [if_pos (by rw [t]; exact Bool.and_eq_true_iff.mpr ⟨c, beq_self_eq_true _⟩)]
  exact h
theorem exm_self {K : PySem.W.Frag} {S : Addr} (h1 : PySem.W.subIn K (.ref S) (.type "BaseException") = some true) (h2 : PySem.W.isClsIn K S = true) (h3 : PySem.W.typeIn K (.ref S) = some (.type "type")) (h4 : PySem.W.subIn K (.ref S) (.ref S) = some true) : PySem.W.exmOne K (.ref S) (.ref S) = some true := by
  have h2' : (PySem.W.clsIn K S).isSome = true := h2
  show (if (PySem.W.subIn K (.ref S) (.type "BaseException") == some true) = true then (if ((PySem.W.clsIn K S).isSome && PySem.W.typeIn K (.ref S) == some (.type "type")) = true then PySem.W.subIn K (.ref S) (.ref S) else none) else none) = some true
  rw [if_pos (by rw [h1]; rfl), if_pos (by rw [h2', h3]; rfl)]
  exact h4
def top (i : Nat) : Stmt := PySem.Challenge.pw_rankpicks_k13_ends_of_trees.main.body.getD i (.Pass ⟨0, 0, 0, 0⟩)
abbrev s_is_whole : Stmt := top 2
theorem sc_is_whole : FnScope ["value"] ["value"] (defScope s_is_whole) := ⟨rfl, rfl, rfl, by decide +kernel, rfl, by decide +kernel, by decide +kernel⟩
abbrev s_is_name : Stmt := top 3
theorem sc_is_name : FnScope ["value", "letter"] ["value"] (defScope s_is_name) := ⟨rfl, rfl, rfl, by decide +kernel, rfl, by decide +kernel, by decide +kernel⟩
abbrev s_are_names : Stmt := top 4
theorem sc_are_names : FnScope ["value", "item"] ["value"] (defScope s_are_names) := ⟨rfl, rfl, rfl, by decide +kernel, rfl, by decide +kernel, by decide +kernel⟩
abbrev s_are_name_pairs : Stmt := top 5
theorem sc_are_name_pairs : FnScope ["value", "item"] ["value"] (defScope s_are_name_pairs) := ⟨rfl, rfl, rfl, by decide +kernel, rfl, by decide +kernel, by decide +kernel⟩
abbrev s_InvalidName_init : Stmt := inClass (top 8) 0
theorem sc_InvalidName_init : FnScope ["self", "value"] ["self", "value"] (defScope s_InvalidName_init) := ⟨rfl, rfl, rfl, by decide +kernel, rfl, by decide +kernel, by decide +kernel⟩
abbrev s_InvalidNumber_init : Stmt := inClass (top 9) 0
theorem sc_InvalidNumber_init : FnScope ["self", "value"] ["self", "value"] (defScope s_InvalidNumber_init) := ⟨rfl, rfl, rfl, by decide +kernel, rfl, by decide +kernel, by decide +kernel⟩
abbrev s_InvalidTree_init : Stmt := inClass (top 10) 0
theorem sc_InvalidTree_init : FnScope ["self", "value"] ["self", "value"] (defScope s_InvalidTree_init) := ⟨rfl, rfl, rfl, by decide +kernel, rfl, by decide +kernel, by decide +kernel⟩
abbrev s_InvalidLot_init : Stmt := inClass (top 11) 0
theorem sc_InvalidLot_init : FnScope ["self", "value"] ["self", "value"] (defScope s_InvalidLot_init) := ⟨rfl, rfl, rfl, by decide +kernel, rfl, by decide +kernel, by decide +kernel⟩
abbrev s_InvalidList_init : Stmt := inClass (top 12) 0
theorem sc_InvalidList_init : FnScope ["self", "value"] ["self", "value"] (defScope s_InvalidList_init) := ⟨rfl, rfl, rfl, by decide +kernel, rfl, by decide +kernel, by decide +kernel⟩
abbrev s_Unknown_init : Stmt := inClass (top 13) 0
theorem sc_Unknown_init : FnScope ["self", "which"] ["self", "which"] (defScope s_Unknown_init) := ⟨rfl, rfl, rfl, by decide +kernel, rfl, by decide +kernel, by decide +kernel⟩
abbrev s_Lacking_init : Stmt := inClass (top 14) 0
theorem sc_Lacking_init : FnScope ["self", "which"] ["self", "which"] (defScope s_Lacking_init) := ⟨rfl, rfl, rfl, by decide +kernel, rfl, by decide +kernel, by decide +kernel⟩
abbrev s_Tree_init : Stmt := inClass (top 16) 0
theorem sc_Tree_init : FnScope ["self"] ["self"] (defScope s_Tree_init) := ⟨rfl, rfl, rfl, by decide +kernel, rfl, by decide +kernel, by decide +kernel⟩
abbrev s_Leaf_init : Stmt := inClass (top 17) 0
theorem sc_Leaf_init : FnScope ["self", "name"] ["self", "name"] (defScope s_Leaf_init) := ⟨rfl, rfl, rfl, by decide +kernel, rfl, by decide +kernel, by decide +kernel⟩
abbrev s_Leaf_name : Stmt := inClass (top 17) 1
theorem sc_Leaf_name : FnScope ["self"] ["self"] (defScope s_Leaf_name) := ⟨rfl, rfl, rfl, by decide +kernel, rfl, by decide +kernel, by decide +kernel⟩
abbrev s_Leaf_width : Stmt := inClass (top 17) 2
theorem sc_Leaf_width : FnScope ["self"] ["self"] (defScope s_Leaf_width) := ⟨rfl, rfl, rfl, by decide +kernel, rfl, by decide +kernel, by decide +kernel⟩
abbrev s_Leaf_len : Stmt := inClass (top 17) 3
theorem sc_Leaf_len : FnScope ["self"] ["self"] (defScope s_Leaf_len) := ⟨rfl, rfl, rfl, by decide +kernel, rfl, by decide +kernel, by decide +kernel⟩
abbrev s_Leaf_contains : Stmt := inClass (top 17) 4
theorem sc_Leaf_contains : FnScope ["self", "name"] ["self", "name"] (defScope s_Leaf_contains) := ⟨rfl, rfl, rfl, by decide +kernel, rfl, by decide +kernel, by decide +kernel⟩
abbrev s_Leaf_eq : Stmt := inClass (top 17) 5
theorem sc_Leaf_eq : FnScope ["self", "other"] ["self", "other"] (defScope s_Leaf_eq) := ⟨rfl, rfl, rfl, by decide +kernel, rfl, by decide +kernel, by decide +kernel⟩
abbrev s_Leaf_names : Stmt := inClass (top 17) 6
theorem sc_Leaf_names : FnScope ["self"] ["self"] (defScope s_Leaf_names) := ⟨rfl, rfl, rfl, by decide +kernel, rfl, by decide +kernel, by decide +kernel⟩
abbrev s_Leaf_passes : Stmt := inClass (top 17) 7
theorem sc_Leaf_passes : FnScope ["self", "names"] ["self", "names"] (defScope s_Leaf_passes) := ⟨rfl, rfl, rfl, by decide +kernel, rfl, by decide +kernel, by decide +kernel⟩
abbrev s_Leaf__low_ends : Stmt := inClass (top 17) 12
theorem sc_Leaf__low_ends : FnScope ["self", "low"] ["self", "low"] (defScope s_Leaf__low_ends) := ⟨rfl, rfl, rfl, by decide +kernel, rfl, by decide +kernel, by decide +kernel⟩
abbrev s_Group_init : Stmt := inClass (top 18) 0
theorem sc_Group_init : FnScope ["self", "ranks", "parts"] ["self", "ranks", "parts"] (defScope s_Group_init) := ⟨rfl, rfl, rfl, by decide +kernel, rfl, by decide +kernel, by decide +kernel⟩
abbrev s_Group_ranks : Stmt := inClass (top 18) 1
theorem sc_Group_ranks : FnScope ["self"] ["self"] (defScope s_Group_ranks) := ⟨rfl, rfl, rfl, by decide +kernel, rfl, by decide +kernel, by decide +kernel⟩
abbrev s_Group_parts : Stmt := inClass (top 18) 2
theorem sc_Group_parts : FnScope ["self"] ["self"] (defScope s_Group_parts) := ⟨rfl, rfl, rfl, by decide +kernel, rfl, by decide +kernel, by decide +kernel⟩
abbrev s_Group_intake : Stmt := inClass (top 18) 3
theorem sc_Group_intake : FnScope ["self"] ["self"] (defScope s_Group_intake) := ⟨rfl, rfl, rfl, by decide +kernel, rfl, by decide +kernel, by decide +kernel⟩
abbrev s_Group_width : Stmt := inClass (top 18) 4
theorem sc_Group_width : FnScope ["self"] ["self"] (defScope s_Group_width) := ⟨rfl, rfl, rfl, by decide +kernel, rfl, by decide +kernel, by decide +kernel⟩
abbrev s_Group_len : Stmt := inClass (top 18) 5
theorem sc_Group_len : FnScope ["self"] ["self"] (defScope s_Group_len) := ⟨rfl, rfl, rfl, by decide +kernel, rfl, by decide +kernel, by decide +kernel⟩
abbrev s_Group_contains : Stmt := inClass (top 18) 6
theorem sc_Group_contains : FnScope ["self", "name"] ["self", "name"] (defScope s_Group_contains) := ⟨rfl, rfl, rfl, by decide +kernel, rfl, by decide +kernel, by decide +kernel⟩
abbrev s_Group_eq : Stmt := inClass (top 18) 7
theorem sc_Group_eq : FnScope ["self", "other"] ["self", "other"] (defScope s_Group_eq) := ⟨rfl, rfl, rfl, by decide +kernel, rfl, by decide +kernel, by decide +kernel⟩
abbrev s_Group_getitem : Stmt := inClass (top 18) 8
theorem sc_Group_getitem : FnScope ["self", "k"] ["self", "k"] (defScope s_Group_getitem) := ⟨rfl, rfl, rfl, by decide +kernel, rfl, by decide +kernel, by decide +kernel⟩
abbrev s_Group_iter : Stmt := inClass (top 18) 9
theorem sc_Group_iter : FnScope ["self"] ["self"] (defScope s_Group_iter) := ⟨rfl, rfl, rfl, by decide +kernel, rfl, by decide +kernel, by decide +kernel⟩
abbrev s_Group_names : Stmt := inClass (top 18) 10
theorem sc_Group_names : FnScope ["self"] ["self"] (defScope s_Group_names) := ⟨rfl, rfl, rfl, by decide +kernel, rfl, by decide +kernel, by decide +kernel⟩
abbrev s_Group_passes : Stmt := inClass (top 18) 11
theorem sc_Group_passes : FnScope ["self", "names"] ["self", "names"] (defScope s_Group_passes) := ⟨rfl, rfl, rfl, by decide +kernel, rfl, by decide +kernel, by decide +kernel⟩
abbrev s_Group__low_ends : Stmt := inClass (top 18) 16
theorem sc_Group__low_ends : FnScope ["self", "low", "taken", "part", "rank"] ["self", "low"] (defScope s_Group__low_ends) := ⟨rfl, rfl, rfl, by decide +kernel, rfl, by decide +kernel, by decide +kernel⟩
abbrev s_is_tree : Stmt := top 19
theorem sc_is_tree : FnScope ["value"] ["value"] (defScope s_is_tree) := ⟨rfl, rfl, rfl, by decide +kernel, rfl, by decide +kernel, by decide +kernel⟩
abbrev s_is_end : Stmt := top 20
theorem sc_is_end : FnScope ["tree", "j"] ["tree", "j"] (defScope s_is_end) := ⟨rfl, rfl, rfl, by decide +kernel, rfl, by decide +kernel, by decide +kernel⟩
abbrev s_are_parts : Stmt := top 21
theorem sc_are_parts : FnScope ["value", "part"] ["value"] (defScope s_are_parts) := ⟨rfl, rfl, rfl, by decide +kernel, rfl, by decide +kernel, by decide +kernel⟩
abbrev s_are_ranks : Stmt := top 22
theorem sc_are_ranks : FnScope ["value", "intake", "ascending", "rank", "low", "high"] ["value", "intake"] (defScope s_are_ranks) := ⟨rfl, rfl, rfl, by decide +kernel, rfl, by decide +kernel, by decide +kernel⟩
abbrev s_intake_of : Stmt := top 23
theorem sc_intake_of : FnScope ["parts", "part"] ["parts"] (defScope s_intake_of) := ⟨rfl, rfl, rfl, by decide +kernel, rfl, by decide +kernel, by decide +kernel⟩
abbrev s_names_of : Stmt := top 24
theorem sc_names_of : FnScope ["parts", "part", "name"] ["parts"] (defScope s_names_of) := ⟨rfl, rfl, rfl, by decide +kernel, rfl, by decide +kernel, by decide +kernel⟩
abbrev s_are_leaves : Stmt := top 25
theorem sc_are_leaves : FnScope ["tree", "names", "name"] ["tree", "names"] (defScope s_are_leaves) := ⟨rfl, rfl, rfl, by decide +kernel, rfl, by decide +kernel, by decide +kernel⟩
abbrev s_Lot_init : Stmt := inClass (top 27) 0
theorem sc_Lot_init : FnScope ["self", "pairs", "given", "name", "worth"] ["self", "pairs"] (defScope s_Lot_init) := ⟨rfl, rfl, rfl, by decide +kernel, rfl, by decide +kernel, by decide +kernel⟩
abbrev s_Lot_getitem : Stmt := inClass (top 27) 1
theorem sc_Lot_getitem : FnScope ["self", "name"] ["self", "name"] (defScope s_Lot_getitem) := ⟨rfl, rfl, rfl, by decide +kernel, rfl, by decide +kernel, by decide +kernel⟩
abbrev s_Lot_setitem : Stmt := inClass (top 27) 2
theorem sc_Lot_setitem : FnScope ["self", "name", "worth"] ["self", "name", "worth"] (defScope s_Lot_setitem) := ⟨rfl, rfl, rfl, by decide +kernel, rfl, by decide +kernel, by decide +kernel⟩
abbrev s_Lot_contains : Stmt := inClass (top 27) 3
theorem sc_Lot_contains : FnScope ["self", "name"] ["self", "name"] (defScope s_Lot_contains) := ⟨rfl, rfl, rfl, by decide +kernel, rfl, by decide +kernel, by decide +kernel⟩
abbrev s_Lot_iter : Stmt := inClass (top 27) 4
theorem sc_Lot_iter : FnScope ["self"] ["self"] (defScope s_Lot_iter) := ⟨rfl, rfl, rfl, by decide +kernel, rfl, by decide +kernel, by decide +kernel⟩
abbrev s_Lot_len : Stmt := inClass (top 27) 5
theorem sc_Lot_len : FnScope ["self"] ["self"] (defScope s_Lot_len) := ⟨rfl, rfl, rfl, by decide +kernel, rfl, by decide +kernel, by decide +kernel⟩
abbrev s_Lot_eq : Stmt := inClass (top 27) 6
theorem sc_Lot_eq : FnScope ["self", "other"] ["self", "other"] (defScope s_Lot_eq) := ⟨rfl, rfl, rfl, by decide +kernel, rfl, by decide +kernel, by decide +kernel⟩
abbrev s_Lot_drop : Stmt := inClass (top 27) 7
theorem sc_Lot_drop : FnScope ["self", "name"] ["self", "name"] (defScope s_Lot_drop) := ⟨rfl, rfl, rfl, by decide +kernel, rfl, by decide +kernel, by decide +kernel⟩
abbrev s_Lot_names : Stmt := inClass (top 27) 8
theorem sc_Lot_names : FnScope ["self"] ["self"] (defScope s_Lot_names) := ⟨rfl, rfl, rfl, by decide +kernel, rfl, by decide +kernel, by decide +kernel⟩
abbrev s_Lot_pairs : Stmt := inClass (top 27) 9
theorem sc_Lot_pairs : FnScope ["self", "name"] ["self"] (defScope s_Lot_pairs) := ⟨rfl, rfl, rfl, by decide +kernel, rfl, by decide +kernel, by decide +kernel⟩
abbrev s_is_lot : Stmt := top 28
theorem sc_is_lot : FnScope ["value"] ["value"] (defScope s_is_lot) := ⟨rfl, rfl, rfl, by decide +kernel, rfl, by decide +kernel, by decide +kernel⟩
abbrev s_ends_of : Stmt := top 29
theorem sc_ends_of : FnScope ["tree", "lot"] ["tree", "lot"] (defScope s_ends_of) := ⟨rfl, rfl, rfl, by decide +kernel, rfl, by decide +kernel, by decide +kernel⟩
abbrev s_end_of : Stmt := top 30
theorem sc_end_of : FnScope ["tree", "lot", "j"] ["tree", "lot", "j"] (defScope s_end_of) := ⟨rfl, rfl, rfl, by decide +kernel, rfl, by decide +kernel, by decide +kernel⟩
abbrev s_outs_of : Stmt := top 31
theorem sc_outs_of : FnScope ["tree", "lot"] ["tree", "lot"] (defScope s_outs_of) := ⟨rfl, rfl, rfl, by decide +kernel, rfl, by decide +kernel, by decide +kernel⟩
abbrev s_check_kinds : Stmt := top 32
theorem sc_check_kinds : FnScope ["tree", "lot"] ["tree", "lot"] (defScope s_check_kinds) := ⟨rfl, rfl, rfl, by decide +kernel, rfl, by decide +kernel, by decide +kernel⟩
abbrev s_check_full : Stmt := top 33
theorem sc_check_full : FnScope ["tree", "lot", "name"] ["tree", "lot"] (defScope s_check_full) := ⟨rfl, rfl, rfl, by decide +kernel, rfl, by decide +kernel, by decide +kernel⟩
abbrev s_outs : Stmt := top 34
theorem sc_outs : FnScope ["tree", "lot", "within", "taken", "passed", "part", "outs", "end", "rank", "ends"] ["tree", "lot"] (defScope s_outs) := ⟨rfl, rfl, rfl, by decide +kernel, rfl, by decide +kernel, by decide +kernel⟩
abbrev s_rank_in : Stmt := top 36
theorem sc_rank_in : FnScope ["tree", "lot", "j", "end", "worths", "lesser", "name", "worth"] ["tree", "lot", "j"] (defScope s_rank_in) := ⟨rfl, rfl, rfl, by decide +kernel, rfl, by decide +kernel, by decide +kernel⟩
abbrev s_law_well : Stmt := top 38
theorem sc_law_well : FnScope ["script", "at", "cell", "great", "left", "right", "poured", "turn"] ["script", "at"] (defScope s_law_well) := ⟨rfl, rfl, rfl, by decide +kernel, rfl, by decide +kernel, by decide +kernel⟩
abbrev s_law_dip : Stmt := top 39
theorem sc_law_dip : FnScope ["well", "many", "digit"] ["well", "many"] (defScope s_law_dip) := ⟨rfl, rfl, rfl, by decide +kernel, rfl, by decide +kernel, by decide +kernel⟩
abbrev s_law_words : Stmt := top 40
theorem sc_law_words : FnScope ["well", "many", "found", "turn", "size", "word", "k"] ["well", "many"] (defScope s_law_words) := ⟨rfl, rfl, rfl, by decide +kernel, rfl, by decide +kernel, by decide +kernel⟩
abbrev s_law_ranks : Stmt := top 41
theorem sc_law_ranks : FnScope ["well", "intake", "way", "one", "others", "rank"] ["well", "intake"] (defScope s_law_ranks) := ⟨rfl, rfl, rfl, by decide +kernel, rfl, by decide +kernel, by decide +kernel⟩
abbrev s_law_width : Stmt := top 42
theorem sc_law_width : FnScope ["tree"] ["tree"] (defScope s_law_width) := ⟨rfl, rfl, rfl, by decide +kernel, rfl, by decide +kernel, by decide +kernel⟩
abbrev s_law_group : Stmt := top 43
theorem sc_law_group : FnScope ["well", "parts", "part"] ["well", "parts"] (defScope s_law_group) := ⟨rfl, rfl, rfl, by decide +kernel, rfl, by decide +kernel, by decide +kernel⟩
abbrev s_law_tree : Stmt := top 44
theorem sc_law_tree : FnScope ["well", "names", "depth", "parts", "rest", "turn", "size", "name"] ["well", "names", "depth"] (defScope s_law_tree) := ⟨rfl, rfl, rfl, by decide +kernel, rfl, by decide +kernel, by decide +kernel⟩
abbrev s_law_nodes : Stmt := top 46
theorem sc_law_nodes : FnScope ["tree", "found", "part"] ["tree"] (defScope s_law_nodes) := ⟨rfl, rfl, rfl, by decide +kernel, rfl, by decide +kernel, by decide +kernel⟩
abbrev s_law_made : Stmt := top 47
theorem sc_law_made : FnScope ["tree", "part"] ["tree"] (defScope s_law_made) := ⟨rfl, rfl, rfl, by decide +kernel, rfl, by decide +kernel, by decide +kernel⟩
abbrev s_law_ends : Stmt := top 48
theorem sc_law_ends : FnScope ["tree", "worths", "taken", "part", "rank"] ["tree", "worths"] (defScope s_law_ends) := ⟨rfl, rfl, rfl, by decide +kernel, rfl, by decide +kernel, by decide +kernel⟩
abbrev s_law_worths : Stmt := top 49
theorem sc_law_worths : FnScope ["well", "names", "spread", "worths", "name"] ["well", "names"] (defScope s_law_worths) := ⟨rfl, rfl, rfl, by decide +kernel, rfl, by decide +kernel, by decide +kernel⟩
abbrev s_law_pairs : Stmt := top 50
theorem sc_law_pairs : FnScope ["worths", "name"] ["worths"] (defScope s_law_pairs) := ⟨rfl, rfl, rfl, by decide +kernel, rfl, by decide +kernel, by decide +kernel⟩
abbrev s_law_right : Stmt := top 51
theorem sc_law_right : FnScope ["made", "tree", "lot", "worths", "due", "told", "outs", "node", "k"] ["made", "tree", "lot", "worths"] (defScope s_law_right) := ⟨rfl, rfl, rfl, by decide +kernel, rfl, by decide +kernel, by decide +kernel⟩
abbrev s_law_lacks : Stmt := top 52
theorem sc_law_lacks : FnScope ["made", "lot", "name", "way", "told", "e"] ["made", "lot", "name"] (defScope s_law_lacks) := ⟨rfl, rfl, rfl, by decide +kernel, rfl, by decide +kernel, by decide +kernel⟩
abbrev s_law : Stmt := top 53
theorem sc_law : FnScope ["script", "well", "names", "tree", "made", "fresh", "at", "worths", "lot", "turn", "name"] ["script"] (defScope s_law) := ⟨rfl, rfl, rfl, by decide +kernel, rfl, by decide +kernel, by decide +kernel⟩
structure Txt (K : PySem.W.Frag) (mg : Str → Option Value) where
  m_len : mg "len" = none
  m_int : mg "int" = none
  m_range : mg "range" = none
  m_sum : mg "sum" = none
  m_all : mg "all" = none
  m_isinstance : mg "isinstance" = none
  m_sorted : mg "sorted" = none
  m_list : mg "list" = none
  m_tuple : mg "tuple" = none
  m_set : mg "set" = none
  m_zip : mg "zip" = none
  m_bool : mg "bool" = none
  m_str : mg "str" = none
  m_dict : mg "dict" = none
  m_TypeError : mg "TypeError" = none
  m_ValueError : mg "ValueError" = none
  a_RankError : Addr
  m_RankError : mg "RankError" = some (.ref a_RankError)
  a_InvalidName : Addr
  m_InvalidName : mg "InvalidName" = some (.ref a_InvalidName)
  a_InvalidNumber : Addr
  m_InvalidNumber : mg "InvalidNumber" = some (.ref a_InvalidNumber)
  a_InvalidTree : Addr
  m_InvalidTree : mg "InvalidTree" = some (.ref a_InvalidTree)
  a_InvalidLot : Addr
  m_InvalidLot : mg "InvalidLot" = some (.ref a_InvalidLot)
  a_InvalidList : Addr
  m_InvalidList : mg "InvalidList" = some (.ref a_InvalidList)
  a_Unknown : Addr
  m_Unknown : mg "Unknown" = some (.ref a_Unknown)
  a_Lacking : Addr
  m_Lacking : mg "Lacking" = some (.ref a_Lacking)
  a_Tree : Addr
  m_Tree : mg "Tree" = some (.ref a_Tree)
  a_Leaf : Addr
  m_Leaf : mg "Leaf" = some (.ref a_Leaf)
  a_Group : Addr
  m_Group : mg "Group" = some (.ref a_Group)
  a_Lot : Addr
  m_Lot : mg "Lot" = some (.ref a_Lot)
  f_Leaf_init : Addr
  d_Leaf_init : FuncData
  F_Leaf_init : Fun K "__init__" "Leaf.__init__" s_Leaf_init f_Leaf_init d_Leaf_init
  b_Leaf_init : Binds K d_Leaf_init ["self", "name"] []
  M_Leaf_init : Meth K a_Leaf "__init__" f_Leaf_init
  f_Leaf_name : Addr
  d_Leaf_name : FuncData
  p_Leaf_name : Addr
  P_Leaf_name : PropOf K a_Leaf "name" p_Leaf_name f_Leaf_name
  F_Leaf_name : Fun K "name" "Leaf.name" s_Leaf_name f_Leaf_name d_Leaf_name
  b_Leaf_name : Binds K d_Leaf_name ["self"] []
  f_Leaf_width : Addr
  d_Leaf_width : FuncData
  p_Leaf_width : Addr
  P_Leaf_width : PropOf K a_Leaf "width" p_Leaf_width f_Leaf_width
  F_Leaf_width : Fun K "width" "Leaf.width" s_Leaf_width f_Leaf_width d_Leaf_width
  b_Leaf_width : Binds K d_Leaf_width ["self"] []
  f_Leaf_len : Addr
  d_Leaf_len : FuncData
  F_Leaf_len : Fun K "__len__" "Leaf.__len__" s_Leaf_len f_Leaf_len d_Leaf_len
  b_Leaf_len : Binds K d_Leaf_len ["self"] []
  M_Leaf_len : Meth K a_Leaf "__len__" f_Leaf_len
  f_Leaf_contains : Addr
  d_Leaf_contains : FuncData
  F_Leaf_contains : Fun K "__contains__" "Leaf.__contains__" s_Leaf_contains f_Leaf_contains d_Leaf_contains
  b_Leaf_contains : Binds K d_Leaf_contains ["self", "name"] []
  M_Leaf_contains : Meth K a_Leaf "__contains__" f_Leaf_contains
  f_Leaf_eq : Addr
  d_Leaf_eq : FuncData
  F_Leaf_eq : Fun K "__eq__" "Leaf.__eq__" s_Leaf_eq f_Leaf_eq d_Leaf_eq
  b_Leaf_eq : Binds K d_Leaf_eq ["self", "other"] []
  M_Leaf_eq : Meth K a_Leaf "__eq__" f_Leaf_eq
  f_Leaf_names : Addr
  d_Leaf_names : FuncData
  F_Leaf_names : Fun K "names" "Leaf.names" s_Leaf_names f_Leaf_names d_Leaf_names
  b_Leaf_names : Binds K d_Leaf_names ["self"] []
  M_Leaf_names : Meth K a_Leaf "names" f_Leaf_names
  f_Leaf_passes : Addr
  d_Leaf_passes : FuncData
  F_Leaf_passes : Fun K "passes" "Leaf.passes" s_Leaf_passes f_Leaf_passes d_Leaf_passes
  b_Leaf_passes : Binds K d_Leaf_passes ["self", "names"] []
  M_Leaf_passes : Meth K a_Leaf "passes" f_Leaf_passes
  f_Leaf__low_ends : Addr
  d_Leaf__low_ends : FuncData
  F_Leaf__low_ends : Fun K "_low_ends" "Leaf._low_ends" s_Leaf__low_ends f_Leaf__low_ends d_Leaf__low_ends
  b_Leaf__low_ends : Binds K d_Leaf__low_ends ["self", "low"] []
  M_Leaf__low_ends : Meth K a_Leaf "_low_ends" f_Leaf__low_ends
  c_Leaf : Cls K a_Leaf
  M_Leaf : Mk K a_Leaf f_Leaf_init
  ca_Leaf : PySem.W.findIn K (.ref a_Leaf) "__class__" = some (some (.builtin "object.__class__"))
  mo_Leaf : PySem.W.mroIn K a_Leaf (.type "object") = some true
  ne_Leaf : PySem.W.findIn K (.ref a_Leaf) "__ne__" = some (some (.builtin "object.__ne__"))
  n_Leaf_name : NoAttr K a_Leaf "_name"
  f_Group_init : Addr
  d_Group_init : FuncData
  F_Group_init : Fun K "__init__" "Group.__init__" s_Group_init f_Group_init d_Group_init
  b_Group_init : Binds K d_Group_init ["self", "ranks", "parts"] []
  M_Group_init : Meth K a_Group "__init__" f_Group_init
  f_Group_ranks : Addr
  d_Group_ranks : FuncData
  p_Group_ranks : Addr
  P_Group_ranks : PropOf K a_Group "ranks" p_Group_ranks f_Group_ranks
  F_Group_ranks : Fun K "ranks" "Group.ranks" s_Group_ranks f_Group_ranks d_Group_ranks
  b_Group_ranks : Binds K d_Group_ranks ["self"] []
  f_Group_parts : Addr
  d_Group_parts : FuncData
  p_Group_parts : Addr
  P_Group_parts : PropOf K a_Group "parts" p_Group_parts f_Group_parts
  F_Group_parts : Fun K "parts" "Group.parts" s_Group_parts f_Group_parts d_Group_parts
  b_Group_parts : Binds K d_Group_parts ["self"] []
  f_Group_intake : Addr
  d_Group_intake : FuncData
  p_Group_intake : Addr
  P_Group_intake : PropOf K a_Group "intake" p_Group_intake f_Group_intake
  F_Group_intake : Fun K "intake" "Group.intake" s_Group_intake f_Group_intake d_Group_intake
  b_Group_intake : Binds K d_Group_intake ["self"] []
  f_Group_width : Addr
  d_Group_width : FuncData
  p_Group_width : Addr
  P_Group_width : PropOf K a_Group "width" p_Group_width f_Group_width
  F_Group_width : Fun K "width" "Group.width" s_Group_width f_Group_width d_Group_width
  b_Group_width : Binds K d_Group_width ["self"] []
  f_Group_len : Addr
  d_Group_len : FuncData
  F_Group_len : Fun K "__len__" "Group.__len__" s_Group_len f_Group_len d_Group_len
  b_Group_len : Binds K d_Group_len ["self"] []
  M_Group_len : Meth K a_Group "__len__" f_Group_len
  f_Group_contains : Addr
  d_Group_contains : FuncData
  F_Group_contains : Fun K "__contains__" "Group.__contains__" s_Group_contains f_Group_contains d_Group_contains
  b_Group_contains : Binds K d_Group_contains ["self", "name"] []
  M_Group_contains : Meth K a_Group "__contains__" f_Group_contains
  f_Group_eq : Addr
  d_Group_eq : FuncData
  F_Group_eq : Fun K "__eq__" "Group.__eq__" s_Group_eq f_Group_eq d_Group_eq
  b_Group_eq : Binds K d_Group_eq ["self", "other"] []
  M_Group_eq : Meth K a_Group "__eq__" f_Group_eq
  f_Group_getitem : Addr
  d_Group_getitem : FuncData
  F_Group_getitem : Fun K "__getitem__" "Group.__getitem__" s_Group_getitem f_Group_getitem d_Group_getitem
  b_Group_getitem : Binds K d_Group_getitem ["self", "k"] []
  M_Group_getitem : Meth K a_Group "__getitem__" f_Group_getitem
  f_Group_iter : Addr
  d_Group_iter : FuncData
  F_Group_iter : Fun K "__iter__" "Group.__iter__" s_Group_iter f_Group_iter d_Group_iter
  b_Group_iter : Binds K d_Group_iter ["self"] []
  M_Group_iter : Meth K a_Group "__iter__" f_Group_iter
  f_Group_names : Addr
  d_Group_names : FuncData
  F_Group_names : Fun K "names" "Group.names" s_Group_names f_Group_names d_Group_names
  b_Group_names : Binds K d_Group_names ["self"] []
  M_Group_names : Meth K a_Group "names" f_Group_names
  f_Group_passes : Addr
  d_Group_passes : FuncData
  F_Group_passes : Fun K "passes" "Group.passes" s_Group_passes f_Group_passes d_Group_passes
  b_Group_passes : Binds K d_Group_passes ["self", "names"] []
  M_Group_passes : Meth K a_Group "passes" f_Group_passes
  f_Group__low_ends : Addr
  d_Group__low_ends : FuncData
  F_Group__low_ends : Fun K "_low_ends" "Group._low_ends" s_Group__low_ends f_Group__low_ends d_Group__low_ends
  b_Group__low_ends : Binds K d_Group__low_ends ["self", "low"] []
  M_Group__low_ends : Meth K a_Group "_low_ends" f_Group__low_ends
  c_Group : Cls K a_Group
  M_Group : Mk K a_Group f_Group_init
  ca_Group : PySem.W.findIn K (.ref a_Group) "__class__" = some (some (.builtin "object.__class__"))
  mo_Group : PySem.W.mroIn K a_Group (.type "object") = some true
  ne_Group : PySem.W.findIn K (.ref a_Group) "__ne__" = some (some (.builtin "object.__ne__"))
  n_Group_intake : NoAttr K a_Group "_intake"
  n_Group_names : NoAttr K a_Group "_names"
  n_Group_parts : NoAttr K a_Group "_parts"
  n_Group_ranks : NoAttr K a_Group "_ranks"
  f_Lot_init : Addr
  d_Lot_init : FuncData
  F_Lot_init : FunD K "__init__" "Lot.__init__" (defArgs s_Lot_init) (defBody s_Lot_init) (defScope s_Lot_init) [.non] [] f_Lot_init d_Lot_init
  M_Lot_init : Meth K a_Lot "__init__" f_Lot_init
  f_Lot_getitem : Addr
  d_Lot_getitem : FuncData
  F_Lot_getitem : Fun K "__getitem__" "Lot.__getitem__" s_Lot_getitem f_Lot_getitem d_Lot_getitem
  b_Lot_getitem : Binds K d_Lot_getitem ["self", "name"] []
  M_Lot_getitem : Meth K a_Lot "__getitem__" f_Lot_getitem
  f_Lot_setitem : Addr
  d_Lot_setitem : FuncData
  F_Lot_setitem : Fun K "__setitem__" "Lot.__setitem__" s_Lot_setitem f_Lot_setitem d_Lot_setitem
  b_Lot_setitem : Binds K d_Lot_setitem ["self", "name", "worth"] []
  M_Lot_setitem : Meth K a_Lot "__setitem__" f_Lot_setitem
  f_Lot_contains : Addr
  d_Lot_contains : FuncData
  F_Lot_contains : Fun K "__contains__" "Lot.__contains__" s_Lot_contains f_Lot_contains d_Lot_contains
  b_Lot_contains : Binds K d_Lot_contains ["self", "name"] []
  M_Lot_contains : Meth K a_Lot "__contains__" f_Lot_contains
  f_Lot_iter : Addr
  d_Lot_iter : FuncData
  F_Lot_iter : Fun K "__iter__" "Lot.__iter__" s_Lot_iter f_Lot_iter d_Lot_iter
  b_Lot_iter : Binds K d_Lot_iter ["self"] []
  M_Lot_iter : Meth K a_Lot "__iter__" f_Lot_iter
  f_Lot_len : Addr
  d_Lot_len : FuncData
  F_Lot_len : Fun K "__len__" "Lot.__len__" s_Lot_len f_Lot_len d_Lot_len
  b_Lot_len : Binds K d_Lot_len ["self"] []
  M_Lot_len : Meth K a_Lot "__len__" f_Lot_len
  f_Lot_eq : Addr
  d_Lot_eq : FuncData
  F_Lot_eq : Fun K "__eq__" "Lot.__eq__" s_Lot_eq f_Lot_eq d_Lot_eq
  b_Lot_eq : Binds K d_Lot_eq ["self", "other"] []
  M_Lot_eq : Meth K a_Lot "__eq__" f_Lot_eq
  f_Lot_drop : Addr
  d_Lot_drop : FuncData
  F_Lot_drop : Fun K "drop" "Lot.drop" s_Lot_drop f_Lot_drop d_Lot_drop
  b_Lot_drop : Binds K d_Lot_drop ["self", "name"] []
  M_Lot_drop : Meth K a_Lot "drop" f_Lot_drop
  f_Lot_names : Addr
  d_Lot_names : FuncData
  F_Lot_names : Fun K "names" "Lot.names" s_Lot_names f_Lot_names d_Lot_names
  b_Lot_names : Binds K d_Lot_names ["self"] []
  M_Lot_names : Meth K a_Lot "names" f_Lot_names
  f_Lot_pairs : Addr
  d_Lot_pairs : FuncData
  F_Lot_pairs : Fun K "pairs" "Lot.pairs" s_Lot_pairs f_Lot_pairs d_Lot_pairs
  b_Lot_pairs : Binds K d_Lot_pairs ["self"] []
  M_Lot_pairs : Meth K a_Lot "pairs" f_Lot_pairs
  c_Lot : Cls K a_Lot
  M_Lot : Mk K a_Lot f_Lot_init
  ca_Lot : PySem.W.findIn K (.ref a_Lot) "__class__" = some (some (.builtin "object.__class__"))
  mo_Lot : PySem.W.mroIn K a_Lot (.type "object") = some true
  ne_Lot : PySem.W.findIn K (.ref a_Lot) "__ne__" = some (some (.builtin "object.__ne__"))
  n_Lot_worths : NoAttr K a_Lot "_worths"
  gc : PySem.W.specialIn K (.builtin "object.__class__") "__get__" = some (some (.builtin "getset_descriptor.__get__"))
  tc : PySem.W.takesIn K (.builtin "object.__class__") = some true
  q_Group : PySem.W.noSeq K a_Group = true
  q_Lot : PySem.W.noSeq K a_Lot = true
  is_Leaf_Group : PySem.W.kitOne K (.ref a_Leaf) (.ref a_Group) = some false
  is_Leaf_Lot : PySem.W.kitOne K (.ref a_Leaf) (.ref a_Lot) = some false
  is_Leaf_list : PySem.W.kitOne K (.ref a_Leaf) (.type "list") = some false
  is_Leaf_int : PySem.W.kitOne K (.ref a_Leaf) (.type "int") = some false
  is_Leaf_bool : PySem.W.kitOne K (.ref a_Leaf) (.type "bool") = some false
  is_Leaf_str : PySem.W.kitOne K (.ref a_Leaf) (.type "str") = some false
  is_Group_Leaf : PySem.W.kitOne K (.ref a_Group) (.ref a_Leaf) = some false
  is_Group_Lot : PySem.W.kitOne K (.ref a_Group) (.ref a_Lot) = some false
  is_Group_list : PySem.W.kitOne K (.ref a_Group) (.type "list") = some false
  is_Group_int : PySem.W.kitOne K (.ref a_Group) (.type "int") = some false
  is_Group_bool : PySem.W.kitOne K (.ref a_Group) (.type "bool") = some false
  is_Group_str : PySem.W.kitOne K (.ref a_Group) (.type "str") = some false
  is_Lot_Leaf : PySem.W.kitOne K (.ref a_Lot) (.ref a_Leaf) = some false
  is_Lot_Group : PySem.W.kitOne K (.ref a_Lot) (.ref a_Group) = some false
  is_Lot_list : PySem.W.kitOne K (.ref a_Lot) (.type "list") = some false
  is_Lot_int : PySem.W.kitOne K (.ref a_Lot) (.type "int") = some false
  is_Lot_bool : PySem.W.kitOne K (.ref a_Lot) (.type "bool") = some false
  is_Lot_str : PySem.W.kitOne K (.ref a_Lot) (.type "str") = some false
  f_Lacking_init : Addr
  d_Lacking_init : FuncData
  F_Lacking_init : FunD K "__init__" "Lacking.__init__" (defArgs s_Lacking_init) (defBody s_Lacking_init) (defScope s_Lacking_init) [.non] [] f_Lacking_init d_Lacking_init
  M_Lacking_init : Meth K a_Lacking "__init__" f_Lacking_init
  tf_Lacking : PySem.W.typeIn K (.ref f_Lacking_init) = some (.type "function")
  at_Lacking : PySem.W.findIn K (.ref a_Lacking) "__init__" = some (some (.ref f_Lacking_init))
  Ex_Lacking : OexC K a_Lacking
  Xf_Lacking : XfC K a_Lacking
  te_Lacking : PySem.W.exmOne K (.ref a_Lacking) (.ref a_Lacking) = some true
  n_Lacking_which : PySem.W.findIn K (.ref a_Lacking) "which" = some none
  f_is_whole : Addr
  d_is_whole : FuncData
  m_is_whole : mg "is_whole" = some (.ref f_is_whole)
  F_is_whole : Fun K "is_whole" "is_whole" s_is_whole f_is_whole d_is_whole
  b_is_whole : Binds K d_is_whole ["value"] []
  f_is_name : Addr
  d_is_name : FuncData
  m_is_name : mg "is_name" = some (.ref f_is_name)
  F_is_name : Fun K "is_name" "is_name" s_is_name f_is_name d_is_name
  b_is_name : Binds K d_is_name ["value"] []
  f_are_names : Addr
  d_are_names : FuncData
  m_are_names : mg "are_names" = some (.ref f_are_names)
  F_are_names : Fun K "are_names" "are_names" s_are_names f_are_names d_are_names
  b_are_names : Binds K d_are_names ["value"] []
  f_are_name_pairs : Addr
  d_are_name_pairs : FuncData
  m_are_name_pairs : mg "are_name_pairs" = some (.ref f_are_name_pairs)
  F_are_name_pairs : Fun K "are_name_pairs" "are_name_pairs" s_are_name_pairs f_are_name_pairs d_are_name_pairs
  b_are_name_pairs : Binds K d_are_name_pairs ["value"] []
  f_is_tree : Addr
  d_is_tree : FuncData
  m_is_tree : mg "is_tree" = some (.ref f_is_tree)
  F_is_tree : Fun K "is_tree" "is_tree" s_is_tree f_is_tree d_is_tree
  b_is_tree : Binds K d_is_tree ["value"] []
  f_is_end : Addr
  d_is_end : FuncData
  m_is_end : mg "is_end" = some (.ref f_is_end)
  F_is_end : Fun K "is_end" "is_end" s_is_end f_is_end d_is_end
  b_is_end : Binds K d_is_end ["tree", "j"] []
  f_are_parts : Addr
  d_are_parts : FuncData
  m_are_parts : mg "_are_parts" = some (.ref f_are_parts)
  F_are_parts : Fun K "_are_parts" "_are_parts" s_are_parts f_are_parts d_are_parts
  b_are_parts : Binds K d_are_parts ["value"] []
  f_are_ranks : Addr
  d_are_ranks : FuncData
  m_are_ranks : mg "_are_ranks" = some (.ref f_are_ranks)
  F_are_ranks : Fun K "_are_ranks" "_are_ranks" s_are_ranks f_are_ranks d_are_ranks
  b_are_ranks : Binds K d_are_ranks ["value", "intake"] []
  f_intake_of : Addr
  d_intake_of : FuncData
  m_intake_of : mg "_intake_of" = some (.ref f_intake_of)
  F_intake_of : Fun K "_intake_of" "_intake_of" s_intake_of f_intake_of d_intake_of
  b_intake_of : Binds K d_intake_of ["parts"] []
  f_names_of : Addr
  d_names_of : FuncData
  m_names_of : mg "_names_of" = some (.ref f_names_of)
  F_names_of : Fun K "_names_of" "_names_of" s_names_of f_names_of d_names_of
  b_names_of : Binds K d_names_of ["parts"] []
  f_are_leaves : Addr
  d_are_leaves : FuncData
  m_are_leaves : mg "_are_leaves" = some (.ref f_are_leaves)
  F_are_leaves : Fun K "_are_leaves" "_are_leaves" s_are_leaves f_are_leaves d_are_leaves
  b_are_leaves : Binds K d_are_leaves ["tree", "names"] []
  f_is_lot : Addr
  d_is_lot : FuncData
  m_is_lot : mg "is_lot" = some (.ref f_is_lot)
  F_is_lot : Fun K "is_lot" "is_lot" s_is_lot f_is_lot d_is_lot
  b_is_lot : Binds K d_is_lot ["value"] []
  f_ends_of : Addr
  d_ends_of : FuncData
  m_ends_of : mg "ends_of" = some (.ref f_ends_of)
  F_ends_of : Fun K "ends_of" "ends_of" s_ends_of f_ends_of d_ends_of
  b_ends_of : Binds K d_ends_of ["tree", "lot"] []
  f_end_of : Addr
  d_end_of : FuncData
  m_end_of : mg "end_of" = some (.ref f_end_of)
  F_end_of : FunD K "end_of" "end_of" (defArgs s_end_of) (defBody s_end_of) (defScope s_end_of) [.int 1] [] f_end_of d_end_of
  f_outs_of : Addr
  d_outs_of : FuncData
  m_outs_of : mg "outs_of" = some (.ref f_outs_of)
  F_outs_of : Fun K "outs_of" "outs_of" s_outs_of f_outs_of d_outs_of
  b_outs_of : Binds K d_outs_of ["tree", "lot"] []
  f_check_kinds : Addr
  d_check_kinds : FuncData
  m_check_kinds : mg "check_kinds" = some (.ref f_check_kinds)
  F_check_kinds : Fun K "check_kinds" "check_kinds" s_check_kinds f_check_kinds d_check_kinds
  b_check_kinds : Binds K d_check_kinds ["tree", "lot"] []
  f_check_full : Addr
  d_check_full : FuncData
  m_check_full : mg "check_full" = some (.ref f_check_full)
  F_check_full : Fun K "check_full" "check_full" s_check_full f_check_full d_check_full
  b_check_full : Binds K d_check_full ["tree", "lot"] []
  f_outs : Addr
  d_outs : FuncData
  m_outs : mg "_outs" = some (.ref f_outs)
  F_outs : Fun K "_outs" "_outs" s_outs f_outs d_outs
  b_outs : Binds K d_outs ["tree", "lot"] []
  f_rank_in : Addr
  d_rank_in : FuncData
  m_rank_in : mg "rank_in" = some (.ref f_rank_in)
  F_rank_in : FunD K "rank_in" "rank_in" (defArgs s_rank_in) (defBody s_rank_in) (defScope s_rank_in) [.int 1] [] f_rank_in d_rank_in
  f_law_well : Addr
  d_law_well : FuncData
  m_law_well : mg "_law_well" = some (.ref f_law_well)
  F_law_well : Fun K "_law_well" "_law_well" s_law_well f_law_well d_law_well
  b_law_well : Binds K d_law_well ["script", "at"] []
  f_law_dip : Addr
  d_law_dip : FuncData
  m_law_dip : mg "_law_dip" = some (.ref f_law_dip)
  F_law_dip : Fun K "_law_dip" "_law_dip" s_law_dip f_law_dip d_law_dip
  b_law_dip : Binds K d_law_dip ["well", "many"] []
  f_law_words : Addr
  d_law_words : FuncData
  m_law_words : mg "_law_words" = some (.ref f_law_words)
  F_law_words : Fun K "_law_words" "_law_words" s_law_words f_law_words d_law_words
  b_law_words : Binds K d_law_words ["well", "many"] []
  f_law_ranks : Addr
  d_law_ranks : FuncData
  m_law_ranks : mg "_law_ranks" = some (.ref f_law_ranks)
  F_law_ranks : Fun K "_law_ranks" "_law_ranks" s_law_ranks f_law_ranks d_law_ranks
  b_law_ranks : Binds K d_law_ranks ["well", "intake"] []
  f_law_width : Addr
  d_law_width : FuncData
  m_law_width : mg "_law_width" = some (.ref f_law_width)
  F_law_width : Fun K "_law_width" "_law_width" s_law_width f_law_width d_law_width
  b_law_width : Binds K d_law_width ["tree"] []
  f_law_group : Addr
  d_law_group : FuncData
  m_law_group : mg "_law_group" = some (.ref f_law_group)
  F_law_group : Fun K "_law_group" "_law_group" s_law_group f_law_group d_law_group
  b_law_group : Binds K d_law_group ["well", "parts"] []
  f_law_tree : Addr
  d_law_tree : FuncData
  m_law_tree : mg "_law_tree" = some (.ref f_law_tree)
  F_law_tree : Fun K "_law_tree" "_law_tree" s_law_tree f_law_tree d_law_tree
  b_law_tree : Binds K d_law_tree ["well", "names", "depth"] []
  f_law_nodes : Addr
  d_law_nodes : FuncData
  m_law_nodes : mg "_law_nodes" = some (.ref f_law_nodes)
  F_law_nodes : Fun K "_law_nodes" "_law_nodes" s_law_nodes f_law_nodes d_law_nodes
  b_law_nodes : Binds K d_law_nodes ["tree"] []
  f_law_made : Addr
  d_law_made : FuncData
  m_law_made : mg "_law_made" = some (.ref f_law_made)
  F_law_made : Fun K "_law_made" "_law_made" s_law_made f_law_made d_law_made
  b_law_made : Binds K d_law_made ["tree"] []
  f_law_ends : Addr
  d_law_ends : FuncData
  m_law_ends : mg "_law_ends" = some (.ref f_law_ends)
  F_law_ends : Fun K "_law_ends" "_law_ends" s_law_ends f_law_ends d_law_ends
  b_law_ends : Binds K d_law_ends ["tree", "worths"] []
  f_law_worths : Addr
  d_law_worths : FuncData
  m_law_worths : mg "_law_worths" = some (.ref f_law_worths)
  F_law_worths : Fun K "_law_worths" "_law_worths" s_law_worths f_law_worths d_law_worths
  b_law_worths : Binds K d_law_worths ["well", "names"] []
  f_law_pairs : Addr
  d_law_pairs : FuncData
  m_law_pairs : mg "_law_pairs" = some (.ref f_law_pairs)
  F_law_pairs : Fun K "_law_pairs" "_law_pairs" s_law_pairs f_law_pairs d_law_pairs
  b_law_pairs : Binds K d_law_pairs ["worths"] []
  f_law_right : Addr
  d_law_right : FuncData
  m_law_right : mg "_law_right" = some (.ref f_law_right)
  F_law_right : Fun K "_law_right" "_law_right" s_law_right f_law_right d_law_right
  b_law_right : Binds K d_law_right ["made", "tree", "lot", "worths"] []
  f_law_lacks : Addr
  d_law_lacks : FuncData
  m_law_lacks : mg "_law_lacks" = some (.ref f_law_lacks)
  F_law_lacks : Fun K "_law_lacks" "_law_lacks" s_law_lacks f_law_lacks d_law_lacks
  b_law_lacks : Binds K d_law_lacks ["made", "lot", "name"] []
  f_law : Addr
  d_law : FuncData
  m_law : mg "law" = some (.ref f_law)
  F_law : Fun K "law" "law" s_law f_law d_law
  b_law : Binds K d_law ["script"] []
section
variable {K : PySem.W.Frag} {h : Heap} {mg : Str → Option Value} {a_RankError a_InvalidName a_InvalidNumber a_InvalidTree a_InvalidLot a_InvalidList a_Unknown a_Lacking a_Tree a_Leaf a_Group a_Lot f_Leaf_init f_Leaf_name p_Leaf_name f_Leaf_width p_Leaf_width f_Leaf_len f_Leaf_contains f_Leaf_eq f_Leaf_names f_Leaf_passes f_Leaf__low_ends f_Group_init f_Group_ranks p_Group_ranks f_Group_parts p_Group_parts f_Group_intake p_Group_intake f_Group_width p_Group_width f_Group_len f_Group_contains f_Group_eq f_Group_getitem f_Group_iter f_Group_names f_Group_passes f_Group__low_ends f_Lot_init tD_Lot_init f_Lot_getitem f_Lot_setitem f_Lot_contains f_Lot_iter f_Lot_len f_Lot_eq f_Lot_drop f_Lot_names f_Lot_pairs xN_Lacking f_Lacking_init tD_Lacking_init f_is_whole f_is_name f_are_names f_are_name_pairs f_is_tree f_is_end f_are_parts f_are_ranks f_intake_of f_names_of f_are_leaves f_is_lot f_ends_of f_end_of tD_end_of f_outs_of f_check_kinds f_check_full f_outs f_rank_in tD_rank_in f_law_well f_law_dip f_law_words f_law_ranks f_law_width f_law_group f_law_tree f_law_nodes f_law_made f_law_ends f_law_worths f_law_pairs f_law_right f_law_lacks f_law : Addr} {kV_Leaf_init dc_Leaf_init pm_Leaf_init cd_Leaf_init ct_Leaf_init oc_Leaf_init kV_Leaf_name dc_Leaf_name pm_Leaf_name cd_Leaf_name ct_Leaf_name oc_Leaf_name kV_Leaf_width dc_Leaf_width pm_Leaf_width cd_Leaf_width ct_Leaf_width oc_Leaf_width kV_Leaf_len dc_Leaf_len pm_Leaf_len cd_Leaf_len ct_Leaf_len oc_Leaf_len kV_Leaf_contains dc_Leaf_contains pm_Leaf_contains cd_Leaf_contains ct_Leaf_contains oc_Leaf_contains kV_Leaf_eq dc_Leaf_eq pm_Leaf_eq cd_Leaf_eq ct_Leaf_eq oc_Leaf_eq kV_Leaf_names dc_Leaf_names pm_Leaf_names cd_Leaf_names ct_Leaf_names oc_Leaf_names kV_Leaf_passes dc_Leaf_passes pm_Leaf_passes cd_Leaf_passes ct_Leaf_passes oc_Leaf_passes kV_Leaf__low_ends dc_Leaf__low_ends pm_Leaf__low_ends cd_Leaf__low_ends ct_Leaf__low_ends oc_Leaf__low_ends kV_Group_init dc_Group_init pm_Group_init cd_Group_init ct_Group_init oc_Group_init kV_Group_ranks dc_Group_ranks pm_Group_ranks cd_Group_ranks ct_Group_ranks oc_Group_ranks kV_Group_parts dc_Group_parts pm_Group_parts cd_Group_parts ct_Group_parts oc_Group_parts kV_Group_intake dc_Group_intake pm_Group_intake cd_Group_intake ct_Group_intake oc_Group_intake kV_Group_width dc_Group_width pm_Group_width cd_Group_width ct_Group_width oc_Group_width kV_Group_len dc_Group_len pm_Group_len cd_Group_len ct_Group_len oc_Group_len kV_Group_contains dc_Group_contains pm_Group_contains cd_Group_contains ct_Group_contains oc_Group_contains kV_Group_eq dc_Group_eq pm_Group_eq cd_Group_eq ct_Group_eq oc_Group_eq kV_Group_getitem dc_Group_getitem pm_Group_getitem cd_Group_getitem ct_Group_getitem oc_Group_getitem kV_Group_iter dc_Group_iter pm_Group_iter cd_Group_iter ct_Group_iter oc_Group_iter kV_Group_names dc_Group_names pm_Group_names cd_Group_names ct_Group_names oc_Group_names kV_Group_passes dc_Group_passes pm_Group_passes cd_Group_passes ct_Group_passes oc_Group_passes kV_Group__low_ends dc_Group__low_ends pm_Group__low_ends cd_Group__low_ends ct_Group__low_ends oc_Group__low_ends kV_Lot_init dc_Lot_init pm_Lot_init cd_Lot_init ct_Lot_init oc_Lot_init oD_Lot_init kV_Lot_getitem dc_Lot_getitem pm_Lot_getitem cd_Lot_getitem ct_Lot_getitem oc_Lot_getitem kV_Lot_setitem dc_Lot_setitem pm_Lot_setitem cd_Lot_setitem ct_Lot_setitem oc_Lot_setitem kV_Lot_contains dc_Lot_contains pm_Lot_contains cd_Lot_contains ct_Lot_contains oc_Lot_contains kV_Lot_iter dc_Lot_iter pm_Lot_iter cd_Lot_iter ct_Lot_iter oc_Lot_iter kV_Lot_len dc_Lot_len pm_Lot_len cd_Lot_len ct_Lot_len oc_Lot_len kV_Lot_eq dc_Lot_eq pm_Lot_eq cd_Lot_eq ct_Lot_eq oc_Lot_eq kV_Lot_drop dc_Lot_drop pm_Lot_drop cd_Lot_drop ct_Lot_drop oc_Lot_drop kV_Lot_names dc_Lot_names pm_Lot_names cd_Lot_names ct_Lot_names oc_Lot_names kV_Lot_pairs dc_Lot_pairs pm_Lot_pairs cd_Lot_pairs ct_Lot_pairs oc_Lot_pairs kV_Lacking_init dc_Lacking_init pm_Lacking_init cd_Lacking_init ct_Lacking_init oc_Lacking_init oD_Lacking_init kV_is_whole dc_is_whole pm_is_whole cd_is_whole ct_is_whole oc_is_whole kV_is_name dc_is_name pm_is_name cd_is_name ct_is_name oc_is_name kV_are_names dc_are_names pm_are_names cd_are_names ct_are_names oc_are_names kV_are_name_pairs dc_are_name_pairs pm_are_name_pairs cd_are_name_pairs ct_are_name_pairs oc_are_name_pairs kV_is_tree dc_is_tree pm_is_tree cd_is_tree ct_is_tree oc_is_tree kV_is_end dc_is_end pm_is_end cd_is_end ct_is_end oc_is_end kV_are_parts dc_are_parts pm_are_parts cd_are_parts ct_are_parts oc_are_parts kV_are_ranks dc_are_ranks pm_are_ranks cd_are_ranks ct_are_ranks oc_are_ranks kV_intake_of dc_intake_of pm_intake_of cd_intake_of ct_intake_of oc_intake_of kV_names_of dc_names_of pm_names_of cd_names_of ct_names_of oc_names_of kV_are_leaves dc_are_leaves pm_are_leaves cd_are_leaves ct_are_leaves oc_are_leaves kV_is_lot dc_is_lot pm_is_lot cd_is_lot ct_is_lot oc_is_lot kV_ends_of dc_ends_of pm_ends_of cd_ends_of ct_ends_of oc_ends_of kV_end_of dc_end_of pm_end_of cd_end_of ct_end_of oc_end_of oD_end_of kV_outs_of dc_outs_of pm_outs_of cd_outs_of ct_outs_of oc_outs_of kV_check_kinds dc_check_kinds pm_check_kinds cd_check_kinds ct_check_kinds oc_check_kinds kV_check_full dc_check_full pm_check_full cd_check_full ct_check_full oc_check_full kV_outs dc_outs pm_outs cd_outs ct_outs oc_outs kV_rank_in dc_rank_in pm_rank_in cd_rank_in ct_rank_in oc_rank_in oD_rank_in kV_law_well dc_law_well pm_law_well cd_law_well ct_law_well oc_law_well kV_law_dip dc_law_dip pm_law_dip cd_law_dip ct_law_dip oc_law_dip kV_law_words dc_law_words pm_law_words cd_law_words ct_law_words oc_law_words kV_law_ranks dc_law_ranks pm_law_ranks cd_law_ranks ct_law_ranks oc_law_ranks kV_law_width dc_law_width pm_law_width cd_law_width ct_law_width oc_law_width kV_law_group dc_law_group pm_law_group cd_law_group ct_law_group oc_law_group kV_law_tree dc_law_tree pm_law_tree cd_law_tree ct_law_tree oc_law_tree kV_law_nodes dc_law_nodes pm_law_nodes cd_law_nodes ct_law_nodes oc_law_nodes kV_law_made dc_law_made pm_law_made cd_law_made ct_law_made oc_law_made kV_law_ends dc_law_ends pm_law_ends cd_law_ends ct_law_ends oc_law_ends kV_law_worths dc_law_worths pm_law_worths cd_law_worths ct_law_worths oc_law_worths kV_law_pairs dc_law_pairs pm_law_pairs cd_law_pairs ct_law_pairs oc_law_pairs kV_law_right dc_law_right pm_law_right cd_law_right ct_law_right oc_law_right kV_law_lacks dc_law_lacks pm_law_lacks cd_law_lacks ct_law_lacks oc_law_lacks kV_law dc_law pm_law cd_law ct_law oc_law : Value} {od_Leaf_init an_Leaf_init od_Leaf_name an_Leaf_name od_Leaf_width an_Leaf_width od_Leaf_len an_Leaf_len od_Leaf_contains an_Leaf_contains od_Leaf_eq an_Leaf_eq od_Leaf_names an_Leaf_names od_Leaf_passes an_Leaf_passes od_Leaf__low_ends an_Leaf__low_ends od_Group_init an_Group_init od_Group_ranks an_Group_ranks od_Group_parts an_Group_parts od_Group_intake an_Group_intake od_Group_width an_Group_width od_Group_len an_Group_len od_Group_contains an_Group_contains od_Group_eq an_Group_eq od_Group_getitem an_Group_getitem od_Group_iter an_Group_iter od_Group_names an_Group_names od_Group_passes an_Group_passes od_Group__low_ends an_Group__low_ends od_Lot_init an_Lot_init eD_Lot_init od_Lot_getitem an_Lot_getitem od_Lot_setitem an_Lot_setitem od_Lot_contains an_Lot_contains od_Lot_iter an_Lot_iter od_Lot_len an_Lot_len od_Lot_eq an_Lot_eq od_Lot_drop an_Lot_drop od_Lot_names an_Lot_names od_Lot_pairs an_Lot_pairs xd_Lacking od_Lacking_init an_Lacking_init eD_Lacking_init od_is_whole an_is_whole od_is_name an_is_name od_are_names an_are_names od_are_name_pairs an_are_name_pairs od_is_tree an_is_tree od_is_end an_is_end od_are_parts an_are_parts od_are_ranks an_are_ranks od_intake_of an_intake_of od_names_of an_names_of od_are_leaves an_are_leaves od_is_lot an_is_lot od_ends_of an_ends_of od_end_of an_end_of eD_end_of od_outs_of an_outs_of od_check_kinds an_check_kinds od_check_full an_check_full od_outs an_outs od_rank_in an_rank_in eD_rank_in od_law_well an_law_well od_law_dip an_law_dip od_law_words an_law_words od_law_ranks an_law_ranks od_law_width an_law_width od_law_group an_law_group od_law_tree an_law_tree od_law_nodes an_law_nodes od_law_made an_law_made od_law_ends an_law_ends od_law_worths an_law_worths od_law_pairs an_law_pairs od_law_right an_law_right od_law_lacks an_law_lacks od_law an_law : Option Addr} {sl_Leaf_init sl_Leaf_name sl_Leaf_width sl_Leaf_len sl_Leaf_contains sl_Leaf_eq sl_Leaf_names sl_Leaf_passes sl_Leaf__low_ends sl_Group_init sl_Group_ranks sl_Group_parts sl_Group_intake sl_Group_width sl_Group_len sl_Group_contains sl_Group_eq sl_Group_getitem sl_Group_iter sl_Group_names sl_Group_passes sl_Group__low_ends sl_Lot_init sD_Lot_init sl_Lot_getitem sl_Lot_setitem sl_Lot_contains sl_Lot_iter sl_Lot_len sl_Lot_eq sl_Lot_drop sl_Lot_names sl_Lot_pairs sl_Lacking_init sD_Lacking_init sl_is_whole sl_is_name sl_are_names sl_are_name_pairs sl_is_tree sl_is_end sl_are_parts sl_are_ranks sl_intake_of sl_names_of sl_are_leaves sl_is_lot sl_ends_of sl_end_of sD_end_of sl_outs_of sl_check_kinds sl_check_full sl_outs sl_rank_in sD_rank_in sl_law_well sl_law_dip sl_law_words sl_law_ranks sl_law_width sl_law_group sl_law_tree sl_law_nodes sl_law_made sl_law_ends sl_law_worths sl_law_pairs sl_law_right sl_law_lacks sl_law : Array (Option Value)} {r_Leaf_name r_Leaf_width r_Group_ranks r_Group_parts r_Group_intake r_Group_width xb_Lacking xu_Lacking : List Value} {nD_Lot_init nD_Lacking_init nD_end_of nD_rank_in : Nat} {xn_Lacking xq_Lacking : Str} {xs_Lacking : List Str} {xa_Lacking : Bool} {xc_Lacking : Option Bool} {x0_Lacking x1_Lacking x2_Lacking x3_Lacking x5_Lacking : Option Value} {kD0_end_of kD0_rank_in : Tok}
def Txt.mk_ (X : K.In h) (G : h.Ns mainGlobals mg)
    (z_len : PySem.W.nsIn K mainGlobals "len" = some none)
    (z_int : PySem.W.nsIn K mainGlobals "int" = some none)
    (z_range : PySem.W.nsIn K mainGlobals "range" = some none)
    (z_sum : PySem.W.nsIn K mainGlobals "sum" = some none)
    (z_all : PySem.W.nsIn K mainGlobals "all" = some none)
    (z_isinstance : PySem.W.nsIn K mainGlobals "isinstance" = some none)
    (z_sorted : PySem.W.nsIn K mainGlobals "sorted" = some none)
    (z_list : PySem.W.nsIn K mainGlobals "list" = some none)
    (z_tuple : PySem.W.nsIn K mainGlobals "tuple" = some none)
    (z_set : PySem.W.nsIn K mainGlobals "set" = some none)
    (z_zip : PySem.W.nsIn K mainGlobals "zip" = some none)
    (z_bool : PySem.W.nsIn K mainGlobals "bool" = some none)
    (z_str : PySem.W.nsIn K mainGlobals "str" = some none)
    (z_dict : PySem.W.nsIn K mainGlobals "dict" = some none)
    (z_TypeError : PySem.W.nsIn K mainGlobals "TypeError" = some none)
    (z_ValueError : PySem.W.nsIn K mainGlobals "ValueError" = some none)
    (g_RankError : PySem.W.nsIn K mainGlobals "RankError" = some (some (.ref a_RankError)))
    (g_InvalidName : PySem.W.nsIn K mainGlobals "InvalidName" = some (some (.ref a_InvalidName)))
    (g_InvalidNumber : PySem.W.nsIn K mainGlobals "InvalidNumber" = some (some (.ref a_InvalidNumber)))
    (g_InvalidTree : PySem.W.nsIn K mainGlobals "InvalidTree" = some (some (.ref a_InvalidTree)))
    (g_InvalidLot : PySem.W.nsIn K mainGlobals "InvalidLot" = some (some (.ref a_InvalidLot)))
    (g_InvalidList : PySem.W.nsIn K mainGlobals "InvalidList" = some (some (.ref a_InvalidList)))
    (g_Unknown : PySem.W.nsIn K mainGlobals "Unknown" = some (some (.ref a_Unknown)))
    (g_Lacking : PySem.W.nsIn K mainGlobals "Lacking" = some (some (.ref a_Lacking)))
    (g_Tree : PySem.W.nsIn K mainGlobals "Tree" = some (some (.ref a_Tree)))
    (g_Leaf : PySem.W.nsIn K mainGlobals "Leaf" = some (some (.ref a_Leaf)))
    (g_Group : PySem.W.nsIn K mainGlobals "Group" = some (some (.ref a_Group)))
    (g_Lot : PySem.W.nsIn K mainGlobals "Lot" = some (some (.ref a_Lot)))
    (at_Leaf_init : PySem.W.findIn K (.ref a_Leaf) "__init__" = some (some (.ref f_Leaf_init)))
    (i_Leaf_init : PySem.W.isFn K (.ref f_Leaf_init) = true)
    (l_Leaf_init : K.lookup f_Leaf_init = some ⟨oc_Leaf_init, od_Leaf_init, .func (PySem.W.fnOf "__init__" "Leaf.__init__" (defArgs s_Leaf_init) (defBody s_Leaf_init) (defScope s_Leaf_init) .none kV_Leaf_init dc_Leaf_init pm_Leaf_init an_Leaf_init cd_Leaf_init ct_Leaf_init), sl_Leaf_init⟩)
    (c_Leaf_init : PySem.W.codeIn K cd_Leaf_init "Leaf.__init__" = true)
    (k_Leaf_init : PySem.W.keepIn K (.ref f_Leaf_init) = true)
    (at_Leaf_name : PySem.W.findIn K (.ref a_Leaf) "name" = some (some (.ref p_Leaf_name)))
    (gt_Leaf_name : PySem.W.specialIn K (.ref p_Leaf_name) "__get__" = some (some (.builtin "property.__get__")))
    (tk_Leaf_name : PySem.W.takesIn K (.ref p_Leaf_name) = some true)
    (rc_Leaf_name : PySem.W.recIn K p_Leaf_name "property" = some (.ref f_Leaf_name :: r_Leaf_name))
    (l_Leaf_name : K.lookup f_Leaf_name = some ⟨oc_Leaf_name, od_Leaf_name, .func (PySem.W.fnOf "name" "Leaf.name" (defArgs s_Leaf_name) (defBody s_Leaf_name) (defScope s_Leaf_name) .none kV_Leaf_name dc_Leaf_name pm_Leaf_name an_Leaf_name cd_Leaf_name ct_Leaf_name), sl_Leaf_name⟩)
    (c_Leaf_name : PySem.W.codeIn K cd_Leaf_name "Leaf.name" = true)
    (k_Leaf_name : PySem.W.keepIn K (.ref f_Leaf_name) = true)
    (at_Leaf_width : PySem.W.findIn K (.ref a_Leaf) "width" = some (some (.ref p_Leaf_width)))
    (gt_Leaf_width : PySem.W.specialIn K (.ref p_Leaf_width) "__get__" = some (some (.builtin "property.__get__")))
    (tk_Leaf_width : PySem.W.takesIn K (.ref p_Leaf_width) = some true)
    (rc_Leaf_width : PySem.W.recIn K p_Leaf_width "property" = some (.ref f_Leaf_width :: r_Leaf_width))
    (l_Leaf_width : K.lookup f_Leaf_width = some ⟨oc_Leaf_width, od_Leaf_width, .func (PySem.W.fnOf "width" "Leaf.width" (defArgs s_Leaf_width) (defBody s_Leaf_width) (defScope s_Leaf_width) .none kV_Leaf_width dc_Leaf_width pm_Leaf_width an_Leaf_width cd_Leaf_width ct_Leaf_width), sl_Leaf_width⟩)
    (c_Leaf_width : PySem.W.codeIn K cd_Leaf_width "Leaf.width" = true)
    (k_Leaf_width : PySem.W.keepIn K (.ref f_Leaf_width) = true)
    (at_Leaf_len : PySem.W.findIn K (.ref a_Leaf) "__len__" = some (some (.ref f_Leaf_len)))
    (i_Leaf_len : PySem.W.isFn K (.ref f_Leaf_len) = true)
    (l_Leaf_len : K.lookup f_Leaf_len = some ⟨oc_Leaf_len, od_Leaf_len, .func (PySem.W.fnOf "__len__" "Leaf.__len__" (defArgs s_Leaf_len) (defBody s_Leaf_len) (defScope s_Leaf_len) .none kV_Leaf_len dc_Leaf_len pm_Leaf_len an_Leaf_len cd_Leaf_len ct_Leaf_len), sl_Leaf_len⟩)
    (c_Leaf_len : PySem.W.codeIn K cd_Leaf_len "Leaf.__len__" = true)
    (k_Leaf_len : PySem.W.keepIn K (.ref f_Leaf_len) = true)
    (at_Leaf_contains : PySem.W.findIn K (.ref a_Leaf) "__contains__" = some (some (.ref f_Leaf_contains)))
    (i_Leaf_contains : PySem.W.isFn K (.ref f_Leaf_contains) = true)
    (l_Leaf_contains : K.lookup f_Leaf_contains = some ⟨oc_Leaf_contains, od_Leaf_contains, .func (PySem.W.fnOf "__contains__" "Leaf.__contains__" (defArgs s_Leaf_contains) (defBody s_Leaf_contains) (defScope s_Leaf_contains) .none kV_Leaf_contains dc_Leaf_contains pm_Leaf_contains an_Leaf_contains cd_Leaf_contains ct_Leaf_contains), sl_Leaf_contains⟩)
    (c_Leaf_contains : PySem.W.codeIn K cd_Leaf_contains "Leaf.__contains__" = true)
    (k_Leaf_contains : PySem.W.keepIn K (.ref f_Leaf_contains) = true)
    (at_Leaf_eq : PySem.W.findIn K (.ref a_Leaf) "__eq__" = some (some (.ref f_Leaf_eq)))
    (i_Leaf_eq : PySem.W.isFn K (.ref f_Leaf_eq) = true)
    (l_Leaf_eq : K.lookup f_Leaf_eq = some ⟨oc_Leaf_eq, od_Leaf_eq, .func (PySem.W.fnOf "__eq__" "Leaf.__eq__" (defArgs s_Leaf_eq) (defBody s_Leaf_eq) (defScope s_Leaf_eq) .none kV_Leaf_eq dc_Leaf_eq pm_Leaf_eq an_Leaf_eq cd_Leaf_eq ct_Leaf_eq), sl_Leaf_eq⟩)
    (c_Leaf_eq : PySem.W.codeIn K cd_Leaf_eq "Leaf.__eq__" = true)
    (k_Leaf_eq : PySem.W.keepIn K (.ref f_Leaf_eq) = true)
    (at_Leaf_names : PySem.W.findIn K (.ref a_Leaf) "names" = some (some (.ref f_Leaf_names)))
    (i_Leaf_names : PySem.W.isFn K (.ref f_Leaf_names) = true)
    (l_Leaf_names : K.lookup f_Leaf_names = some ⟨oc_Leaf_names, od_Leaf_names, .func (PySem.W.fnOf "names" "Leaf.names" (defArgs s_Leaf_names) (defBody s_Leaf_names) (defScope s_Leaf_names) .none kV_Leaf_names dc_Leaf_names pm_Leaf_names an_Leaf_names cd_Leaf_names ct_Leaf_names), sl_Leaf_names⟩)
    (c_Leaf_names : PySem.W.codeIn K cd_Leaf_names "Leaf.names" = true)
    (k_Leaf_names : PySem.W.keepIn K (.ref f_Leaf_names) = true)
    (at_Leaf_passes : PySem.W.findIn K (.ref a_Leaf) "passes" = some (some (.ref f_Leaf_passes)))
    (i_Leaf_passes : PySem.W.isFn K (.ref f_Leaf_passes) = true)
    (l_Leaf_passes : K.lookup f_Leaf_passes = some ⟨oc_Leaf_passes, od_Leaf_passes, .func (PySem.W.fnOf "passes" "Leaf.passes" (defArgs s_Leaf_passes) (defBody s_Leaf_passes) (defScope s_Leaf_passes) .none kV_Leaf_passes dc_Leaf_passes pm_Leaf_passes an_Leaf_passes cd_Leaf_passes ct_Leaf_passes), sl_Leaf_passes⟩)
    (c_Leaf_passes : PySem.W.codeIn K cd_Leaf_passes "Leaf.passes" = true)
    (k_Leaf_passes : PySem.W.keepIn K (.ref f_Leaf_passes) = true)
    (at_Leaf__low_ends : PySem.W.findIn K (.ref a_Leaf) "_low_ends" = some (some (.ref f_Leaf__low_ends)))
    (i_Leaf__low_ends : PySem.W.isFn K (.ref f_Leaf__low_ends) = true)
    (l_Leaf__low_ends : K.lookup f_Leaf__low_ends = some ⟨oc_Leaf__low_ends, od_Leaf__low_ends, .func (PySem.W.fnOf "_low_ends" "Leaf._low_ends" (defArgs s_Leaf__low_ends) (defBody s_Leaf__low_ends) (defScope s_Leaf__low_ends) .none kV_Leaf__low_ends dc_Leaf__low_ends pm_Leaf__low_ends an_Leaf__low_ends cd_Leaf__low_ends ct_Leaf__low_ends), sl_Leaf__low_ends⟩)
    (c_Leaf__low_ends : PySem.W.codeIn K cd_Leaf__low_ends "Leaf._low_ends" = true)
    (k_Leaf__low_ends : PySem.W.keepIn K (.ref f_Leaf__low_ends) = true)
    (pg_Leaf : PySem.W.plainGet K a_Leaf Str.empty = true)
    (hd_Leaf : PySem.W.hasDictIn K a_Leaf = true)
    (po_Leaf : PySem.W.plainOver K a_Leaf = true)
    (sa_Leaf : PySem.W.findIn K (.ref a_Leaf) "__setattr__" = some (some (.builtin "object.__setattr__")))
    (mk_Leaf : PySem.W.makesIn K a_Leaf = true)
    (kc_Leaf : PySem.W.keepIn K (.ref a_Leaf) = true)
    (ca_Leaf : PySem.W.findIn K (.ref a_Leaf) "__class__" = some (some (.builtin "object.__class__")))
    (mo_Leaf : PySem.W.mroIn K a_Leaf (.type "object") = some true)
    (ne_Leaf : PySem.W.findIn K (.ref a_Leaf) "__ne__" = some (some (.builtin "object.__ne__")))
    (n_Leaf_name : PySem.W.findIn K (.ref a_Leaf) "_name" = some none)
    (at_Group_init : PySem.W.findIn K (.ref a_Group) "__init__" = some (some (.ref f_Group_init)))
    (i_Group_init : PySem.W.isFn K (.ref f_Group_init) = true)
    (l_Group_init : K.lookup f_Group_init = some ⟨oc_Group_init, od_Group_init, .func (PySem.W.fnOf "__init__" "Group.__init__" (defArgs s_Group_init) (defBody s_Group_init) (defScope s_Group_init) .none kV_Group_init dc_Group_init pm_Group_init an_Group_init cd_Group_init ct_Group_init), sl_Group_init⟩)
    (c_Group_init : PySem.W.codeIn K cd_Group_init "Group.__init__" = true)
    (k_Group_init : PySem.W.keepIn K (.ref f_Group_init) = true)
    (at_Group_ranks : PySem.W.findIn K (.ref a_Group) "ranks" = some (some (.ref p_Group_ranks)))
    (gt_Group_ranks : PySem.W.specialIn K (.ref p_Group_ranks) "__get__" = some (some (.builtin "property.__get__")))
    (tk_Group_ranks : PySem.W.takesIn K (.ref p_Group_ranks) = some true)
    (rc_Group_ranks : PySem.W.recIn K p_Group_ranks "property" = some (.ref f_Group_ranks :: r_Group_ranks))
    (l_Group_ranks : K.lookup f_Group_ranks = some ⟨oc_Group_ranks, od_Group_ranks, .func (PySem.W.fnOf "ranks" "Group.ranks" (defArgs s_Group_ranks) (defBody s_Group_ranks) (defScope s_Group_ranks) .none kV_Group_ranks dc_Group_ranks pm_Group_ranks an_Group_ranks cd_Group_ranks ct_Group_ranks), sl_Group_ranks⟩)
    (c_Group_ranks : PySem.W.codeIn K cd_Group_ranks "Group.ranks" = true)
    (k_Group_ranks : PySem.W.keepIn K (.ref f_Group_ranks) = true)
    (at_Group_parts : PySem.W.findIn K (.ref a_Group) "parts" = some (some (.ref p_Group_parts)))
    (gt_Group_parts : PySem.W.specialIn K (.ref p_Group_parts) "__get__" = some (some (.builtin "property.__get__")))
    (tk_Group_parts : PySem.W.takesIn K (.ref p_Group_parts) = some true)
    (rc_Group_parts : PySem.W.recIn K p_Group_parts "property" = some (.ref f_Group_parts :: r_Group_parts))
    (l_Group_parts : K.lookup f_Group_parts = some ⟨oc_Group_parts, od_Group_parts, .func (PySem.W.fnOf "parts" "Group.parts" (defArgs s_Group_parts) (defBody s_Group_parts) (defScope s_Group_parts) .none kV_Group_parts dc_Group_parts pm_Group_parts an_Group_parts cd_Group_parts ct_Group_parts), sl_Group_parts⟩)
    (c_Group_parts : PySem.W.codeIn K cd_Group_parts "Group.parts" = true)
    (k_Group_parts : PySem.W.keepIn K (.ref f_Group_parts) = true)
    (at_Group_intake : PySem.W.findIn K (.ref a_Group) "intake" = some (some (.ref p_Group_intake)))
    (gt_Group_intake : PySem.W.specialIn K (.ref p_Group_intake) "__get__" = some (some (.builtin "property.__get__")))
    (tk_Group_intake : PySem.W.takesIn K (.ref p_Group_intake) = some true)
    (rc_Group_intake : PySem.W.recIn K p_Group_intake "property" = some (.ref f_Group_intake :: r_Group_intake))
    (l_Group_intake : K.lookup f_Group_intake = some ⟨oc_Group_intake, od_Group_intake, .func (PySem.W.fnOf "intake" "Group.intake" (defArgs s_Group_intake) (defBody s_Group_intake) (defScope s_Group_intake) .none kV_Group_intake dc_Group_intake pm_Group_intake an_Group_intake cd_Group_intake ct_Group_intake), sl_Group_intake⟩)
    (c_Group_intake : PySem.W.codeIn K cd_Group_intake "Group.intake" = true)
    (k_Group_intake : PySem.W.keepIn K (.ref f_Group_intake) = true)
    (at_Group_width : PySem.W.findIn K (.ref a_Group) "width" = some (some (.ref p_Group_width)))
    (gt_Group_width : PySem.W.specialIn K (.ref p_Group_width) "__get__" = some (some (.builtin "property.__get__")))
    (tk_Group_width : PySem.W.takesIn K (.ref p_Group_width) = some true)
    (rc_Group_width : PySem.W.recIn K p_Group_width "property" = some (.ref f_Group_width :: r_Group_width))
    (l_Group_width : K.lookup f_Group_width = some ⟨oc_Group_width, od_Group_width, .func (PySem.W.fnOf "width" "Group.width" (defArgs s_Group_width) (defBody s_Group_width) (defScope s_Group_width) .none kV_Group_width dc_Group_width pm_Group_width an_Group_width cd_Group_width ct_Group_width), sl_Group_width⟩)
    (c_Group_width : PySem.W.codeIn K cd_Group_width "Group.width" = true)
    (k_Group_width : PySem.W.keepIn K (.ref f_Group_width) = true)
    (at_Group_len : PySem.W.findIn K (.ref a_Group) "__len__" = some (some (.ref f_Group_len)))
    (i_Group_len : PySem.W.isFn K (.ref f_Group_len) = true)
    (l_Group_len : K.lookup f_Group_len = some ⟨oc_Group_len, od_Group_len, .func (PySem.W.fnOf "__len__" "Group.__len__" (defArgs s_Group_len) (defBody s_Group_len) (defScope s_Group_len) .none kV_Group_len dc_Group_len pm_Group_len an_Group_len cd_Group_len ct_Group_len), sl_Group_len⟩)
    (c_Group_len : PySem.W.codeIn K cd_Group_len "Group.__len__" = true)
    (k_Group_len : PySem.W.keepIn K (.ref f_Group_len) = true)
    (at_Group_contains : PySem.W.findIn K (.ref a_Group) "__contains__" = some (some (.ref f_Group_contains)))
    (i_Group_contains : PySem.W.isFn K (.ref f_Group_contains) = true)
    (l_Group_contains : K.lookup f_Group_contains = some ⟨oc_Group_contains, od_Group_contains, .func (PySem.W.fnOf "__contains__" "Group.__contains__" (defArgs s_Group_contains) (defBody s_Group_contains) (defScope s_Group_contains) .none kV_Group_contains dc_Group_contains pm_Group_contains an_Group_contains cd_Group_contains ct_Group_contains), sl_Group_contains⟩)
    (c_Group_contains : PySem.W.codeIn K cd_Group_contains "Group.__contains__" = true)
    (k_Group_contains : PySem.W.keepIn K (.ref f_Group_contains) = true)
    (at_Group_eq : PySem.W.findIn K (.ref a_Group) "__eq__" = some (some (.ref f_Group_eq)))
    (i_Group_eq : PySem.W.isFn K (.ref f_Group_eq) = true)
    (l_Group_eq : K.lookup f_Group_eq = some ⟨oc_Group_eq, od_Group_eq, .func (PySem.W.fnOf "__eq__" "Group.__eq__" (defArgs s_Group_eq) (defBody s_Group_eq) (defScope s_Group_eq) .none kV_Group_eq dc_Group_eq pm_Group_eq an_Group_eq cd_Group_eq ct_Group_eq), sl_Group_eq⟩)
    (c_Group_eq : PySem.W.codeIn K cd_Group_eq "Group.__eq__" = true)
    (k_Group_eq : PySem.W.keepIn K (.ref f_Group_eq) = true)
    (at_Group_getitem : PySem.W.findIn K (.ref a_Group) "__getitem__" = some (some (.ref f_Group_getitem)))
    (i_Group_getitem : PySem.W.isFn K (.ref f_Group_getitem) = true)
    (l_Group_getitem : K.lookup f_Group_getitem = some ⟨oc_Group_getitem, od_Group_getitem, .func (PySem.W.fnOf "__getitem__" "Group.__getitem__" (defArgs s_Group_getitem) (defBody s_Group_getitem) (defScope s_Group_getitem) .none kV_Group_getitem dc_Group_getitem pm_Group_getitem an_Group_getitem cd_Group_getitem ct_Group_getitem), sl_Group_getitem⟩)
    (c_Group_getitem : PySem.W.codeIn K cd_Group_getitem "Group.__getitem__" = true)
    (k_Group_getitem : PySem.W.keepIn K (.ref f_Group_getitem) = true)
    (at_Group_iter : PySem.W.findIn K (.ref a_Group) "__iter__" = some (some (.ref f_Group_iter)))
    (i_Group_iter : PySem.W.isFn K (.ref f_Group_iter) = true)
    (l_Group_iter : K.lookup f_Group_iter = some ⟨oc_Group_iter, od_Group_iter, .func (PySem.W.fnOf "__iter__" "Group.__iter__" (defArgs s_Group_iter) (defBody s_Group_iter) (defScope s_Group_iter) .none kV_Group_iter dc_Group_iter pm_Group_iter an_Group_iter cd_Group_iter ct_Group_iter), sl_Group_iter⟩)
    (c_Group_iter : PySem.W.codeIn K cd_Group_iter "Group.__iter__" = true)
    (k_Group_iter : PySem.W.keepIn K (.ref f_Group_iter) = true)
    (at_Group_names : PySem.W.findIn K (.ref a_Group) "names" = some (some (.ref f_Group_names)))
    (i_Group_names : PySem.W.isFn K (.ref f_Group_names) = true)
    (l_Group_names : K.lookup f_Group_names = some ⟨oc_Group_names, od_Group_names, .func (PySem.W.fnOf "names" "Group.names" (defArgs s_Group_names) (defBody s_Group_names) (defScope s_Group_names) .none kV_Group_names dc_Group_names pm_Group_names an_Group_names cd_Group_names ct_Group_names), sl_Group_names⟩)
    (c_Group_names : PySem.W.codeIn K cd_Group_names "Group.names" = true)
    (k_Group_names : PySem.W.keepIn K (.ref f_Group_names) = true)
    (at_Group_passes : PySem.W.findIn K (.ref a_Group) "passes" = some (some (.ref f_Group_passes)))
    (i_Group_passes : PySem.W.isFn K (.ref f_Group_passes) = true)
    (l_Group_passes : K.lookup f_Group_passes = some ⟨oc_Group_passes, od_Group_passes, .func (PySem.W.fnOf "passes" "Group.passes" (defArgs s_Group_passes) (defBody s_Group_passes) (defScope s_Group_passes) .none kV_Group_passes dc_Group_passes pm_Group_passes an_Group_passes cd_Group_passes ct_Group_passes), sl_Group_passes⟩)
    (c_Group_passes : PySem.W.codeIn K cd_Group_passes "Group.passes" = true)
    (k_Group_passes : PySem.W.keepIn K (.ref f_Group_passes) = true)
    (at_Group__low_ends : PySem.W.findIn K (.ref a_Group) "_low_ends" = some (some (.ref f_Group__low_ends)))
    (i_Group__low_ends : PySem.W.isFn K (.ref f_Group__low_ends) = true)
    (l_Group__low_ends : K.lookup f_Group__low_ends = some ⟨oc_Group__low_ends, od_Group__low_ends, .func (PySem.W.fnOf "_low_ends" "Group._low_ends" (defArgs s_Group__low_ends) (defBody s_Group__low_ends) (defScope s_Group__low_ends) .none kV_Group__low_ends dc_Group__low_ends pm_Group__low_ends an_Group__low_ends cd_Group__low_ends ct_Group__low_ends), sl_Group__low_ends⟩)
    (c_Group__low_ends : PySem.W.codeIn K cd_Group__low_ends "Group._low_ends" = true)
    (k_Group__low_ends : PySem.W.keepIn K (.ref f_Group__low_ends) = true)
    (pg_Group : PySem.W.plainGet K a_Group Str.empty = true)
    (hd_Group : PySem.W.hasDictIn K a_Group = true)
    (po_Group : PySem.W.plainOver K a_Group = true)
    (sa_Group : PySem.W.findIn K (.ref a_Group) "__setattr__" = some (some (.builtin "object.__setattr__")))
    (mk_Group : PySem.W.makesIn K a_Group = true)
    (kc_Group : PySem.W.keepIn K (.ref a_Group) = true)
    (ca_Group : PySem.W.findIn K (.ref a_Group) "__class__" = some (some (.builtin "object.__class__")))
    (mo_Group : PySem.W.mroIn K a_Group (.type "object") = some true)
    (ne_Group : PySem.W.findIn K (.ref a_Group) "__ne__" = some (some (.builtin "object.__ne__")))
    (n_Group_intake : PySem.W.findIn K (.ref a_Group) "_intake" = some none)
    (n_Group_names : PySem.W.findIn K (.ref a_Group) "_names" = some none)
    (n_Group_parts : PySem.W.findIn K (.ref a_Group) "_parts" = some none)
    (n_Group_ranks : PySem.W.findIn K (.ref a_Group) "_ranks" = some none)
    (at_Lot_init : PySem.W.findIn K (.ref a_Lot) "__init__" = some (some (.ref f_Lot_init)))
    (i_Lot_init : PySem.W.isFn K (.ref f_Lot_init) = true)
    (l_Lot_init : K.lookup f_Lot_init = some ⟨oc_Lot_init, od_Lot_init, .func (PySem.W.fnOf "__init__" "Lot.__init__" (defArgs s_Lot_init) (defBody s_Lot_init) (defScope s_Lot_init) (.ref tD_Lot_init) kV_Lot_init dc_Lot_init pm_Lot_init an_Lot_init cd_Lot_init ct_Lot_init), sl_Lot_init⟩)
    (c_Lot_init : PySem.W.codeIn K cd_Lot_init "Lot.__init__" = true)
    (k_Lot_init : PySem.W.keepIn K (.ref f_Lot_init) = true)
    (dl_Lot_init : K.lookup tD_Lot_init = some ⟨oD_Lot_init, eD_Lot_init, .seq #[.none] nD_Lot_init, sD_Lot_init⟩)
    (at_Lot_getitem : PySem.W.findIn K (.ref a_Lot) "__getitem__" = some (some (.ref f_Lot_getitem)))
    (i_Lot_getitem : PySem.W.isFn K (.ref f_Lot_getitem) = true)
    (l_Lot_getitem : K.lookup f_Lot_getitem = some ⟨oc_Lot_getitem, od_Lot_getitem, .func (PySem.W.fnOf "__getitem__" "Lot.__getitem__" (defArgs s_Lot_getitem) (defBody s_Lot_getitem) (defScope s_Lot_getitem) .none kV_Lot_getitem dc_Lot_getitem pm_Lot_getitem an_Lot_getitem cd_Lot_getitem ct_Lot_getitem), sl_Lot_getitem⟩)
    (c_Lot_getitem : PySem.W.codeIn K cd_Lot_getitem "Lot.__getitem__" = true)
    (k_Lot_getitem : PySem.W.keepIn K (.ref f_Lot_getitem) = true)
    (at_Lot_setitem : PySem.W.findIn K (.ref a_Lot) "__setitem__" = some (some (.ref f_Lot_setitem)))
    (i_Lot_setitem : PySem.W.isFn K (.ref f_Lot_setitem) = true)
    (l_Lot_setitem : K.lookup f_Lot_setitem = some ⟨oc_Lot_setitem, od_Lot_setitem, .func (PySem.W.fnOf "__setitem__" "Lot.__setitem__" (defArgs s_Lot_setitem) (defBody s_Lot_setitem) (defScope s_Lot_setitem) .none kV_Lot_setitem dc_Lot_setitem pm_Lot_setitem an_Lot_setitem cd_Lot_setitem ct_Lot_setitem), sl_Lot_setitem⟩)
    (c_Lot_setitem : PySem.W.codeIn K cd_Lot_setitem "Lot.__setitem__" = true)
    (k_Lot_setitem : PySem.W.keepIn K (.ref f_Lot_setitem) = true)
    (at_Lot_contains : PySem.W.findIn K (.ref a_Lot) "__contains__" = some (some (.ref f_Lot_contains)))
    (i_Lot_contains : PySem.W.isFn K (.ref f_Lot_contains) = true)
    (l_Lot_contains : K.lookup f_Lot_contains = some ⟨oc_Lot_contains, od_Lot_contains, .func (PySem.W.fnOf "__contains__" "Lot.__contains__" (defArgs s_Lot_contains) (defBody s_Lot_contains) (defScope s_Lot_contains) .none kV_Lot_contains dc_Lot_contains pm_Lot_contains an_Lot_contains cd_Lot_contains ct_Lot_contains), sl_Lot_contains⟩)
    (c_Lot_contains : PySem.W.codeIn K cd_Lot_contains "Lot.__contains__" = true)
    (k_Lot_contains : PySem.W.keepIn K (.ref f_Lot_contains) = true)
    (at_Lot_iter : PySem.W.findIn K (.ref a_Lot) "__iter__" = some (some (.ref f_Lot_iter)))
    (i_Lot_iter : PySem.W.isFn K (.ref f_Lot_iter) = true)
    (l_Lot_iter : K.lookup f_Lot_iter = some ⟨oc_Lot_iter, od_Lot_iter, .func (PySem.W.fnOf "__iter__" "Lot.__iter__" (defArgs s_Lot_iter) (defBody s_Lot_iter) (defScope s_Lot_iter) .none kV_Lot_iter dc_Lot_iter pm_Lot_iter an_Lot_iter cd_Lot_iter ct_Lot_iter), sl_Lot_iter⟩)
    (c_Lot_iter : PySem.W.codeIn K cd_Lot_iter "Lot.__iter__" = true)
    (k_Lot_iter : PySem.W.keepIn K (.ref f_Lot_iter) = true)
    (at_Lot_len : PySem.W.findIn K (.ref a_Lot) "__len__" = some (some (.ref f_Lot_len)))
    (i_Lot_len : PySem.W.isFn K (.ref f_Lot_len) = true)
    (l_Lot_len : K.lookup f_Lot_len = some ⟨oc_Lot_len, od_Lot_len, .func (PySem.W.fnOf "__len__" "Lot.__len__" (defArgs s_Lot_len) (defBody s_Lot_len) (defScope s_Lot_len) .none kV_Lot_len dc_Lot_len pm_Lot_len an_Lot_len cd_Lot_len ct_Lot_len), sl_Lot_len⟩)
    (c_Lot_len : PySem.W.codeIn K cd_Lot_len "Lot.__len__" = true)
    (k_Lot_len : PySem.W.keepIn K (.ref f_Lot_len) = true)
    (at_Lot_eq : PySem.W.findIn K (.ref a_Lot) "__eq__" = some (some (.ref f_Lot_eq)))
    (i_Lot_eq : PySem.W.isFn K (.ref f_Lot_eq) = true)
    (l_Lot_eq : K.lookup f_Lot_eq = some ⟨oc_Lot_eq, od_Lot_eq, .func (PySem.W.fnOf "__eq__" "Lot.__eq__" (defArgs s_Lot_eq) (defBody s_Lot_eq) (defScope s_Lot_eq) .none kV_Lot_eq dc_Lot_eq pm_Lot_eq an_Lot_eq cd_Lot_eq ct_Lot_eq), sl_Lot_eq⟩)
    (c_Lot_eq : PySem.W.codeIn K cd_Lot_eq "Lot.__eq__" = true)
    (k_Lot_eq : PySem.W.keepIn K (.ref f_Lot_eq) = true)
    (at_Lot_drop : PySem.W.findIn K (.ref a_Lot) "drop" = some (some (.ref f_Lot_drop)))
    (i_Lot_drop : PySem.W.isFn K (.ref f_Lot_drop) = true)
    (l_Lot_drop : K.lookup f_Lot_drop = some ⟨oc_Lot_drop, od_Lot_drop, .func (PySem.W.fnOf "drop" "Lot.drop" (defArgs s_Lot_drop) (defBody s_Lot_drop) (defScope s_Lot_drop) .none kV_Lot_drop dc_Lot_drop pm_Lot_drop an_Lot_drop cd_Lot_drop ct_Lot_drop), sl_Lot_drop⟩)
    (c_Lot_drop : PySem.W.codeIn K cd_Lot_drop "Lot.drop" = true)
    (k_Lot_drop : PySem.W.keepIn K (.ref f_Lot_drop) = true)
    (at_Lot_names : PySem.W.findIn K (.ref a_Lot) "names" = some (some (.ref f_Lot_names)))
    (i_Lot_names : PySem.W.isFn K (.ref f_Lot_names) = true)
    (l_Lot_names : K.lookup f_Lot_names = some ⟨oc_Lot_names, od_Lot_names, .func (PySem.W.fnOf "names" "Lot.names" (defArgs s_Lot_names) (defBody s_Lot_names) (defScope s_Lot_names) .none kV_Lot_names dc_Lot_names pm_Lot_names an_Lot_names cd_Lot_names ct_Lot_names), sl_Lot_names⟩)
    (c_Lot_names : PySem.W.codeIn K cd_Lot_names "Lot.names" = true)
    (k_Lot_names : PySem.W.keepIn K (.ref f_Lot_names) = true)
    (at_Lot_pairs : PySem.W.findIn K (.ref a_Lot) "pairs" = some (some (.ref f_Lot_pairs)))
    (i_Lot_pairs : PySem.W.isFn K (.ref f_Lot_pairs) = true)
    (l_Lot_pairs : K.lookup f_Lot_pairs = some ⟨oc_Lot_pairs, od_Lot_pairs, .func (PySem.W.fnOf "pairs" "Lot.pairs" (defArgs s_Lot_pairs) (defBody s_Lot_pairs) (defScope s_Lot_pairs) .none kV_Lot_pairs dc_Lot_pairs pm_Lot_pairs an_Lot_pairs cd_Lot_pairs ct_Lot_pairs), sl_Lot_pairs⟩)
    (c_Lot_pairs : PySem.W.codeIn K cd_Lot_pairs "Lot.pairs" = true)
    (k_Lot_pairs : PySem.W.keepIn K (.ref f_Lot_pairs) = true)
    (pg_Lot : PySem.W.plainGet K a_Lot Str.empty = true)
    (hd_Lot : PySem.W.hasDictIn K a_Lot = true)
    (po_Lot : PySem.W.plainOver K a_Lot = true)
    (sa_Lot : PySem.W.findIn K (.ref a_Lot) "__setattr__" = some (some (.builtin "object.__setattr__")))
    (mk_Lot : PySem.W.makesIn K a_Lot = true)
    (kc_Lot : PySem.W.keepIn K (.ref a_Lot) = true)
    (ca_Lot : PySem.W.findIn K (.ref a_Lot) "__class__" = some (some (.builtin "object.__class__")))
    (mo_Lot : PySem.W.mroIn K a_Lot (.type "object") = some true)
    (ne_Lot : PySem.W.findIn K (.ref a_Lot) "__ne__" = some (some (.builtin "object.__ne__")))
    (n_Lot_worths : PySem.W.findIn K (.ref a_Lot) "_worths" = some none)
    (gc : PySem.W.specialIn K (.builtin "object.__class__") "__get__" = some (some (.builtin "getset_descriptor.__get__")))
    (tc : PySem.W.takesIn K (.builtin "object.__class__") = some true)
    (q_Group : PySem.W.noSeq K a_Group = true)
    (q_Lot : PySem.W.noSeq K a_Lot = true)
    (ic_Leaf : PySem.W.isClsIn K a_Leaf = true)
    (it_Leaf : PySem.W.typeIn K (.ref a_Leaf) = some (.type "type"))
    (ic_Group : PySem.W.isClsIn K a_Group = true)
    (it_Group : PySem.W.typeIn K (.ref a_Group) = some (.type "type"))
    (ic_Lot : PySem.W.isClsIn K a_Lot = true)
    (it_Lot : PySem.W.typeIn K (.ref a_Lot) = some (.type "type"))
    (dx_Leaf_Group : a_Leaf ≠ a_Group)
    (is_Leaf_Group : PySem.W.subIn K (.ref a_Leaf) (.ref a_Group) = some false)
    (dx_Leaf_Lot : a_Leaf ≠ a_Lot)
    (is_Leaf_Lot : PySem.W.subIn K (.ref a_Leaf) (.ref a_Lot) = some false)
    (is_Leaf_list : PySem.W.subIn K (.ref a_Leaf) (.type "list") = some false)
    (is_Leaf_int : PySem.W.subIn K (.ref a_Leaf) (.type "int") = some false)
    (is_Leaf_bool : PySem.W.subIn K (.ref a_Leaf) (.type "bool") = some false)
    (is_Leaf_str : PySem.W.subIn K (.ref a_Leaf) (.type "str") = some false)
    (dx_Group_Leaf : a_Group ≠ a_Leaf)
    (is_Group_Leaf : PySem.W.subIn K (.ref a_Group) (.ref a_Leaf) = some false)
    (dx_Group_Lot : a_Group ≠ a_Lot)
    (is_Group_Lot : PySem.W.subIn K (.ref a_Group) (.ref a_Lot) = some false)
    (is_Group_list : PySem.W.subIn K (.ref a_Group) (.type "list") = some false)
    (is_Group_int : PySem.W.subIn K (.ref a_Group) (.type "int") = some false)
    (is_Group_bool : PySem.W.subIn K (.ref a_Group) (.type "bool") = some false)
    (is_Group_str : PySem.W.subIn K (.ref a_Group) (.type "str") = some false)
    (dx_Lot_Leaf : a_Lot ≠ a_Leaf)
    (is_Lot_Leaf : PySem.W.subIn K (.ref a_Lot) (.ref a_Leaf) = some false)
    (dx_Lot_Group : a_Lot ≠ a_Group)
    (is_Lot_Group : PySem.W.subIn K (.ref a_Lot) (.ref a_Group) = some false)
    (is_Lot_list : PySem.W.subIn K (.ref a_Lot) (.type "list") = some false)
    (is_Lot_int : PySem.W.subIn K (.ref a_Lot) (.type "int") = some false)
    (is_Lot_bool : PySem.W.subIn K (.ref a_Lot) (.type "bool") = some false)
    (is_Lot_str : PySem.W.subIn K (.ref a_Lot) (.type "str") = some false)
    (xL_Lacking : K.lookup a_Lacking = some (excClassObj xn_Lacking xq_Lacking a_Lacking xN_Lacking xb_Lacking [.ref a_RankError, .type "ValueError", .type "Exception", .type "BaseException", .type "object"] true xs_Lacking xu_Lacking xa_Lacking xc_Lacking xd_Lacking x0_Lacking x1_Lacking x2_Lacking x3_Lacking x5_Lacking "ValueError.__new__"))
    (sa_Lacking : PySem.W.findIn K (.ref a_Lacking) "__setattr__" = some (some (.builtin "object.__setattr__")))
    (ga_Lacking : PySem.W.findIn K (.ref a_Lacking) "__getattribute__" = some (some (.builtin "BaseException.__getattribute__")))
    (gg_Lacking : PySem.W.findIn K (.ref a_Lacking) "__getattr__" = some none)
    (kc_Lacking : PySem.W.keepIn K (.ref a_Lacking) = true)
    (ex_Lacking : PySem.W.subIn K (.ref a_Lacking) (.type "BaseException") = some true)
    (ty_Lacking : PySem.W.typeIn K (.ref a_Lacking) = some (.type "type"))
    (hd_Lacking : PySem.W.hasDictIn K a_Lacking = true)
    (ic_Lacking : PySem.W.isClsIn K a_Lacking = true)
    (ss_Lacking : PySem.W.subIn K (.ref a_Lacking) (.ref a_Lacking) = some true)
    (at_Lacking_init : PySem.W.findIn K (.ref a_Lacking) "__init__" = some (some (.ref f_Lacking_init)))
    (i_Lacking_init : PySem.W.isFn K (.ref f_Lacking_init) = true)
    (l_Lacking_init : K.lookup f_Lacking_init = some ⟨oc_Lacking_init, od_Lacking_init, .func (PySem.W.fnOf "__init__" "Lacking.__init__" (defArgs s_Lacking_init) (defBody s_Lacking_init) (defScope s_Lacking_init) (.ref tD_Lacking_init) kV_Lacking_init dc_Lacking_init pm_Lacking_init an_Lacking_init cd_Lacking_init ct_Lacking_init), sl_Lacking_init⟩)
    (c_Lacking_init : PySem.W.codeIn K cd_Lacking_init "Lacking.__init__" = true)
    (k_Lacking_init : PySem.W.keepIn K (.ref f_Lacking_init) = true)
    (dl_Lacking_init : K.lookup tD_Lacking_init = some ⟨oD_Lacking_init, eD_Lacking_init, .seq #[.none] nD_Lacking_init, sD_Lacking_init⟩)
    (tf_Lacking : PySem.W.typeIn K (.ref f_Lacking_init) = some (.type "function"))
    (n_Lacking_which : PySem.W.findIn K (.ref a_Lacking) "which" = some none)
    (g_is_whole : PySem.W.nsIn K mainGlobals "is_whole" = some (some (.ref f_is_whole)))
    (l_is_whole : K.lookup f_is_whole = some ⟨oc_is_whole, od_is_whole, .func (PySem.W.fnOf "is_whole" "is_whole" (defArgs s_is_whole) (defBody s_is_whole) (defScope s_is_whole) .none kV_is_whole dc_is_whole pm_is_whole an_is_whole cd_is_whole ct_is_whole), sl_is_whole⟩)
    (c_is_whole : PySem.W.codeIn K cd_is_whole "is_whole" = true)
    (k_is_whole : PySem.W.keepIn K (.ref f_is_whole) = true)
    (g_is_name : PySem.W.nsIn K mainGlobals "is_name" = some (some (.ref f_is_name)))
    (l_is_name : K.lookup f_is_name = some ⟨oc_is_name, od_is_name, .func (PySem.W.fnOf "is_name" "is_name" (defArgs s_is_name) (defBody s_is_name) (defScope s_is_name) .none kV_is_name dc_is_name pm_is_name an_is_name cd_is_name ct_is_name), sl_is_name⟩)
    (c_is_name : PySem.W.codeIn K cd_is_name "is_name" = true)
    (k_is_name : PySem.W.keepIn K (.ref f_is_name) = true)
    (g_are_names : PySem.W.nsIn K mainGlobals "are_names" = some (some (.ref f_are_names)))
    (l_are_names : K.lookup f_are_names = some ⟨oc_are_names, od_are_names, .func (PySem.W.fnOf "are_names" "are_names" (defArgs s_are_names) (defBody s_are_names) (defScope s_are_names) .none kV_are_names dc_are_names pm_are_names an_are_names cd_are_names ct_are_names), sl_are_names⟩)
    (c_are_names : PySem.W.codeIn K cd_are_names "are_names" = true)
    (k_are_names : PySem.W.keepIn K (.ref f_are_names) = true)
    (g_are_name_pairs : PySem.W.nsIn K mainGlobals "are_name_pairs" = some (some (.ref f_are_name_pairs)))
    (l_are_name_pairs : K.lookup f_are_name_pairs = some ⟨oc_are_name_pairs, od_are_name_pairs, .func (PySem.W.fnOf "are_name_pairs" "are_name_pairs" (defArgs s_are_name_pairs) (defBody s_are_name_pairs) (defScope s_are_name_pairs) .none kV_are_name_pairs dc_are_name_pairs pm_are_name_pairs an_are_name_pairs cd_are_name_pairs ct_are_name_pairs), sl_are_name_pairs⟩)
    (c_are_name_pairs : PySem.W.codeIn K cd_are_name_pairs "are_name_pairs" = true)
    (k_are_name_pairs : PySem.W.keepIn K (.ref f_are_name_pairs) = true)
    (g_is_tree : PySem.W.nsIn K mainGlobals "is_tree" = some (some (.ref f_is_tree)))
    (l_is_tree : K.lookup f_is_tree = some ⟨oc_is_tree, od_is_tree, .func (PySem.W.fnOf "is_tree" "is_tree" (defArgs s_is_tree) (defBody s_is_tree) (defScope s_is_tree) .none kV_is_tree dc_is_tree pm_is_tree an_is_tree cd_is_tree ct_is_tree), sl_is_tree⟩)
    (c_is_tree : PySem.W.codeIn K cd_is_tree "is_tree" = true)
    (k_is_tree : PySem.W.keepIn K (.ref f_is_tree) = true)
    (g_is_end : PySem.W.nsIn K mainGlobals "is_end" = some (some (.ref f_is_end)))
    (l_is_end : K.lookup f_is_end = some ⟨oc_is_end, od_is_end, .func (PySem.W.fnOf "is_end" "is_end" (defArgs s_is_end) (defBody s_is_end) (defScope s_is_end) .none kV_is_end dc_is_end pm_is_end an_is_end cd_is_end ct_is_end), sl_is_end⟩)
    (c_is_end : PySem.W.codeIn K cd_is_end "is_end" = true)
    (k_is_end : PySem.W.keepIn K (.ref f_is_end) = true)
    (g_are_parts : PySem.W.nsIn K mainGlobals "_are_parts" = some (some (.ref f_are_parts)))
    (l_are_parts : K.lookup f_are_parts = some ⟨oc_are_parts, od_are_parts, .func (PySem.W.fnOf "_are_parts" "_are_parts" (defArgs s_are_parts) (defBody s_are_parts) (defScope s_are_parts) .none kV_are_parts dc_are_parts pm_are_parts an_are_parts cd_are_parts ct_are_parts), sl_are_parts⟩)
    (c_are_parts : PySem.W.codeIn K cd_are_parts "_are_parts" = true)
    (k_are_parts : PySem.W.keepIn K (.ref f_are_parts) = true)
    (g_are_ranks : PySem.W.nsIn K mainGlobals "_are_ranks" = some (some (.ref f_are_ranks)))
    (l_are_ranks : K.lookup f_are_ranks = some ⟨oc_are_ranks, od_are_ranks, .func (PySem.W.fnOf "_are_ranks" "_are_ranks" (defArgs s_are_ranks) (defBody s_are_ranks) (defScope s_are_ranks) .none kV_are_ranks dc_are_ranks pm_are_ranks an_are_ranks cd_are_ranks ct_are_ranks), sl_are_ranks⟩)
    (c_are_ranks : PySem.W.codeIn K cd_are_ranks "_are_ranks" = true)
    (k_are_ranks : PySem.W.keepIn K (.ref f_are_ranks) = true)
    (g_intake_of : PySem.W.nsIn K mainGlobals "_intake_of" = some (some (.ref f_intake_of)))
    (l_intake_of : K.lookup f_intake_of = some ⟨oc_intake_of, od_intake_of, .func (PySem.W.fnOf "_intake_of" "_intake_of" (defArgs s_intake_of) (defBody s_intake_of) (defScope s_intake_of) .none kV_intake_of dc_intake_of pm_intake_of an_intake_of cd_intake_of ct_intake_of), sl_intake_of⟩)
    (c_intake_of : PySem.W.codeIn K cd_intake_of "_intake_of" = true)
    (k_intake_of : PySem.W.keepIn K (.ref f_intake_of) = true)
    (g_names_of : PySem.W.nsIn K mainGlobals "_names_of" = some (some (.ref f_names_of)))
    (l_names_of : K.lookup f_names_of = some ⟨oc_names_of, od_names_of, .func (PySem.W.fnOf "_names_of" "_names_of" (defArgs s_names_of) (defBody s_names_of) (defScope s_names_of) .none kV_names_of dc_names_of pm_names_of an_names_of cd_names_of ct_names_of), sl_names_of⟩)
    (c_names_of : PySem.W.codeIn K cd_names_of "_names_of" = true)
    (k_names_of : PySem.W.keepIn K (.ref f_names_of) = true)
    (g_are_leaves : PySem.W.nsIn K mainGlobals "_are_leaves" = some (some (.ref f_are_leaves)))
    (l_are_leaves : K.lookup f_are_leaves = some ⟨oc_are_leaves, od_are_leaves, .func (PySem.W.fnOf "_are_leaves" "_are_leaves" (defArgs s_are_leaves) (defBody s_are_leaves) (defScope s_are_leaves) .none kV_are_leaves dc_are_leaves pm_are_leaves an_are_leaves cd_are_leaves ct_are_leaves), sl_are_leaves⟩)
    (c_are_leaves : PySem.W.codeIn K cd_are_leaves "_are_leaves" = true)
    (k_are_leaves : PySem.W.keepIn K (.ref f_are_leaves) = true)
    (g_is_lot : PySem.W.nsIn K mainGlobals "is_lot" = some (some (.ref f_is_lot)))
    (l_is_lot : K.lookup f_is_lot = some ⟨oc_is_lot, od_is_lot, .func (PySem.W.fnOf "is_lot" "is_lot" (defArgs s_is_lot) (defBody s_is_lot) (defScope s_is_lot) .none kV_is_lot dc_is_lot pm_is_lot an_is_lot cd_is_lot ct_is_lot), sl_is_lot⟩)
    (c_is_lot : PySem.W.codeIn K cd_is_lot "is_lot" = true)
    (k_is_lot : PySem.W.keepIn K (.ref f_is_lot) = true)
    (g_ends_of : PySem.W.nsIn K mainGlobals "ends_of" = some (some (.ref f_ends_of)))
    (l_ends_of : K.lookup f_ends_of = some ⟨oc_ends_of, od_ends_of, .func (PySem.W.fnOf "ends_of" "ends_of" (defArgs s_ends_of) (defBody s_ends_of) (defScope s_ends_of) .none kV_ends_of dc_ends_of pm_ends_of an_ends_of cd_ends_of ct_ends_of), sl_ends_of⟩)
    (c_ends_of : PySem.W.codeIn K cd_ends_of "ends_of" = true)
    (k_ends_of : PySem.W.keepIn K (.ref f_ends_of) = true)
    (g_end_of : PySem.W.nsIn K mainGlobals "end_of" = some (some (.ref f_end_of)))
    (l_end_of : K.lookup f_end_of = some ⟨oc_end_of, od_end_of, .func (PySem.W.fnOf "end_of" "end_of" (defArgs s_end_of) (defBody s_end_of) (defScope s_end_of) (.ref tD_end_of) kV_end_of dc_end_of pm_end_of an_end_of cd_end_of ct_end_of), sl_end_of⟩)
    (c_end_of : PySem.W.codeIn K cd_end_of "end_of" = true)
    (k_end_of : PySem.W.keepIn K (.ref f_end_of) = true)
    (dl_end_of : K.lookup tD_end_of = some ⟨oD_end_of, eD_end_of, .seq #[(.int 1 kD0_end_of)] nD_end_of, sD_end_of⟩)
    (g_outs_of : PySem.W.nsIn K mainGlobals "outs_of" = some (some (.ref f_outs_of)))
    (l_outs_of : K.lookup f_outs_of = some ⟨oc_outs_of, od_outs_of, .func (PySem.W.fnOf "outs_of" "outs_of" (defArgs s_outs_of) (defBody s_outs_of) (defScope s_outs_of) .none kV_outs_of dc_outs_of pm_outs_of an_outs_of cd_outs_of ct_outs_of), sl_outs_of⟩)
    (c_outs_of : PySem.W.codeIn K cd_outs_of "outs_of" = true)
    (k_outs_of : PySem.W.keepIn K (.ref f_outs_of) = true)
    (g_check_kinds : PySem.W.nsIn K mainGlobals "check_kinds" = some (some (.ref f_check_kinds)))
    (l_check_kinds : K.lookup f_check_kinds = some ⟨oc_check_kinds, od_check_kinds, .func (PySem.W.fnOf "check_kinds" "check_kinds" (defArgs s_check_kinds) (defBody s_check_kinds) (defScope s_check_kinds) .none kV_check_kinds dc_check_kinds pm_check_kinds an_check_kinds cd_check_kinds ct_check_kinds), sl_check_kinds⟩)
    (c_check_kinds : PySem.W.codeIn K cd_check_kinds "check_kinds" = true)
    (k_check_kinds : PySem.W.keepIn K (.ref f_check_kinds) = true)
    (g_check_full : PySem.W.nsIn K mainGlobals "check_full" = some (some (.ref f_check_full)))
    (l_check_full : K.lookup f_check_full = some ⟨oc_check_full, od_check_full, .func (PySem.W.fnOf "check_full" "check_full" (defArgs s_check_full) (defBody s_check_full) (defScope s_check_full) .none kV_check_full dc_check_full pm_check_full an_check_full cd_check_full ct_check_full), sl_check_full⟩)
    (c_check_full : PySem.W.codeIn K cd_check_full "check_full" = true)
    (k_check_full : PySem.W.keepIn K (.ref f_check_full) = true)
    (g_outs : PySem.W.nsIn K mainGlobals "_outs" = some (some (.ref f_outs)))
    (l_outs : K.lookup f_outs = some ⟨oc_outs, od_outs, .func (PySem.W.fnOf "_outs" "_outs" (defArgs s_outs) (defBody s_outs) (defScope s_outs) .none kV_outs dc_outs pm_outs an_outs cd_outs ct_outs), sl_outs⟩)
    (c_outs : PySem.W.codeIn K cd_outs "_outs" = true)
    (k_outs : PySem.W.keepIn K (.ref f_outs) = true)
    (g_rank_in : PySem.W.nsIn K mainGlobals "rank_in" = some (some (.ref f_rank_in)))
    (l_rank_in : K.lookup f_rank_in = some ⟨oc_rank_in, od_rank_in, .func (PySem.W.fnOf "rank_in" "rank_in" (defArgs s_rank_in) (defBody s_rank_in) (defScope s_rank_in) (.ref tD_rank_in) kV_rank_in dc_rank_in pm_rank_in an_rank_in cd_rank_in ct_rank_in), sl_rank_in⟩)
    (c_rank_in : PySem.W.codeIn K cd_rank_in "rank_in" = true)
    (k_rank_in : PySem.W.keepIn K (.ref f_rank_in) = true)
    (dl_rank_in : K.lookup tD_rank_in = some ⟨oD_rank_in, eD_rank_in, .seq #[(.int 1 kD0_rank_in)] nD_rank_in, sD_rank_in⟩)
    (g_law_well : PySem.W.nsIn K mainGlobals "_law_well" = some (some (.ref f_law_well)))
    (l_law_well : K.lookup f_law_well = some ⟨oc_law_well, od_law_well, .func (PySem.W.fnOf "_law_well" "_law_well" (defArgs s_law_well) (defBody s_law_well) (defScope s_law_well) .none kV_law_well dc_law_well pm_law_well an_law_well cd_law_well ct_law_well), sl_law_well⟩)
    (c_law_well : PySem.W.codeIn K cd_law_well "_law_well" = true)
    (k_law_well : PySem.W.keepIn K (.ref f_law_well) = true)
    (g_law_dip : PySem.W.nsIn K mainGlobals "_law_dip" = some (some (.ref f_law_dip)))
    (l_law_dip : K.lookup f_law_dip = some ⟨oc_law_dip, od_law_dip, .func (PySem.W.fnOf "_law_dip" "_law_dip" (defArgs s_law_dip) (defBody s_law_dip) (defScope s_law_dip) .none kV_law_dip dc_law_dip pm_law_dip an_law_dip cd_law_dip ct_law_dip), sl_law_dip⟩)
    (c_law_dip : PySem.W.codeIn K cd_law_dip "_law_dip" = true)
    (k_law_dip : PySem.W.keepIn K (.ref f_law_dip) = true)
    (g_law_words : PySem.W.nsIn K mainGlobals "_law_words" = some (some (.ref f_law_words)))
    (l_law_words : K.lookup f_law_words = some ⟨oc_law_words, od_law_words, .func (PySem.W.fnOf "_law_words" "_law_words" (defArgs s_law_words) (defBody s_law_words) (defScope s_law_words) .none kV_law_words dc_law_words pm_law_words an_law_words cd_law_words ct_law_words), sl_law_words⟩)
    (c_law_words : PySem.W.codeIn K cd_law_words "_law_words" = true)
    (k_law_words : PySem.W.keepIn K (.ref f_law_words) = true)
    (g_law_ranks : PySem.W.nsIn K mainGlobals "_law_ranks" = some (some (.ref f_law_ranks)))
    (l_law_ranks : K.lookup f_law_ranks = some ⟨oc_law_ranks, od_law_ranks, .func (PySem.W.fnOf "_law_ranks" "_law_ranks" (defArgs s_law_ranks) (defBody s_law_ranks) (defScope s_law_ranks) .none kV_law_ranks dc_law_ranks pm_law_ranks an_law_ranks cd_law_ranks ct_law_ranks), sl_law_ranks⟩)
    (c_law_ranks : PySem.W.codeIn K cd_law_ranks "_law_ranks" = true)
    (k_law_ranks : PySem.W.keepIn K (.ref f_law_ranks) = true)
    (g_law_width : PySem.W.nsIn K mainGlobals "_law_width" = some (some (.ref f_law_width)))
    (l_law_width : K.lookup f_law_width = some ⟨oc_law_width, od_law_width, .func (PySem.W.fnOf "_law_width" "_law_width" (defArgs s_law_width) (defBody s_law_width) (defScope s_law_width) .none kV_law_width dc_law_width pm_law_width an_law_width cd_law_width ct_law_width), sl_law_width⟩)
    (c_law_width : PySem.W.codeIn K cd_law_width "_law_width" = true)
    (k_law_width : PySem.W.keepIn K (.ref f_law_width) = true)
    (g_law_group : PySem.W.nsIn K mainGlobals "_law_group" = some (some (.ref f_law_group)))
    (l_law_group : K.lookup f_law_group = some ⟨oc_law_group, od_law_group, .func (PySem.W.fnOf "_law_group" "_law_group" (defArgs s_law_group) (defBody s_law_group) (defScope s_law_group) .none kV_law_group dc_law_group pm_law_group an_law_group cd_law_group ct_law_group), sl_law_group⟩)
    (c_law_group : PySem.W.codeIn K cd_law_group "_law_group" = true)
    (k_law_group : PySem.W.keepIn K (.ref f_law_group) = true)
    (g_law_tree : PySem.W.nsIn K mainGlobals "_law_tree" = some (some (.ref f_law_tree)))
    (l_law_tree : K.lookup f_law_tree = some ⟨oc_law_tree, od_law_tree, .func (PySem.W.fnOf "_law_tree" "_law_tree" (defArgs s_law_tree) (defBody s_law_tree) (defScope s_law_tree) .none kV_law_tree dc_law_tree pm_law_tree an_law_tree cd_law_tree ct_law_tree), sl_law_tree⟩)
    (c_law_tree : PySem.W.codeIn K cd_law_tree "_law_tree" = true)
    (k_law_tree : PySem.W.keepIn K (.ref f_law_tree) = true)
    (g_law_nodes : PySem.W.nsIn K mainGlobals "_law_nodes" = some (some (.ref f_law_nodes)))
    (l_law_nodes : K.lookup f_law_nodes = some ⟨oc_law_nodes, od_law_nodes, .func (PySem.W.fnOf "_law_nodes" "_law_nodes" (defArgs s_law_nodes) (defBody s_law_nodes) (defScope s_law_nodes) .none kV_law_nodes dc_law_nodes pm_law_nodes an_law_nodes cd_law_nodes ct_law_nodes), sl_law_nodes⟩)
    (c_law_nodes : PySem.W.codeIn K cd_law_nodes "_law_nodes" = true)
    (k_law_nodes : PySem.W.keepIn K (.ref f_law_nodes) = true)
    (g_law_made : PySem.W.nsIn K mainGlobals "_law_made" = some (some (.ref f_law_made)))
    (l_law_made : K.lookup f_law_made = some ⟨oc_law_made, od_law_made, .func (PySem.W.fnOf "_law_made" "_law_made" (defArgs s_law_made) (defBody s_law_made) (defScope s_law_made) .none kV_law_made dc_law_made pm_law_made an_law_made cd_law_made ct_law_made), sl_law_made⟩)
    (c_law_made : PySem.W.codeIn K cd_law_made "_law_made" = true)
    (k_law_made : PySem.W.keepIn K (.ref f_law_made) = true)
    (g_law_ends : PySem.W.nsIn K mainGlobals "_law_ends" = some (some (.ref f_law_ends)))
    (l_law_ends : K.lookup f_law_ends = some ⟨oc_law_ends, od_law_ends, .func (PySem.W.fnOf "_law_ends" "_law_ends" (defArgs s_law_ends) (defBody s_law_ends) (defScope s_law_ends) .none kV_law_ends dc_law_ends pm_law_ends an_law_ends cd_law_ends ct_law_ends), sl_law_ends⟩)
    (c_law_ends : PySem.W.codeIn K cd_law_ends "_law_ends" = true)
    (k_law_ends : PySem.W.keepIn K (.ref f_law_ends) = true)
    (g_law_worths : PySem.W.nsIn K mainGlobals "_law_worths" = some (some (.ref f_law_worths)))
    (l_law_worths : K.lookup f_law_worths = some ⟨oc_law_worths, od_law_worths, .func (PySem.W.fnOf "_law_worths" "_law_worths" (defArgs s_law_worths) (defBody s_law_worths) (defScope s_law_worths) .none kV_law_worths dc_law_worths pm_law_worths an_law_worths cd_law_worths ct_law_worths), sl_law_worths⟩)
    (c_law_worths : PySem.W.codeIn K cd_law_worths "_law_worths" = true)
    (k_law_worths : PySem.W.keepIn K (.ref f_law_worths) = true)
    (g_law_pairs : PySem.W.nsIn K mainGlobals "_law_pairs" = some (some (.ref f_law_pairs)))
    (l_law_pairs : K.lookup f_law_pairs = some ⟨oc_law_pairs, od_law_pairs, .func (PySem.W.fnOf "_law_pairs" "_law_pairs" (defArgs s_law_pairs) (defBody s_law_pairs) (defScope s_law_pairs) .none kV_law_pairs dc_law_pairs pm_law_pairs an_law_pairs cd_law_pairs ct_law_pairs), sl_law_pairs⟩)
    (c_law_pairs : PySem.W.codeIn K cd_law_pairs "_law_pairs" = true)
    (k_law_pairs : PySem.W.keepIn K (.ref f_law_pairs) = true)
    (g_law_right : PySem.W.nsIn K mainGlobals "_law_right" = some (some (.ref f_law_right)))
    (l_law_right : K.lookup f_law_right = some ⟨oc_law_right, od_law_right, .func (PySem.W.fnOf "_law_right" "_law_right" (defArgs s_law_right) (defBody s_law_right) (defScope s_law_right) .none kV_law_right dc_law_right pm_law_right an_law_right cd_law_right ct_law_right), sl_law_right⟩)
    (c_law_right : PySem.W.codeIn K cd_law_right "_law_right" = true)
    (k_law_right : PySem.W.keepIn K (.ref f_law_right) = true)
    (g_law_lacks : PySem.W.nsIn K mainGlobals "_law_lacks" = some (some (.ref f_law_lacks)))
    (l_law_lacks : K.lookup f_law_lacks = some ⟨oc_law_lacks, od_law_lacks, .func (PySem.W.fnOf "_law_lacks" "_law_lacks" (defArgs s_law_lacks) (defBody s_law_lacks) (defScope s_law_lacks) .none kV_law_lacks dc_law_lacks pm_law_lacks an_law_lacks cd_law_lacks ct_law_lacks), sl_law_lacks⟩)
    (c_law_lacks : PySem.W.codeIn K cd_law_lacks "_law_lacks" = true)
    (k_law_lacks : PySem.W.keepIn K (.ref f_law_lacks) = true)
    (g_law : PySem.W.nsIn K mainGlobals "law" = some (some (.ref f_law)))
    (l_law : K.lookup f_law = some ⟨oc_law, od_law, .func (PySem.W.fnOf "law" "law" (defArgs s_law) (defBody s_law) (defScope s_law) .none kV_law dc_law pm_law an_law cd_law ct_law), sl_law⟩)
    (c_law : PySem.W.codeIn K cd_law "law" = true)
    (k_law : PySem.W.keepIn K (.ref f_law) = true)
    : Txt K mg where
  m_len := PySem.W.mg_none_of X G z_len
  m_int := PySem.W.mg_none_of X G z_int
  m_range := PySem.W.mg_none_of X G z_range
  m_sum := PySem.W.mg_none_of X G z_sum
  m_all := PySem.W.mg_none_of X G z_all
  m_isinstance := PySem.W.mg_none_of X G z_isinstance
  m_sorted := PySem.W.mg_none_of X G z_sorted
  m_list := PySem.W.mg_none_of X G z_list
  m_tuple := PySem.W.mg_none_of X G z_tuple
  m_set := PySem.W.mg_none_of X G z_set
  m_zip := PySem.W.mg_none_of X G z_zip
  m_bool := PySem.W.mg_none_of X G z_bool
  m_str := PySem.W.mg_none_of X G z_str
  m_dict := PySem.W.mg_none_of X G z_dict
  m_TypeError := PySem.W.mg_none_of X G z_TypeError
  m_ValueError := PySem.W.mg_none_of X G z_ValueError
  a_RankError := a_RankError
  m_RankError := PySem.W.mg_of X G g_RankError
  a_InvalidName := a_InvalidName
  m_InvalidName := PySem.W.mg_of X G g_InvalidName
  a_InvalidNumber := a_InvalidNumber
  m_InvalidNumber := PySem.W.mg_of X G g_InvalidNumber
  a_InvalidTree := a_InvalidTree
  m_InvalidTree := PySem.W.mg_of X G g_InvalidTree
  a_InvalidLot := a_InvalidLot
  m_InvalidLot := PySem.W.mg_of X G g_InvalidLot
  a_InvalidList := a_InvalidList
  m_InvalidList := PySem.W.mg_of X G g_InvalidList
  a_Unknown := a_Unknown
  m_Unknown := PySem.W.mg_of X G g_Unknown
  a_Lacking := a_Lacking
  m_Lacking := PySem.W.mg_of X G g_Lacking
  a_Tree := a_Tree
  m_Tree := PySem.W.mg_of X G g_Tree
  a_Leaf := a_Leaf
  m_Leaf := PySem.W.mg_of X G g_Leaf
  a_Group := a_Group
  m_Group := PySem.W.mg_of X G g_Group
  a_Lot := a_Lot
  m_Lot := PySem.W.mg_of X G g_Lot
  f_Leaf_init := f_Leaf_init
  d_Leaf_init := PySem.W.fnOf "__init__" "Leaf.__init__" (defArgs s_Leaf_init) (defBody s_Leaf_init) (defScope s_Leaf_init) .none kV_Leaf_init dc_Leaf_init pm_Leaf_init an_Leaf_init cd_Leaf_init ct_Leaf_init
  F_Leaf_init := fun_mk l_Leaf_init c_Leaf_init k_Leaf_init
  b_Leaf_init := (fun_mk (st := s_Leaf_init) l_Leaf_init c_Leaf_init k_Leaf_init).binds (ps := ["self", "name"]) fun _ _ _ _ _ _ us hl => match us, hl with | [_, _], _ => rfl
  M_Leaf_init := ⟨at_Leaf_init, i_Leaf_init, k_Leaf_init⟩
  f_Leaf_name := f_Leaf_name
  d_Leaf_name := PySem.W.fnOf "name" "Leaf.name" (defArgs s_Leaf_name) (defBody s_Leaf_name) (defScope s_Leaf_name) .none kV_Leaf_name dc_Leaf_name pm_Leaf_name an_Leaf_name cd_Leaf_name ct_Leaf_name
  p_Leaf_name := p_Leaf_name
  P_Leaf_name := ⟨at_Leaf_name, gt_Leaf_name, tk_Leaf_name, ⟨_, rc_Leaf_name⟩⟩
  F_Leaf_name := fun_mk l_Leaf_name c_Leaf_name k_Leaf_name
  b_Leaf_name := (fun_mk (st := s_Leaf_name) l_Leaf_name c_Leaf_name k_Leaf_name).binds (ps := ["self"]) fun _ _ _ _ _ _ us hl => match us, hl with | [_], _ => rfl
  f_Leaf_width := f_Leaf_width
  d_Leaf_width := PySem.W.fnOf "width" "Leaf.width" (defArgs s_Leaf_width) (defBody s_Leaf_width) (defScope s_Leaf_width) .none kV_Leaf_width dc_Leaf_width pm_Leaf_width an_Leaf_width cd_Leaf_width ct_Leaf_width
  p_Leaf_width := p_Leaf_width
  P_Leaf_width := ⟨at_Leaf_width, gt_Leaf_width, tk_Leaf_width, ⟨_, rc_Leaf_width⟩⟩
  F_Leaf_width := fun_mk l_Leaf_width c_Leaf_width k_Leaf_width
  b_Leaf_width := (fun_mk (st := s_Leaf_width) l_Leaf_width c_Leaf_width k_Leaf_width).binds (ps := ["self"]) fun _ _ _ _ _ _ us hl => match us, hl with | [_], _ => rfl
  f_Leaf_len := f_Leaf_len
  d_Leaf_len := PySem.W.fnOf "__len__" "Leaf.__len__" (defArgs s_Leaf_len) (defBody s_Leaf_len) (defScope s_Leaf_len) .none kV_Leaf_len dc_Leaf_len pm_Leaf_len an_Leaf_len cd_Leaf_len ct_Leaf_len
  F_Leaf_len := fun_mk l_Leaf_len c_Leaf_len k_Leaf_len
  b_Leaf_len := (fun_mk (st := s_Leaf_len) l_Leaf_len c_Leaf_len k_Leaf_len).binds (ps := ["self"]) fun _ _ _ _ _ _ us hl => match us, hl with | [_], _ => rfl
  M_Leaf_len := ⟨at_Leaf_len, i_Leaf_len, k_Leaf_len⟩
  f_Leaf_contains := f_Leaf_contains
  d_Leaf_contains := PySem.W.fnOf "__contains__" "Leaf.__contains__" (defArgs s_Leaf_contains) (defBody s_Leaf_contains) (defScope s_Leaf_contains) .none kV_Leaf_contains dc_Leaf_contains pm_Leaf_contains an_Leaf_contains cd_Leaf_contains ct_Leaf_contains
  F_Leaf_contains := fun_mk l_Leaf_contains c_Leaf_contains k_Leaf_contains
  b_Leaf_contains := (fun_mk (st := s_Leaf_contains) l_Leaf_contains c_Leaf_contains k_Leaf_contains).binds (ps := ["self", "name"]) fun _ _ _ _ _ _ us hl => match us, hl with | [_, _], _ => rfl
  M_Leaf_contains := ⟨at_Leaf_contains, i_Leaf_contains, k_Leaf_contains⟩
  f_Leaf_eq := f_Leaf_eq
  d_Leaf_eq := PySem.W.fnOf "__eq__" "Leaf.__eq__" (defArgs s_Leaf_eq) (defBody s_Leaf_eq) (defScope s_Leaf_eq) .none kV_Leaf_eq dc_Leaf_eq pm_Leaf_eq an_Leaf_eq cd_Leaf_eq ct_Leaf_eq
  F_Leaf_eq := fun_mk l_Leaf_eq c_Leaf_eq k_Leaf_eq
  b_Leaf_eq := (fun_mk (st := s_Leaf_eq) l_Leaf_eq c_Leaf_eq k_Leaf_eq).binds (ps := ["self", "other"]) fun _ _ _ _ _ _ us hl => match us, hl with | [_, _], _ => rfl
  M_Leaf_eq := ⟨at_Leaf_eq, i_Leaf_eq, k_Leaf_eq⟩
  f_Leaf_names := f_Leaf_names
  d_Leaf_names := PySem.W.fnOf "names" "Leaf.names" (defArgs s_Leaf_names) (defBody s_Leaf_names) (defScope s_Leaf_names) .none kV_Leaf_names dc_Leaf_names pm_Leaf_names an_Leaf_names cd_Leaf_names ct_Leaf_names
  F_Leaf_names := fun_mk l_Leaf_names c_Leaf_names k_Leaf_names
  b_Leaf_names := (fun_mk (st := s_Leaf_names) l_Leaf_names c_Leaf_names k_Leaf_names).binds (ps := ["self"]) fun _ _ _ _ _ _ us hl => match us, hl with | [_], _ => rfl
  M_Leaf_names := ⟨at_Leaf_names, i_Leaf_names, k_Leaf_names⟩
  f_Leaf_passes := f_Leaf_passes
  d_Leaf_passes := PySem.W.fnOf "passes" "Leaf.passes" (defArgs s_Leaf_passes) (defBody s_Leaf_passes) (defScope s_Leaf_passes) .none kV_Leaf_passes dc_Leaf_passes pm_Leaf_passes an_Leaf_passes cd_Leaf_passes ct_Leaf_passes
  F_Leaf_passes := fun_mk l_Leaf_passes c_Leaf_passes k_Leaf_passes
  b_Leaf_passes := (fun_mk (st := s_Leaf_passes) l_Leaf_passes c_Leaf_passes k_Leaf_passes).binds (ps := ["self", "names"]) fun _ _ _ _ _ _ us hl => match us, hl with | [_, _], _ => rfl
  M_Leaf_passes := ⟨at_Leaf_passes, i_Leaf_passes, k_Leaf_passes⟩
  f_Leaf__low_ends := f_Leaf__low_ends
  d_Leaf__low_ends := PySem.W.fnOf "_low_ends" "Leaf._low_ends" (defArgs s_Leaf__low_ends) (defBody s_Leaf__low_ends) (defScope s_Leaf__low_ends) .none kV_Leaf__low_ends dc_Leaf__low_ends pm_Leaf__low_ends an_Leaf__low_ends cd_Leaf__low_ends ct_Leaf__low_ends
  F_Leaf__low_ends := fun_mk l_Leaf__low_ends c_Leaf__low_ends k_Leaf__low_ends
  b_Leaf__low_ends := (fun_mk (st := s_Leaf__low_ends) l_Leaf__low_ends c_Leaf__low_ends k_Leaf__low_ends).binds (ps := ["self", "low"]) fun _ _ _ _ _ _ us hl => match us, hl with | [_, _], _ => rfl
  M_Leaf__low_ends := ⟨at_Leaf__low_ends, i_Leaf__low_ends, k_Leaf__low_ends⟩
  c_Leaf := ⟨pg_Leaf, hd_Leaf, po_Leaf, sa_Leaf⟩
  M_Leaf := ⟨mk_Leaf, at_Leaf_init, i_Leaf_init, kc_Leaf⟩
  ca_Leaf := ca_Leaf
  mo_Leaf := mo_Leaf
  ne_Leaf := ne_Leaf
  n_Leaf_name := n_Leaf_name
  f_Group_init := f_Group_init
  d_Group_init := PySem.W.fnOf "__init__" "Group.__init__" (defArgs s_Group_init) (defBody s_Group_init) (defScope s_Group_init) .none kV_Group_init dc_Group_init pm_Group_init an_Group_init cd_Group_init ct_Group_init
  F_Group_init := fun_mk l_Group_init c_Group_init k_Group_init
  b_Group_init := (fun_mk (st := s_Group_init) l_Group_init c_Group_init k_Group_init).binds (ps := ["self", "ranks", "parts"]) fun _ _ _ _ _ _ us hl => match us, hl with | [_, _, _], _ => rfl
  M_Group_init := ⟨at_Group_init, i_Group_init, k_Group_init⟩
  f_Group_ranks := f_Group_ranks
  d_Group_ranks := PySem.W.fnOf "ranks" "Group.ranks" (defArgs s_Group_ranks) (defBody s_Group_ranks) (defScope s_Group_ranks) .none kV_Group_ranks dc_Group_ranks pm_Group_ranks an_Group_ranks cd_Group_ranks ct_Group_ranks
  p_Group_ranks := p_Group_ranks
  P_Group_ranks := ⟨at_Group_ranks, gt_Group_ranks, tk_Group_ranks, ⟨_, rc_Group_ranks⟩⟩
  F_Group_ranks := fun_mk l_Group_ranks c_Group_ranks k_Group_ranks
  b_Group_ranks := (fun_mk (st := s_Group_ranks) l_Group_ranks c_Group_ranks k_Group_ranks).binds (ps := ["self"]) fun _ _ _ _ _ _ us hl => match us, hl with | [_], _ => rfl
  f_Group_parts := f_Group_parts
  d_Group_parts := PySem.W.fnOf "parts" "Group.parts" (defArgs s_Group_parts) (defBody s_Group_parts) (defScope s_Group_parts) .none kV_Group_parts dc_Group_parts pm_Group_parts an_Group_parts cd_Group_parts ct_Group_parts
  p_Group_parts := p_Group_parts
  P_Group_parts := ⟨at_Group_parts, gt_Group_parts, tk_Group_parts, ⟨_, rc_Group_parts⟩⟩
  F_Group_parts := fun_mk l_Group_parts c_Group_parts k_Group_parts
  b_Group_parts := (fun_mk (st := s_Group_parts) l_Group_parts c_Group_parts k_Group_parts).binds (ps := ["self"]) fun _ _ _ _ _ _ us hl => match us, hl with | [_], _ => rfl
  f_Group_intake := f_Group_intake
  d_Group_intake := PySem.W.fnOf "intake" "Group.intake" (defArgs s_Group_intake) (defBody s_Group_intake) (defScope s_Group_intake) .none kV_Group_intake dc_Group_intake pm_Group_intake an_Group_intake cd_Group_intake ct_Group_intake
  p_Group_intake := p_Group_intake
  P_Group_intake := ⟨at_Group_intake, gt_Group_intake, tk_Group_intake, ⟨_, rc_Group_intake⟩⟩
  F_Group_intake := fun_mk l_Group_intake c_Group_intake k_Group_intake
  b_Group_intake := (fun_mk (st := s_Group_intake) l_Group_intake c_Group_intake k_Group_intake).binds (ps := ["self"]) fun _ _ _ _ _ _ us hl => match us, hl with | [_], _ => rfl
  f_Group_width := f_Group_width
  d_Group_width := PySem.W.fnOf "width" "Group.width" (defArgs s_Group_width) (defBody s_Group_width) (defScope s_Group_width) .none kV_Group_width dc_Group_width pm_Group_width an_Group_width cd_Group_width ct_Group_width
  p_Group_width := p_Group_width
  P_Group_width := ⟨at_Group_width, gt_Group_width, tk_Group_width, ⟨_, rc_Group_width⟩⟩
  F_Group_width := fun_mk l_Group_width c_Group_width k_Group_width
  b_Group_width := (fun_mk (st := s_Group_width) l_Group_width c_Group_width k_Group_width).binds (ps := ["self"]) fun _ _ _ _ _ _ us hl => match us, hl with | [_], _ => rfl
  f_Group_len := f_Group_len
  d_Group_len := PySem.W.fnOf "__len__" "Group.__len__" (defArgs s_Group_len) (defBody s_Group_len) (defScope s_Group_len) .none kV_Group_len dc_Group_len pm_Group_len an_Group_len cd_Group_len ct_Group_len
  F_Group_len := fun_mk l_Group_len c_Group_len k_Group_len
  b_Group_len := (fun_mk (st := s_Group_len) l_Group_len c_Group_len k_Group_len).binds (ps := ["self"]) fun _ _ _ _ _ _ us hl => match us, hl with | [_], _ => rfl
  M_Group_len := ⟨at_Group_len, i_Group_len, k_Group_len⟩
  f_Group_contains := f_Group_contains
  d_Group_contains := PySem.W.fnOf "__contains__" "Group.__contains__" (defArgs s_Group_contains) (defBody s_Group_contains) (defScope s_Group_contains) .none kV_Group_contains dc_Group_contains pm_Group_contains an_Group_contains cd_Group_contains ct_Group_contains
  F_Group_contains := fun_mk l_Group_contains c_Group_contains k_Group_contains
  b_Group_contains := (fun_mk (st := s_Group_contains) l_Group_contains c_Group_contains k_Group_contains).binds (ps := ["self", "name"]) fun _ _ _ _ _ _ us hl => match us, hl with | [_, _], _ => rfl
  M_Group_contains := ⟨at_Group_contains, i_Group_contains, k_Group_contains⟩
  f_Group_eq := f_Group_eq
  d_Group_eq := PySem.W.fnOf "__eq__" "Group.__eq__" (defArgs s_Group_eq) (defBody s_Group_eq) (defScope s_Group_eq) .none kV_Group_eq dc_Group_eq pm_Group_eq an_Group_eq cd_Group_eq ct_Group_eq
  F_Group_eq := fun_mk l_Group_eq c_Group_eq k_Group_eq
  b_Group_eq := (fun_mk (st := s_Group_eq) l_Group_eq c_Group_eq k_Group_eq).binds (ps := ["self", "other"]) fun _ _ _ _ _ _ us hl => match us, hl with | [_, _], _ => rfl
  M_Group_eq := ⟨at_Group_eq, i_Group_eq, k_Group_eq⟩
  f_Group_getitem := f_Group_getitem
  d_Group_getitem := PySem.W.fnOf "__getitem__" "Group.__getitem__" (defArgs s_Group_getitem) (defBody s_Group_getitem) (defScope s_Group_getitem) .none kV_Group_getitem dc_Group_getitem pm_Group_getitem an_Group_getitem cd_Group_getitem ct_Group_getitem
  F_Group_getitem := fun_mk l_Group_getitem c_Group_getitem k_Group_getitem
  b_Group_getitem := (fun_mk (st := s_Group_getitem) l_Group_getitem c_Group_getitem k_Group_getitem).binds (ps := ["self", "k"]) fun _ _ _ _ _ _ us hl => match us, hl with | [_, _], _ => rfl
  M_Group_getitem := ⟨at_Group_getitem, i_Group_getitem, k_Group_getitem⟩
  f_Group_iter := f_Group_iter
  d_Group_iter := PySem.W.fnOf "__iter__" "Group.__iter__" (defArgs s_Group_iter) (defBody s_Group_iter) (defScope s_Group_iter) .none kV_Group_iter dc_Group_iter pm_Group_iter an_Group_iter cd_Group_iter ct_Group_iter
  F_Group_iter := fun_mk l_Group_iter c_Group_iter k_Group_iter
  b_Group_iter := (fun_mk (st := s_Group_iter) l_Group_iter c_Group_iter k_Group_iter).binds (ps := ["self"]) fun _ _ _ _ _ _ us hl => match us, hl with | [_], _ => rfl
  M_Group_iter := ⟨at_Group_iter, i_Group_iter, k_Group_iter⟩
  f_Group_names := f_Group_names
  d_Group_names := PySem.W.fnOf "names" "Group.names" (defArgs s_Group_names) (defBody s_Group_names) (defScope s_Group_names) .none kV_Group_names dc_Group_names pm_Group_names an_Group_names cd_Group_names ct_Group_names
  F_Group_names := fun_mk l_Group_names c_Group_names k_Group_names
  b_Group_names := (fun_mk (st := s_Group_names) l_Group_names c_Group_names k_Group_names).binds (ps := ["self"]) fun _ _ _ _ _ _ us hl => match us, hl with | [_], _ => rfl
  M_Group_names := ⟨at_Group_names, i_Group_names, k_Group_names⟩
  f_Group_passes := f_Group_passes
  d_Group_passes := PySem.W.fnOf "passes" "Group.passes" (defArgs s_Group_passes) (defBody s_Group_passes) (defScope s_Group_passes) .none kV_Group_passes dc_Group_passes pm_Group_passes an_Group_passes cd_Group_passes ct_Group_passes
  F_Group_passes := fun_mk l_Group_passes c_Group_passes k_Group_passes
  b_Group_passes := (fun_mk (st := s_Group_passes) l_Group_passes c_Group_passes k_Group_passes).binds (ps := ["self", "names"]) fun _ _ _ _ _ _ us hl => match us, hl with | [_, _], _ => rfl
  M_Group_passes := ⟨at_Group_passes, i_Group_passes, k_Group_passes⟩
  f_Group__low_ends := f_Group__low_ends
  d_Group__low_ends := PySem.W.fnOf "_low_ends" "Group._low_ends" (defArgs s_Group__low_ends) (defBody s_Group__low_ends) (defScope s_Group__low_ends) .none kV_Group__low_ends dc_Group__low_ends pm_Group__low_ends an_Group__low_ends cd_Group__low_ends ct_Group__low_ends
  F_Group__low_ends := fun_mk l_Group__low_ends c_Group__low_ends k_Group__low_ends
  b_Group__low_ends := (fun_mk (st := s_Group__low_ends) l_Group__low_ends c_Group__low_ends k_Group__low_ends).binds (ps := ["self", "low"]) fun _ _ _ _ _ _ us hl => match us, hl with | [_, _], _ => rfl
  M_Group__low_ends := ⟨at_Group__low_ends, i_Group__low_ends, k_Group__low_ends⟩
  c_Group := ⟨pg_Group, hd_Group, po_Group, sa_Group⟩
  M_Group := ⟨mk_Group, at_Group_init, i_Group_init, kc_Group⟩
  ca_Group := ca_Group
  mo_Group := mo_Group
  ne_Group := ne_Group
  n_Group_intake := n_Group_intake
  n_Group_names := n_Group_names
  n_Group_parts := n_Group_parts
  n_Group_ranks := n_Group_ranks
  f_Lot_init := f_Lot_init
  d_Lot_init := PySem.W.fnOf "__init__" "Lot.__init__" (defArgs s_Lot_init) (defBody s_Lot_init) (defScope s_Lot_init) (.ref tD_Lot_init) kV_Lot_init dc_Lot_init pm_Lot_init an_Lot_init cd_Lot_init ct_Lot_init
  F_Lot_init := ⟨⟨_, _, _, _, _, _, _, _, _, _, rfl, l_Lot_init, c_Lot_init, .inr ⟨List.cons_ne_nil _ _, tD_Lot_init, _, [.none], nD_Lot_init, rfl, dl_Lot_init, rfl, (.cons rfl .nil)⟩, .inl rfl⟩, k_Lot_init⟩
  M_Lot_init := ⟨at_Lot_init, i_Lot_init, k_Lot_init⟩
  f_Lot_getitem := f_Lot_getitem
  d_Lot_getitem := PySem.W.fnOf "__getitem__" "Lot.__getitem__" (defArgs s_Lot_getitem) (defBody s_Lot_getitem) (defScope s_Lot_getitem) .none kV_Lot_getitem dc_Lot_getitem pm_Lot_getitem an_Lot_getitem cd_Lot_getitem ct_Lot_getitem
  F_Lot_getitem := fun_mk l_Lot_getitem c_Lot_getitem k_Lot_getitem
  b_Lot_getitem := (fun_mk (st := s_Lot_getitem) l_Lot_getitem c_Lot_getitem k_Lot_getitem).binds (ps := ["self", "name"]) fun _ _ _ _ _ _ us hl => match us, hl with | [_, _], _ => rfl
  M_Lot_getitem := ⟨at_Lot_getitem, i_Lot_getitem, k_Lot_getitem⟩
  f_Lot_setitem := f_Lot_setitem
  d_Lot_setitem := PySem.W.fnOf "__setitem__" "Lot.__setitem__" (defArgs s_Lot_setitem) (defBody s_Lot_setitem) (defScope s_Lot_setitem) .none kV_Lot_setitem dc_Lot_setitem pm_Lot_setitem an_Lot_setitem cd_Lot_setitem ct_Lot_setitem
  F_Lot_setitem := fun_mk l_Lot_setitem c_Lot_setitem k_Lot_setitem
  b_Lot_setitem := (fun_mk (st := s_Lot_setitem) l_Lot_setitem c_Lot_setitem k_Lot_setitem).binds (ps := ["self", "name", "worth"]) fun _ _ _ _ _ _ us hl => match us, hl with | [_, _, _], _ => rfl
  M_Lot_setitem := ⟨at_Lot_setitem, i_Lot_setitem, k_Lot_setitem⟩
  f_Lot_contains := f_Lot_contains
  d_Lot_contains := PySem.W.fnOf "__contains__" "Lot.__contains__" (defArgs s_Lot_contains) (defBody s_Lot_contains) (defScope s_Lot_contains) .none kV_Lot_contains dc_Lot_contains pm_Lot_contains an_Lot_contains cd_Lot_contains ct_Lot_contains
  F_Lot_contains := fun_mk l_Lot_contains c_Lot_contains k_Lot_contains
  b_Lot_contains := (fun_mk (st := s_Lot_contains) l_Lot_contains c_Lot_contains k_Lot_contains).binds (ps := ["self", "name"]) fun _ _ _ _ _ _ us hl => match us, hl with | [_, _], _ => rfl
  M_Lot_contains := ⟨at_Lot_contains, i_Lot_contains, k_Lot_contains⟩
  f_Lot_iter := f_Lot_iter
  d_Lot_iter := PySem.W.fnOf "__iter__" "Lot.__iter__" (defArgs s_Lot_iter) (defBody s_Lot_iter) (defScope s_Lot_iter) .none kV_Lot_iter dc_Lot_iter pm_Lot_iter an_Lot_iter cd_Lot_iter ct_Lot_iter
  F_Lot_iter := fun_mk l_Lot_iter c_Lot_iter k_Lot_iter
  b_Lot_iter := (fun_mk (st := s_Lot_iter) l_Lot_iter c_Lot_iter k_Lot_iter).binds (ps := ["self"]) fun _ _ _ _ _ _ us hl => match us, hl with | [_], _ => rfl
  M_Lot_iter := ⟨at_Lot_iter, i_Lot_iter, k_Lot_iter⟩
  f_Lot_len := f_Lot_len
  d_Lot_len := PySem.W.fnOf "__len__" "Lot.__len__" (defArgs s_Lot_len) (defBody s_Lot_len) (defScope s_Lot_len) .none kV_Lot_len dc_Lot_len pm_Lot_len an_Lot_len cd_Lot_len ct_Lot_len
  F_Lot_len := fun_mk l_Lot_len c_Lot_len k_Lot_len
  b_Lot_len := (fun_mk (st := s_Lot_len) l_Lot_len c_Lot_len k_Lot_len).binds (ps := ["self"]) fun _ _ _ _ _ _ us hl => match us, hl with | [_], _ => rfl
  M_Lot_len := ⟨at_Lot_len, i_Lot_len, k_Lot_len⟩
  f_Lot_eq := f_Lot_eq
  d_Lot_eq := PySem.W.fnOf "__eq__" "Lot.__eq__" (defArgs s_Lot_eq) (defBody s_Lot_eq) (defScope s_Lot_eq) .none kV_Lot_eq dc_Lot_eq pm_Lot_eq an_Lot_eq cd_Lot_eq ct_Lot_eq
  F_Lot_eq := fun_mk l_Lot_eq c_Lot_eq k_Lot_eq
  b_Lot_eq := (fun_mk (st := s_Lot_eq) l_Lot_eq c_Lot_eq k_Lot_eq).binds (ps := ["self", "other"]) fun _ _ _ _ _ _ us hl => match us, hl with | [_, _], _ => rfl
  M_Lot_eq := ⟨at_Lot_eq, i_Lot_eq, k_Lot_eq⟩
  f_Lot_drop := f_Lot_drop
  d_Lot_drop := PySem.W.fnOf "drop" "Lot.drop" (defArgs s_Lot_drop) (defBody s_Lot_drop) (defScope s_Lot_drop) .none kV_Lot_drop dc_Lot_drop pm_Lot_drop an_Lot_drop cd_Lot_drop ct_Lot_drop
  F_Lot_drop := fun_mk l_Lot_drop c_Lot_drop k_Lot_drop
  b_Lot_drop := (fun_mk (st := s_Lot_drop) l_Lot_drop c_Lot_drop k_Lot_drop).binds (ps := ["self", "name"]) fun _ _ _ _ _ _ us hl => match us, hl with | [_, _], _ => rfl
  M_Lot_drop := ⟨at_Lot_drop, i_Lot_drop, k_Lot_drop⟩
  f_Lot_names := f_Lot_names
  d_Lot_names := PySem.W.fnOf "names" "Lot.names" (defArgs s_Lot_names) (defBody s_Lot_names) (defScope s_Lot_names) .none kV_Lot_names dc_Lot_names pm_Lot_names an_Lot_names cd_Lot_names ct_Lot_names
  F_Lot_names := fun_mk l_Lot_names c_Lot_names k_Lot_names
  b_Lot_names := (fun_mk (st := s_Lot_names) l_Lot_names c_Lot_names k_Lot_names).binds (ps := ["self"]) fun _ _ _ _ _ _ us hl => match us, hl with | [_], _ => rfl
  M_Lot_names := ⟨at_Lot_names, i_Lot_names, k_Lot_names⟩
  f_Lot_pairs := f_Lot_pairs
  d_Lot_pairs := PySem.W.fnOf "pairs" "Lot.pairs" (defArgs s_Lot_pairs) (defBody s_Lot_pairs) (defScope s_Lot_pairs) .none kV_Lot_pairs dc_Lot_pairs pm_Lot_pairs an_Lot_pairs cd_Lot_pairs ct_Lot_pairs
  F_Lot_pairs := fun_mk l_Lot_pairs c_Lot_pairs k_Lot_pairs
  b_Lot_pairs := (fun_mk (st := s_Lot_pairs) l_Lot_pairs c_Lot_pairs k_Lot_pairs).binds (ps := ["self"]) fun _ _ _ _ _ _ us hl => match us, hl with | [_], _ => rfl
  M_Lot_pairs := ⟨at_Lot_pairs, i_Lot_pairs, k_Lot_pairs⟩
  c_Lot := ⟨pg_Lot, hd_Lot, po_Lot, sa_Lot⟩
  M_Lot := ⟨mk_Lot, at_Lot_init, i_Lot_init, kc_Lot⟩
  ca_Lot := ca_Lot
  mo_Lot := mo_Lot
  ne_Lot := ne_Lot
  n_Lot_worths := n_Lot_worths
  gc := gc
  tc := tc
  q_Group := q_Group
  q_Lot := q_Lot
  is_Leaf_Group := kit_ref dx_Leaf_Group ic_Group it_Group is_Leaf_Group
  is_Leaf_Lot := kit_ref dx_Leaf_Lot ic_Lot it_Lot is_Leaf_Lot
  is_Leaf_list := kit_type (by decide +kernel) is_Leaf_list
  is_Leaf_int := kit_type (by decide +kernel) is_Leaf_int
  is_Leaf_bool := kit_type (by decide +kernel) is_Leaf_bool
  is_Leaf_str := kit_type (by decide +kernel) is_Leaf_str
  is_Group_Leaf := kit_ref dx_Group_Leaf ic_Leaf it_Leaf is_Group_Leaf
  is_Group_Lot := kit_ref dx_Group_Lot ic_Lot it_Lot is_Group_Lot
  is_Group_list := kit_type (by decide +kernel) is_Group_list
  is_Group_int := kit_type (by decide +kernel) is_Group_int
  is_Group_bool := kit_type (by decide +kernel) is_Group_bool
  is_Group_str := kit_type (by decide +kernel) is_Group_str
  is_Lot_Leaf := kit_ref dx_Lot_Leaf ic_Leaf it_Leaf is_Lot_Leaf
  is_Lot_Group := kit_ref dx_Lot_Group ic_Group it_Group is_Lot_Group
  is_Lot_list := kit_type (by decide +kernel) is_Lot_list
  is_Lot_int := kit_type (by decide +kernel) is_Lot_int
  is_Lot_bool := kit_type (by decide +kernel) is_Lot_bool
  is_Lot_str := kit_type (by decide +kernel) is_Lot_str
  f_Lacking_init := f_Lacking_init
  d_Lacking_init := PySem.W.fnOf "__init__" "Lacking.__init__" (defArgs s_Lacking_init) (defBody s_Lacking_init) (defScope s_Lacking_init) (.ref tD_Lacking_init) kV_Lacking_init dc_Lacking_init pm_Lacking_init an_Lacking_init cd_Lacking_init ct_Lacking_init
  F_Lacking_init := ⟨⟨_, _, _, _, _, _, _, _, _, _, rfl, l_Lacking_init, c_Lacking_init, .inr ⟨List.cons_ne_nil _ _, tD_Lacking_init, _, [.none], nD_Lacking_init, rfl, dl_Lacking_init, rfl, (.cons rfl .nil)⟩, .inl rfl⟩, k_Lacking_init⟩
  M_Lacking_init := ⟨at_Lacking_init, i_Lacking_init, k_Lacking_init⟩
  tf_Lacking := tf_Lacking
  at_Lacking := at_Lacking_init
  Ex_Lacking := ⟨⟨_, _, _, _, _, _, _, _, _, _, _, _, _, _, _, xL_Lacking, (show PySem.HandSPX.refsVE [.type "ValueError", .type "Exception", .type "BaseException", .type "object"] = true from by decide +kernel)⟩, sa_Lacking, ex_Lacking, ty_Lacking, kc_Lacking⟩
  Xf_Lacking := ⟨ga_Lacking, gg_Lacking, ex_Lacking, hd_Lacking⟩
  te_Lacking := exm_self ex_Lacking ic_Lacking ty_Lacking ss_Lacking
  n_Lacking_which := n_Lacking_which
  f_is_whole := f_is_whole
  d_is_whole := PySem.W.fnOf "is_whole" "is_whole" (defArgs s_is_whole) (defBody s_is_whole) (defScope s_is_whole) .none kV_is_whole dc_is_whole pm_is_whole an_is_whole cd_is_whole ct_is_whole
  m_is_whole := PySem.W.mg_of X G g_is_whole
  F_is_whole := fun_mk l_is_whole c_is_whole k_is_whole
  b_is_whole := (fun_mk (st := s_is_whole) l_is_whole c_is_whole k_is_whole).binds (ps := ["value"]) fun _ _ _ _ _ _ us hl => match us, hl with | [_], _ => rfl
  f_is_name := f_is_name
  d_is_name := PySem.W.fnOf "is_name" "is_name" (defArgs s_is_name) (defBody s_is_name) (defScope s_is_name) .none kV_is_name dc_is_name pm_is_name an_is_name cd_is_name ct_is_name
  m_is_name := PySem.W.mg_of X G g_is_name
  F_is_name := fun_mk l_is_name c_is_name k_is_name
  b_is_name := (fun_mk (st := s_is_name) l_is_name c_is_name k_is_name).binds (ps := ["value"]) fun _ _ _ _ _ _ us hl => match us, hl with | [_], _ => rfl
  f_are_names := f_are_names
  d_are_names := PySem.W.fnOf "are_names" "are_names" (defArgs s_are_names) (defBody s_are_names) (defScope s_are_names) .none kV_are_names dc_are_names pm_are_names an_are_names cd_are_names ct_are_names
  m_are_names := PySem.W.mg_of X G g_are_names
  F_are_names := fun_mk l_are_names c_are_names k_are_names
  b_are_names := (fun_mk (st := s_are_names) l_are_names c_are_names k_are_names).binds (ps := ["value"]) fun _ _ _ _ _ _ us hl => match us, hl with | [_], _ => rfl
  f_are_name_pairs := f_are_name_pairs
  d_are_name_pairs := PySem.W.fnOf "are_name_pairs" "are_name_pairs" (defArgs s_are_name_pairs) (defBody s_are_name_pairs) (defScope s_are_name_pairs) .none kV_are_name_pairs dc_are_name_pairs pm_are_name_pairs an_are_name_pairs cd_are_name_pairs ct_are_name_pairs
  m_are_name_pairs := PySem.W.mg_of X G g_are_name_pairs
  F_are_name_pairs := fun_mk l_are_name_pairs c_are_name_pairs k_are_name_pairs
  b_are_name_pairs := (fun_mk (st := s_are_name_pairs) l_are_name_pairs c_are_name_pairs k_are_name_pairs).binds (ps := ["value"]) fun _ _ _ _ _ _ us hl => match us, hl with | [_], _ => rfl
  f_is_tree := f_is_tree
  d_is_tree := PySem.W.fnOf "is_tree" "is_tree" (defArgs s_is_tree) (defBody s_is_tree) (defScope s_is_tree) .none kV_is_tree dc_is_tree pm_is_tree an_is_tree cd_is_tree ct_is_tree
  m_is_tree := PySem.W.mg_of X G g_is_tree
  F_is_tree := fun_mk l_is_tree c_is_tree k_is_tree
  b_is_tree := (fun_mk (st := s_is_tree) l_is_tree c_is_tree k_is_tree).binds (ps := ["value"]) fun _ _ _ _ _ _ us hl => match us, hl with | [_], _ => rfl
  f_is_end := f_is_end
  d_is_end := PySem.W.fnOf "is_end" "is_end" (defArgs s_is_end) (defBody s_is_end) (defScope s_is_end) .none kV_is_end dc_is_end pm_is_end an_is_end cd_is_end ct_is_end
  m_is_end := PySem.W.mg_of X G g_is_end
  F_is_end := fun_mk l_is_end c_is_end k_is_end
  b_is_end := (fun_mk (st := s_is_end) l_is_end c_is_end k_is_end).binds (ps := ["tree", "j"]) fun _ _ _ _ _ _ us hl => match us, hl with | [_, _], _ => rfl
  f_are_parts := f_are_parts
  d_are_parts := PySem.W.fnOf "_are_parts" "_are_parts" (defArgs s_are_parts) (defBody s_are_parts) (defScope s_are_parts) .none kV_are_parts dc_are_parts pm_are_parts an_are_parts cd_are_parts ct_are_parts
  m_are_parts := PySem.W.mg_of X G g_are_parts
  F_are_parts := fun_mk l_are_parts c_are_parts k_are_parts
  b_are_parts := (fun_mk (st := s_are_parts) l_are_parts c_are_parts k_are_parts).binds (ps := ["value"]) fun _ _ _ _ _ _ us hl => match us, hl with | [_], _ => rfl
  f_are_ranks := f_are_ranks
  d_are_ranks := PySem.W.fnOf "_are_ranks" "_are_ranks" (defArgs s_are_ranks) (defBody s_are_ranks) (defScope s_are_ranks) .none kV_are_ranks dc_are_ranks pm_are_ranks an_are_ranks cd_are_ranks ct_are_ranks
  m_are_ranks := PySem.W.mg_of X G g_are_ranks
  F_are_ranks := fun_mk l_are_ranks c_are_ranks k_are_ranks
  b_are_ranks := (fun_mk (st := s_are_ranks) l_are_ranks c_are_ranks k_are_ranks).binds (ps := ["value", "intake"]) fun _ _ _ _ _ _ us hl => match us, hl with | [_, _], _ => rfl
  f_intake_of := f_intake_of
  d_intake_of := PySem.W.fnOf "_intake_of" "_intake_of" (defArgs s_intake_of) (defBody s_intake_of) (defScope s_intake_of) .none kV_intake_of dc_intake_of pm_intake_of an_intake_of cd_intake_of ct_intake_of
  m_intake_of := PySem.W.mg_of X G g_intake_of
  F_intake_of := fun_mk l_intake_of c_intake_of k_intake_of
  b_intake_of := (fun_mk (st := s_intake_of) l_intake_of c_intake_of k_intake_of).binds (ps := ["parts"]) fun _ _ _ _ _ _ us hl => match us, hl with | [_], _ => rfl
  f_names_of := f_names_of
  d_names_of := PySem.W.fnOf "_names_of" "_names_of" (defArgs s_names_of) (defBody s_names_of) (defScope s_names_of) .none kV_names_of dc_names_of pm_names_of an_names_of cd_names_of ct_names_of
  m_names_of := PySem.W.mg_of X G g_names_of
  F_names_of := fun_mk l_names_of c_names_of k_names_of
  b_names_of := (fun_mk (st := s_names_of) l_names_of c_names_of k_names_of).binds (ps := ["parts"]) fun _ _ _ _ _ _ us hl => match us, hl with | [_], _ => rfl
  f_are_leaves := f_are_leaves
  d_are_leaves := PySem.W.fnOf "_are_leaves" "_are_leaves" (defArgs s_are_leaves) (defBody s_are_leaves) (defScope s_are_leaves) .none kV_are_leaves dc_are_leaves pm_are_leaves an_are_leaves cd_are_leaves ct_are_leaves
  m_are_leaves := PySem.W.mg_of X G g_are_leaves
  F_are_leaves := fun_mk l_are_leaves c_are_leaves k_are_leaves
  b_are_leaves := (fun_mk (st := s_are_leaves) l_are_leaves c_are_leaves k_are_leaves).binds (ps := ["tree", "names"]) fun _ _ _ _ _ _ us hl => match us, hl with | [_, _], _ => rfl
  f_is_lot := f_is_lot
  d_is_lot := PySem.W.fnOf "is_lot" "is_lot" (defArgs s_is_lot) (defBody s_is_lot) (defScope s_is_lot) .none kV_is_lot dc_is_lot pm_is_lot an_is_lot cd_is_lot ct_is_lot
  m_is_lot := PySem.W.mg_of X G g_is_lot
  F_is_lot := fun_mk l_is_lot c_is_lot k_is_lot
  b_is_lot := (fun_mk (st := s_is_lot) l_is_lot c_is_lot k_is_lot).binds (ps := ["value"]) fun _ _ _ _ _ _ us hl => match us, hl with | [_], _ => rfl
  f_ends_of := f_ends_of
  d_ends_of := PySem.W.fnOf "ends_of" "ends_of" (defArgs s_ends_of) (defBody s_ends_of) (defScope s_ends_of) .none kV_ends_of dc_ends_of pm_ends_of an_ends_of cd_ends_of ct_ends_of
  m_ends_of := PySem.W.mg_of X G g_ends_of
  F_ends_of := fun_mk l_ends_of c_ends_of k_ends_of
  b_ends_of := (fun_mk (st := s_ends_of) l_ends_of c_ends_of k_ends_of).binds (ps := ["tree", "lot"]) fun _ _ _ _ _ _ us hl => match us, hl with | [_, _], _ => rfl
  f_end_of := f_end_of
  d_end_of := PySem.W.fnOf "end_of" "end_of" (defArgs s_end_of) (defBody s_end_of) (defScope s_end_of) (.ref tD_end_of) kV_end_of dc_end_of pm_end_of an_end_of cd_end_of ct_end_of
  m_end_of := PySem.W.mg_of X G g_end_of
  F_end_of := ⟨⟨_, _, _, _, _, _, _, _, _, _, rfl, l_end_of, c_end_of, .inr ⟨List.cons_ne_nil _ _, tD_end_of, _, [(.int 1 kD0_end_of)], nD_end_of, rfl, dl_end_of, rfl, (.cons ⟨_, rfl⟩ .nil)⟩, .inl rfl⟩, k_end_of⟩
  f_outs_of := f_outs_of
  d_outs_of := PySem.W.fnOf "outs_of" "outs_of" (defArgs s_outs_of) (defBody s_outs_of) (defScope s_outs_of) .none kV_outs_of dc_outs_of pm_outs_of an_outs_of cd_outs_of ct_outs_of
  m_outs_of := PySem.W.mg_of X G g_outs_of
  F_outs_of := fun_mk l_outs_of c_outs_of k_outs_of
  b_outs_of := (fun_mk (st := s_outs_of) l_outs_of c_outs_of k_outs_of).binds (ps := ["tree", "lot"]) fun _ _ _ _ _ _ us hl => match us, hl with | [_, _], _ => rfl
  f_check_kinds := f_check_kinds
  d_check_kinds := PySem.W.fnOf "check_kinds" "check_kinds" (defArgs s_check_kinds) (defBody s_check_kinds) (defScope s_check_kinds) .none kV_check_kinds dc_check_kinds pm_check_kinds an_check_kinds cd_check_kinds ct_check_kinds
  m_check_kinds := PySem.W.mg_of X G g_check_kinds
  F_check_kinds := fun_mk l_check_kinds c_check_kinds k_check_kinds
  b_check_kinds := (fun_mk (st := s_check_kinds) l_check_kinds c_check_kinds k_check_kinds).binds (ps := ["tree", "lot"]) fun _ _ _ _ _ _ us hl => match us, hl with | [_, _], _ => rfl
  f_check_full := f_check_full
  d_check_full := PySem.W.fnOf "check_full" "check_full" (defArgs s_check_full) (defBody s_check_full) (defScope s_check_full) .none kV_check_full dc_check_full pm_check_full an_check_full cd_check_full ct_check_full
  m_check_full := PySem.W.mg_of X G g_check_full
  F_check_full := fun_mk l_check_full c_check_full k_check_full
  b_check_full := (fun_mk (st := s_check_full) l_check_full c_check_full k_check_full).binds (ps := ["tree", "lot"]) fun _ _ _ _ _ _ us hl => match us, hl with | [_, _], _ => rfl
  f_outs := f_outs
  d_outs := PySem.W.fnOf "_outs" "_outs" (defArgs s_outs) (defBody s_outs) (defScope s_outs) .none kV_outs dc_outs pm_outs an_outs cd_outs ct_outs
  m_outs := PySem.W.mg_of X G g_outs
  F_outs := fun_mk l_outs c_outs k_outs
  b_outs := (fun_mk (st := s_outs) l_outs c_outs k_outs).binds (ps := ["tree", "lot"]) fun _ _ _ _ _ _ us hl => match us, hl with | [_, _], _ => rfl
  f_rank_in := f_rank_in
  d_rank_in := PySem.W.fnOf "rank_in" "rank_in" (defArgs s_rank_in) (defBody s_rank_in) (defScope s_rank_in) (.ref tD_rank_in) kV_rank_in dc_rank_in pm_rank_in an_rank_in cd_rank_in ct_rank_in
  m_rank_in := PySem.W.mg_of X G g_rank_in
  F_rank_in := ⟨⟨_, _, _, _, _, _, _, _, _, _, rfl, l_rank_in, c_rank_in, .inr ⟨List.cons_ne_nil _ _, tD_rank_in, _, [(.int 1 kD0_rank_in)], nD_rank_in, rfl, dl_rank_in, rfl, (.cons ⟨_, rfl⟩ .nil)⟩, .inl rfl⟩, k_rank_in⟩
  f_law_well := f_law_well
  d_law_well := PySem.W.fnOf "_law_well" "_law_well" (defArgs s_law_well) (defBody s_law_well) (defScope s_law_well) .none kV_law_well dc_law_well pm_law_well an_law_well cd_law_well ct_law_well
  m_law_well := PySem.W.mg_of X G g_law_well
  F_law_well := fun_mk l_law_well c_law_well k_law_well
  b_law_well := (fun_mk (st := s_law_well) l_law_well c_law_well k_law_well).binds (ps := ["script", "at"]) fun _ _ _ _ _ _ us hl => match us, hl with | [_, _], _ => rfl
  f_law_dip := f_law_dip
  d_law_dip := PySem.W.fnOf "_law_dip" "_law_dip" (defArgs s_law_dip) (defBody s_law_dip) (defScope s_law_dip) .none kV_law_dip dc_law_dip pm_law_dip an_law_dip cd_law_dip ct_law_dip
  m_law_dip := PySem.W.mg_of X G g_law_dip
  F_law_dip := fun_mk l_law_dip c_law_dip k_law_dip
  b_law_dip := (fun_mk (st := s_law_dip) l_law_dip c_law_dip k_law_dip).binds (ps := ["well", "many"]) fun _ _ _ _ _ _ us hl => match us, hl with | [_, _], _ => rfl
  f_law_words := f_law_words
  d_law_words := PySem.W.fnOf "_law_words" "_law_words" (defArgs s_law_words) (defBody s_law_words) (defScope s_law_words) .none kV_law_words dc_law_words pm_law_words an_law_words cd_law_words ct_law_words
  m_law_words := PySem.W.mg_of X G g_law_words
  F_law_words := fun_mk l_law_words c_law_words k_law_words
  b_law_words := (fun_mk (st := s_law_words) l_law_words c_law_words k_law_words).binds (ps := ["well", "many"]) fun _ _ _ _ _ _ us hl => match us, hl with | [_, _], _ => rfl
  f_law_ranks := f_law_ranks
  d_law_ranks := PySem.W.fnOf "_law_ranks" "_law_ranks" (defArgs s_law_ranks) (defBody s_law_ranks) (defScope s_law_ranks) .none kV_law_ranks dc_law_ranks pm_law_ranks an_law_ranks cd_law_ranks ct_law_ranks
  m_law_ranks := PySem.W.mg_of X G g_law_ranks
  F_law_ranks := fun_mk l_law_ranks c_law_ranks k_law_ranks
  b_law_ranks := (fun_mk (st := s_law_ranks) l_law_ranks c_law_ranks k_law_ranks).binds (ps := ["well", "intake"]) fun _ _ _ _ _ _ us hl => match us, hl with | [_, _], _ => rfl
  f_law_width := f_law_width
  d_law_width := PySem.W.fnOf "_law_width" "_law_width" (defArgs s_law_width) (defBody s_law_width) (defScope s_law_width) .none kV_law_width dc_law_width pm_law_width an_law_width cd_law_width ct_law_width
  m_law_width := PySem.W.mg_of X G g_law_width
  F_law_width := fun_mk l_law_width c_law_width k_law_width
  b_law_width := (fun_mk (st := s_law_width) l_law_width c_law_width k_law_width).binds (ps := ["tree"]) fun _ _ _ _ _ _ us hl => match us, hl with | [_], _ => rfl
  f_law_group := f_law_group
  d_law_group := PySem.W.fnOf "_law_group" "_law_group" (defArgs s_law_group) (defBody s_law_group) (defScope s_law_group) .none kV_law_group dc_law_group pm_law_group an_law_group cd_law_group ct_law_group
  m_law_group := PySem.W.mg_of X G g_law_group
  F_law_group := fun_mk l_law_group c_law_group k_law_group
  b_law_group := (fun_mk (st := s_law_group) l_law_group c_law_group k_law_group).binds (ps := ["well", "parts"]) fun _ _ _ _ _ _ us hl => match us, hl with | [_, _], _ => rfl
  f_law_tree := f_law_tree
  d_law_tree := PySem.W.fnOf "_law_tree" "_law_tree" (defArgs s_law_tree) (defBody s_law_tree) (defScope s_law_tree) .none kV_law_tree dc_law_tree pm_law_tree an_law_tree cd_law_tree ct_law_tree
  m_law_tree := PySem.W.mg_of X G g_law_tree
  F_law_tree := fun_mk l_law_tree c_law_tree k_law_tree
  b_law_tree := (fun_mk (st := s_law_tree) l_law_tree c_law_tree k_law_tree).binds (ps := ["well", "names", "depth"]) fun _ _ _ _ _ _ us hl => match us, hl with | [_, _, _], _ => rfl
  f_law_nodes := f_law_nodes
  d_law_nodes := PySem.W.fnOf "_law_nodes" "_law_nodes" (defArgs s_law_nodes) (defBody s_law_nodes) (defScope s_law_nodes) .none kV_law_nodes dc_law_nodes pm_law_nodes an_law_nodes cd_law_nodes ct_law_nodes
  m_law_nodes := PySem.W.mg_of X G g_law_nodes
  F_law_nodes := fun_mk l_law_nodes c_law_nodes k_law_nodes
  b_law_nodes := (fun_mk (st := s_law_nodes) l_law_nodes c_law_nodes k_law_nodes).binds (ps := ["tree"]) fun _ _ _ _ _ _ us hl => match us, hl with | [_], _ => rfl
  f_law_made := f_law_made
  d_law_made := PySem.W.fnOf "_law_made" "_law_made" (defArgs s_law_made) (defBody s_law_made) (defScope s_law_made) .none kV_law_made dc_law_made pm_law_made an_law_made cd_law_made ct_law_made
  m_law_made := PySem.W.mg_of X G g_law_made
  F_law_made := fun_mk l_law_made c_law_made k_law_made
  b_law_made := (fun_mk (st := s_law_made) l_law_made c_law_made k_law_made).binds (ps := ["tree"]) fun _ _ _ _ _ _ us hl => match us, hl with | [_], _ => rfl
  f_law_ends := f_law_ends
  d_law_ends := PySem.W.fnOf "_law_ends" "_law_ends" (defArgs s_law_ends) (defBody s_law_ends) (defScope s_law_ends) .none kV_law_ends dc_law_ends pm_law_ends an_law_ends cd_law_ends ct_law_ends
  m_law_ends := PySem.W.mg_of X G g_law_ends
  F_law_ends := fun_mk l_law_ends c_law_ends k_law_ends
  b_law_ends := (fun_mk (st := s_law_ends) l_law_ends c_law_ends k_law_ends).binds (ps := ["tree", "worths"]) fun _ _ _ _ _ _ us hl => match us, hl with | [_, _], _ => rfl
  f_law_worths := f_law_worths
  d_law_worths := PySem.W.fnOf "_law_worths" "_law_worths" (defArgs s_law_worths) (defBody s_law_worths) (defScope s_law_worths) .none kV_law_worths dc_law_worths pm_law_worths an_law_worths cd_law_worths ct_law_worths
  m_law_worths := PySem.W.mg_of X G g_law_worths
  F_law_worths := fun_mk l_law_worths c_law_worths k_law_worths
  b_law_worths := (fun_mk (st := s_law_worths) l_law_worths c_law_worths k_law_worths).binds (ps := ["well", "names"]) fun _ _ _ _ _ _ us hl => match us, hl with | [_, _], _ => rfl
  f_law_pairs := f_law_pairs
  d_law_pairs := PySem.W.fnOf "_law_pairs" "_law_pairs" (defArgs s_law_pairs) (defBody s_law_pairs) (defScope s_law_pairs) .none kV_law_pairs dc_law_pairs pm_law_pairs an_law_pairs cd_law_pairs ct_law_pairs
  m_law_pairs := PySem.W.mg_of X G g_law_pairs
  F_law_pairs := fun_mk l_law_pairs c_law_pairs k_law_pairs
  b_law_pairs := (fun_mk (st := s_law_pairs) l_law_pairs c_law_pairs k_law_pairs).binds (ps := ["worths"]) fun _ _ _ _ _ _ us hl => match us, hl with | [_], _ => rfl
  f_law_right := f_law_right
  d_law_right := PySem.W.fnOf "_law_right" "_law_right" (defArgs s_law_right) (defBody s_law_right) (defScope s_law_right) .none kV_law_right dc_law_right pm_law_right an_law_right cd_law_right ct_law_right
  m_law_right := PySem.W.mg_of X G g_law_right
  F_law_right := fun_mk l_law_right c_law_right k_law_right
  b_law_right := (fun_mk (st := s_law_right) l_law_right c_law_right k_law_right).binds (ps := ["made", "tree", "lot", "worths"]) fun _ _ _ _ _ _ us hl => match us, hl with | [_, _, _, _], _ => rfl
  f_law_lacks := f_law_lacks
  d_law_lacks := PySem.W.fnOf "_law_lacks" "_law_lacks" (defArgs s_law_lacks) (defBody s_law_lacks) (defScope s_law_lacks) .none kV_law_lacks dc_law_lacks pm_law_lacks an_law_lacks cd_law_lacks ct_law_lacks
  m_law_lacks := PySem.W.mg_of X G g_law_lacks
  F_law_lacks := fun_mk l_law_lacks c_law_lacks k_law_lacks
  b_law_lacks := (fun_mk (st := s_law_lacks) l_law_lacks c_law_lacks k_law_lacks).binds (ps := ["made", "lot", "name"]) fun _ _ _ _ _ _ us hl => match us, hl with | [_, _, _], _ => rfl
  f_law := f_law
  d_law := PySem.W.fnOf "law" "law" (defArgs s_law) (defBody s_law) (defScope s_law) .none kV_law dc_law pm_law an_law cd_law ct_law
  m_law := PySem.W.mg_of X G g_law
  F_law := fun_mk l_law c_law k_law
  b_law := (fun_mk (st := s_law) l_law c_law k_law).binds (ps := ["script"]) fun _ _ _ _ _ _ us hl => match us, hl with | [_], _ => rfl
end
end Rk
set_option Elab.async false
set_option linter.all false
set_option maxRecDepth 100000
set_option maxHeartbeats 4000000
namespace Rk
open PySem PySem.Spec PyProof.Rows L2 RkO
theorem same_new {H : Hp} {p : Addr} (h : H p = none) (o : HO) : Same H (upd H p o) := fun b u q => by rw [upd_ne (ne_of_none q h)]; exact q
/-- all but the object at a is as it was -/
def But (a : Addr) (H H' : Hp) : Prop := ∀ b o, b ≠ a → H b = some o → H' b = some o
section
variable {P : Program} {w : World} {K : PySem.W.Frag} {mg : Str → Option Value} {base : Heap}
/-! ### _law_well: a new list of one number that is not below 0 -/
def spWell (K : PySem.W.Frag) : Sp := fun vs H Q _ => ∃ (a : Addr) (ns : List Int) (k : Int), vs = [.ref a, .int k] ∧ SqL K H a (ns.map V.int) ∧ ns.length ≤ 63 ∧ 0 ≤ k ∧ k ≤ 1000 ∧
  ∀ (p : Addr) (n : Int), 0 ≤ n → H p = none → Q (.ref p) (upd H p (.lst [.int n]))
theorem ok_law_well (T : Txt K mg) : FnOk P w K mg base CX0 1 T.f_law_well T.d_law_well ["script", "at"] (spWell K) := by
  refine T.F_law_well.ok sc_law_well (fun vs H Q E h => ?_) (fun cdv A outer s H vs Q E hr h => ?_)
  · obtain ⟨a, ns, k, rfl, _⟩ := h
    rfl
  obtain ⟨a, ns, k, rfl, hS, h63, h0, h1, q⟩ := h
  refine ⟨_, (pss_cons (ps_set (i := 2) sc_law_well.nd rfl (Or.inl rfl) (pe_op op_add (pe_op op_mul pe_int (pv 1)) pe_int))
  (Evl.pss_cut (ps_if (pt_cmpR op_lt (pv 1) (pe_callB call_len_seq (by rfl) T.m_len PySem.boot_len (pa_cons (pv 0) pa_nil)) (nomark _)) (pss_one (ps_set (i := 2) sc_law_well.nd rfl (Or.inl rfl) (pe_ix ix_list (pv 0) (pv 1) (fun _ _ => rfl)))) pss_nil)
  (pss_cons (ps_if (pt_cmpR op_ge (pv 2) (pe_op op_pow pe_int pe_int) (nomark _)) (pss_cons (ps_set (i := 3) sc_law_well.nd rfl (Or.inl rfl) (pe_op op_mulW (pe_op op_mulW (pe_op op_mulW (pe_op op_pow pe_int pe_int) (pe_op op_pow pe_int pe_int)) (pe_op op_pow pe_int pe_int)) (pe_op op_pow pe_int pe_int)))
    (pss_one (ps_ret (pe_lst (pa_cons (pe_op op_mod (pe_callTy call_int1 (by rfl) T.m_int (by decide +kernel) (pa_cons (pe_op op_sub (pv 2) (pe_op op_pow pe_int pe_int)) pa_nil)) (pe_op op_mulW (pv 3) (pv 3))) pa_nil))))) pss_nil)
  (pss_cons (ps_par (i := 4) (j := 5) rfl sc_law_well.nd rfl rfl (by decide) rfl rfl (pa_cons (pe_op op_mod (pe_callTy call_int1 (by rfl) T.m_int (by decide +kernel) (pa_cons (pv 2) pa_nil)) pe_int) (pa_cons (pe_op op_mod (pe_callTy call_int1 (by rfl) T.m_int (by decide +kernel) (pa_cons (pe_op op_add (pv 2) (pe_op op_mul pe_int (pv 1))) pa_nil)) pe_int) pa_nil)) (by rfl))
  (pss_cons (ps_set (i := 6) sc_law_well.nd rfl (Or.inl rfl) pe_int)
  (pss_cons (ps_for PassesOwn.never rfl (pi_range1 rfl T.m_range (pa_cons pe_int pa_nil)) (pg_name (i := 7) sc_law_well.nd rfl (.inl rfl))
    (pss_cons (ps_set (i := 4) sc_law_well.nd rfl (Or.inl rfl) (pe_op op_mod (pe_callTy call_int1 (by rfl) T.m_int (by decide +kernel) (pa_cons (pe_op op_add (pe_op op_add (pe_op op_add (pe_op op_mul (pv 4) pe_int) (pe_op op_mul (pv 7) (pv 7))) (pe_op op_mul pe_int (pv 1))) pe_int) pa_nil)) pe_int))
    (pss_cons (ps_set (i := 5) sc_law_well.nd rfl (Or.inl rfl) (pe_op op_mod (pe_callTy call_int1 (by rfl) T.m_int (by decide +kernel) (pa_cons (pe_op op_add (pe_op op_add (pe_op op_mul (pv 5) (pv 5)) (pe_op op_mul pe_int (pv 7))) pe_int) pa_nil)) pe_int))
    (pss_one (ps_set (i := 6) sc_law_well.nd rfl (Or.inl rfl) (pe_op op_add (pe_op op_mul (pv 6) pe_int) (pe_op op_mod (pe_callTy call_int1 (by rfl) T.m_int (by decide +kernel) (pa_cons (pe_op op_add (pe_op op_mul (pv 4) (pv 5)) (pv 7)) pa_nil)) pe_int)))))))
  (pss_one (ps_ret (pe_lst (pa_cons (pv 6) pa_nil)))))))))), ?_⟩
  have hl : (ns.map V.int).length = ns.length := List.length_map _
  have sm : ∀ x : Int, -1000000 ≤ x → x ≤ 1000000 → CMul x x := fun x h1 h2 => .inl ⟨by omega, by omega⟩
  refine ⟨_, rfl, _, _, rfl, rfl, .inl ⟨by decide, by decide⟩, _, _, rfl, rfl, ?_⟩
  refine ⟨fun σ' H' => H' = H ∧ ∃ c : Int, σ' = [some (.ref a), some (.int k), some (.int c), none, none, none, none, none], ?_, ?_⟩
  · refine ⟨_, rfl, _, rfl, a, _, rfl, .inl hS, _, _, rfl, rfl, _, rfl, ite2 (fun c => ?_) (fun c => ?_)⟩
    · have c' : k < (((ns.map V.int).length : Nat) : Int) := of_decide_eq_true c
      rw [hl] at c'
      have hk : k.toNat < ns.length := by omega
      have ek : k = ((k.toNat : Nat) : Int) := by omega
      have g : atI (ns.map V.int) k = some (.int ns[k.toNat]) := at_of ek (by rw [List.getElem?_map, List.getElem?_eq_getElem hk] <;> rfl)
      refine ⟨_, rfl, _, rfl, a, _, _, _, rfl, rfl, hS, g, rfl, _, rfl⟩
    · exact ⟨rfl, _, rfl⟩
  rintro σ' H' ⟨eH, c, rfl⟩
  subst eH
  refine ⟨_, rfl, _, _, rfl, rfl, ⟨by decide, by decide, by decide⟩, _, _, rfl, rfl, _, rfl, ite2 (fun hc => ?_) (fun hc => ?_)⟩
  · -- a great cell
    have cp : ∀ i : Int, -100 ≤ i → i ≤ 100 → ∀ j : Int, 0 ≤ j → j ≤ 1000 → CPow i j := fun i h1 h2 j h3 h4 => ⟨by omega, by omega, by omega⟩
    have p60 : CPow 10 60 := cp _ (by decide) (by decide) _ (by decide) (by decide)
    refine ⟨_, _, rfl, rfl, p60, _, _, rfl, rfl, p60, _, _, rfl, rfl, by unfold CMulW; decide +kernel, _, _, rfl, rfl, p60, _, _, rfl, rfl, by unfold CMulW; decide +kernel, _, _, rfl, rfl, p60, _, _, rfl, rfl, by unfold CMulW; decide +kernel, ?_⟩
    refine ⟨_, rfl, _, _, rfl, rfl, cp _ (by decide) (by decide) _ (by decide) (by decide), _, _, rfl, rfl, .inl ⟨_, rfl, _, rfl, _, rfl, _, _, rfl, rfl, by unfold CMulW; decide +kernel, _, _, rfl, rfl, (by show (0 : Int) < _; decide +kernel), (by show 1 ≤ sizeLine; decide), fun p hp => ?_⟩⟩
    exact q p _ (Int.emod_nonneg _ (by decide +kernel)) hp
  · refine ⟨_, rfl, .inl ⟨_, rfl, _, _, rfl, rfl, (by show (0 : Int) < _; decide), _, rfl, _, rfl, _, _, rfl, rfl, .inl ⟨by decide, by decide⟩, _, _, rfl, rfl, .inl ⟨_, rfl, _, _, rfl, rfl, (by show (0 : Int) < _; decide), _, _, rfl, ?_⟩⟩⟩
    refine ⟨_, rfl, by decide, by decide, for_range (lo := 0) (n := 44) (fun i σ H2 => H2 = H' ∧ ∃ (l r p : Int) (t : Option V), σ = [some (.ref a), some (.int k), some (.int c), none, some (.int l), some (.int r), some (.int p), t] ∧ 0 ≤ l ∧ l < 2147483563 ∧ 0 ≤ r ∧ r < 2147483399 ∧ 0 ≤ p)
      ⟨rfl, _, _, _, none, rfl, Int.emod_nonneg _ (by decide), Int.emod_lt_of_pos _ (by decide), Int.emod_nonneg _ (by decide), Int.emod_lt_of_pos _ (by decide), by decide⟩ ?_ ?_⟩
    · rintro i σ H2 hi ⟨rfl, l, r, p, t, rfl, l0, l1, r0, r1, p0⟩
      refine ⟨_, rfl, _, _, rfl, rfl, .inl ⟨by omega, by omega⟩, _, rfl, _, rfl, _, _, rfl, rfl, .inl ⟨by omega, by omega⟩, _, _, rfl, rfl, _, rfl, _, _, rfl, rfl, .inl ⟨by decide, by decide⟩, _, _, rfl, rfl, _, _, rfl, rfl, .inl ⟨_, rfl, _, _, rfl, rfl, (by show (0 : Int) < _; decide), ?_⟩⟩
      refine ⟨_, rfl, _, rfl, _, _, rfl, rfl, .inl ⟨by omega, by omega⟩, _, rfl, _, _, rfl, rfl, .inl ⟨by decide, by decide⟩, _, _, rfl, rfl, _, _, rfl, rfl, .inl ⟨_, rfl, _, _, rfl, rfl, (by show (0 : Int) < _; decide), ?_⟩⟩
      have l0' := Int.emod_nonneg (l * 40014 + (0 + (i : Int)) * (0 + (i : Int)) + 12211 * k + 1) (show (2147483563 : Int) ≠ 0 by decide)
      have l1' := Int.emod_lt_of_pos (l * 40014 + (0 + (i : Int)) * (0 + (i : Int)) + 12211 * k + 1) (show (0 : Int) < 2147483563 by decide)
      have r0' := Int.emod_nonneg (r * r + 40692 * (0 + (i : Int)) + 3791) (show (2147483399 : Int) ≠ 0 by decide)
      have r1' := Int.emod_lt_of_pos (r * r + 40692 * (0 + (i : Int)) + 3791) (show (0 : Int) < 2147483399 by decide)
      refine ⟨_, rfl, _, _, rfl, rfl, .inr ⟨by decide, by decide⟩, _, rfl, _, rfl, _, _, rfl, rfl, .inl ⟨by omega, by omega⟩, _, rfl, _, _, rfl, rfl, .inl ⟨_, rfl, _, _, rfl, rfl, (by show (0 : Int) < _; decide), _, _, rfl, rfl, ?_⟩⟩
      exact ⟨rfl, _, _, _, _, rfl, l0', l1', r0', r1', Int.add_nonneg (Int.mul_nonneg p0 (by decide)) (Int.emod_nonneg _ (by decide))⟩
    · rintro σ H2 ⟨rfl, l, r, p, t, rfl, _, _, _, _, p0⟩
      exact ⟨_, rfl, (by show 1 ≤ sizeLine; decide), fun z hz => q z p p0 hz⟩
/-! ### _law_dip: a digit, and the well's number is another one, not below 0 -/
def spDip (K : PySem.W.Frag) : Sp := fun vs H Q _ => ∃ (a : Addr) (n m : Int), vs = [.ref a, .int m] ∧ H a = some (.lst [.int n]) ∧ 0 ≤ n ∧ 0 < m ∧ m ≤ 10 ^ 40 ∧
  ∀ (d n' : Int), 0 ≤ d → d < m → 0 ≤ n' → Q (.int d) (upd H a (.lst [.int n']))
theorem ok_law_dip (T : Txt K mg) : FnOk P w K mg base CX0 1 T.f_law_dip T.d_law_dip ["well", "many"] (spDip K) := by
  refine T.F_law_dip.ok sc_law_dip (fun vs H Q E h => ?_) (fun cdv A outer s H vs Q E hr h => ?_)
  · obtain ⟨a, n, m, rfl, _⟩ := h
    rfl
  obtain ⟨a, n, m, rfl, ha, h0, hm, hm2, q⟩ := h
  refine ⟨_, (pss_cons (ps_set (i := 2) sc_law_dip.nd rfl (Or.inl rfl) (pe_op op_mod (pe_callTy call_int1 (by rfl) T.m_int (by decide +kernel) (pa_cons (pe_ix ix_list (pv 0) pe_int (fun _ _ => rfl)) pa_nil)) (pv 1)))
  (pss_cons (ps_asg (pe_op op_fdivW (pe_ix ix_list (pv 0) pe_int (fun _ _ => rfl)) (pv 1)) (pg_sub (pv 0) pe_int set_list))
  (pss_one (ps_ret (pv 2))))), ?_⟩
  have at0 : ∀ {x : Int}, atI [V.int x] 0 = some (.int x) := fun {x} => atI_nat (j := 0) rfl
  refine ⟨_, rfl, _, _, _, _, rfl, rfl, SqL.of ha, at0, .inl ⟨_, rfl, _, rfl, _, _, rfl, rfl, hm, ?_⟩⟩
  refine ⟨_, rfl, _, _, _, _, rfl, rfl, SqL.of ha, at0, _, rfl, _, _, rfl, rfl, wide_div (b := 200) hm (by omega) (by decide) (by decide), ?_⟩
  refine ⟨_, rfl, _, _, _, _, rfl, rfl, ha, rfl, _, rfl, ?_⟩
  exact q _ _ (Int.emod_nonneg _ (by omega)) (Int.emod_lt_of_pos _ hm) (Int.ediv_nonneg h0 (by omega))
end
end Rk
set_option Elab.async false
set_option linter.all false
set_option maxRecDepth 100000
set_option maxHeartbeats 4000000
namespace Rk
open PySem PySem.Spec PyProof.Rows L2 RkO
open Evl (Ev EvT EvA EvL EvU EvO Ex RC RCL SpV SpL)
section
variable {K : PySem.W.Frag} {σ : L2.St} {H H' : Hp} {ta tb te tx : TE} {t u : TT} {x y z v : V} {r : R2}
/-- a comprehension over a text, no test -/
theorem el_lcS {s : Str} {tl : TE} {j : Nat} {vs : List Nat} (f : Nat → V) (h : Ev tl σ H (.str s)) (hz : s.length ≤ 40000) (hw : ∀ x, wipe ((wipe σ vs).set j (some x)) vs = wipe σ vs)
    (he : ∀ (i : Nat) (c : Nat) H1, Ex H H1 → s.cps[i]? = some c → Ev te ((wipe σ vs).set j (some (.str ⟨#[c]⟩))) H1 (f c)) :
    EvL (tLc (iStr tl) (gName j) tYes te vs) σ H (s.cps.toList.map f) := fun H0 e Q q => h H0 e _ fun H1 e1 => ⟨s, rfl, fun Dl hD =>
  lc_it walk_str (fun i H' => H1 Dl = none ∧ Ex H1 H' ∧ H' Dl = some (.lst ((s.cps.toList.take i).map f))) ⟨hD, Ex.new hD, upd_same⟩ (fun _ _ _ _ => trivial) (fun i x H' H'' hi p y => by
    obtain ⟨rfl, c, hc, rfl⟩ := y
    obtain ⟨p1, p2, p3⟩ := p
    refine ⟨hw _, ?_⟩
    refine he i c H1 (e.trans e1) hc H'' p2 _ fun H4 e4 => ⟨_, e4 _ _ p3, ?_, p1, Ex.mut (p2.trans e4) p1, ?_⟩
    · rw [List.length_map, List.length_take]
      exact Evl.sz_lt (by have : s.length = s.cps.size := rfl; omega)
    · rw [upd_same]
      have g : s.cps.toList[i]? = some c := by rw [Array.getElem?_toList]; exact hc
      rw [List.take_add_one, g, List.map_append]
      rfl) (fun H' p => q Dl H' (Evl.fresh_back e1 p.1) (e1.trans p.2.1) (by
    have := p.2.2
    rwa [show s.cps.size = s.cps.toList.length from rfl, List.take_length] at this))⟩
theorem ev_chain {r r' : R2} {tc : TE} {x y z : V} {b c : Bool} (ha : Ev ta σ H x) (hb : Ev tb σ H y) (hr : Evl.RV r x y H (.bl b)) (hc : b = true → Ev tc σ H z) (hr' : b = true → Evl.RV r' y z H (.bl c)) :
    Ev (tChain r r' ta tb tc) σ H (.bl (b && c)) := fun H1 e Q q => ha H1 e _ fun H2 e2 => hb H2 (e.trans e2) _ fun H3 e3 => hr H3 ((e.trans e2).trans e3) _ fun H4 e4 => ⟨b, rfl, by
  cases b with
  | true =>
    refine iteT (hc rfl H4 (((e.trans e2).trans e3).trans e4) _ fun H5 e5 => hr' rfl H5 ((((e.trans e2).trans e3).trans e4).trans e5) Q fun H6 e6 => q H6 ((((e2.trans e3).trans e4).trans e5).trans e6))
  | false => exact iteF (q H4 ((e2.trans e3).trans e4))⟩
theorem rv_le_str {a b : Str} : Evl.RV (fun x y H Q => ∃ i j, x = .str i ∧ y = .str j ∧ Q (.bl (!decide (j.cps.toList < i.cps.toList))) H) (.str a) (.str b) H (.bl (!decide (b.cps.toList < a.cps.toList))) := fun H1 _ _ q => ⟨a, b, rfl, rfl, q H1 (Ex.refl H1)⟩
theorem rc_all {xs : List Bool} {a : Addr} (h : SqL K H a (xs.map V.bl)) : RC (rAll K) [.ref a] H (.bl (xs.all id)) := fun H1 e Q q => ⟨a, xs, rfl, Evl.ex_l e h, q H1 (Ex.refl H1)⟩
/-- all of a new list -/
theorem ev_allN {xs : List Bool} (h : EvL te σ H (xs.map V.bl)) : Ev (tCB (rAll K) (tCons te tNil)) σ H (.bl (xs.all id)) := fun H1 e Q q =>
  h H1 e _ fun p H2 _ e2 h2 => ⟨p, xs, rfl, SqL.of h2, q H2 e2⟩
end
theorem ifN {p A B : Prop} [Decidable p] (h1 : ¬ p → A) (h2 : p → B) : if (!decide p) = true then A else B := by
  by_cases h : p
  · rw [decide_eq_true h]
    exact iteF (h2 h)
  · rw [decide_eq_false h]
    exact iteT (h1 h)
theorem ifD {p A B : Prop} [Decidable p] (h1 : p → A) (h2 : ¬ p → B) : if decide p = true then A else B := by
  by_cases h : p
  · rw [decide_eq_true h]
    exact iteT (h1 h)
  · rw [decide_eq_false h]
    exact iteF (h2 h)
theorem ifB {b : Bool} {A B : Prop} (h1 : b = true → A) (h2 : b = false → B) : if b = true then A else B := by
  cases b with
  | true => exact iteT (h1 rfl)
  | false => exact iteF (h2 rfl)
theorem nxt {D : Ends} {σ : L2.St} {H : Hp} (h : D.nx σ H) : tNext D σ H := h
/-! ### is_name -/
def nameOk (x : Str) : Bool := decide (1 ≤ x.length) && decide (x.length ≤ 8) && x.cps.toList.all fun c => decide (97 ≤ c) && decide (c ≤ 122)
theorem lt1 (c d : Nat) : ([c] < [d]) ↔ c < d := by
  constructor
  · intro h
    cases h with
    | rel h => exact h
    | cons h => exact absurd h (by simp)
  · exact fun h => List.Lex.rel h
section
variable {P : Program} {w : World} {K : PySem.W.Frag} {mg : Str → Option Value} {base : Heap}
def spIsName (K : PySem.W.Frag) : Sp := fun vs H Q _ => ∃ v, vs = [v] ∧ ((∃ x, v = .str x ∧ x.length ≤ 40000 ∧ ∀ H', Same H H' → Q (.bl (nameOk x)) H') ∨
  ∃ t, TyX K H v t ∧ PySem.W.kitOne K t (.type "str") = some false ∧ Q (.bl false) H)
theorem ok_is_name (T : Txt K mg) : FnOk P w K mg base CX0 1 T.f_is_name T.d_is_name ["value"] (spIsName K) := by
  refine T.F_is_name.ok sc_is_name (fun vs H Q E h => ?_) (fun cdv A outer s H vs Q E hr h => ?_)
  · obtain ⟨v, rfl, _⟩ := h
    rfl
  obtain ⟨v, rfl, h⟩ := h
  refine ⟨_, (pss_cons (ps_if (PW.pt (pw_or (pt_not (pt_val (pe_callB call_isi (by rfl) T.m_isinstance (by decide +kernel) (pa_cons (pv 0) (pa_cons (pe_bltn (v := .ty "str") (by rfl) T.m_str (by decide +kernel) rfl) pa_nil))))) (pw_or1 (pt_not (pt_chain op_le op_le pe_int (pe_callB call_len_str (by rfl) T.m_len PySem.boot_len (pa_cons (pv 0) pa_nil)) pe_int))))) (pss_one (ps_ret pe_bl)) pss_nil)
  (pss_one (ps_ret (pe_callB (cr_all rfl) (by rfl) T.m_all (by decide +kernel) (pa_cons (pe_lc (own := [("letter", 1)]) rfl sc_is_name.nd  (pi_str (pv 0)) (blkOk_by (own := [("letter", 1)]) (N := ["value", "letter"]) (sc := defScope s_is_name) (by decide +kernel)) (fun _ _ _ _ _ => (pg_name (i := 1) sc_is_name.nd rfl (.inl rfl))) (fun _ _ _ _ _ => pts_nil) (fun _ _ _ _ _ => (pe_chain op_le_str op_le_str pe_str (pv 1) pe_str))) pa_nil))))), ?_⟩
  rcases h with ⟨x, rfl, hx, q⟩ | ⟨t, ty, ht, q⟩
  · refine ⟨_, rfl, _, _, _, _, _, rfl, .ty "str", .base (.str x), (show PySem.W.kitOne _ (.type "str") (.type "str") = some true by rfl), _, rfl, ?_⟩
    refine iteF ?_
    refine ⟨_, rfl, x, rfl, Nat.le_trans hx (by decide), _, _, rfl, rfl, _, rfl, ?_⟩
    have fin : ∀ (b : Bool), b = nameOk x → ∀ H', Same H H' → Q (.bl b) H' := fun b e => by rw [e]; exact q
    refine ite2 (fun c1 => ?_) (fun c1 => ?_)
    · refine ⟨_, _, rfl, rfl, _, rfl, ?_⟩
      refine ifN (fun c2 => ?_) (fun c2 => ?_)
      · refine fin _ ?_ H (Same.refl H)
        unfold nameOk
        have c2' : ¬ x.length ≤ 8 := by omega
        rw [decide_eq_false c2', Bool.and_false, Bool.false_and]
      · have c2' : x.length ≤ 8 := by omega
        refine nxt ?_
        dsimp only
        refine Evl.s_ret (ev_allN (xs := x.cps.toList.map fun c => (decide (97 ≤ c) && decide (c ≤ 122))) (by
            rw [List.map_map]
            refine el_lcS (fun c => V.bl (decide (97 ≤ c) && decide (c ≤ 122))) (Evl.ev_var rfl) hx ?_ (fun i c H1 e hc => ?_)
            · exact fun x => rfl
            refine Evl.ev_is (ev_chain Evl.ev_c (Evl.ev_var rfl) rv_le_str (fun _ => Evl.ev_c) (fun _ => rv_le_str)) ?_
            show V.bl (!decide ([c] < [97]) && !decide ([122] < [c])) = _
            rw [show decide (([c] : List Nat) < [97]) = decide (c < 97) from decide_eq_decide.mpr (lt1 c 97), show decide (([122] : List Nat) < [c]) = decide (122 < c) from decide_eq_decide.mpr (lt1 122 c)]
            congr 1
            by_cases h1 : 97 ≤ c <;> by_cases h2 : c ≤ 122 <;> simp [h1, h2] <;> omega)) fun H1 e1 => fin _ ?_ H1 e1
        unfold nameOk
        have c1' : 1 ≤ x.length := by have := of_decide_eq_true c1; omega
        rw [decide_eq_true c1', decide_eq_true c2', List.all_map]
        rfl
    · refine ⟨_, rfl, ?_⟩
      refine iteT (fin _ ?_ H (Same.refl H))
      unfold nameOk
      have c1' : ¬ 1 ≤ x.length := fun z => c1 (decide_eq_true (by omega))
      rw [decide_eq_false c1', Bool.false_and, Bool.false_and]
  · refine ⟨_, rfl, _, _, _, _, _, rfl, .ty "str", ty, ht, _, rfl, ?_⟩
    refine iteT ?_
    exact iteT q
end
end Rk
set_option Elab.async false
set_option linter.all false
set_option maxRecDepth 100000
set_option maxHeartbeats 4000000
/-! what a def does not look at, it leaves: some lists and dicts may be hidden from it -/
namespace RkO
open PySem PySem.Spec PyProof.Rows L2
/-- H without what M names -/
def hid (M : Addr → Bool) (H : Hp) : Hp := fun b => if M b = true then none else H b
/-- H' with what M names as in H -/
def put (M : Addr → Bool) (H H' : Hp) : Hp := fun b => if M b = true then H b else H' b
theorem hid_t {M : Addr → Bool} {H : Hp} {b : Addr} (h : M b = true) : hid M H b = none := if_pos h
theorem hid_f {M : Addr → Bool} {H : Hp} {b : Addr} (h : M b = false) : hid M H b = H b := if_neg (by rw [h]; decide)
theorem put_t {M : Addr → Bool} {H H' : Hp} {b : Addr} (h : M b = true) : put M H H' b = H b := if_pos h
theorem put_f {M : Addr → Bool} {H H' : Hp} {b : Addr} (h : M b = false) : put M H H' b = H' b := if_neg (by rw [h]; decide)
def Hides (M : Addr → Bool) (H : Hp) : Prop := ∀ b, M b = true → (∃ xs, H b = some (.lst xs)) ∨ ∃ kvs, H b = some (.dK kvs)
def spF (sp : Sp) : Sp := fun vs H Q E => ∃ M : Addr → Bool, Hides M H ∧ sp vs (hid M H) (fun v H' => (∀ b, M b = true → H' b = none) → Q v (put M H H')) E
theorem FnOk.frame {P : Program} {w : World} {K : PySem.W.Frag} {mg : Str → Option Value} {base : Heap} {k : Nat} {f : Addr} {fd : FuncData} {ps : List Str} {sp : Sp} (F : FnOk P w K mg base CX0 k f fd ps sp) : FnOk P w K mg base CX0 k f fd ps (spF sp) := by
  refine ⟨fun vs H Q E h => ?_, fun A outer s H args us vs Q E hr he hb hv h => ?_⟩
  · obtain ⟨M, _, h⟩ := h
    exact F.len _ _ _ _ h
  obtain ⟨M, hM, h⟩ := h
  have nM : ∀ {b : Addr} {o : HO}, H b = some o → (∀ xs, o ≠ .lst xs) → (∀ kvs, o ≠ .dK kvs) → M b = false := fun {b o} e n1 n2 => by
    cases hb : M b with
    | false => rfl
    | true =>
      rcases hM b hb with ⟨xs, z⟩ | ⟨kvs, z⟩
      · rw [z] at e
        exact absurd (Option.some.inj e).symm (n1 xs)
      · rw [z] at e
        exact absurd (Option.some.inj e).symm (n2 kvs)
  have sub : ∀ {b : Addr} {o : HO}, H b = some o → (∀ xs, o ≠ .lst xs) → (∀ kvs, o ≠ .dK kvs) → hid M H b = some o := fun {b o} e n1 n2 => (hid_f (nM e n1 n2)).trans e
  have non : ∀ {b : Addr}, H b = none → hid M H b = none := fun {b} e => by
    cases hb : M b with
    | true => exact hid_t hb
    | false => exact (hid_f hb).trans e
  have he2 : Env0 P w K mg base A outer s (hid M H) := ⟨he.frames, he.mod, fun b o q => ⟨(he.bs b o q).1, non (he.bs b o q).2⟩, he.bsz, he.funs, fun b q => non (he.frf b q), fun b o q => by
    have hb : M b = false := by
      cases hb : M b with
      | false => rfl
      | true =>
        rw [hid_t hb] at q
        cases q
    rw [hid_f hb] at q
    exact (he.hok b o q).stay (fun _ _ _ z => z) (fun c z => sub z nofun nofun) fun c xs z => sub z nofun nofun, he.bare⟩
  refine codeAny_mono (F.run A outer s (hid M H) args us vs _ E hr he2 hb hv h) fun r s' q => ?_
  cases r with
  | error e => exact q
  | ok fl =>
    cases fl with
    | next => exact q
    | brk => exact q
    | cont => exact q
    | ret u =>
      obtain ⟨v, H', hos, hbr, un, hok, rv, q⟩ := q
      have gone : ∀ b, M b = true → H' b = none := fun b hb => by
        have ⟨o, ho⟩ : ∃ o, s.heap.get? b = some o := by
          rcases hM b hb with ⟨xs, z⟩ | ⟨kvs, z⟩
          · obtain ⟨_, its, n, _, e⟩ := he.hok b _ z
            exact ⟨_, e⟩
          · obtain ⟨_, _, vs, _, o, es, ep, e, _⟩ := he.hok b _ z
            exact ⟨_, e⟩
        exact un.free b o ho (hid_t hb) (by simp)
      have nofr : ∀ b, M b = true → b ∉ frs outer := fun b hb z => by
        have e := he.frf b z
        rcases hM b hb with ⟨xs, y⟩ | ⟨kvs, y⟩ <;> (rw [e] at y; cases y)
      have kept : ∀ b o, M b = true → s.heap.get? b = some o → s'.heap.get? b = some o := fun b o hb ho => un.keep b o ho (hid_t hb) (nofr b hb) (by simp)
      have at_ : ∀ {b : Addr} {o : HO}, H' b = some o → put M H H' b = some o := fun {b o} e => by
        cases hb : M b with
        | true =>
          rw [gone b hb] at e
          cases e
        | false => exact (put_f hb).trans e
      refine ⟨v, put M H H', hos, hbr, ⟨fun b o z n hf hx => un.keep b o z (non n) hf hx, fun b o z n hf hx => un.slot b o z (non n) hf hx, fun b o z n hx => ?_, fun b o z hx => un.there b o z hx, fun b xs z => at_ (un.tups b xs (sub z nofun nofun)), fun b o u z => at_ (un.frzs b o u (sub z nofun nofun)), fun b ps z => ?_⟩, fun b o z => ?_, rv, q gone⟩
      · have hb : M b = false := by
          cases hb : M b with
          | false => rfl
          | true => rcases hM b hb with ⟨xs, y⟩ | ⟨kvs, y⟩ <;> (rw [n] at y; cases y)
        rw [put_f hb]
        exact un.free b o z (non n) hx
      · obtain ⟨more, e⟩ := un.tbls b ps (sub z nofun nofun)
        exact ⟨more, at_ e⟩
      · cases hb : M b with
        | true =>
          rw [put_t hb] at z
          rcases hM b hb with ⟨xs, y⟩ | ⟨kvs, y⟩
          · have e0 : o = .lst xs := Option.some.inj (z.symm.trans y)
            subst e0
            obtain ⟨zl, its, n, r, e⟩ := he.hok b _ y
            exact ⟨zl, its, n, r, kept b _ hb e⟩
          · have e0 : o = .dK kvs := Option.some.inj (z.symm.trans y)
            subst e0
            obtain ⟨zl, ne, vs, r, ob, es, ep, e, c⟩ := he.hok b _ y
            exact ⟨zl, ne, vs, r, ob, es, ep, kept b _ hb e, c⟩
        | false =>
          rw [put_f hb] at z
          exact (hok b o z).stay (fun _ _ _ y => y) (fun c y => at_ y) fun c xs y => at_ y
end RkO
set_option Elab.async false
set_option linter.all false
set_option maxRecDepth 100000
set_option maxHeartbeats 4000000
/-! the trees, as plain data; how they stand in a heap -/
namespace Rk
open PySem L2 RkO
inductive Tr where
  | leaf (x : Str)
  | grp (rs : List Int) (ps : List Tr)
mutual
def Tr.names : Tr → List Str
  | .leaf x => [x]
  | .grp _ ps => namesL ps
def namesL : List Tr → List Str
  | [] => []
  | p :: ps => p.names ++ namesL ps
end
def Tr.width : Tr → Nat
  | .leaf _ => 1
  | .grp rs _ => rs.length
def intakeL : List Tr → Nat
  | [] => 0
  | p :: ps => p.width + intakeL ps
mutual
def Tr.depth : Tr → Nat
  | .leaf _ => 0
  | .grp _ ps => depthL ps + 1
def depthL : List Tr → Nat
  | [] => 0
  | p :: ps => max p.depth (depthL ps)
end
def Asc (rs : List Int) : Prop := rs.Pairwise (· < ·)
/-- a tree that the classes let by -/
inductive Ok : Tr → Prop where
  | leaf {x : Str} : nameOk x = true → Ok (.leaf x)
  | grp {rs : List Int} {ps : List Tr} : (∀ t ∈ ps, Ok t) → ps ≠ [] → (namesL ps).Nodup → rs ≠ [] → Asc rs → (∀ r ∈ rs, 1 ≤ r ∧ r ≤ (intakeL ps : Int)) → Ok (.grp rs ps)
def gf (lr lp : Addr) (it : Int) (ln : Addr) : List (Str × V) := putF "_names" (.ref ln) (putF "_intake" (.int it) (putF "_parts" (.ref lp) (putF "_ranks" (.ref lr) [])))
def lf (x : Str) : List (Str × V) := putF "_name" (.str x) []
inductive TAt (cL cG : Addr) (H : Hp) : V → Tr → Prop where
  | leaf {p dx : Addr} {x : Str} : H p = some (.ins cL dx (lf x)) → TAt cL cG H (.ref p) (.leaf x)
  | grp {p dx lr lp ln : Addr} {rs : List Int} {ps : List Tr} {vs : List V} : H p = some (.ins cG dx (gf lr lp (intakeL ps : Int) ln)) → H lr = some (.lst (rs.map V.int)) → H lp = some (.lst vs) → H ln = some (.lst ((namesL ps).map V.str)) →
      vs.length = ps.length → (∀ (i : Nat) v t, vs[i]? = some v → ps[i]? = some t → TAt cL cG H v t) → TAt cL cG H (.ref p) (.grp rs ps)
theorem TAt.mono {cL cG : Addr} {H H' : Hp} {v : V} {t : Tr} (h : TAt cL cG H v t) (e : Same H H') : TAt cL cG H' v t := by
  induction h with
  | leaf h => exact .leaf (e _ _ h)
  | grp h1 h2 h3 h4 hl _ ih => exact .grp (e _ _ h1) (e _ _ h2) (e _ _ h3) (e _ _ h4) hl ih
/-- a list of values that are trees -/
def FAt (cL cG : Addr) (H : Hp) (vs : List V) (ts : List Tr) : Prop := vs.length = ts.length ∧ ∀ (i : Nat) v t, vs[i]? = some v → ts[i]? = some t → TAt cL cG H v t
theorem FAt.mono {cL cG : Addr} {H H' : Hp} {vs : List V} {ts : List Tr} (h : FAt cL cG H vs ts) (e : Same H H') : FAt cL cG H' vs ts := ⟨h.1, fun i v t a b => (h.2 i v t a b).mono e⟩
theorem FAt.nil {cL cG : Addr} {H : Hp} : FAt cL cG H [] [] := ⟨rfl, fun i v t a _ => by simp at a⟩
theorem FAt.snoc {cL cG : Addr} {H : Hp} {vs : List V} {ts : List Tr} {v : V} {t : Tr} (h : FAt cL cG H vs ts) (q : TAt cL cG H v t) : FAt cL cG H (vs ++ [v]) (ts ++ [t]) := by
  refine ⟨by simp [h.1], fun i u s a b => ?_⟩
  by_cases hi : i < vs.length
  · rw [List.getElem?_append_left hi] at a
    rw [List.getElem?_append_left (by rw [← h.1]; exact hi)] at b
    exact h.2 i u s a b
  · rw [List.getElem?_append_right (by omega)] at a
    rw [List.getElem?_append_right (by rw [← h.1]; omega)] at b
    have e : i - vs.length = 0 := by
      have := (List.getElem?_eq_some_iff.mp a).1
      simp at this
      exact this
    rw [e] at a
    rw [← h.1, e] at b
    simp at a b
    subst a
    subst b
    exact q
/-! lookups -/
theorem k_pi : ¬ (("_parts" : Str) = "_intake") := by decide +kernel
theorem k_pn : ¬ (("_parts" : Str) = "_names") := by decide +kernel
theorem k_ri : ¬ (("_ranks" : Str) = "_intake") := by decide +kernel
theorem k_rn : ¬ (("_ranks" : Str) = "_names") := by decide +kernel
theorem k_rp : ¬ (("_ranks" : Str) = "_parts") := by decide +kernel
theorem k_in : ¬ (("_intake" : Str) = "_names") := by decide +kernel
theorem gf_names {lr lp ln : Addr} {it : Int} : (gf lr lp it ln).lookup ("_names" : Str) = some (.ref ln) := by
  unfold gf
  rw [lookup_putF, if_pos rfl]
theorem gf_intake {lr lp ln : Addr} {it : Int} : (gf lr lp it ln).lookup ("_intake" : Str) = some (.int it) := by
  unfold gf
  rw [lookup_putF, if_neg k_in, lookup_putF, if_pos rfl]
theorem gf_parts {lr lp ln : Addr} {it : Int} : (gf lr lp it ln).lookup ("_parts" : Str) = some (.ref lp) := by
  unfold gf
  rw [lookup_putF, if_neg k_pn, lookup_putF, if_neg k_pi, lookup_putF, if_pos rfl]
theorem gf_ranks {lr lp ln : Addr} {it : Int} : (gf lr lp it ln).lookup ("_ranks" : Str) = some (.ref lr) := by
  unfold gf
  rw [lookup_putF, if_neg k_rn, lookup_putF, if_neg k_ri, lookup_putF, if_neg k_rp, lookup_putF, if_pos rfl]
theorem gf_no {lr lp ln : Addr} {it : Int} {m : Str} (h1 : ¬ m = "_names") (h2 : ¬ m = "_intake") (h3 : ¬ m = "_parts") (h4 : ¬ m = "_ranks") : (gf lr lp it ln).lookup m = none := by
  unfold gf
  rw [lookup_putF, if_neg h1, lookup_putF, if_neg h2, lookup_putF, if_neg h3, lookup_putF, if_neg h4]
  all_goals rfl
theorem lf_name {x : Str} : (lf x).lookup ("_name" : Str) = some (.str x) := by
  unfold lf
  rw [lookup_putF, if_pos rfl]
theorem lf_no {x m : Str} (h1 : ¬ m = "_name") : (lf x).lookup m = none := by
  unfold lf
  rw [lookup_putF, if_neg h1]
  all_goals rfl
/-! the mathematics -/
theorem namesL_append : ∀ (a b : List Tr), namesL (a ++ b) = namesL a ++ namesL b
  | [], b => rfl
  | p :: a, b => by
    show p.names ++ namesL (a ++ b) = p.names ++ namesL a ++ namesL b
    rw [namesL_append a b, List.append_assoc]
theorem intakeL_append : ∀ (a b : List Tr), intakeL (a ++ b) = intakeL a + intakeL b
  | [], b => by
    show intakeL b = 0 + intakeL b
    omega
  | p :: a, b => by
    show p.width + intakeL (a ++ b) = p.width + intakeL a + intakeL b
    rw [intakeL_append a b]
    omega
theorem depth_mem : ∀ {ps : List Tr} {t : Tr}, t ∈ ps → t.depth ≤ depthL ps
  | [], t, h => by simp at h
  | p :: ps, t, h => by
    show t.depth ≤ max p.depth (depthL ps)
    rcases List.mem_cons.mp h with rfl | h
    · omega
    · have := depth_mem h
      omega
end Rk
namespace Rk
open PySem L2 RkO
mutual
def Tr.low (s : List Str) : Tr → Nat
  | .leaf x => if x ∈ s then 1 else 0
  | .grp rs ps => (rs.filter fun r => decide (r ≤ (lowL s ps : Int))).length
def lowL (s : List Str) : List Tr → Nat
  | [] => 0
  | p :: ps => p.low s + lowL s ps
end
def knd : Tr → Bool
  | .leaf _ => true
  | .grp _ _ => false
theorem lowL_sum (s : List Str) : ∀ ps : List Tr, (lowL s ps : Int) = (ps.map fun t => ((t.low s : Nat) : Int)).sum
  | [] => rfl
  | p :: ps => by
    show ((p.low s + lowL s ps : Nat) : Int) = ((p.low s : Nat) : Int) + (ps.map fun t => ((t.low s : Nat) : Int)).sum
    rw [← lowL_sum s ps]
    omega
theorem intakeL_sum : ∀ ps : List Tr, (intakeL ps : Int) = (ps.map fun t => ((t.width : Nat) : Int)).sum
  | [] => rfl
  | p :: ps => by
    show ((p.width + intakeL ps : Nat) : Int) = ((p.width : Nat) : Int) + (ps.map fun t => ((t.width : Nat) : Int)).sum
    rw [← intakeL_sum ps]
    omega
theorem namesL_flat : ∀ ps : List Tr, namesL ps = (ps.map Tr.names).flatten
  | [] => rfl
  | p :: ps => by
    show p.names ++ namesL ps = p.names ++ (ps.map Tr.names).flatten
    rw [namesL_flat ps]
theorem inV_str (x : Str) (xs : List Str) : inV (.str x) (xs.map V.str) = decide (x ∈ xs) := by
  unfold inV
  rw [List.any_map]
  show (xs.any fun y => y == x) = _
  rw [Bool.eq_iff_iff, List.any_eq_true, decide_eq_true_iff]
  exact ⟨fun ⟨y, h, e⟩ => by rw [← eq_of_beq e]; exact h, fun h => ⟨x, h, by simp⟩⟩
theorem flat_strs (xs : List Str) : (xs.map V.str).all flatV = true := by
  rw [List.all_map, List.all_eq_true]
  intro x _
  rfl
/-- the items of a forest -/
theorem FAt.mem {cL cG : Addr} {H : Hp} {vs : List V} {ts : List Tr} (h : FAt cL cG H vs ts) {i : Nat} {v : V} (e : vs[i]? = some v) : ∃ t, ts[i]? = some t ∧ TAt cL cG H v t := by
  have hi := (List.getElem?_eq_some_iff.mp e).1
  have hi2 : i < ts.length := by rw [← h.1]; exact hi
  exact ⟨ts[i], List.getElem?_eq_getElem hi2, h.2 i v _ e (List.getElem?_eq_getElem hi2)⟩
end Rk
namespace Rk
open PySem L2 RkO
theorem nameOk_len {x : Str} (h : nameOk x = true) : x.length ≤ 8 := by
  unfold nameOk at h
  rw [Bool.and_eq_true, Bool.and_eq_true] at h
  exact of_decide_eq_true h.1.2
theorem mem_namesL {x : Str} : ∀ {ps : List Tr}, x ∈ namesL ps → ∃ t ∈ ps, x ∈ t.names
  | [], h => by
    have h : x ∈ ([] : List Str) := h
    simp at h
  | p :: ps, h => by
    have h : x ∈ p.names ++ namesL ps := h
    rcases List.mem_append.mp h with h | h
    · exact ⟨p, List.mem_cons_self .., h⟩
    · obtain ⟨t, ht, hx⟩ := mem_namesL h
      exact ⟨t, List.mem_cons_of_mem _ ht, hx⟩
theorem Ok.names_ok {t : Tr} (h : Ok t) : ∀ x ∈ t.names, nameOk x = true := by
  induction h with
  | leaf h =>
    intro x hx
    rw [List.mem_singleton.mp (show x ∈ [_] from hx)]
    exact h
  | grp _ _ _ _ _ _ ih =>
    intro x hx
    obtain ⟨t, ht, hx⟩ := mem_namesL (show x ∈ namesL _ from hx)
    exact ih t ht x hx
theorem Ok.one {t : Tr} (h : Ok t) : 1 ≤ t.names.length := by
  induction h with
  | leaf _ => exact Nat.le_refl _
  | @grp rs ps _ hne _ _ _ _ ih =>
    cases ps with
    | nil => exact absurd rfl hne
    | cons p ps =>
      have := ih p (List.mem_cons_self ..)
      show 1 ≤ (p.names ++ namesL ps).length
      rw [List.length_append]
      omega
theorem parts_le : ∀ {ps : List Tr}, (∀ t ∈ ps, Ok t) → ps.length ≤ (namesL ps).length
  | [], _ => Nat.le_refl _
  | p :: ps, h => by
    have h1 := (h p (List.mem_cons_self ..)).one
    have h2 := parts_le (ps := ps) fun t ht => h t (List.mem_cons_of_mem _ ht)
    show ps.length + 1 ≤ (p.names ++ namesL ps).length
    rw [List.length_append]
    omega
/-- ascending numbers between 1 and m are no more than m -/
theorem asc_len : ∀ {rs : List Int} {lo m : Int}, Asc rs → (∀ r ∈ rs, lo ≤ r ∧ r ≤ m) → lo ≤ m + 1 → (rs.length : Int) ≤ m + 1 - lo
  | [], lo, m, _, _, h => by
    show (0 : Int) ≤ _
    omega
  | r :: rs, lo, m, ha, hb, h => by
    have h1 := hb r (List.mem_cons_self ..)
    obtain ⟨a1, a2⟩ := List.pairwise_cons.mp ha
    have := asc_len (rs := rs) (lo := r + 1) (m := m) a2 (fun z hz => ⟨by have := a1 z hz; omega, (hb z (List.mem_cons_of_mem _ hz)).2⟩) (by omega)
    rw [List.length_cons]
    omega
theorem Ok.width_le {t : Tr} (h : Ok t) : t.width ≤ t.names.length := by
  induction h with
  | leaf _ => exact Nat.le_refl _
  | @grp rs ps _ _ _ _ ha hb ih =>
    have key : ∀ qs : List Tr, (∀ t ∈ qs, t.width ≤ t.names.length) → intakeL qs ≤ (namesL qs).length := by
      intro qs
      induction qs with
      | nil => exact fun _ => Nat.le_refl _
      | cons q qs ihq =>
        intro hq
        have h1 := hq q (List.mem_cons_self ..)
        have h2 := ihq fun t ht => hq t (List.mem_cons_of_mem _ ht)
        show q.width + intakeL qs ≤ (q.names ++ namesL qs).length
        rw [List.length_append]
        omega
    have h1 := key ps ih
    have h2 := asc_len (lo := 1) (m := (intakeL ps : Int)) ha hb (by omega)
    show rs.length ≤ (namesL ps).length
    omega
theorem FAt.zip {cL cG : Addr} {H : Hp} {vs : List V} {ts : List Tr} (h : FAt cL cG H vs ts) : vs = (vs.zip ts).map Prod.fst ∧ ts = (vs.zip ts).map Prod.snd ∧ ∀ p ∈ vs.zip ts, TAt cL cG H p.1 p.2 := by
  refine ⟨?_, ?_, fun p hp => ?_⟩
  · rw [List.map_fst_zip (by rw [h.1]; exact Nat.le_refl _)]
  · rw [List.map_snd_zip (by rw [h.1]; exact Nat.le_refl _)]
  · obtain ⟨i, hi⟩ := List.mem_iff_getElem?.mp hp
    rw [List.getElem?_zip_eq_some] at hi
    exact h.2 i _ _ hi.1 hi.2
end Rk
set_option Elab.async false
set_option linter.all false
set_option maxRecDepth 100000
set_option maxHeartbeats 6400000
/-! set(xs) of a list of keys (texts, ints), of any small length; len of it -/
namespace RkT
open PySem PySem.Spec PyProof.Rows
section
variable {κ : Type} [DecidableEq κ] [BEq κ] [LawfulBEq κ]
/-- how many different ones stand among the first i -/
def diffs (x : Nat → κ) : Nat → Nat
  | 0 => 0
  | i + 1 => if ((List.range i).any fun j => x j == x i) then diffs x i else diffs x i + 1
theorem diffs_le (x : Nat → κ) : ∀ i, diffs x i ≤ i
  | 0 => Nat.le_refl _
  | i + 1 => by
    have := diffs_le x i
    unfold diffs
    split <;> omega
theorem diffs_all (x : Nat → κ) : ∀ i, diffs x i = i → ∀ a b, a < b → b < i → x a ≠ x b
  | 0, _, _, _, _, h => by omega
  | i + 1, e, a, b, hab, hb => by
    have l := diffs_le x i
    unfold diffs at e
    split at e
    · omega
    · rename_i no
      by_cases hbi : b < i
      · exact diffs_all x i (by omega) a b hab hbi
      · have eb : b = i := by omega
        subst eb
        intro z
        exact no (List.any_eq_true.mpr ⟨a, List.mem_range.mpr hab, by simp [z]⟩)
theorem diffs_full (x : Nat → κ) : ∀ i, (∀ a b, a < b → b < i → x a ≠ x b) → diffs x i = i
  | 0, _ => rfl
  | i + 1, h => by
    have ih := diffs_full x i fun a b hab hb => h a b hab (by omega)
    unfold diffs
    rw [if_neg, ih]
    intro z
    obtain ⟨j, hj, e⟩ := List.any_eq_true.mp z
    exact h j i (List.mem_range.mp hj) (Nat.lt_succ_self _) (eq_of_beq e)
variable {prog : Program} {w : World} {knd : KeyKind prog w κ}
def mem (x : Nat → κ) (i : Nat) : κ → Bool := fun k => (List.range i).any fun j => x j == k
def e0 (led : Bool) : Obj := { cls := .type "set", dict := none, data := .set #[] 0 (.fresh 0 0 led) }
variable {A : Around}
/-- the loop that fills the set -/
theorem fills {R : Result → Shared → Prop} {I : Addr} {fp wr : List Addr} {G : Array GenState → Array GenState → Prop} {n : Nat} {Py : Nat → Value → Prop} {St : Nat → Shared → Prop}
    (W : WalksS prog w A.in1 I fp wr G n Py St) (S : Addr) (out : S ∉ fp) (x : Nat → κ) (small : n + 1 < scanBound) (val : ∀ i v, Py i v → knd.is (x i) v = true ∧ v.scannable = true) :
    ∀ (m i : Nat) (s : Shared), n - i = m → i ≤ n → St i s → s.heap.SetOf knd S (mem x i) (diffs x i) →
      (∀ s', Moved (S :: wr) G s s' → s'.heap.SetOf knd S (mem x n) (diffs x n) → R (.ok (.ret .none)) s') → codeAny (model prog w) A (.builtin "set.update.loop" ⟨[.ref S, .ref I], []⟩) R s := by
  have outw : S ∉ wr := fun h => out (W.sub _ h)
  have up : ∀ b ∈ wr, b ∈ S :: wr := fun b hb => .tail _ hb
  intro m
  induction m with
  | zero =>
    intro i s hm hi hst hS hR
    obtain rfl : i = n := by omega
    refine codeAny_builtin F.entry_set_update_loop ?_
    rw [Around.under_plainId F.plain_set_update_loop _]
    show wpAny (model prog w) A.in1 (pyNext (.ref I) >>= _) _ _ s
    refine wpAny_bind (W.done s _ _ hst fun s' mv => ?_)
    show wpAny (model prog w) A.in1 (ret Value.none) _ _ s'
    refine wpAny_pure (hR s' (mv.mono up) ?_)
    obtain ⟨o, es, ep, t, ho, more⟩ := hS
    exact ⟨o, es, ep, t, mv.heap S o outw ho, more⟩
  | succ m ih =>
    intro i s hm hi hst hS hR
    have hlt : i < n := by omega
    refine codeAny_builtin F.entry_set_update_loop ?_
    rw [Around.under_plainId F.plain_set_update_loop _]
    show wpAny (model prog w) A.in1 (pyNext (.ref I) >>= _) _ _ s
    refine wpAny_bind (W.item i s _ _ hlt hst fun v s' pv st' mv => ?_)
    obtain ⟨hk, hsc⟩ := val i v pv
    have there : s'.heap.SetOf knd S (mem x i) (diffs x i) := by
      obtain ⟨o, es, ep, t, ho, more⟩ := hS
      exact ⟨o, es, ep, t, mv.heap S o outw ho, more⟩
    show wpAny (model prog w) A.in1 (holding [v] (setAdd S v) >>= _) _ _ s'
    refine wpAny_bind (wpAny_holding ?_)
    unfold setAdd
    refine wpAny_holding (wpAny_bind (knd.pyHash (k := x i) hk ?_))
    have room := diffs_le x i
    refine wpAny_setAddHashed_of (knd := knd) (s := { s' with toks := s'.toks + 1 }) hk hsc there (by omega) fun h' sb now => ?_
    have next : h'.SetOf knd S (mem x (i + 1)) (diffs x (i + 1)) := by
      refine SetOf_congr now (fun k => ?_) (by show (if mem x i (x i) = true then _ else _) = _; rfl)
      show (mem x i k || decide (k = x i)) = mem x (i + 1) k
      unfold mem
      rw [List.range_succ, List.any_append, List.any_cons, List.any_nil, Bool.or_false]
      congr 1
      by_cases e : k = x i
      · subst e; simp
      · rw [decide_eq_false e]
        exact (beq_eq_false_iff_ne.mpr fun z => e z.symm).symm
    have off : ∀ b ∈ fp, b ≠ S := fun b hb z => out (z ▸ hb)
    refine wpAny_pure ⟨plainId_quiet F.plain_set_update_loop _, ih (i + 1) _ (by omega) hlt (W.frame _ s' _ _ st' (Nat.le_succ _) fun b hb o e => (sb.2 b (off b hb)).trans e) next fun s'' mv' done => ?_⟩
    refine hR s'' (Moved.trans W.gtrans ((mv.mono up).then_heap (Nat.le_succ _) fun b o hb e => ?_) mv') done
    exact (sb.2 b fun z => hb (z ▸ List.mem_cons_self)).trans e
/-- set(l), l a list of n keys -/
theorem make {E : Value → Shared → Prop} {s : Shared} {l : Addr} {items : Array Value} {x : Nat → κ} {Q : Value → Shared → Prop} (calm : A.handled = none) (hl : s.heap.IsList l items) (small : items.size + 1 < scanBound)
    (val : ∀ (i : Nat) (v : Value), items[i]? = some v → knd.is (x i) v = true ∧ v.scannable = true) (fresh0 : ∀ led, (e0 led).SetObjOf knd (fun _ => false) 0)
    (h : ∀ (h' : Heap) (tk : Nat), h'.SetOf knd s.heap.objs.size (mem x items.size) (diffs x items.size) → (∀ b o, b < s.heap.objs.size → s.heap.get? b = some o → h'.get? b = some o) → Q (.ref s.heap.objs.size) { s with heap := h', toks := tk }) :
    wpAny (model prog w) A (call (.type "set") [.ref l]) Q E s := by
  have ⟨cc, tl, bases⟩ := PySem.F.called_set.mro
  have q1 := PySem.F.called_set.made
  have q2 := PySem.F.called_set.sub
  have q3 := PySem.F.called_set.notType
  have q4 := PySem.F.called_set.canCreate
  have q5 := PySem.F.typeCall_set_1 (.ref l)
  refine wpAny_call (codeAny_of_tree ?_)
  show wpAny (model prog w) _ (callAny (.type "set") _) _ _ s
  refine wpAny_pure ⟨Code.quiet_builtin _ (by decide +kernel), codeAny_builtin PySem.F.entry_type_call (by
    rw [Around.under_plain (weight_type_call_type "set" [.ref l] []) rfl]
    repeat (any_goals (first | assumption | wp_step))
    refine codeAny_mono (code_set_new_1 (.ref l) (E := E) (Q₁ := fun a s₁ => ∃ led : Bool, a = .ref s.heap.objs.size ∧ s₁ = { s with heap := s.heap.push (e0 led) }) fun led => ⟨led, rfl, rfl⟩) fun r s₁ hr => ?_
    rcases r with e | fl
    · exact hr
    obtain ⟨v0, rfl⟩ : ∃ v0, fl = .ret v0 := by
      cases fl with
      | ret v => exact ⟨v, rfl⟩
      | _ => exact hr.elim
    obtain ⟨led, rfl, rfl⟩ := hr
    have at0 : (s.heap.push (e0 led)).get? s.heap.objs.size = some (e0 led) := Heap.get?_push_size _ rfl
    have ty : Shared.TypeIs { s with heap := s.heap.push (e0 led) } (.ref s.heap.objs.size) "set" := ⟨_, at0, rfl⟩
    have i1 := PySem.F.called_set.init.lookup
    have i2 := PySem.F.called_set.init.bind (.ref s.heap.objs.size)
    repeat (any_goals (first | assumption | wp_step))
    refine codeAny_mono (codeAny_call_builtin (R := wants (fun r s₂ => r = .none ∧ ∃ h' tk, s₂ = { s with heap := h', toks := tk } ∧ h'.SetOf knd s.heap.objs.size (mem x items.size) (diffs x items.size) ∧ ∀ b o, b < s.heap.objs.size → s.heap.get? b = some o → h'.get? b = some o) E)
      PySem.F.called_set.init.plain PySem.F.entry_set_init (check_set_init_1 ty ?_)) fun r₂ s₂ hr₂ => ?_
    · obtain ⟨⟨oc, od, odt, osl⟩, hol, hcl, nl, hdl⟩ := hl
      simp only at hcl hdl
      subst hcl hdl
      have at1 : (s.heap.push (e0 led)).get? l = some ⟨.type "list", od, .seq items nl, osl⟩ := Heap.get?_push_of_some _ hol
      have t1 := PySem.F.sub_list_set
      have t2 := PySem.F.sub_list_frozenset
      have t3 : (Value.type "list" == Value.type "dict") = false := by decide
      have isl : (s.heap.push (e0 led)).IsList l items := ⟨_, at1, rfl, nl, rfl⟩
      unfold Builtin.«set.__init__» noKeywords Builtin.Frozenset.updateFrom
      generalize hPI : pyIter = PI
      wp_walk
      subst hPI
      refine wpAny_pyIter_list isl (wpAny_bind (wpAny_runValue ?_))
      have l0 : l < s.heap.objs.size := Heap.lt_size hol
      have sz : (s.heap.push (e0 led)).objs.size = s.heap.objs.size + 1 := Heap.size_push ..
      have l1 : l ≠ (s.heap.push (e0 led)).objs.size := by rw [sz]; exact Nat.ne_of_lt (Nat.lt_succ_of_lt l0)
      have out : s.heap.objs.size ∉ [(s.heap.push (e0 led)).objs.size, l] := by
        rw [sz]
        simp only [List.mem_cons, List.not_mem_nil, or_false, not_or]
        exact ⟨Nat.ne_of_lt (Nat.lt_succ_self _), Nat.ne_of_gt l0⟩
      refine fills ((Walks.list (by simp [calm]) _ l l1 items).toS) s.heap.objs.size out x small val (items.size - 0) 0 _ (by omega) (Nat.zero_le _) ⟨⟨_, Heap.get?_push_size _ rfl, rfl, rfl⟩, isl.push _⟩ ?start ?fin
      case start =>
        refine SetOf_congr ((fresh0 led).setOf (Heap.get?_push_of_some _ at0) (by unfold scanBound; omega)) (fun _ => rfl) rfl
      case fin =>
        rintro ⟨h', g', d', tk', os'⟩ mv full
        obtain rfl : g' = s.gens := mv.gens
        obtain rfl : d' = s.drawn := mv.drawn
        obtain rfl : os' = s.os := mv.os
        show wpAny _ _ _ _ _ _
        refine wpAny_pure ?_
        show wpAny _ _ (ret Value.none) _ _ _
        refine wpAny_pure ⟨rfl, h', tk', rfl, full, fun b o hb e => mv.heap b o ?_ (Heap.get?_push_of_some _ (Heap.get?_push_of_some _ e))⟩
        rw [sz]
        simp only [List.mem_cons, List.not_mem_nil, or_false, not_or]
        exact ⟨Nat.ne_of_lt hb, Nat.ne_of_lt (Nat.lt_succ_of_lt hb)⟩
    · rcases r₂ with e | fl₂
      · exact hr₂
      obtain ⟨v0, rfl⟩ : ∃ v0, fl₂ = .ret v0 := by
        cases fl₂ with
        | ret v => exact ⟨v, rfl⟩
        | _ => exact hr₂.elim
      obtain ⟨rfl, h', tk, rfl, full, kept⟩ := hr₂
      repeat (any_goals (first | assumption | wp_step))
      exact h _ _ full kept)⟩
end
end RkT

namespace RkO
open PySem PySem.Spec PyProof.Rows L2
variable {X : Cx}
/-- len(set(xs)), xs a list of texts -/
def tLenSetS (K : PySem.W.Frag) (ta : TE) : TE := fun σ H Q => ta σ H fun x H1 => ∃ (l : Addr) (xs : List Str), x = .ref l ∧ SqL K H1 l (xs.map V.str) ∧ xs.length ≤ 1000 ∧ Q (.int (RkT.diffs (fun i => xs.getD i Str.empty) xs.length : Nat)) H1
theorem pe_lenSetS {a : Expr} {ta : TE} {p p2 q pos : Pos} (hc : X.calm = true) (hg : Gl X "len") (hm : X.mg "len" = none) (hg2 : Gl X "set") (hm2 : X.mg "set" = none) (ha : PE X a ta)
    (na : starEach [a] X.env = (false, eval a X.env) :: starEach [] X.env := by rfl) : PE X (.Call (.Name "len" p) [.Call (.Name "set" p2) [a] [] q] [] pos) (tLenSetS X.K ta) := by
  refine ⟨fun pins s σ H Q I h => Call_ (ld_blt I hg hm boot_len ?_)⟩
  refine callWith_builtin1 (args_cons (Call_ (ld_blt I hg2 hm2 boot_set ?_)) rfl) rfl rfl
  refine callWith_type1 (args_cons (thn (ha.run pins s σ H _ I h) fun v s1 ⟨x, H1, I1, r1, q1⟩ => args_nil ?_) na) na rfl
  obtain ⟨l, xs, rfl, hq, small, q1⟩ := q1
  cases r1
  obtain ⟨its, r, pl, hz⟩ := I1.list hq
  have hl : its.toArray.size = xs.length := by rw [List.size_toArray, ← r.length, List.length_map]
  refine RkT.make (knd := PySem.strKind X.prog X.w) (x := fun i => xs.getD i Str.empty) (I1.ok.hd hc) pl.isList (by rw [hl]; unfold scanBound; omega) (fun i v hv => ?_) (fun led => setObjOf_fresh (knd := PySem.strKind X.prog X.w) led) fun h' tk full kept => ?_
  · have hv' : its[i]? = some v := by rw [← hv, List.getElem?_toArray]
    obtain ⟨t, e⟩ := SS.strs_at (strsAre_of r) i v hv'
    subst e
    exact ⟨strKind_is _ _ _ _, rfl⟩
  · refine args_nil ?_
    rw [hl] at full
    obtain ⟨o, es, ep, t, ho, hex, hd, _, _, _, hf, hn⟩ := full
    have I2 : Inv X pins σ H1 { s1 with heap := h', toks := tk } := I1.kept fun b o e => kept b o (Heap.lt_size e) e
    have le := RkT.diffs_le (fun i => xs.getD i Str.empty) xs.length
    exact call_len_set ho hex hd hf (by rw [hn]; omega) ⟨.int _, H1, I2.tok _, ⟨_, by rw [hn]⟩, q1⟩
end RkO
set_option Elab.async false
set_option linter.all false
set_option maxRecDepth 100000
set_option maxHeartbeats 4000000
namespace Rk
open PySem PySem.Spec PyProof.Rows L2 RkO
open Evl (Ev EvT EvA EvL EvU EvO Ex RC RCL SpV SpL)
section
variable {K : PySem.W.Frag} {σ : L2.St} {H H' : Hp} {ta tb te tx : TE} {t u : TT} {x y z v : V} {r : R2}
/-- a comprehension over a list of known items, no test: the i-th gives f of the i-th -/
theorem el_lcM {α : Type} {a : Addr} {xs : List α} {g f : α → V} {tl : TE} {j : Nat} {vs : List Nat} (h : Ev tl σ H (.ref a)) (hx : SqL K H a (xs.map g)) (hz : xs.length ≤ 40000) (hw : ∀ x, wipe ((wipe σ vs).set j (some x)) vs = wipe σ vs)
    (he : ∀ (x : α) H1, Ex H H1 → x ∈ xs → Ev te ((wipe σ vs).set j (some (g x))) H1 (f x)) : EvL (tLc (iList K tl) (gName j) tYes te vs) σ H (xs.map f) := fun H0 e Q q => h H0 e _ fun H1 e1 => ⟨a, rfl, ⟨_, Evl.ex_l (e.trans e1) hx⟩, fun Dl hD =>
  lc_list (xs := xs.map g) (fun i H' => H1 Dl = none ∧ Ex H1 H' ∧ H' Dl = some (.lst ((xs.take i).map f))) ⟨hD, Ex.new hD, upd_same⟩ (fun i H' _ p => Evl.ex_l ((e.trans e1).trans p.2.1) hx) (fun i y H' hi p => by
    obtain ⟨p1, p2, p3⟩ := p
    rw [List.getElem?_map] at hi
    obtain ⟨x, hxi, rfl⟩ := Option.map_eq_some_iff.mp hi
    refine ⟨hw _, ?_⟩
    refine he x H1 (e.trans e1) (List.mem_of_getElem? hxi) H' p2 _ fun H4 e4 => ⟨_, e4 _ _ p3, ?_, p1, Ex.mut (p2.trans e4) p1, ?_⟩
    · rw [List.length_map, List.length_take]
      exact Evl.sz_lt (by omega)
    · rw [upd_same, List.take_add_one, hxi, List.map_append]
      rfl) (fun H' p => q Dl H' (Evl.fresh_back e1 p.1) (e1.trans p.2.1) (by
    have := p.2.2
    rwa [List.length_map, List.take_length] at this))⟩
end
theorem diffs_nodup (xs : List Str) : decide (V.int ((RkT.diffs (fun i => xs.getD i Str.empty) xs.length : Nat) : Int) = V.int ((xs.length : Nat) : Int)) = decide xs.Nodup := by
  refine decide_eq_decide.mpr ⟨fun h => ?_, fun h => ?_⟩
  · have e : RkT.diffs (fun i => xs.getD i Str.empty) xs.length = xs.length := by
      have := V.int.inj h
      omega
    refine List.pairwise_iff_getElem.mpr fun i j hi hj hij z => ?_
    refine RkT.diffs_all _ _ e i j hij hj ?_
    show xs.getD i Str.empty = xs.getD j Str.empty
    rw [List.getD_eq_getElem?_getD, List.getD_eq_getElem?_getD, List.getElem?_eq_getElem hi, List.getElem?_eq_getElem hj, z]
  · rw [RkT.diffs_full]
    intro a b hab hb z
    have z : xs.getD a Str.empty = xs.getD b Str.empty := z
    rw [List.getD_eq_getElem?_getD, List.getD_eq_getElem?_getD, List.getElem?_eq_getElem hb, List.getElem?_eq_getElem (Nat.lt_trans hab hb)] at z
    exact List.pairwise_iff_getElem.mp h a b (Nat.lt_trans hab hb) hb hab z
section
variable {P : Program} {w : World} {K : PySem.W.Frag} {mg : Str → Option Value} {base : Heap}
/-! ### is_whole -/
def spIsWhole (K : PySem.W.Frag) : Sp := fun vs H Q _ => ∃ v t b c, vs = [v] ∧ TyX K H v t ∧ PySem.W.kitOne K t (.type "int") = some b ∧ (b = true → PySem.W.kitOne K t (.type "bool") = some c) ∧ Q (.bl (b && !c)) H
theorem ok_is_whole (T : Txt K mg) : FnOk P w K mg base CX0 1 T.f_is_whole T.d_is_whole ["value"] (spIsWhole K) := by
  refine T.F_is_whole.ok sc_is_whole (fun vs H Q E h => ?_) (fun cdv A outer s H vs Q E hr h => ?_)
  · obtain ⟨v, t, b, c, rfl, _⟩ := h
    rfl
  obtain ⟨v, t, b, c, rfl, ty, hb, hc, q⟩ := h
  refine ⟨_, (pss_one (ps_ret (pe_and (pe_callB call_isi (by rfl) T.m_isinstance (by decide +kernel) (pa_cons (pv 0) (pa_cons (pe_bltn (v := .ty "int") (by rfl) T.m_int (by decide +kernel) rfl) pa_nil))) (pe_one (pe_not (pe_callB call_isi (by rfl) T.m_isinstance (by decide +kernel) (pa_cons (pv 0) (pa_cons (pe_bltn (v := .ty "bool") (by rfl) T.m_bool (by decide +kernel) rfl) pa_nil)))))))), ?_⟩
  refine ⟨_, rfl, _, _, _, _, _, rfl, .ty "int", ty, hb, b, rfl, ?_⟩
  cases b with
  | false => exact iteF q
  | true => exact iteT ⟨_, rfl, _, _, _, _, _, rfl, .ty "bool", ty, hc rfl, c, rfl, q⟩
/-! ### are_names, of a list of texts -/
def spAreNames (K : PySem.W.Frag) : Sp := fun vs H Q _ => ∃ (a : Addr) (xs : List Str), vs = [.ref a] ∧ SqL K H a (xs.map V.str) ∧ TyX K H (.ref a) (.type "list") ∧ xs.length ≤ 1000 ∧ (∀ x ∈ xs, x.length ≤ 40000) ∧ ∀ H', Same H H' → Q (.bl (xs.all nameOk && decide xs.Nodup)) H'
theorem ok_are_names (T : Txt K mg) : FnOk P w K mg base CX0 2 T.f_are_names T.d_are_names ["value"] (spAreNames K) := by
  have G_is_name : FnOk P w K mg base CX0 1 T.f_is_name T.d_is_name ["value"] (spIsName K) := ok_is_name T
  refine T.F_are_names.ok sc_are_names (fun vs H Q E h => ?_) (fun cdv A outer s H vs Q E hr h => ?_)
  · obtain ⟨a, xs, rfl, _⟩ := h
    rfl
  obtain ⟨a, xs, rfl, hS, ty, hl, hx, q⟩ := h
  refine ⟨_, (pss_cons (ps_if (PW.pt (pw_or (pt_not (pt_val (pe_callB call_isi (by rfl) T.m_isinstance (by decide +kernel) (pa_cons (pv 0) (pa_cons (pe_bltn (v := .ty "list") (by rfl) T.m_list (by decide +kernel) rfl) pa_nil))))) (pw_or1 (pt_not (pt_val (pe_callB (cr_all rfl) (by rfl) T.m_all (by decide +kernel) (pa_cons (pe_lc (own := [("item", 1)]) rfl sc_are_names.nd  (pi_list (pv 0)) (blkOk_by (own := [("item", 1)]) (N := ["value", "item"]) (sc := defScope s_are_names) (by decide +kernel)) (fun _ _ _ _ _ => (pg_name (i := 1) sc_are_names.nd rfl (.inl rfl))) (fun _ _ _ _ _ => pts_nil) (fun _ _ _ _ _ => (pe_call G_is_name (hr.mono (by decide)) rfl T.m_is_name T.F_is_name.kp T.b_is_name .nil pass0 (pa_cons (pv 1) pa_nil)))) pa_nil))))))) (pss_one (ps_ret pe_bl)) pss_nil)
  (pss_one (ps_ret (pe_cmpR op_eq (pe_lenSetS rfl (by rfl) T.m_len (by rfl) T.m_set (pv 0)) (pe_callB call_len_seq (by rfl) T.m_len PySem.boot_len (pa_cons (pv 0) pa_nil)) (nomark _))))), ?_⟩
  refine ⟨_, rfl, _, _, _, _, _, rfl, .ty "list", ty, (show PySem.W.kitOne _ (.type "list") (.type "list") = some true by rfl), _, rfl, ?_⟩
  refine iteF ?_
  have all : EvT (tNot (tTest (tCB (rAll K) (tCons (tLc (iList K (tVar 0)) (gName 1) tYes (tCall (spIsName K) [] E0 (tCons (tVar 1) tNil)) [1]) tNil)))) [some (.ref a), none] H (!((xs.map nameOk).all id)) := by
    refine Evl.et_not (Evl.et_test (ev_allN ?_))
    rw [List.map_map]
    refine el_lcM (g := V.str) (Evl.ev_var rfl) hS (by omega) (fun x => rfl) fun x H1 e hm => ?_
    exact Evl.ev_call (Evl.ea_cons (Evl.ev_var rfl) Evl.ea_nil) fun H2 e2 Q q E => ⟨_, rfl, .inl ⟨x, rfl, hx x hm, q⟩⟩
  refine all H (Ex.refl H) _ fun H1 e1 => ?_
  dsimp only
  have ea : (xs.map nameOk).all id = xs.all nameOk := by rw [List.all_map]; rfl
  rw [ea]
  cases hb : xs.all nameOk with
  | false =>
    refine iteT ?_
    have := q H1 e1
    rw [hb] at this
    exact this
  | true =>
    refine iteF ?_
    refine ⟨_, rfl, a, xs, rfl, Evl.ex_l e1 hS, hl, _, rfl, a, _, rfl, .inl (Evl.ex_l e1 hS), rfl, ?_⟩
    have := q H1 e1
    rw [hb] at this
    rw [List.length_map]
    rw [diffs_nodup]
    exact this
end
end Rk
set_option Elab.async false
set_option linter.all false
set_option maxRecDepth 100000
set_option maxHeartbeats 4000000
namespace Rk
open PySem PySem.Spec PyProof.Rows L2 RkO
open Evl (Ev EvT EvA EvL EvU EvO Ex RC RCL SpV SpL)
theorem ifNot {b : Bool} {A B : Prop} (h : b = true) (q : B) : if (!b) = true then A else B := by
  subst h
  exact iteF q
section
variable {P : Program} {w : World} {K : PySem.W.Frag} {mg : Str → Option Value} {base : Heap}
/-! ### Leaf.__init__ -/
def spLeafInit (cL : Addr) : Sp := fun vs H Q _ => ∃ (p dx : Addr) (x : Str), vs = [.ref p, .str x] ∧ H p = some (.ins cL dx []) ∧ nameOk x = true ∧ x.length ≤ 40000 ∧
  ∀ H', (∀ b o, b ≠ p → H b = some o → H' b = some o) → H' p = some (.ins cL dx (lf x)) → Q .non H'
theorem ok_Leaf_init (T : Txt K mg) : FnOk P w K mg base CX0 2 T.f_Leaf_init T.d_Leaf_init ["self", "name"] (spLeafInit T.a_Leaf) := by
  have G_is_name : FnOk P w K mg base CX0 1 T.f_is_name T.d_is_name ["value"] (spIsName K) := ok_is_name T
  refine T.F_Leaf_init.ok sc_Leaf_init (fun vs H Q E h => ?_) (fun cdv A outer s H vs Q E hr h => ?_)
  · obtain ⟨p, dx, x, rfl, _⟩ := h
    rfl
  obtain ⟨p, dx, x, rfl, hp, hok, hx, q⟩ := h
  refine ⟨_, (pss_cons (ps_if (pt_not (pt_val (pe_call G_is_name (hr.mono (by decide)) rfl T.m_is_name T.F_is_name.kp T.b_is_name .nil pass0 (pa_cons (pv 1) pa_nil)))) (pss_one ps_never) pss_nil)
  (pss_one (ps_fld (pv 0) (pv 1) rfl))), ?_⟩
  refine ⟨_, rfl, _, rfl, .inl ⟨x, rfl, hx, fun H1 e1 => ⟨_, rfl, ?_⟩⟩⟩
  refine ifNot hok ?_
  refine ⟨_, rfl, _, rfl, p, _, dx, _, rfl, e1 _ _ hp, T.c_Leaf, T.n_Leaf_name, (by show 0 < 1000; decide), q _ (fun b o hb e => ?_) upd_same⟩
  rw [upd_ne hb]
  exact e1 _ _ e
/-! ### width -/
def spWidth (cL cG : Addr) (k : Bool) : Sp := fun vs H Q _ => ∃ v t, vs = [v] ∧ knd t = k ∧ TAt cL cG H v t ∧ Q (.int (t.width : Nat)) H
theorem ok_Leaf_width (T : Txt K mg) : FnOk P w K mg base CX0 1 T.f_Leaf_width T.d_Leaf_width ["self"] (spWidth T.a_Leaf T.a_Group true) := by
  refine T.F_Leaf_width.ok sc_Leaf_width (fun vs H Q E h => ?_) (fun cdv A outer s H vs Q E hr h => ?_)
  · obtain ⟨v, t, rfl, _⟩ := h
    rfl
  obtain ⟨v, t, rfl, hk, ht, q⟩ := h
  refine ⟨_, (pss_one (ps_ret pe_int)), ?_⟩
  cases ht with
  | leaf h => exact q
  | grp _ _ _ _ _ _ => cases hk
theorem ok_Group_width (T : Txt K mg) : FnOk P w K mg base CX0 1 T.f_Group_width T.d_Group_width ["self"] (spWidth T.a_Leaf T.a_Group false) := by
  refine T.F_Group_width.ok sc_Group_width (fun vs H Q E h => ?_) (fun cdv A outer s H vs Q E hr h => ?_)
  · obtain ⟨v, t, rfl, _⟩ := h
    rfl
  obtain ⟨v, t, rfl, hk, ht, q⟩ := h
  refine ⟨_, (pss_one (ps_ret (pe_callB call_len_seq (by rfl) T.m_len PySem.boot_len (pa_cons (pe_fld (pv 0) rfl) pa_nil)))), ?_⟩
  cases ht with
  | leaf _ => cases hk
  | @grp p dx lr lp ln rs ps vs h1 h2 h3 h4 hl hf =>
    refine ⟨_, rfl, p, _, dx, _, _, rfl, h1, T.c_Group, T.n_Group_ranks, gf_ranks, lr, _, rfl, .inl (SqL.of h2), ?_⟩
    rw [List.length_map]
    exact q
/-! ### names() -/
def spNames (cL cG : Addr) (k : Bool) : Sp := fun vs H Q _ => ∃ v t, vs = [v] ∧ knd t = k ∧ TAt cL cG H v t ∧ ∀ p H', H p = none → Same H H' → H' p = some (.lst (t.names.map V.str)) → Q (.ref p) H'
theorem ok_Leaf_names (T : Txt K mg) : FnOk P w K mg base CX0 1 T.f_Leaf_names T.d_Leaf_names ["self"] (spNames T.a_Leaf T.a_Group true) := by
  refine T.F_Leaf_names.ok sc_Leaf_names (fun vs H Q E h => ?_) (fun cdv A outer s H vs Q E hr h => ?_)
  · obtain ⟨v, t, rfl, _⟩ := h
    rfl
  obtain ⟨v, t, rfl, hk, ht, q⟩ := h
  refine ⟨_, (pss_one (ps_ret (pe_lst (pa_cons (pe_fld (pv 0) rfl) pa_nil)))), ?_⟩
  cases ht with
  | @leaf p dx x h => exact ⟨_, rfl, p, _, dx, _, _, rfl, h, T.c_Leaf, T.n_Leaf_name, lf_name, (by show 1 ≤ sizeLine; decide), fun z hz => q z _ hz (same_new hz _) upd_same⟩
  | grp _ _ _ _ _ _ => cases hk
theorem ok_Group_names (T : Txt K mg) : FnOk P w K mg base CX0 1 T.f_Group_names T.d_Group_names ["self"] (spNames T.a_Leaf T.a_Group false) := by
  refine T.F_Group_names.ok sc_Group_names (fun vs H Q E h => ?_) (fun cdv A outer s H vs Q E hr h => ?_)
  · obtain ⟨v, t, rfl, _⟩ := h
    rfl
  obtain ⟨v, t, rfl, hk, ht, q⟩ := h
  refine ⟨_, (pss_one (ps_ret (pe_callTy call_list_of (by rfl) T.m_list (by decide +kernel) (pa_cons (pe_fld (pv 0) rfl) pa_nil)))), ?_⟩
  cases ht with
  | leaf _ => cases hk
  | @grp p dx lr lp ln rs ps vs h1 h2 h3 h4 hl hf =>
    exact ⟨_, rfl, p, _, dx, _, _, rfl, h1, T.c_Group, T.n_Group_names, gf_names, ln, _, rfl, .inl (SqL.of h4), fun z hz => q z _ hz (same_new hz _) upd_same⟩
/-! ### name in tree, name a text -/
def spHas (cL cG : Addr) (k : Bool) : Sp := fun vs H Q _ => ∃ v t x, vs = [v, .str x] ∧ knd t = k ∧ TAt cL cG H v t ∧ Q (.bl (decide (x ∈ t.names))) H
theorem ok_Leaf_contains (T : Txt K mg) : FnOk P w K mg base CX0 1 T.f_Leaf_contains T.d_Leaf_contains ["self", "name"] (spHas T.a_Leaf T.a_Group true) := by
  refine T.F_Leaf_contains.ok sc_Leaf_contains (fun vs H Q E h => ?_) (fun cdv A outer s H vs Q E hr h => ?_)
  · obtain ⟨v, t, x, rfl, _⟩ := h
    rfl
  obtain ⟨v, t, y, rfl, hk, ht, q⟩ := h
  refine ⟨_, (pss_one (ps_ret (pe_cmpR op_eq (pv 1) (pe_fld (pv 0) rfl) (nomark _)))), ?_⟩
  cases ht with
  | @leaf p dx x h =>
    refine ⟨_, rfl, _, rfl, p, _, dx, _, _, rfl, h, T.c_Leaf, T.n_Leaf_name, lf_name, rfl, ?_⟩
    have e : decide (V.str y = V.str x) = decide (y ∈ (Tr.leaf x).names) := decide_eq_decide.mpr ⟨fun z => by rw [V.str.inj z]; exact List.mem_singleton.mpr rfl, fun z => by rw [List.mem_singleton.mp z]⟩
    rw [e]
    exact q
  | grp _ _ _ _ _ _ => cases hk
theorem ok_Group_contains (T : Txt K mg) : FnOk P w K mg base CX0 1 T.f_Group_contains T.d_Group_contains ["self", "name"] (spHas T.a_Leaf T.a_Group false) := by
  refine T.F_Group_contains.ok sc_Group_contains (fun vs H Q E h => ?_) (fun cdv A outer s H vs Q E hr h => ?_)
  · obtain ⟨v, t, x, rfl, _⟩ := h
    rfl
  obtain ⟨v, t, y, rfl, hk, ht, q⟩ := h
  refine ⟨_, (pss_one (ps_ret (pe_cmpR op_in_seq (pv 1) (pe_fld (pv 0) rfl) (by rfl)))), ?_⟩
  cases ht with
  | leaf _ => cases hk
  | @grp p dx lr lp ln rs ps vs h1 h2 h3 h4 hl hf =>
    refine ⟨_, rfl, _, rfl, p, _, dx, _, _, rfl, h1, T.c_Group, T.n_Group_names, gf_names, ln, _, rfl, .inl (SqL.of h4), rfl, flat_strs _, ?_⟩
    rw [inV_str]
    exact q
/-! ### both kinds at once -/
variable {X : Cx}
theorem pe_width {T : Txt K mg} {e : Expr} {te : TE} {pos : Pos} (hK : X.K = K) (hx : PE X e te) (g1 : FnOk X.prog X.w X.K X.mg X.base CX0 1 T.f_Leaf_width T.d_Leaf_width ["self"] (spWidth T.a_Leaf T.a_Group true)) (g2 : FnOk X.prog X.w X.K X.mg X.base CX0 1 T.f_Group_width T.d_Group_width ["self"] (spWidth T.a_Leaf T.a_Group false))
    (hr : Room 2 X.A) (hab : attributeBase e "width" X.env (eval e X.env) = eval e X.env) : PE X (.Attribute e "width" pos) (teor (tProp T.a_Leaf (spWidth T.a_Leaf T.a_Group true) [] E0 te) (tProp T.a_Group (spWidth T.a_Leaf T.a_Group false) [] E0 te)) := by
  subst hK
  exact pe_or2 (pe_prop hx T.c_Leaf T.P_Leaf_width g1 hr T.b_Leaf_width .nil pass0 hab) (pe_prop hx T.c_Group T.P_Group_width g2 hr T.b_Group_width .nil pass0 hab)
end
theorem rd_width {cL cG : Addr} {σ : L2.St} {H : Hp} {te : TE} {v : V} {t : Tr} (h : Ev te σ H v) (ht : TAt cL cG H v t) : Ev (teor (tProp cL (spWidth cL cG true) [] E0 te) (tProp cG (spWidth cL cG false) [] E0 te)) σ H (.int (t.width : Nat)) := fun H1 e1 Q q => by
  cases ht with
  | @leaf p dx x h0 => exact .inl (h H1 e1 _ fun H2 e2 => ⟨p, dx, _, rfl, e2 _ _ (e1 _ _ h0), _, .leaf x, rfl, rfl, .leaf (e2 _ _ (e1 _ _ h0)), q H2 e2⟩)
  | @grp p dx lr lp ln rs ps vs h1 h2 h3 h4 hl hf =>
    have w : TAt cL cG H (.ref p) (.grp rs ps) := .grp h1 h2 h3 h4 hl hf
    exact .inr (h H1 e1 _ fun H2 e2 => ⟨p, dx, _, rfl, e2 _ _ (e1 _ _ h1), _, .grp rs ps, rfl, rfl, (w.mono e1).mono e2, q H2 e2⟩)
end Rk
set_option Elab.async false
set_option linter.all false
set_option maxRecDepth 100000
set_option maxHeartbeats 4000000
namespace Rk
open PySem PySem.Spec PyProof.Rows L2 RkO
open Evl (Ev EvT EvA EvL EvU EvO Ex RC RCL SpV SpL)
section
variable {K : PySem.W.Frag} {σ : L2.St} {H H' : Hp} {ta tb te tx : TE} {t u : TT} {x y z v : V} {r : R2}
theorem ev_sumN {ns : List Int} (h : EvL te σ H (ns.map V.int)) : Ev (tCB (rSum K) (tCons te tNil)) σ H (.int ns.sum) := fun H1 e Q q =>
  h H1 e _ fun p H2 _ e2 h2 => ⟨p, ns, rfl, SqL.of h2, q H2 e2⟩
/-- [y for x in xs for y in e(x)], each e(x) a new list -/
theorem el_lc2 {α : Type} {a : Addr} {xs : List α} {g : α → V} {f : α → List V} {tl ti : TE} {j j1 : Nat} {vs vs1 : List Nat} (h : Ev tl σ H (.ref a)) (hx : SqL K H a (xs.map g)) (hz : ∀ i, ((xs.take i).map f).flatten.length ≤ 40000)
    (hw : ∀ x, wipe ((wipe σ vs).set j (some x)) vs = wipe σ vs) (hw1 : ∀ x y, wipe ((wipe ((wipe σ vs).set j (some x)) vs1).set j1 (some y)) vs1 = wipe ((wipe σ vs).set j (some x)) vs1)
    (hj : ∀ x y, ((wipe ((wipe σ vs).set j (some x)) vs1).set j1 (some y))[j1]? = some (some y)) (he : ∀ (x : α) H1, Ex H H1 → x ∈ xs → EvL ti ((wipe σ vs).set j (some (g x))) H1 (f x)) :
    EvL (tLc2 (iList K tl) (gName j) tYes (iList K ti) (gName j1) tYes (tVar j1) vs vs1) σ H (xs.map f).flatten := fun H0 e Q q => h H0 e _ fun H1 e1 => ⟨a, rfl, ⟨_, Evl.ex_l (e.trans e1) hx⟩, fun Dl hD => by
  refine ⟨fun i m H' => m = xs.length - i ∧ i ≤ xs.length ∧ H1 Dl = none ∧ Ex H1 H' ∧ H' Dl = some (.lst ((xs.take i).map f).flatten), ⟨_, rfl, Nat.zero_le _, hD, Ex.new hD, upd_same⟩, ?_⟩
  rintro i m H' ⟨rfl, hi, p1, p2, p3⟩
  have hq : SqL K H' a (xs.map g) := Evl.ex_l ((e.trans e1).trans p2) hx
  by_cases hlt : i < xs.length
  · refine .inr ⟨⟨_, g xs[i], hq, by rw [List.getElem?_map, List.getElem?_eq_getElem hlt]; rfl⟩, fun H' => i + 1 ≤ xs.length ∧ Ex H1 H' ∧ H' Dl = some (.lst ((xs.take (i + 1)).map f).flatten), fun H2 p => ⟨xs.length - (i + 1), by omega, rfl, p.1, p1, p.2.1, p.2.2⟩, fun x H2 y => ?_⟩
    obtain ⟨rfl, y⟩ := y
    have ex : x = g xs[i] := by
      have := y _ hq
      rw [List.getElem?_map, List.getElem?_eq_getElem hlt] at this
      exact (Option.some.inj this).symm
    subst ex
    refine ⟨hw _, ?_⟩
    simp only [tYes, ↓reduceIte]
    refine he xs[i] H1 (e.trans e1) (List.getElem_mem hlt) H2 p2 _ fun b H4 nb e4 hb => ⟨b, rfl, ⟨_, SqL.of hb⟩, ?_⟩
    have nbD : b ≠ Dl := fun z => by rw [z, p3] at nb; cases nb
    have hpre : (xs.take (i + 1)).map f = (xs.take i).map f ++ [f xs[i]] := by rw [List.take_add_one, List.getElem?_eq_getElem hlt, List.map_append]; rfl
    have hlen := hz (i + 1)
    rw [hpre, List.flatten_append, List.length_append] at hlen
    have hfl : [f xs[i]].flatten = f xs[i] := by simp
    rw [hfl] at hlen
    refine ⟨fun k m H' => m = (f xs[i]).length - k ∧ k ≤ (f xs[i]).length ∧ Ex H1 H' ∧ H' b = some (.lst (f xs[i])) ∧ H' Dl = some (.lst (((xs.take i).map f).flatten ++ (f xs[i]).take k)), ⟨_, rfl, Nat.zero_le _, p2.trans e4, hb, by rw [List.take_zero, List.append_nil]; exact e4 _ _ p3⟩, ?_⟩
    rintro k m H5 ⟨rfl, hk, q2, qb, q3⟩
    by_cases hkl : k < (f xs[i]).length
    · refine .inr ⟨⟨_, (f xs[i])[k], SqL.of qb, by simp [hkl]⟩, fun H' => k + 1 ≤ (f xs[i]).length ∧ Ex H1 H' ∧ H' b = some (.lst (f xs[i])) ∧ H' Dl = some (.lst (((xs.take i).map f).flatten ++ (f xs[i]).take (k + 1))), fun H' p => ⟨_, by omega, rfl, p.1, p.2.1, p.2.2.1, p.2.2.2⟩, fun y H6 z => ?_⟩
      obtain ⟨rfl, z⟩ := z
      have ey : (f xs[i])[k]? = some y := z _ (SqL.of qb)
      refine ⟨hw1 _ _, ?_⟩
      simp only [tYes, ↓reduceIte]
      refine ⟨y, hj _ _, _, q3, ?_, hkl, Ex.mut q2 p1, ?_, ?_⟩
      · rw [List.length_append, List.length_take]
        exact Evl.sz_lt (by omega)
      · rw [upd_ne nbD]
        exact qb
      · rw [upd_same, List.take_add_one, ey, List.append_assoc]
        rfl
    · have ek : k = (f xs[i]).length := by omega
      subst ek
      refine .inl ⟨⟨_, SqL.of qb, Nat.le_refl _⟩, hlt, q2, ?_⟩
      rw [q3, List.take_length, hpre, List.flatten_append, hfl]
  · have ei : i = xs.length := by omega
    subst ei
    refine .inl ⟨⟨_, hq, by rw [List.length_map]; exact Nat.le_refl _⟩, q Dl H' (Evl.fresh_back e1 p1) (e1.trans p2) ?_⟩
    rw [p3, List.take_length]⟩
end
section
variable {P : Program} {w : World} {K : PySem.W.Frag} {mg : Str → Option Value} {base : Heap}
/-! ### _intake_of -/
def spIntake (K : PySem.W.Frag) (cL cG : Addr) : Sp := fun vs H Q _ => ∃ (a : Addr) (us : List V) (ts : List Tr), vs = [.ref a] ∧ SqL K H a us ∧ FAt cL cG H us ts ∧ ts.length ≤ 40000 ∧ ∀ H', Same H H' → Q (.int (intakeL ts : Nat)) H'
theorem ok_intake_of (T : Txt K mg) : FnOk P w K mg base CX0 3 T.f_intake_of T.d_intake_of ["parts"] (spIntake K T.a_Leaf T.a_Group) := by
  refine T.F_intake_of.ok sc_intake_of (fun vs H Q E h => ?_) (fun cdv A outer s H vs Q E hr h => ?_)
  · obtain ⟨a, us, ts, rfl, _⟩ := h
    rfl
  obtain ⟨a, us, ts, rfl, hS, hF, hl, q⟩ := h
  refine ⟨_, (pss_one (ps_ret (pe_callB (cr_sum rfl) (by rfl) T.m_sum (by decide +kernel) (pa_cons (pe_lc (own := [("part", 1)]) rfl sc_intake_of.nd  (pi_list (pv 0)) (blkOk_by (own := [("part", 1)]) (N := ["parts", "part"]) (sc := defScope s_intake_of) (by decide +kernel)) (fun _ _ _ _ _ => (pg_name (i := 1) sc_intake_of.nd rfl (.inl rfl))) (fun _ _ _ _ _ => pts_nil) (fun _ _ _ _ _ => (pe_width (T := T) rfl (pv 1) (ok_Leaf_width T) (ok_Group_width T) (hr.mono (by decide)) rfl))) pa_nil)))), ?_⟩
  obtain ⟨e1, e2, hz⟩ := hF.zip
  refine Evl.s_ret (v := .int (intakeL ts : Nat)) ?_ fun H1 e => q H1 e
  have es : ((us.zip ts).map fun p => ((p.2.width : Nat) : Int)).sum = (intakeL ts : Nat) := by
    rw [intakeL_sum, ← show ((us.zip ts).map Prod.snd).map (fun t => ((t.width : Nat) : Int)) = (us.zip ts).map fun p => ((p.2.width : Nat) : Int) by rw [List.map_map]; rfl, ← e2]
  rw [← es]
  refine ev_sumN ?_
  rw [List.map_map]
  refine el_lcM (xs := us.zip ts) (g := Prod.fst) (Evl.ev_var rfl) (by rw [← e1]; exact hS) (by rw [List.length_zip]; omega) (fun x => rfl) fun p H1 ex hp => ?_
  exact rd_width (Evl.ev_var rfl) ((hz p hp).mono ex)
end
end Rk
set_option Elab.async false
set_option linter.all false
set_option maxRecDepth 100000
set_option maxHeartbeats 4000000
namespace Rk
open PySem PySem.Spec PyProof.Rows L2 RkO
open Evl (Ev EvT EvA EvL EvU EvO Ex RC RCL SpV SpL)
section
variable {K : PySem.W.Frag} {mg : Str → Option Value} {X : Cx}
theorem pe_names {T : Txt K mg} {e : Expr} {te : TE} {pos apos : Pos} {pl : Sem Bool} (hK : X.K = K) (hx : PE X e te) (g1 : FnOk X.prog X.w X.K X.mg X.base CX0 1 T.f_Leaf_names T.d_Leaf_names ["self"] (spNames T.a_Leaf T.a_Group true)) (g2 : FnOk X.prog X.w X.K X.mg X.base CX0 1 T.f_Group_names T.d_Group_names ["self"] (spNames T.a_Leaf T.a_Group false))
    (hr : Room 1 X.A) (ht : eval (.Call (.Attribute e "names" apos) [] [] pos) X.env = (do
      let ov ← eval e X.env
      standAt apos.atName
      let (f, first) ← holding [ov] (getMethod ov "names" pl)
      callWith pos f first (backTo pos (starEach [] X.env)) (backToKw pos (keywordEach [] X.env))) := by rfl) :
    PE X (.Call (.Attribute e "names" apos) [] [] pos) (teor (tMeth T.a_Leaf "names" (spNames T.a_Leaf T.a_Group true) [] E0 te tNil) (tMeth T.a_Group "names" (spNames T.a_Leaf T.a_Group false) [] E0 te tNil)) := by
  subst hK
  exact pe_or2 (pe_meth0 hx T.c_Leaf T.M_Leaf_names g1 hr T.b_Leaf_names .nil pass0 ht) (pe_meth0 hx T.c_Group T.M_Group_names g2 hr T.b_Group_names .nil pass0 ht)
theorem rd_names {cL cG : Addr} {σ : L2.St} {H : Hp} {te : TE} {v : V} {t : Tr} (h : Ev te σ H v) (ht : TAt cL cG H v t) :
    EvL (teor (tMeth cL "names" (spNames cL cG true) [] E0 te tNil) (tMeth cG "names" (spNames cL cG false) [] E0 te tNil)) σ H (t.names.map V.str) := fun H1 e1 Q q => by
  cases ht with
  | @leaf p dx x h0 => exact .inl (h H1 e1 _ fun H2 e2 => ⟨p, dx, _, rfl, e2 _ _ (e1 _ _ h0), lf_no (by decide +kernel), _, .leaf x, rfl, rfl, .leaf (e2 _ _ (e1 _ _ h0)), fun z H' hz e3 h3 => q z H' (Evl.fresh_back e2 hz) (e2.trans e3) h3⟩)
  | @grp p dx lr lp ln rs ps vs h1 h2 h3 h4 hl hf =>
    have w : TAt cL cG H (.ref p) (.grp rs ps) := .grp h1 h2 h3 h4 hl hf
    exact .inr (h H1 e1 _ fun H2 e2 => ⟨p, dx, _, rfl, e2 _ _ (e1 _ _ h1), gf_no (by decide +kernel) (by decide +kernel) (by decide +kernel) (by decide +kernel), _, .grp rs ps, rfl, rfl, (w.mono e1).mono e2, fun z H' hz e3 h3 => q z H' (Evl.fresh_back e2 hz) (e2.trans e3) h3⟩)
end
section
variable {P : Program} {w : World} {K : PySem.W.Frag} {mg : Str → Option Value} {base : Heap}
/-! ### _names_of -/
def spNamesOf (K : PySem.W.Frag) (cL cG : Addr) : Sp := fun vs H Q _ => ∃ (a : Addr) (us : List V) (ts : List Tr), vs = [.ref a] ∧ SqL K H a us ∧ FAt cL cG H us ts ∧ (namesL ts).length ≤ 40000 ∧ ∀ p H', H p = none → Same H H' → H' p = some (.lst ((namesL ts).map V.str)) → Q (.ref p) H'
theorem ok_names_of (T : Txt K mg) : FnOk P w K mg base CX0 2 T.f_names_of T.d_names_of ["parts"] (spNamesOf K T.a_Leaf T.a_Group) := by
  refine T.F_names_of.ok sc_names_of (fun vs H Q E h => ?_) (fun cdv A outer s H vs Q E hr h => ?_)
  · obtain ⟨a, us, ts, rfl, _⟩ := h
    rfl
  obtain ⟨a, us, ts, rfl, hS, hF, hl, q⟩ := h
  refine ⟨_, (pss_one (ps_ret (by refine' pe_lc2 (own := [("part", 1), ("name", 2)]) (vs1 := [2]) rfl sc_names_of.nd  (pi_list (pv 0)) (blkOk_by (own := [("part", 1), ("name", 2)]) (N := ["parts", "part", "name"]) (sc := defScope s_names_of) (by decide +kernel)) (by decide) (fun _ _ _ _ _ => (pg_name (i := 1) sc_names_of.nd rfl (.inl rfl))) (fun _ _ _ _ _ => pts_nil) ?i1 ?g1 ?t1 ?e1; (case i1 => exact (fun _ _ _ _ _ => (pi_listK (K := K) rfl (pe_names (T := T) rfl (pv 1) (ok_Leaf_names T) (ok_Group_names T) (hr.mono (by decide)))))); (case g1 => exact (fun _ _ _ _ _ => (pg_name (i := 2) sc_names_of.nd rfl (.inl rfl)))); (case t1 => exact (fun _ _ _ _ _ => pts_nil)); (case e1 => exact (fun _ _ _ _ _ => (pv 2)))))), ?_⟩
  obtain ⟨e1, e2, hz⟩ := hF.zip
  have ef : ∀ l : List (V × Tr), (l.map fun p => p.2.names.map V.str).flatten = (namesL (l.map Prod.snd)).map V.str := fun l => by
    rw [namesL_flat, List.map_map, List.map_flatten, List.map_map]
    rfl
  refine Evl.s_retL (xs := ((us.zip ts).map fun p => p.2.names.map V.str).flatten) ?_ fun p H1 np e h => q p H1 np e (by rw [h, ef, ← e2])
  refine el_lc2 (xs := us.zip ts) (g := Prod.fst) (Evl.ev_var rfl) (by rw [← e1]; exact hS) (fun i => ?_) (fun x => rfl) (fun x y => rfl) (fun x y => rfl) fun p H1 ex hp => ?_
  · rw [ef, List.length_map]
    refine Nat.le_trans ?_ hl
    have : (namesL (((us.zip ts).take i).map Prod.snd)).length ≤ (namesL ((us.zip ts).map Prod.snd)).length := by
      conv => rhs; rw [← List.take_append_drop i (us.zip ts), List.map_append, namesL_append, List.length_append]
      omega
    rwa [← e2] at this
  · exact rd_names (Evl.ev_var rfl) ((hz p hp).mono ex)
/-! ### is_tree, of a tree -/
theorem ty_tree (T : Txt K mg) {H : Hp} {v : V} {t : Tr} (h : TAt T.a_Leaf T.a_Group H v t) : ∃ c, TyX K H v (.ref c) ∧ ((c = T.a_Leaf ∧ knd t = true) ∨ (c = T.a_Group ∧ knd t = false)) := by
  cases h with
  | leaf h => exact ⟨_, .base (.ins h T.c_Leaf T.ca_Leaf T.gc T.tc T.mo_Leaf), .inl ⟨rfl, rfl⟩⟩
  | grp h _ _ _ _ _ => exact ⟨_, .base (.ins h T.c_Group T.ca_Group T.gc T.tc T.mo_Group), .inr ⟨rfl, rfl⟩⟩
theorem kit_self {K : PySem.W.Frag} {c : Addr} : PySem.W.kitOne K (.ref c) (.ref c) = some true := by
  unfold PySem.W.kitOne
  rw [if_pos (beq_self_eq_true _)]
def spIsTree (cL cG : Addr) : Sp := fun vs H Q _ => ∃ v t, vs = [v] ∧ TAt cL cG H v t ∧ ∀ H', Same H H' → Q (.bl true) H'
theorem ok_is_tree (T : Txt K mg) : FnOk P w K mg base CX0 1 T.f_is_tree T.d_is_tree ["value"] (spIsTree T.a_Leaf T.a_Group) := by
  refine T.F_is_tree.ok sc_is_tree (fun vs H Q E h => ?_) (fun cdv A outer s H vs Q E hr h => ?_)
  · obtain ⟨v, t, rfl, _⟩ := h
    rfl
  obtain ⟨v, t, rfl, ht, q⟩ := h
  refine ⟨_, (pss_one (ps_ret (pe_callB call_isiT (by rfl) T.m_isinstance (by decide +kernel) (pa_cons (pv 0) (pa_cons (pe_tup (pa_cons (pe_glob (v := .ref T.a_Leaf) rfl T.m_Leaf rfl) (pa_cons (pe_glob (v := .ref T.a_Group) rfl T.m_Group rfl) pa_nil))) pa_nil))))), ?_⟩
  refine ⟨_, rfl, (by show 2 ≤ sizeLine; decide), fun z hz => ?_⟩
  have e := same_new hz (.tup [.ref T.a_Leaf, .ref T.a_Group])
  obtain ⟨c, ty, hc⟩ := ty_tree T (ht.mono e)
  refine ⟨_, z, [.ref T.a_Leaf, .ref T.a_Group], _, _, _, rfl, upd_same, .cons (.own _) (.cons (.own _) .nil), ty, ?_, q _ e⟩
  rcases hc with ⟨rfl, _⟩ | ⟨rfl, _⟩
  · exact kitAny_cons kit_self (fun z => by cases z) fun _ => rfl
  · exact kitAny_cons T.is_Group_Leaf (fun _ => kitAny_cons kit_self (fun z => by cases z) fun _ => rfl) (fun z => by cases z)
end
end Rk
set_option Elab.async false
set_option linter.all false
set_option maxRecDepth 100000
set_option maxHeartbeats 4000000
namespace RkO
open PySem PySem.Spec PyProof.Rows L2
variable {X : Cx} {K : PySem.W.Frag}
theorem pg_K {tg : Expr} {g : PySem.W.Frag → TG} (hK : X.K = K) (h : PG X tg (g X.K)) : PG X tg (g K) := by
  subst hK
  exact h
end RkO
set_option Elab.async false
set_option linter.all false
set_option maxRecDepth 100000
set_option maxHeartbeats 4000000
namespace Rk
open PySem PySem.Spec PyProof.Rows L2 RkO
open Evl (Ev EvT EvA EvL EvU EvO Ex RC RCL SpV SpL)
section
variable {K : PySem.W.Frag} {σ : L2.St} {H H' : Hp} {ta tb te tx : TE} {t u : TT} {x y z v : V} {r : R2}
theorem ev_andB {a b : Bool} (h1 : Ev ta σ H (.bl a)) (h2 : a = true → Ev tb σ H (.bl b)) : Ev (tAndV ta tb) σ H (.bl (a && b)) := Evl.ev_andV h1 h2
theorem all_true {α : Type} (xs : List α) : (xs.map fun _ => true).all id = true := by
  rw [List.all_map]
  exact List.all_eq_true.mpr fun _ _ => rfl
end
section
variable {P : Program} {w : World} {K : PySem.W.Frag} {mg : Str → Option Value} {base : Heap}
/-! ### _are_parts, of trees -/
def spAreParts (K : PySem.W.Frag) (cL cG : Addr) : Sp := fun vs H Q _ => ∃ (a : Addr) (us : List V) (ts : List Tr), vs = [.ref a] ∧ SqL K H a us ∧ TyX K H (.ref a) (.type "list") ∧ FAt cL cG H us ts ∧ ts ≠ [] ∧ (∀ t ∈ ts, Ok t) ∧ (namesL ts).length ≤ 1000 ∧ ∀ H', Same H H' → Q (.bl (decide (namesL ts).Nodup)) H'
theorem ok_are_parts (T : Txt K mg) : FnOk P w K mg base CX0 3 T.f_are_parts T.d_are_parts ["value"] (spAreParts K T.a_Leaf T.a_Group) := by
  refine T.F_are_parts.ok sc_are_parts (fun vs H Q E h => ?_) (fun cdv A outer s H vs Q E hr h => ?_)
  · obtain ⟨a, us, ts, rfl, _⟩ := h
    rfl
  obtain ⟨a, us, ts, rfl, hS, ty, hF, hne, hok, hl, q⟩ := h
  refine ⟨_, (pss_cons (ps_if (PW.pt (pw_or (pt_not (pt_val (pe_callB call_isi (by rfl) T.m_isinstance (by decide +kernel) (pa_cons (pv 0) (pa_cons (pe_bltn (v := .ty "list") (by rfl) T.m_list (by decide +kernel) rfl) pa_nil))))) (pw_or1 (pt_cmpR op_eq (pe_callB call_len_seq (by rfl) T.m_len PySem.boot_len (pa_cons (pv 0) pa_nil)) pe_int (nomark _))))) (pss_one (ps_ret pe_bl)) pss_nil)
  (pss_one (ps_ret (pe_and (pe_callB (cr_all rfl) (by rfl) T.m_all (by decide +kernel) (pa_cons (pe_lc (own := [("part", 1)]) rfl sc_are_parts.nd  (pi_list (pv 0)) (blkOk_by (own := [("part", 1)]) (N := ["value", "part"]) (sc := defScope s_are_parts) (by decide +kernel)) (fun _ _ _ _ _ => (pg_name (i := 1) sc_are_parts.nd rfl (.inl rfl))) (fun _ _ _ _ _ => pts_nil) (fun _ _ _ _ _ => (pe_call (ok_is_tree T) (hr.mono (by decide)) rfl T.m_is_tree T.F_is_tree.kp T.b_is_tree .nil pass0 (pa_cons (pv 1) pa_nil)))) pa_nil)) (pe_one (pe_call (ok_are_names T) (hr.mono (by decide)) rfl T.m_are_names T.F_are_names.kp T.b_are_names .nil pass0 (pa_cons (pe_call (ok_names_of T) (hr.mono (by decide)) rfl T.m_names_of T.F_names_of.kp T.b_names_of .nil pass0 (pa_cons (pv 0) pa_nil)) pa_nil))))))), ?_⟩
  obtain ⟨e1, e2, hz⟩ := hF.zip
  have hpl := parts_le hok
  refine ⟨_, rfl, _, _, _, _, _, rfl, .ty "list", ty, (show PySem.W.kitOne _ (.type "list") (.type "list") = some true by rfl), _, rfl, ?_⟩
  refine iteF ?_
  refine ⟨_, rfl, a, _, rfl, .inl hS, rfl, _, rfl, ?_⟩
  refine ifD (fun c => ?_) (fun c => ?_)
  · have c' : ((us.length : Nat) : Int) = 0 := V.int.inj c
    have : ts.length = 0 := by rw [← hF.1]; omega
    exact absurd (List.length_eq_zero_iff.mp this) hne
  refine nxt ?_
  dsimp only
  have nok : ∀ x ∈ namesL ts, nameOk x = true := fun x hx => by
    obtain ⟨t, ht, hx⟩ := mem_namesL hx
    exact (hok t ht).names_ok x hx
  refine Evl.s_ret (v := .bl (decide (namesL ts).Nodup)) ?_ fun H1 e => q H1 e
  refine Evl.ev_is (ev_andB (a := true) (b := decide (namesL ts).Nodup) ?_ fun _ => ?_) rfl
  · refine Evl.ev_is (ev_allN (xs := (us.zip ts).map fun _ => true) ?_) (congrArg V.bl (all_true _))
    rw [List.map_map]
    refine el_lcM (xs := us.zip ts) (g := Prod.fst) (Evl.ev_var rfl) (by rw [← e1]; exact hS) (by rw [List.length_zip]; omega) (fun x => rfl) fun p H1 ex hp => ?_
    exact Evl.ev_call (Evl.ea_cons (Evl.ev_var rfl) Evl.ea_nil) fun H2 e2 Q q E => ⟨_, _, rfl, ((hz p hp).mono ex).mono e2, q⟩
  · intro H1 ex Q' q'
    refine ⟨_, rfl, a, us, ts, rfl, Evl.ex_l ex hS, hF.mono ex, by omega, fun p H2 np e2 hp => ?_⟩
    refine ⟨p, namesL ts, rfl, SqL.of hp, .base (.lst hp), hl, fun x hx => by have := nameOk_len (nok x hx); omega, fun H3 e3 => ?_⟩
    rw [List.all_eq_true.mpr nok, Bool.true_and]
    exact q' H3 (e2.trans e3)
/-! ### _are_ranks, of right ones -/
theorem asc_pairs {rs : List Int} (h : Asc rs) {i : Nat} {x y : Int} (hx : rs[i]? = some x) (hy : (rs.drop 1)[i]? = some y) : x < y := by
  rw [List.getElem?_drop] at hy
  obtain ⟨h1, e1⟩ := List.getElem?_eq_some_iff.mp hx
  obtain ⟨h2, e2⟩ := List.getElem?_eq_some_iff.mp hy
  rw [← e1, ← e2]
  exact List.pairwise_iff_getElem.mp h i (1 + i) h1 h2 (by omega)
def spAreRanks (K : PySem.W.Frag) : Sp := fun vs H Q _ => ∃ (a : Addr) (rs : List Int) (m : Int), vs = [.ref a, .int m] ∧ SqL K H a (rs.map V.int) ∧ TyX K H (.ref a) (.type "list") ∧ rs ≠ [] ∧ rs.length ≤ 1000 ∧ Asc rs ∧ (∀ r ∈ rs, 1 ≤ r ∧ r ≤ m) ∧ ∀ H', Same H H' → Q (.bl true) H'
theorem cut1 (xs : List V) : cutV xs (some 1) none = xs.drop 1 := by
  unfold cutV
  rw [show HT.sIx xs.length 0 (some 1) = min 1 xs.length from HT.sIx_nat xs.length 0 1, HT.sIx_none]
  cases xs with
  | nil => rfl
  | cons x r =>
    rw [show min 1 (x :: r).length = 1 by rw [List.length_cons]; omega]
    show List.take ((x :: r).length - 1) r = r
    rw [List.length_cons, Nat.add_sub_cancel, List.take_length]
theorem ok_are_ranks (T : Txt K mg) : FnOk P w K mg base CX0 2 T.f_are_ranks T.d_are_ranks ["value", "intake"] (spAreRanks K) := by
  refine T.F_are_ranks.ok sc_are_ranks (fun vs H Q E h => ?_) (fun cdv A outer s H vs Q E hr h => ?_)
  · obtain ⟨a, rs, m, rfl, _⟩ := h
    rfl
  obtain ⟨a, rs, m, rfl, hS, ty, hne, hl, ha, hb, q⟩ := h
  refine ⟨_, (pss_cons (ps_if (PW.pt (pw_or (pt_not (pt_val (pe_callB call_isi (by rfl) T.m_isinstance (by decide +kernel) (pa_cons (pv 0) (pa_cons (pe_bltn (v := .ty "list") (by rfl) T.m_list (by decide +kernel) rfl) pa_nil))))) (pw_or (pt_cmpR op_eq (pe_callB call_len_seq (by rfl) T.m_len PySem.boot_len (pa_cons (pv 0) pa_nil)) pe_int (nomark _)) (pw_or1 (pt_not (pt_val (pe_callB (cr_all rfl) (by rfl) T.m_all (by decide +kernel) (pa_cons (pe_lc (own := [("rank", 3)]) rfl sc_are_ranks.nd  (pi_list (pv 0)) (blkOk_by (own := [("rank", 3)]) (N := ["value", "intake", "ascending", "rank", "low", "high"]) (sc := defScope s_are_ranks) (by decide +kernel)) (fun _ _ _ _ _ => (pg_name (i := 3) sc_are_ranks.nd rfl (.inl rfl))) (fun _ _ _ _ _ => pts_nil) (fun _ _ _ _ _ => (pe_call (ok_is_whole T) (hr.mono (by decide)) rfl T.m_is_whole T.F_is_whole.kp T.b_is_whole .nil pass0 (pa_cons (pv 3) pa_nil)))) pa_nil)))))))) (pss_one (ps_ret pe_bl)) pss_nil)
  (pss_cons (ps_set (i := 2) sc_are_ranks.nd rfl (Or.inl rfl) (pe_callB (cr_all rfl) (by rfl) T.m_all (by decide +kernel) (pa_cons (pe_lc (own := [("low", 4), ("high", 5)]) rfl sc_are_ranks.nd  (pi_zip (by rfl) T.m_zip (pa_cons (pv 0) (pa_cons (pe_slice sl_list (pv 0) (po_some pe_int) po_none) pa_nil))) (blkOk_by (own := [("low", 4), ("high", 5)]) (N := ["value", "intake", "ascending", "rank", "low", "high"]) (sc := defScope s_are_ranks) (by decide +kernel)) (fun _ _ _ _ _ => (by exact (pg_K (K := K) (g := fun K => gTup K 2 (gCons (gName 4) (gCons (gName 5) gNil))) rfl (by exact (pg_tup rfl (pgs_cons (pg_name (i := 4) sc_are_ranks.nd rfl (.inl rfl)) (pgs_cons (pg_name (i := 5) sc_are_ranks.nd rfl (.inl rfl)) pgs_nil))))))) (fun _ _ _ _ _ => pts_nil) (fun _ _ _ _ _ => (pe_cmpR op_lt (pv 4) (pv 5) (nomark _)))) pa_nil)))
  (pss_one (ps_ret (pe_and (pv 2) (pe_and (pe_cmpR op_le pe_int (pe_ix ix_list (pv 0) pe_int (fun _ _ => rfl)) (nomark _)) (pe_one (pe_cmpR op_le (pe_ix ix_list (pv 0) (pe_un un_neg pe_int) (fun _ _ => rfl)) (pv 1) (nomark _))))))))), ?_⟩
  refine ⟨_, rfl, _, _, _, _, _, rfl, .ty "list", ty, (show PySem.W.kitOne _ (.type "list") (.type "list") = some true by rfl), _, rfl, ?_⟩
  refine iteF ?_
  refine ⟨_, rfl, a, _, rfl, .inl hS, rfl, _, rfl, ?_⟩
  refine ifD (fun c => ?_) (fun c => ?_)
  · have c' : (((rs.map V.int).length : Nat) : Int) = 0 := V.int.inj c
    rw [List.length_map] at c'
    exact absurd (List.length_eq_zero_iff.mp (by omega)) hne
  have whole : ∀ H1, Ex H H1 → ∀ Q' : V → Hp → Prop, (∀ H2, Ex H1 H2 → Q' (.bl true) H2) → tCB (rAll K) (tCons (tLc (iList K (tVar 0)) (gName 3) tYes (tCall (spIsWhole K) [] E0 (tCons (tVar 3) tNil)) [3]) tNil) [some (.ref a), some (.int m), none, none, none, none] H1 Q' := by
    refine Evl.ev_is (ev_allN (xs := rs.map fun _ => true) ?_) (congrArg V.bl (all_true _))
    rw [List.map_map]
    refine el_lcM (xs := rs) (g := V.int) (Evl.ev_var rfl) hS (by omega) (fun x => rfl) fun r H1 ex hp => ?_
    exact Evl.ev_call (Evl.ea_cons (Evl.ev_var rfl) Evl.ea_nil) fun H2 e2 Q q E => ⟨_, _, true, false, rfl, .base (.int r), (show PySem.W.kitOne _ (.type "int") (.type "int") = some true by rfl), fun _ => kit_ty (by decide +kernel), q H2 (Ex.refl H2)⟩
  refine whole H (Ex.refl H) _ fun H1 e1 => ⟨_, rfl, ?_⟩
  refine iteF ?_
  refine nxt ?_
  dsimp only
  -- ascending
  have hS1 : SqL K H1 a (rs.map V.int) := Evl.ex_l e1 hS
  refine ⟨_, rfl, _, rfl, _, rfl, a, _, rfl, hS1, fun c nc => ?_⟩
  have e2 : Ex H1 (upd H1 c (.lst (cutV (rs.map V.int) (some 1) none))) := Ex.new nc
  have hc : SqL K (upd H1 c (.lst (cutV (rs.map V.int) (some 1) none))) c ((rs.drop 1).map V.int) := SqL.of (by rw [upd_same, cut1, List.map_drop])
  generalize upd H1 c (.lst (cutV (rs.map V.int) (some 1) none)) = H2 at e2 hc ⊢
  refine ⟨a, c, _, _, rfl, Evl.ex_l e2 hS1, hc, fun Dl hD => ?_⟩
  refine lc_it (walk_zip rfl) (fun i H' => H2 Dl = none ∧ Ex H2 H' ∧ H' Dl = some (.lst ((List.range i).map fun _ => V.bl true))) ⟨hD, Ex.new hD, upd_same⟩ (fun i H' _ p => ⟨Evl.ex_l (e2.trans p.2.1) hS1, Evl.ex_l p.2.1 hc⟩) (fun i x H' H'' hi p y => ?_) (fun H' p => ?_)
  · obtain ⟨p1, p2, p3⟩ := p
    obtain ⟨Tt, x1, x2, rfl, nT, rfl, g1, g2⟩ := y
    dsimp only at g1 g2
    rw [List.getElem?_map] at g1 g2
    obtain ⟨r1, hr1, rfl⟩ := Option.map_eq_some_iff.mp g1
    obtain ⟨r2, hr2, rfl⟩ := Option.map_eq_some_iff.mp g2
    have lt : r1 < r2 := asc_pairs ha hr1 hr2
    have neT : Dl ≠ Tt := ne_of_none p3 nT
    refine ⟨Tt, _, rfl, SqT.of upd_same, rfl, _, _, rfl, _, _, rfl, rfl, rfl, ?_⟩
    refine ⟨_, rfl, _, rfl, _, _, rfl, rfl, _, by rw [upd_ne neT]; exact p3, ?_, p1, Ex.mut (p2.trans (Ex.new nT)) p1, ?_⟩
    · rw [List.length_map, List.length_range]
      rw [List.length_map] at hi
      exact Evl.sz_lt (by omega)
    · rw [upd_same, List.range_succ, List.map_append]
      dsimp only
      rw [decide_eq_true lt]
      rfl
  · obtain ⟨p1, p2, p3⟩ := p
    refine ⟨Dl, (List.range (min (rs.map V.int).length ((rs.drop 1).map V.int).length)).map (fun _ => true), rfl, SqL.of (by rw [p3, List.map_map]; rfl), ?_⟩
    rw [all_true]
    refine ⟨_, rfl, _, rfl, iteT ?_⟩
    have hS3 : SqL K H' a (rs.map V.int) := Evl.ex_l (e2.trans p2) hS1
    have same : Same H H' := fun b o z => p2 b o (e2 b o (e1 b o z))
    cases rs with
    | nil => exact absurd rfl hne
    | cons r0 rest =>
      refine ⟨_, rfl, a, _, 0, _, rfl, rfl, hS3, atI_nat (j := 0) rfl, _, _, rfl, rfl, _, rfl, ?_⟩
      rw [decide_eq_true (hb r0 (List.mem_cons_self ..)).1]
      refine iteT ?_
      have hz : ((r0 :: rest).map V.int) = ((r0 :: rest).dropLast.map V.int) ++ [.int ((r0 :: rest).getLast (List.cons_ne_nil _ _))] := by
        rw [← List.map_singleton, ← List.map_append, List.dropLast_concat_getLast]
      have gl : atI ((r0 :: rest).map V.int) (-1) = some (.int ((r0 :: rest).getLast (List.cons_ne_nil _ _))) := by
        rw [hz]
        exact atI_last _ _
      refine ⟨_, rfl, _, rfl, a, _, -1, _, rfl, rfl, hS3, gl, _, rfl, _, _, rfl, rfl, ?_⟩
      show Q (V.bl (decide ((r0 :: rest).getLast (List.cons_ne_nil _ _) ≤ m))) H'
      rw [decide_eq_true (hb _ (List.getLast_mem (List.cons_ne_nil _ _))).2]
      exact q H' same
/-! ### Group.__init__, of right parts -/
/-- all but the object at p is as it was (p an instance that is being made) -/
def Bp (p : Addr) (H H' : Hp) : Prop := ∀ b o, b ≠ p → H b = some o → H' b = some o
theorem Bp.of {p : Addr} {H H' : Hp} (e : Same H H') : Bp p H H' := fun b o _ h => e b o h
theorem Bp.trans {p : Addr} {H H1 H2 : Hp} (a : Bp p H H1) (b : Bp p H1 H2) : Bp p H H2 := fun c o n h => b c o n (a c o n h)
theorem Bp.upd {p : Addr} {H : Hp} {o : HO} : Bp p H (L2.upd H p o) := fun c u n h => by rw [upd_ne n]; exact h
theorem Bp.sq {K : PySem.W.Frag} {p C dx a : Addr} {fs : List (Str × V)} {H H' : Hp} {xs : List V} (e : Bp p H H') (hp : H p = some (.ins C dx fs)) (h : SqL K H a xs) : SqL K H' a xs := by
  rcases h with (h | ⟨o, h⟩) | h
  · exact .inl (.inl (e a _ (fun z => by rw [z, hp] at h; cases h) h))
  · exact .inl (.inr ⟨o, e a _ (fun z => by rw [z, hp] at h; cases h) h⟩)
  · exact .inr h
theorem ty_list {K : PySem.W.Frag} {H : Hp} {a : Addr} {xs : List V} (h : SqL K H a xs) : TyX K H (.ref a) (.type "list") := by
  rcases h with (h | ⟨o, h⟩) | ⟨o, its, n, h, c, _⟩
  · exact .base (.lst h)
  · exact .base (.frz h)
  · exact .kList h c
theorem lf_ne {x : Str} (h : lf x = []) : False := by
  have q := lf_name (x := x)
  rw [h] at q
  cases q
theorem gf_ne {lr lp ln : Addr} {it : Int} (h : gf lr lp it ln = []) : False := by
  have q := gf_names (lr := lr) (lp := lp) (ln := ln) (it := it)
  rw [h] at q
  cases q
theorem TAt.off {cL cG p C dx : Addr} {H H' : Hp} {v : V} {t : Tr} (h : TAt cL cG H v t) (hp : H p = some (.ins C dx [])) (e : Bp p H H') : TAt cL cG H' v t := by
  have ne : ∀ {a : Addr} {o : HO}, H a = some o → o ≠ .ins C dx [] → a ≠ p := fun {a o} h n z => by
    rw [z, hp] at h
    exact n (Option.some.inj h).symm
  induction h with
  | leaf h => exact .leaf (e _ _ (ne h fun z => lf_ne (HO.ins.inj z).2.2) h)
  | grp h1 h2 h3 h4 hl _ ih => exact .grp (e _ _ (ne h1 fun z => gf_ne (HO.ins.inj z).2.2) h1) (e _ _ (ne h2 nofun) h2) (e _ _ (ne h3 nofun) h3) (e _ _ (ne h4 nofun) h4) hl ih
def spGroupInit (K : PySem.W.Frag) (cL cG : Addr) : Sp := fun vs H Q _ => ∃ (p dx lr lp : Addr) (rs : List Int) (us : List V) (ts : List Tr), vs = [.ref p, .ref lr, .ref lp] ∧ H p = some (.ins cG dx []) ∧ SqL K H lr (rs.map V.int) ∧ TyX K H (.ref lr) (.type "list") ∧ SqL K H lp us ∧ TyX K H (.ref lp) (.type "list") ∧ FAt cL cG H us ts ∧
  Ok (.grp rs ts) ∧ (namesL ts).length ≤ 1000 ∧ ∀ H', (∀ b o, b ≠ p → H b = some o → H' b = some o) → TAt cL cG H' (.ref p) (.grp rs ts) → Q .non H'
theorem ok_Group_init (T : Txt K mg) : FnOk P w K mg base CX0 4 T.f_Group_init T.d_Group_init ["self", "ranks", "parts"] (spGroupInit K T.a_Leaf T.a_Group) := by
  refine T.F_Group_init.ok sc_Group_init (fun vs H Q E h => ?_) (fun cdv A outer s H vs Q E hr h => ?_)
  · obtain ⟨p, dx, lr, lp, rs, us, ts, rfl, _⟩ := h
    rfl
  obtain ⟨p, dx, lr, lp, rs, us, ts, rfl, hp, hR, tyR, hP, tyP, hF, hok, hl, q⟩ := h
  refine ⟨_, (pss_cons (ps_if (PW.pt (pw_or (pt_not (pt_val (pe_call (ok_are_parts T) (hr.mono (by decide)) rfl T.m_are_parts T.F_are_parts.kp T.b_are_parts .nil pass0 (pa_cons (pv 2) pa_nil)))) (pw_or1 (pt_not (pt_val (pe_call (ok_are_ranks T) (hr.mono (by decide)) rfl T.m_are_ranks T.F_are_ranks.kp T.b_are_ranks .nil pass0 (pa_cons (pv 1) (pa_cons (pe_call (ok_intake_of T) (hr.mono (by decide)) rfl T.m_intake_of T.F_intake_of.kp T.b_intake_of .nil pass0 (pa_cons (pv 2) pa_nil)) pa_nil)))))))) (pss_one ps_never) pss_nil)
  (pss_cons (ps_fld (pv 0) (pe_callTy call_list_of (by rfl) T.m_list (by decide +kernel) (pa_cons (pv 1) pa_nil)) rfl)
  (pss_cons (ps_fld (pv 0) (pe_callTy call_list_of (by rfl) T.m_list (by decide +kernel) (pa_cons (pv 2) pa_nil)) rfl)
  (pss_cons (ps_fld (pv 0) (pe_call (ok_intake_of T) (hr.mono (by decide)) rfl T.m_intake_of T.F_intake_of.kp T.b_intake_of .nil pass0 (pa_cons (pv 2) pa_nil)) rfl)
  (pss_one (ps_fld (pv 0) (pe_call (ok_names_of T) (hr.mono (by decide)) rfl T.m_names_of T.F_names_of.kp T.b_names_of .nil pass0 (pa_cons (pv 2) pa_nil)) rfl)))))), ?_⟩
  obtain ⟨oks, hne, hnd, hrne, hasc, hb⟩ : (∀ t ∈ ts, Ok t) ∧ ts ≠ [] ∧ (namesL ts).Nodup ∧ rs ≠ [] ∧ Asc rs ∧ ∀ r ∈ rs, 1 ≤ r ∧ r ≤ (intakeL ts : Int) := by
    cases hok with
    | grp h1 h2 h3 h4 h5 h6 => exact ⟨h1, h2, h3, h4, h5, h6⟩
  have hpl := parts_le oks
  have hrl : rs.length ≤ 1000 := by
    have := hok.width_le
    exact Nat.le_trans this hl
  refine ⟨_, rfl, lp, us, ts, rfl, hP, tyP, hF, hne, oks, hl, fun H1 e1 => ⟨_, rfl, ?_⟩⟩
  refine ifNot (decide_eq_true hnd) ?_
  have f1 : FAt T.a_Leaf T.a_Group H1 us ts := hF.mono e1
  have tyR' : ∀ {H' : Hp}, Same H H' → TyX K H' (.ref lr) (.type "list") := fun {H'} e => ty_list (Evl.ex_l e hR)
  refine ⟨_, rfl, _, rfl, lp, us, ts, rfl, Evl.ex_l e1 hP, f1, by omega, fun H2 e2 => ?_⟩
  refine ⟨lr, rs, _, rfl, Evl.ex_l e2 (Evl.ex_l e1 hR), tyR' (e1.trans e2), hrne, hrl, hasc, hb, fun H3 e3 => ⟨_, rfl, ?_⟩⟩
  refine iteF ?_
  refine nxt ?_
  dsimp only
  have s3 : Same H H3 := (e1.trans e2).trans e3
  -- self._ranks
  refine ⟨_, rfl, lr, _, rfl, .inl (Evl.ex_l s3 hR), fun l1 n1 => ⟨_, rfl, p, _, dx, _, rfl, same_new n1 _ _ _ (s3 _ _ hp), T.c_Group, T.n_Group_ranks, (by show 0 < 1000; decide), ?_⟩⟩
  have b4 : Bp p H (upd (upd H3 l1 (.lst (rs.map V.int))) p (.ins T.a_Group dx (putF "_ranks" (.ref l1) []))) := (Bp.of (s3.trans (same_new n1 _))).trans Bp.upd
  have p4 : (upd (upd H3 l1 (.lst (rs.map V.int))) p (.ins T.a_Group dx (putF "_ranks" (.ref l1) []))) p = some (.ins T.a_Group dx (putF "_ranks" (.ref l1) [])) := upd_same
  have n1p : l1 ≠ p := fun z => by rw [z, s3 _ _ hp] at n1; cases n1
  have l4 : (upd (upd H3 l1 (.lst (rs.map V.int))) p (.ins T.a_Group dx (putF "_ranks" (.ref l1) []))) l1 = some (.lst (rs.map V.int)) := by rw [upd_ne n1p, upd_same]
  generalize upd (upd H3 l1 (.lst (rs.map V.int))) p (.ins T.a_Group dx (putF "_ranks" (.ref l1) [])) = H4 at b4 p4 l4 ⊢
  -- self._parts
  refine ⟨_, rfl, lp, _, rfl, .inl (b4.sq hp hP), fun l2 n2 => ⟨_, rfl, p, _, dx, _, rfl, same_new n2 _ _ _ p4, T.c_Group, T.n_Group_parts, (by show 1 < 1000; decide), ?_⟩⟩
  have n2p : l2 ≠ p := fun z => by rw [z, p4] at n2; cases n2
  have b5 : Bp p H4 (upd (upd H4 l2 (.lst us)) p (.ins T.a_Group dx (putF "_parts" (.ref l2) (putF "_ranks" (.ref l1) [])))) := (Bp.of (same_new n2 _)).trans Bp.upd
  have p5 : (upd (upd H4 l2 (.lst us)) p (.ins T.a_Group dx (putF "_parts" (.ref l2) (putF "_ranks" (.ref l1) [])))) p = some (.ins T.a_Group dx (putF "_parts" (.ref l2) (putF "_ranks" (.ref l1) []))) := upd_same
  have l5 : (upd (upd H4 l2 (.lst us)) p (.ins T.a_Group dx (putF "_parts" (.ref l2) (putF "_ranks" (.ref l1) [])))) l2 = some (.lst us) := by rw [upd_ne n2p, upd_same]
  generalize upd (upd H4 l2 (.lst us)) p (.ins T.a_Group dx (putF "_parts" (.ref l2) (putF "_ranks" (.ref l1) []))) = H5 at b5 p5 l5 ⊢
  have b5' := b4.trans b5
  have l15 := b5 _ _ n1p l4
  have fOf : ∀ {H' : Hp}, Bp p H H' → FAt T.a_Leaf T.a_Group H' us ts := fun {H'} e => ⟨hF.1, fun i v t h1 h2 => (hF.2 i v t h1 h2).off hp e⟩
  -- self._intake
  refine ⟨_, rfl, lp, us, ts, rfl, b5'.sq hp hP, fOf b5', by omega, fun H6 e6 => ⟨_, rfl, p, _, dx, _, rfl, e6 _ _ p5, T.c_Group, T.n_Group_intake, (by show 2 < 1000; decide), ?_⟩⟩
  have b7 : Bp p H5 (upd H6 p (.ins T.a_Group dx (putF "_intake" (.int (intakeL ts : Nat)) (putF "_parts" (.ref l2) (putF "_ranks" (.ref l1) []))))) := (Bp.of e6).trans Bp.upd
  have p7 : (upd H6 p (.ins T.a_Group dx (putF "_intake" (.int (intakeL ts : Nat)) (putF "_parts" (.ref l2) (putF "_ranks" (.ref l1) []))))) p = some (.ins T.a_Group dx (putF "_intake" (.int (intakeL ts : Nat)) (putF "_parts" (.ref l2) (putF "_ranks" (.ref l1) [])))) := upd_same
  generalize upd H6 p (.ins T.a_Group dx (putF "_intake" (.int (intakeL ts : Nat)) (putF "_parts" (.ref l2) (putF "_ranks" (.ref l1) [])))) = H7 at b7 p7 ⊢
  have b7' := b5'.trans b7
  -- self._names
  refine ⟨_, rfl, lp, us, ts, rfl, b7'.sq hp hP, fOf b7', by omega, fun ln H8 n8 e8 h8 => ⟨_, rfl, p, _, dx, _, rfl, e8 _ _ p7, T.c_Group, T.n_Group_names, (by show 3 < 1000; decide), ?_⟩⟩
  have b9 : Bp p H7 (upd H8 p (.ins T.a_Group dx (gf l1 l2 (intakeL ts : Nat) ln))) := (Bp.of e8).trans Bp.upd
  have lnp : ln ≠ p := fun z => by rw [z, p7] at n8; cases n8
  refine q _ (b7'.trans b9) (.grp (dx := dx) (lr := l1) (lp := l2) (ln := ln) (vs := us) upd_same (b9 _ _ n1p (b7 _ _ n1p l15)) (b9 _ _ n2p (b7 _ _ n2p l5)) ?_ hF.1 (fOf (b7'.trans b9)).2)
  rw [upd_ne lnp]
  exact h8
end
end Rk
set_option Elab.async false
set_option linter.all false
set_option maxRecDepth 100000
set_option maxHeartbeats 4000000
namespace Rk
open PySem PySem.Spec PyProof.Rows L2 RkO
open Evl (Ev EvT EvA EvL EvU EvO Ex RC RCL SpV SpL)
section
variable {K : PySem.W.Frag} {σ : L2.St} {H H' : Hp} {ta tb te tx : TE} {t u : TT} {x y z v : V} {r : R2}
/-- a comprehension over a list of known items, with a test -/
theorem el_lcF {α : Type} {a : Addr} {xs : List α} {g f : α → V} {p : α → Bool} {tl : TE} {tt : TT} {j : Nat} {vs : List Nat} (h : Ev tl σ H (.ref a)) (hx : SqL K H a (xs.map g)) (hz : xs.length ≤ 40000) (hw : ∀ x, wipe ((wipe σ vs).set j (some x)) vs = wipe σ vs)
    (ht : ∀ (x : α) H1, Ex H H1 → x ∈ xs → EvT tt ((wipe σ vs).set j (some (g x))) H1 (p x)) (he : ∀ (x : α) H1, Ex H H1 → x ∈ xs → p x = true → Ev te ((wipe σ vs).set j (some (g x))) H1 (f x)) :
    EvL (tLc (iList K tl) (gName j) tt te vs) σ H ((xs.filter p).map f) := fun H0 e Q q => h H0 e _ fun H1 e1 => ⟨a, rfl, ⟨_, Evl.ex_l (e.trans e1) hx⟩, fun Dl hD =>
  lc_list (xs := xs.map g) (fun i H' => H1 Dl = none ∧ Ex H1 H' ∧ H' Dl = some (.lst (((xs.take i).filter p).map f))) ⟨hD, Ex.new hD, upd_same⟩ (fun i H' _ p => Evl.ex_l ((e.trans e1).trans p.2.1) hx) (fun i y H' hi q0 => by
    obtain ⟨p1, p2, p3⟩ := q0
    rw [List.getElem?_map] at hi
    obtain ⟨x, hxi, rfl⟩ := Option.map_eq_some_iff.mp hi
    have hm := List.mem_of_getElem? hxi
    refine ⟨hw _, ?_⟩
    refine ht x H1 (e.trans e1) hm H' p2 _ fun H3 e3 => ?_
    have tk : xs.take (i + 1) = xs.take i ++ [x] := by rw [List.take_add_one, hxi]; rfl
    refine ifB (fun hb => ?_) (fun hb => ?_)
    · refine he x H1 (e.trans e1) hm hb H3 (p2.trans e3) _ fun H4 e4 => ⟨_, e4 _ _ (e3 _ _ p3), ?_, p1, Ex.mut ((p2.trans e3).trans e4) p1, ?_⟩
      · rw [List.length_map]
        have := List.length_filter_le p (xs.take i)
        rw [List.length_take] at this
        exact Evl.sz_lt (by omega)
      · rw [upd_same, tk, List.filter_append, List.map_append, List.filter_cons, if_pos hb]
        rfl
    · refine ⟨p1, p2.trans e3, ?_⟩
      rw [tk, List.filter_append, List.filter_cons, if_neg (by rw [hb]; decide)]
      show H3 Dl = some (.lst (((xs.take i).filter p ++ []).map f))
      rw [List.append_nil]
      exact e3 _ _ p3) (fun H' q0 => q Dl H' (Evl.fresh_back e1 q0.1) (e1.trans q0.2.1) (by
    have := q0.2.2
    rwa [List.length_map, List.take_length] at this))⟩
/-- a method of a tree, whichever class it is of -/
theorem rd_meth {cL cG : Addr} {m : Str} {sp : Bool → Sp} {ta : TA} {vs : List V} {t : Tr} (h1 : ¬ m = "_name") (h2 : ¬ m = "_names") (h3 : ¬ m = "_intake") (h4 : ¬ m = "_parts") (h5 : ¬ m = "_ranks")
    (h : Ev te σ H v) (ht : TAt cL cG H v t) (ha : EvA ta σ H vs) (hs : SpV (sp (knd t)) (v :: vs) H z) : Ev (teor (tMeth cL m (sp true) [] E0 te ta) (tMeth cG m (sp false) [] E0 te ta)) σ H z := fun H1 e1 Q q => by
  cases ht with
  | @leaf p dx x h0 => exact .inl (h H1 e1 _ fun H2 e2 => ⟨p, dx, _, rfl, e2 _ _ (e1 _ _ h0), lf_no h1, ha H2 (e1.trans e2) _ fun H3 e3 => by
      rw [List.append_nil]
      exact hs H3 ((e1.trans e2).trans e3) Q (fun H4 e4 => q H4 ((e2.trans e3).trans e4)) E0⟩)
  | @grp p dx lr lp ln rs ps vs' g1 g2 g3 g4 hl hf => exact .inr (h H1 e1 _ fun H2 e2 => ⟨p, dx, _, rfl, e2 _ _ (e1 _ _ g1), gf_no h2 h3 h4 h5, ha H2 (e1.trans e2) _ fun H3 e3 => by
      rw [List.append_nil]
      exact hs H3 ((e1.trans e2).trans e3) Q (fun H4 e4 => q H4 ((e2.trans e3).trans e4)) E0⟩)
/-- name in tree, whichever class it is of -/
theorem rv_has {cL cG : Addr} {x : Str} {t : Tr} (ht : TAt cL cG H v t) : Evl.RV (r2or (rInO cL false (spHas cL cG true) E0) (rInO cG false (spHas cL cG false) E0)) (.str x) v H (.bl (decide (x ∈ t.names))) := fun H1 e1 Q q => by
  have w := ht.mono e1
  cases ht with
  | @leaf p dx y h0 => exact .inl ⟨p, dx, _, rfl, e1 _ _ h0, _, .leaf y, x, rfl, rfl, w, _, rfl, q H1 (Ex.refl H1)⟩
  | @grp p dx lr lp ln rs ps vs' g1 g2 g3 g4 hl hf => exact .inr ⟨p, dx, _, rfl, e1 _ _ g1, _, .grp rs ps, x, rfl, rfl, w, _, rfl, q H1 (Ex.refl H1)⟩
end
/-- nothing is promised -/
theorem fn_no {P : Program} {w : World} {K : PySem.W.Frag} {mg : Str → Option Value} {base : Heap} {CX : CXT} {k : Nat} {f : Addr} {fd : FuncData} {ps : List Str} {sp : Sp} (no : ∀ vs H Q E, ¬ sp vs H Q E) : FnOk P w K mg base CX k f fd ps sp :=
  ⟨fun vs H Q E h => absurd h (no vs H Q E), fun A outer s H args us vs Q E _ _ _ _ h => absurd h (no vs H Q E)⟩
section
variable {P : Program} {w : World} {K : PySem.W.Frag} {mg : Str → Option Value} {base : Heap}
/-! ### _are_leaves, of a tree and texts -/
def spAreLeaves (K : PySem.W.Frag) (cL cG : Addr) : Sp := fun vs H Q _ => ∃ (v : V) (t : Tr) (a : Addr) (xs : List Str), vs = [v, .ref a] ∧ TAt cL cG H v t ∧ SqL K H a (xs.map V.str) ∧ xs.length ≤ 1000 ∧ (∀ x ∈ xs, x.length ≤ 40000) ∧ ∀ H', Same H H' → Q (.bl ((xs.all nameOk && decide xs.Nodup) && xs.all fun x => decide (x ∈ t.names))) H'
theorem ok_are_leaves (T : Txt K mg) : FnOk P w K mg base CX0 3 T.f_are_leaves T.d_are_leaves ["tree", "names"] (spAreLeaves K T.a_Leaf T.a_Group) := by
  refine T.F_are_leaves.ok sc_are_leaves (fun vs H Q E h => ?_) (fun cdv A outer s H vs Q E hr h => ?_)
  · obtain ⟨v, t, a, xs, rfl, _⟩ := h
    rfl
  obtain ⟨v, t, a, xs, rfl, ht, hS, hl, hx, q⟩ := h
  refine ⟨_, (pss_one (ps_ret (pe_and (pe_call (ok_are_names T) (hr.mono (by decide)) rfl T.m_are_names T.F_are_names.kp T.b_are_names .nil pass0 (pa_cons (pv 1) pa_nil)) (pe_one (pe_callB (cr_all rfl) (by rfl) T.m_all (by decide +kernel) (pa_cons (pe_lc (own := [("name", 2)]) rfl sc_are_leaves.nd  (pi_list (pv 1)) (blkOk_by (own := [("name", 2)]) (N := ["tree", "names", "name"]) (sc := defScope s_are_leaves) (by decide +kernel)) (fun _ _ _ _ _ => (pg_name (i := 2) sc_are_leaves.nd rfl (.inl rfl))) (fun _ _ _ _ _ => pts_nil) (fun _ _ _ _ _ => (by exact (pe_cmpR (op_or (op_inO T.M_Leaf_contains (ok_Leaf_contains T) (hr.mono (by decide)) T.b_Leaf_contains pass0) (op_inO T.M_Group_contains (ok_Group_contains T) (hr.mono (by decide)) T.b_Group_contains pass0)) (pv 2) (pv 0) (by rfl))))) pa_nil)))))), ?_⟩
  refine Evl.s_ret (v := .bl ((xs.all nameOk && decide xs.Nodup) && xs.all fun x => decide (x ∈ t.names))) ?_ fun H1 e => q H1 e
  refine ev_andB ?_ fun _ => ?_
  · exact Evl.ev_call (Evl.ea_cons (Evl.ev_var rfl) Evl.ea_nil) fun H2 e2 Q q E => ⟨a, xs, rfl, Evl.ex_l e2 hS, ty_list (Evl.ex_l e2 hS), hl, hx, q⟩
  · refine Evl.ev_is (ev_allN (xs := xs.map fun x => decide (x ∈ t.names)) ?_) (by rw [List.all_map]; rfl)
    rw [List.map_map]
    refine el_lcM (xs := xs) (g := V.str) (Evl.ev_var rfl) hS (by omega) (fun x => rfl) fun x H1 ex hp => ?_
    exact Evl.ev_op (Evl.ev_var rfl) (Evl.ev_var rfl) (rv_has (ht.mono ex))
/-! ### _low_ends -/
def spLow (K : PySem.W.Frag) (cL cG : Addr) (n : Nat) (k : Bool) : Sp := fun vs H Q _ => ∃ (v : V) (t : Tr) (a : Addr) (xs : List Str), vs = [v, .ref a] ∧ knd t = k ∧ t.depth ≤ n ∧ TAt cL cG H v t ∧ Ok t ∧ t.names.length ≤ 1000 ∧ SqL K H a (xs.map V.str) ∧ ∀ H', Same H H' → Q (.int (t.low xs : Nat)) H'
theorem ok_Leaf_low (T : Txt K mg) (n : Nat) : FnOk P w K mg base CX0 1 T.f_Leaf__low_ends T.d_Leaf__low_ends ["self", "low"] (spLow K T.a_Leaf T.a_Group n true) := by
  refine T.F_Leaf__low_ends.ok sc_Leaf__low_ends (fun vs H Q E h => ?_) (fun cdv A outer s H vs Q E hr h => ?_)
  · obtain ⟨v, t, a, xs, rfl, _⟩ := h
    rfl
  obtain ⟨v, t, a, xs, rfl, hk, hd, ht, hok, hl, hS, q⟩ := h
  refine ⟨_, (pss_one (ps_ret (pe_ifExp (pt_cmpR op_in_seq (pe_fld (pv 0) rfl) (pv 1) (by rfl)) pe_int pe_int))), ?_⟩
  cases ht with
  | @leaf p dx x h =>
    refine ⟨_, rfl, p, _, dx, _, _, rfl, h, T.c_Leaf, T.n_Leaf_name, lf_name, _, rfl, a, _, rfl, .inl hS, rfl, flat_strs _, _, rfl, ?_⟩
    have := q H (Same.refl H)
    rw [show (Tr.leaf x).low xs = if x ∈ xs then 1 else 0 from rfl] at this
    show if inV (.str x) (xs.map V.str) = true then _ else _
    rw [inV_str]
    refine ifD (fun c => ?_) (fun c => ?_)
    · rw [if_pos c] at this
      exact this
    · rw [if_neg c] at this
      exact this
  | grp _ _ _ _ _ _ => cases hk
theorem ok_Group_low (T : Txt K mg) : ∀ n : Nat, FnOk P w K mg base CX0 (n + 1) T.f_Group__low_ends T.d_Group__low_ends ["self", "low"] (spLow K T.a_Leaf T.a_Group n false)
  | 0 => fn_no fun vs H Q E h => by
    obtain ⟨v, t, a, xs, _, hk, hd, _⟩ := h
    cases t with
    | leaf x => cases hk
    | grp rs ps => exact absurd (show depthL ps + 1 ≤ 0 from hd) (by omega)
  | n + 1 => by
    have GL : FnOk P w K mg base CX0 1 T.f_Leaf__low_ends T.d_Leaf__low_ends ["self", "low"] (spLow K T.a_Leaf T.a_Group n true) := ok_Leaf_low T n
    have GG : FnOk P w K mg base CX0 (n + 1) T.f_Group__low_ends T.d_Group__low_ends ["self", "low"] (spLow K T.a_Leaf T.a_Group n false) := ok_Group_low T n
    refine T.F_Group__low_ends.ok sc_Group__low_ends (fun vs H Q E h => ?_) (fun cdv A outer s H vs Q E hr h => ?_)
    · obtain ⟨v, t, a, xs, rfl, _⟩ := h
      rfl
    obtain ⟨v, t, a, xs, rfl, hk, hd, ht, hok, hl, hS, q⟩ := h
    refine ⟨_, (pss_cons (ps_set (i := 2) sc_Group__low_ends.nd rfl (Or.inr rfl) (pe_callB (cr_sum rfl) (by rfl) T.m_sum (by decide +kernel) (pa_cons (pe_lc (own := [("part", 3)]) rfl sc_Group__low_ends.nd  (pi_list (pe_fld (pv 0) rfl)) (blkOk_by (own := [("part", 3)]) (N := ["self", "low", "taken", "part", "rank"]) (sc := defScope s_Group__low_ends) (by decide +kernel)) (fun _ _ _ _ _ => (pg_name (i := 3) sc_Group__low_ends.nd rfl (.inl rfl))) (fun _ _ _ _ _ => pts_nil) (fun _ _ _ _ _ => (by exact (pe_or2 (pe_meth (pv 3) T.c_Leaf T.M_Leaf__low_ends GL (hr.mono (by omega)) T.b_Leaf__low_ends .nil pass0 (pa_cons (pv 1) pa_nil)) (pe_meth (pv 3) T.c_Group T.M_Group__low_ends GG hr T.b_Group__low_ends .nil pass0 (pa_cons (pv 1) pa_nil)))))) pa_nil)))
  (pss_one (ps_ret (pe_callB call_len_seq (by rfl) T.m_len PySem.boot_len (pa_cons (pe_lc (own := [("rank", 4)]) rfl sc_Group__low_ends.nd  (pi_list (pe_fld (pv 0) rfl)) (blkOk_by (own := [("rank", 4)]) (N := ["self", "low", "taken", "part", "rank"]) (sc := defScope s_Group__low_ends) (by decide +kernel)) (fun _ _ _ _ _ => (pg_name (i := 4) sc_Group__low_ends.nd rfl (.inl rfl))) (fun _ _ _ _ _ => (pts_one (pt_cmpR op_le (pv 4) (pv 2) (nomark _)))) (fun _ _ _ _ _ => (pv 4))) pa_nil))))), ?_⟩
    cases ht with
    | leaf _ => cases hk
    | @grp p dx lr lp ln rs ps vs' g1 g2 g3 g4 hvl hf =>
      have hF : FAt T.a_Leaf T.a_Group H vs' ps := ⟨hvl, hf⟩
      obtain ⟨e1, e2, hz⟩ := hF.zip
      obtain ⟨oks, hasc, hb⟩ : (∀ t ∈ ps, Ok t) ∧ Asc rs ∧ ∀ r ∈ rs, 1 ≤ r ∧ r ≤ (intakeL ps : Int) := by
        cases hok with
        | grp h1 _ _ _ h5 h6 => exact ⟨h1, h5, h6⟩
      have hd : depthL ps + 1 ≤ n + 1 := hd
      have hl : (namesL ps).length ≤ 1000 := hl
      have hrl : rs.length ≤ 1000 := Nat.le_trans hok.width_le hl
      have hpl := parts_le oks
      have sub : ∀ t ∈ ps, t.names.length ≤ 1000 := fun t ht => by
        have h2 : (t.names).length ≤ (namesL ps).length := by
          obtain ⟨a, b, rfl⟩ := List.append_of_mem ht
          rw [namesL_append, List.length_append]
          show t.names.length ≤ (namesL a).length + (t.names ++ namesL b).length
          rw [List.length_append]
          omega
        omega
      have fld : ∀ (σ : L2.St) (f : Str) (val : V) (H1 : Hp), σ[0]? = some (some (.ref p)) → Ex H H1 → NoAttr K T.a_Group f → (gf lr lp (intakeL ps : Int) ln).lookup f = some val → Ev (tFld K (tVar 0) f) σ H1 val := fun σ f val H1 h0 e hn hlk H2 e3 Q q => ⟨_, h0, p, _, dx, _, _, rfl, e3 _ _ (e _ _ g1), T.c_Group, hn, hlk, q H2 (Ex.refl H2)⟩
      have es : ((vs'.zip ps).map fun p => ((p.2.low xs : Nat) : Int)).sum = (lowL xs ps : Nat) := by
        rw [lowL_sum, ← show ((vs'.zip ps).map Prod.snd).map (fun t => ((t.low xs : Nat) : Int)) = (vs'.zip ps).map fun p => ((p.2.low xs : Nat) : Int) by rw [List.map_map]; rfl, ← e2]
      refine Evl.q_asg (v := .int (lowL xs ps : Nat)) ?_ fun H1 ex1 => ?_
      · rw [← es]
        refine ev_sumN ?_
        rw [List.map_map]
        refine el_lcM (xs := vs'.zip ps) (g := Prod.fst) (fld _ _ _ H rfl (Ex.refl H) T.n_Group_parts gf_parts) (by rw [← e1]; exact SqL.of g3) (by rw [List.length_zip]; omega) (fun x => rfl) fun pp H1 ex hp => ?_
        have hmem : pp.2 ∈ ps := by
          rw [e2]
          exact List.mem_map.mpr ⟨pp, hp, rfl⟩
        have hdp := depth_mem hmem
        exact rd_meth (sp := spLow K T.a_Leaf T.a_Group n) (by decide +kernel) (by decide +kernel) (by decide +kernel) (by decide +kernel) (by decide +kernel) (Evl.ev_var rfl) ((hz pp hp).mono ex) (Evl.ea_cons (Evl.ev_var rfl) Evl.ea_nil)
          fun H2 e3 Q q E => ⟨_, pp.2, a, xs, rfl, rfl, by omega, ((hz pp hp).mono ex).mono e3, oks _ hmem, sub _ hmem, Evl.ex_l e3 (Evl.ex_l ex hS), q⟩
      · refine Evl.s_ret (v := .int ((rs.filter fun r => decide (r ≤ (lowL xs ps : Int))).length : Nat)) ?_ fun H2 ex2 => q H2 (ex1.trans ex2)
        refine Evl.ev_is (Evl.ev_lenN (xs := (rs.filter fun r => decide (r ≤ (lowL xs ps : Int))).map V.int) ?_) (by rw [List.length_map])
        refine el_lcF (xs := rs) (g := V.int) (f := V.int) (p := fun r => decide (r ≤ (lowL xs ps : Int))) (fld _ _ _ H1 rfl ex1 T.n_Group_ranks gf_ranks) (Evl.ex_l ex1 (SqL.of g2)) (by omega) (fun x => rfl) (fun r H2 e hm => ?_) (fun r H2 e hm hp => Evl.ev_var rfl)
        exact Evl.et_test (Evl.ev_op (Evl.ev_var rfl) (Evl.ev_var rfl) Evl.rv_I0)
/-! ### passes, of right names -/
def spPasses (K : PySem.W.Frag) (cL cG : Addr) (n : Nat) (k : Bool) : Sp := fun vs H Q _ => ∃ (v : V) (t : Tr) (a : Addr) (xs : List Str), vs = [v, .ref a] ∧ knd t = k ∧ t.depth ≤ n ∧ TAt cL cG H v t ∧ Ok t ∧ t.names.length ≤ 1000 ∧ SqL K H a (xs.map V.str) ∧ xs.Nodup ∧ (∀ x ∈ xs, x ∈ t.names) ∧ ∀ H', Same H H' → Q (.int (t.low xs : Nat)) H'
theorem nodup_len {α : Type} [DecidableEq α] : ∀ {xs ys : List α}, xs.Nodup → (∀ x ∈ xs, x ∈ ys) → xs.length ≤ ys.length
  | [], _, _, _ => Nat.zero_le _
  | x :: xs, ys, h, hm => by
    obtain ⟨h1, h2⟩ := List.nodup_cons.mp h
    have hx := hm x (List.mem_cons_self ..)
    have := nodup_len (xs := xs) (ys := ys.erase x) h2 fun y hy => (List.mem_erase_of_ne (fun z => h1 (by rw [← z]; exact hy))).mpr (hm y (List.mem_cons_of_mem _ hy))
    rw [List.length_erase_of_mem hx] at this
    have : 1 ≤ ys.length := List.length_pos_of_mem hx
    rw [List.length_cons]
    omega
theorem ok_Leaf_passes (T : Txt K mg) (n : Nat) : FnOk P w K mg base CX0 (n + 4) T.f_Leaf_passes T.d_Leaf_passes ["self", "names"] (spPasses K T.a_Leaf T.a_Group n true) := by
  refine T.F_Leaf_passes.ok sc_Leaf_passes (fun vs H Q E h => ?_) (fun cdv A outer s H vs Q E hr h => ?_)
  · obtain ⟨v, t, a, xs, rfl, _⟩ := h
    rfl
  obtain ⟨v, t, a, xs, rfl, hk, hd, ht, hok, hl, hS, hnd, hin, q⟩ := h
  refine ⟨_, (pss_cons (ps_if (pt_not (pt_val (pe_call (ok_are_leaves T) (hr.mono (by omega)) rfl T.m_are_leaves T.F_are_leaves.kp T.b_are_leaves .nil pass0 (pa_cons (pv 0) (pa_cons (pv 1) pa_nil))))) (pss_one ps_never) pss_nil)
  (pss_one (ps_ret (pe_meth (pv 0) T.c_Leaf T.M_Leaf__low_ends (ok_Leaf_low T 0) (hr.mono (by omega)) T.b_Leaf__low_ends .nil pass0 (pa_cons (pv 1) pa_nil))))), ?_⟩
  have nok := hok.names_ok
  have hxl : xs.length ≤ 1000 := Nat.le_trans (nodup_len hnd hin) hl
  refine ⟨_, rfl, _, rfl, v, t, a, xs, rfl, ht, hS, hxl, fun x hx => by have := nameOk_len (nok x (hin x hx)); omega, fun H1 e1 => ⟨_, rfl, ?_⟩⟩
  refine ifNot (by rw [List.all_eq_true.mpr fun x hx => nok x (hin x hx), decide_eq_true hnd, List.all_eq_true.mpr fun x hx => decide_eq_true (hin x hx)]; rfl) ?_
  refine nxt ?_
  dsimp only
  have w := ht.mono e1
  cases ht with
  | @leaf p dx x h => exact ⟨_, rfl, p, dx, _, rfl, e1 _ _ h, lf_no (by decide +kernel), _, rfl, _, .leaf x, a, xs, rfl, rfl, Nat.zero_le _, w, hok, hl, Evl.ex_l e1 hS, fun H2 e2 => q H2 (e1.trans e2)⟩
  | grp _ _ _ _ _ _ => cases hk
theorem ok_Group_passes (T : Txt K mg) (n : Nat) : FnOk P w K mg base CX0 (n + 4) T.f_Group_passes T.d_Group_passes ["self", "names"] (spPasses K T.a_Leaf T.a_Group n false) := by
  refine T.F_Group_passes.ok sc_Group_passes (fun vs H Q E h => ?_) (fun cdv A outer s H vs Q E hr h => ?_)
  · obtain ⟨v, t, a, xs, rfl, _⟩ := h
    rfl
  obtain ⟨v, t, a, xs, rfl, hk, hd, ht, hok, hl, hS, hnd, hin, q⟩ := h
  refine ⟨_, (pss_cons (ps_if (pt_not (pt_val (pe_call (ok_are_leaves T) (hr.mono (by omega)) rfl T.m_are_leaves T.F_are_leaves.kp T.b_are_leaves .nil pass0 (pa_cons (pv 0) (pa_cons (pv 1) pa_nil))))) (pss_one ps_never) pss_nil)
  (pss_one (ps_ret (pe_meth (pv 0) T.c_Group T.M_Group__low_ends (ok_Group_low T n) (hr.mono (by omega)) T.b_Group__low_ends .nil pass0 (pa_cons (pv 1) pa_nil))))), ?_⟩
  have nok := hok.names_ok
  have hxl : xs.length ≤ 1000 := Nat.le_trans (nodup_len hnd hin) hl
  refine ⟨_, rfl, _, rfl, v, t, a, xs, rfl, ht, hS, hxl, fun x hx => by have := nameOk_len (nok x (hin x hx)); omega, fun H1 e1 => ⟨_, rfl, ?_⟩⟩
  refine ifNot (by rw [List.all_eq_true.mpr fun x hx => nok x (hin x hx), decide_eq_true hnd, List.all_eq_true.mpr fun x hx => decide_eq_true (hin x hx)]; rfl) ?_
  refine nxt ?_
  dsimp only
  have w := ht.mono e1
  cases ht with
  | leaf _ => cases hk
  | @grp p dx lr lp ln rs ps vs' g1 g2 g3 g4 hvl hf => exact ⟨_, rfl, p, dx, _, rfl, e1 _ _ g1, gf_no (by decide +kernel) (by decide +kernel) (by decide +kernel) (by decide +kernel), _, rfl, _, .grp rs ps, a, xs, rfl, rfl, hd, w, hok, hl, Evl.ex_l e1 hS, fun H2 e2 => q H2 (e1.trans e2)⟩
end
end Rk
set_option Elab.async false
set_option linter.all false
set_option maxRecDepth 100000
set_option maxHeartbeats 4000000
namespace Rk
open PySem PySem.Spec PyProof.Rows L2 RkO
open Evl (Ev EvT EvA EvL EvU EvO Ex RC RCL SpV SpL)
mutual
def Tr.mirror : Tr → Tr
  | .leaf x => .leaf x
  | .grp rs ps => .grp ((rs.map fun r => (intakeL ps : Int) + 1 - r).reverse) (mirrorL ps)
def mirrorL : List Tr → List Tr
  | [] => []
  | p :: ps => p.mirror :: mirrorL ps
end
theorem mirrorL_map : ∀ ps : List Tr, mirrorL ps = ps.map Tr.mirror
  | [] => rfl
  | p :: ps => by
    show p.mirror :: mirrorL ps = p.mirror :: ps.map Tr.mirror
    rw [mirrorL_map ps]
theorem mirror_width (t : Tr) : t.mirror.width = t.width := by
  cases t with
  | leaf x => rfl
  | grp rs ps =>
    show ((rs.map fun r => (intakeL ps : Int) + 1 - r).reverse).length = rs.length
    rw [List.length_reverse, List.length_map]
theorem mirror_intake : ∀ ps : List Tr, intakeL (mirrorL ps) = intakeL ps
  | [] => rfl
  | p :: ps => by
    show p.mirror.width + intakeL (mirrorL ps) = p.width + intakeL ps
    rw [mirror_intake ps, mirror_width]
mutual
theorem mirror_names : ∀ t : Tr, t.mirror.names = t.names
  | .leaf _ => rfl
  | .grp _ ps => mirror_namesL ps
theorem mirror_namesL : ∀ ps : List Tr, namesL (mirrorL ps) = namesL ps
  | [] => rfl
  | p :: ps => by
    show p.mirror.names ++ namesL (mirrorL ps) = p.names ++ namesL ps
    rw [mirror_names p, mirror_namesL ps]
end
mutual
theorem mirror_depth : ∀ t : Tr, t.mirror.depth = t.depth
  | .leaf _ => rfl
  | .grp _ ps => by
    show depthL (mirrorL ps) + 1 = depthL ps + 1
    rw [mirror_depthL ps]
theorem mirror_depthL : ∀ ps : List Tr, depthL (mirrorL ps) = depthL ps
  | [] => rfl
  | p :: ps => by
    show max p.mirror.depth (depthL (mirrorL ps)) = max p.depth (depthL ps)
    rw [mirror_depth p, mirror_depthL ps]
end
theorem asc_turn {rs : List Int} (m : Int) (h : Asc rs) : Asc ((rs.map fun r => m + 1 - r).reverse) := by
  unfold Asc
  rw [List.pairwise_reverse, List.pairwise_map]
  exact h.imp fun {a b} hab => by omega
theorem Ok.mirror {t : Tr} (h : Ok t) : Ok t.mirror := by
  induction h with
  | leaf h => exact .leaf h
  | @grp rs ps _ hne hnd hrne ha hb ih =>
    refine .grp (ps := mirrorL ps) (fun t ht => ?_) ?_ ?_ ?_ (asc_turn _ ha) (fun r hr => ?_)
    · rw [mirrorL_map] at ht
      obtain ⟨s, hs, rfl⟩ := List.mem_map.mp ht
      exact ih s hs
    · rw [mirrorL_map]
      exact fun z => hne (List.map_eq_nil_iff.mp z)
    · rw [mirror_namesL]
      exact hnd
    · exact fun z => hrne (List.map_eq_nil_iff.mp (List.reverse_eq_nil_iff.mp z))
    · rw [mirror_intake]
      obtain ⟨s, hs, rfl⟩ := List.mem_map.mp (List.mem_reverse.mp hr)
      have := hb s hs
      omega
mutual
theorem mirror_back : ∀ t : Tr, t.mirror.mirror = t
  | .leaf _ => rfl
  | .grp rs ps => by
    show Tr.grp (((rs.map fun r => (intakeL ps : Int) + 1 - r).reverse.map fun r => (intakeL (mirrorL ps) : Int) + 1 - r).reverse) (mirrorL (mirrorL ps)) = Tr.grp rs ps
    rw [mirror_backL ps, mirror_intake, List.map_reverse, List.reverse_reverse, List.map_map]
    congr 1
    conv => rhs; rw [← List.map_id rs]
    refine List.map_congr_left fun r _ => ?_
    show (intakeL ps : Int) + 1 - ((intakeL ps : Int) + 1 - r) = r
    omega
theorem mirror_backL : ∀ ps : List Tr, mirrorL (mirrorL ps) = ps
  | [] => rfl
  | p :: ps => by
    show p.mirror.mirror :: mirrorL (mirrorL ps) = p :: ps
    rw [mirror_back p, mirror_backL ps]
end
/-- low ends of the mirror and of the tree, of a set and of the rest -/
theorem turn_count (m l : Int) : ∀ rs : List Int, ((rs.map fun r => m + 1 - r).filter fun r => decide (r ≤ m - l)).length + (rs.filter fun r => decide (r ≤ l)).length = rs.length
  | [] => rfl
  | r :: rs => by
    have ih := turn_count m l rs
    rw [List.map_cons, List.filter_cons, List.filter_cons]
    by_cases h : r ≤ l
    · rw [if_neg (by rw [decide_eq_false (by omega)]; decide), if_pos (decide_eq_true h), List.length_cons, List.length_cons]
      omega
    · rw [if_pos (decide_eq_true (by omega)), if_neg (by rw [decide_eq_false h]; decide), List.length_cons, List.length_cons]
      omega
theorem low_le : ∀ (s : List Str) (t : Tr), t.low s ≤ t.width
  | s, .leaf x => by
    show (if x ∈ s then 1 else 0) ≤ 1
    split <;> omega
  | s, .grp rs ps => List.length_filter_le _ _
mutual
theorem low_turn : ∀ (s r : List Str) (t : Tr), (∀ x ∈ t.names, x ∈ r ↔ x ∉ s) → t.mirror.low s + t.low r = t.width
  | s, r, .leaf x, h => by
    have := h x (List.mem_singleton.mpr rfl)
    show (if x ∈ s then 1 else 0) + (if x ∈ r then 1 else 0) = 1
    by_cases c : x ∈ s
    · rw [if_pos c, if_neg (fun z => this.mp z c)]
    · rw [if_neg c, if_pos (this.mpr c)]
  | s, r, .grp rs ps, h => by
    have ih := low_turnL s r ps h
    show (((rs.map fun r => (intakeL ps : Int) + 1 - r).reverse).filter fun q => decide (q ≤ (lowL s (mirrorL ps) : Int))).length + (rs.filter fun q => decide (q ≤ (lowL r ps : Int))).length = rs.length
    have e : (lowL s (mirrorL ps) : Int) = (intakeL ps : Int) - (lowL r ps : Int) := by omega
    rw [List.filter_reverse, List.length_reverse, e]
    exact turn_count _ _ rs
theorem low_turnL : ∀ (s r : List Str) (ps : List Tr), (∀ x ∈ namesL ps, x ∈ r ↔ x ∉ s) → lowL s (mirrorL ps) + lowL r ps = intakeL ps
  | _, _, [], _ => rfl
  | s, r, p :: ps, h => by
    have h1 := low_turn s r p fun x hx => h x (List.mem_append_left _ hx)
    have h2 := low_turnL s r ps fun x hx => h x (List.mem_append_right _ hx)
    show (p.mirror.low s + lowL s (mirrorL ps)) + (p.low r + lowL r ps) = p.width + intakeL ps
    omega
end
/-! a new tree: how its making is read -/
section
variable {K : PySem.W.Frag}
/-- a new leaf stands -/
theorem mk_leaf {cL cG p dx : Addr} {H H' : Hp} {x : Str} (np : H p = none) (nd : H dx = none) (k : ∀ b o, b ≠ p → (upd (upd H dx (.own p)) p (.ins cL dx [])) b = some o → H' b = some o) (hp : H' p = some (.ins cL dx (lf x))) : Same H H' ∧ TAt cL cG H' (.ref p) (.leaf x) :=
  ⟨fun b o h => k b o (ne_of_none h np) (by rw [upd_ne (ne_of_none h np), upd_ne (ne_of_none h nd)]; exact h), .leaf hp⟩
theorem mk_same {p dx cG : Addr} {H H' : Hp} (np : H p = none) (nd : H dx = none) (k : ∀ b o, b ≠ p → (upd (upd H dx (.own p)) p (.ins cG dx [])) b = some o → H' b = some o) : Same H H' :=
  fun b o h => k b o (ne_of_none h np) (by rw [upd_ne (ne_of_none h np), upd_ne (ne_of_none h nd)]; exact h)
theorem made_same {p dx cG : Addr} {H : Hp} (np : H p = none) (nd : H dx = none) : Same H (upd (upd H dx (.own p)) p (.ins cG dx [])) := fun b o h => by
  rw [upd_ne (ne_of_none h np), upd_ne (ne_of_none h nd)]
  exact h
end
section
variable {P : Program} {w : World} {K : PySem.W.Frag} {mg : Str → Option Value} {base : Heap}
/-! ### mirror() -/
def spMirror (K : PySem.W.Frag) (cL cG : Addr) (n : Nat) (k : Bool) : Sp := fun vs H Q _ => ∃ (v : V) (t : Tr), vs = [v] ∧ knd t = k ∧ t.depth ≤ n ∧ TAt cL cG H v t ∧ Ok t ∧ t.names.length ≤ 60 ∧ ∀ v' H', Same H H' → TAt cL cG H' v' t.mirror → Q v' H'
/-- hiding one address -/
def one (a : Addr) : Addr → Bool := fun b => decide (b = a)
theorem hid_one {a b : Addr} {H : Hp} (h : b ≠ a) : hid (one a) H b = H b := hid_f (decide_eq_false h)
theorem hid_at {a : Addr} {H : Hp} : hid (one a) H a = none := hid_t (decide_eq_true rfl)
theorem hid_le {M : Addr → Bool} {H : Hp} : Same (hid M H) H := fun b o z => by
  cases hb : M b with
  | true => rw [hid_t hb] at z; cases z
  | false => rwa [hid_f hb] at z
theorem hid_same {M : Addr → Bool} {H H' : Hp} (e : Same H H') (n : ∀ b, M b = true → H b = none) : Same H (hid M H') := fun b o z => by
  cases hb : M b with
  | true => rw [n b hb] at z; cases z
  | false => rw [hid_f hb]; exact e b o z
theorem hid_back {a : Addr} {H H' : Hp} {o : HO} (n : H' a = none) : hid (one a) (upd (put (one a) H H') a o) = H' := by
  funext b
  by_cases hb : b = a
  · rw [hb, hid_at, n]
  · rw [hid_one hb, upd_ne hb, put_f (decide_eq_false hb)]
theorem rd_meth0F {cL cG : Addr} {σ : L2.St} {H : Hp} {m : Str} {sp : Bool → Sp} {M : Addr → Bool} {i : Nat} {v : V} {t : Tr} {Q : VK} (h1 : ¬ m = "_name") (h2 : ¬ m = "_names") (h3 : ¬ m = "_intake") (h4 : ¬ m = "_parts") (h5 : ¬ m = "_ranks")
    (h0 : σ[i]? = some (some v)) (ht : TAt cL cG (hid M H) v t) (hM : Hides M H) (hs : sp (knd t) [v] (hid M H) (fun v' H' => (∀ b, M b = true → H' b = none) → Q v' (put M H H')) E0) :
    teor (tMeth cL m (spF (sp true)) [] E0 (tVar i) tNil) (tMeth cG m (spF (sp false)) [] E0 (tVar i) tNil) σ H Q := by
  cases ht with
  | @leaf p dx x g => exact .inl ⟨_, h0, p, dx, _, rfl, hid_le _ _ g, lf_no h1, M, hM, hs⟩
  | @grp p dx lr lp ln rs ps vs' g1 g2 g3 g4 hl hf => exact .inr ⟨_, h0, p, dx, _, rfl, hid_le _ _ g1, gf_no h2 h3 h4 h5, M, hM, hs⟩
/-- a comprehension that makes trees out of trees -/
theorem tl_trees {cL cG : Addr} {σ : L2.St} {H : Hp} {tl te : TE} {a : Addr} {us : List V} {ts : List Tr} {f : Tr → Tr} {j : Nat} {vs : List Nat} (h : Ev tl σ H (.ref a)) (hx : SqL K H a us) (hF : FAt cL cG H us ts) (hz : ts.length ≤ 40000) (hw : ∀ x, wipe ((wipe σ vs).set j (some x)) vs = wipe σ vs)
    (he : ∀ v t M H1 (Q : VK), Hides M H1 → t ∈ ts → Same H (hid M H1) → TAt cL cG (hid M H1) v t → (∀ v' H', Same (hid M H1) H' → (∀ b, M b = true → H' b = none) → TAt cL cG H' v' (f t) → Q v' (put M H1 H')) → te ((wipe σ vs).set j (some v)) H1 Q)
    {Q : VK} (q : ∀ p us' H', H p = none → Same H H' → H' p = some (.lst us') → FAt cL cG H' us' (ts.map f) → Q (.ref p) H') : tLc (iList K tl) (gName j) tYes te vs σ H Q := h H (Ex.refl H) _ fun H1 e1 => ⟨a, rfl, ⟨_, Evl.ex_l e1 hx⟩, fun Dl hD =>
  lc_list (xs := us) (fun i H' => Ex H1 H' ∧ ∃ us', us'.length = i ∧ H' Dl = some (.lst us') ∧ FAt cL cG (hid (one Dl) H') us' ((ts.take i).map f)) ⟨Ex.new hD, [], rfl, upd_same, .nil⟩ (fun i H' _ p => Evl.ex_l (e1.trans p.1) hx) (fun i y H' hi p => by
    obtain ⟨p2, us', pl, p3, p4⟩ := p
    obtain ⟨t, hti, ht⟩ := hF.mem hi
    have hm := List.mem_of_getElem? hti
    refine ⟨hw _, ?_⟩
    have noD : ∀ b, one Dl b = true → H b = none := fun b hb => by
      rw [of_decide_eq_true hb]
      exact Evl.fresh_back e1 hD
    have up : Same H (hid (one Dl) H') := hid_same (fun b o z => p2 b o (e1 b o z)) noD
    have hlt := (List.getElem?_eq_some_iff.mp hti).1
    refine he y t (one Dl) H' _ (fun b hb => .inl ⟨us', by rw [of_decide_eq_true hb]; exact p3⟩) hm up (ht.mono up) fun v' H'' s2 gone w => ⟨us', (put_t (decide_eq_true rfl)).trans p3, Evl.sz_lt (by omega), ?_, us' ++ [v'], by rw [List.length_append, pl]; rfl, upd_same, ?_⟩
    · intro b o z
      have nb : b ≠ Dl := ne_of_none z hD
      rw [upd_ne nb, put_f (decide_eq_false nb)]
      exact s2 b o (by rw [hid_one nb]; exact p2 b o z)
    · rw [hid_back (gone Dl (decide_eq_true rfl)), List.take_add_one, hti, List.map_append]
      exact (p4.mono s2).snoc w) (fun H' p => by
    obtain ⟨p2, us', pl, p3, p4⟩ := p
    rw [hF.1, List.take_length] at p4
    exact q Dl us' H' (Evl.fresh_back e1 hD) (fun b o z => p2 b o (e1 b o z)) p3 (p4.mono hid_le))⟩
theorem seq_asg_cb1 {r : List V → Hp → VK → Prop} {te : TE} {i : Nat} {u : TS} {D : Ends} {σ : L2.St} {H : Hp} (h : te σ H (fun x H1 => r [x] H1 fun y H2 => u D (σ.set i (some y)) H2)) : tSeq (tAsg (tCB r (tCons te tNil)) (gName i)) u D σ H := h
end
end Rk
set_option Elab.async false
set_option linter.all false
set_option maxRecDepth 100000
set_option maxHeartbeats 4000000
namespace Rk
open PySem PySem.Spec PyProof.Rows L2 RkO
open Evl (Ev EvT EvA EvL EvU EvO Ex RC RCL SpV SpL)
/-- two values that are the same tree -/
def DTr (cL cG : Addr) (n : Nat) : Eqv := fun x y H => ∃ t, Tr.depth t ≤ n ∧ TAt cL cG H x t ∧ TAt cL cG H y t
theorem mon_tree {cL cG : Addr} {n : Nat} : Mon (DTr cL cG n) := fun x y H H' e ⟨t, hd, h1, h2⟩ => ⟨t, hd, h1.mono e, h2.mono e⟩
def RTr (cL cG : Addr) (n : Nat) (k : Bool) : Addr → Addr → Hp → Prop := fun a b H => ∃ t, Tr.depth t ≤ n ∧ knd t = k ∧ TAt cL cG H (.ref a) t ∧ TAt cL cG H (.ref b) t
theorem eqG_tree {K : PySem.W.Frag} {mg : Str → Option Value} {X : Cx} {T : Txt K mg} {n m : Nat} (hK : X.K = K) (GL : FnOk X.prog X.w X.K X.mg X.base CX0 (m + 1) T.f_Leaf_eq T.d_Leaf_eq ["self", "other"] (spEq (RTr T.a_Leaf T.a_Group n true)))
    (GG : FnOk X.prog X.w X.K X.mg X.base CX0 (m + 1) T.f_Group_eq T.d_Group_eq ["self", "other"] (spEq (RTr T.a_Leaf T.a_Group n false))) : EqG X (m + 1) (DTr T.a_Leaf T.a_Group n) := by
  subst hK
  have h1 := eqG_ins (C := T.a_Leaf) (E := E0) GL T.M_Leaf_eq.at_ T.M_Leaf_eq.fn T.b_Leaf_eq pass0
  have h2 := eqG_ins (C := T.a_Group) (E := E0) GG T.M_Group_eq.at_ T.M_Group_eq.fn T.b_Group_eq pass0
  refine (h1.or h2).imp fun x y H ⟨t, hd, w1, w2⟩ => ?_
  cases w1 with
  | @leaf p dx z g =>
    cases w2 with
    | @leaf p2 dx2 _ g2 => exact .inl ⟨p, p2, dx, dx2, _, _, rfl, rfl, g, g2, .leaf z, hd, rfl, .leaf g, .leaf g2⟩
  | @grp p dx lr lp ln rs ps vs g1 g2 g3 g4 hl hf =>
    cases w2 with
    | @grp p2 dx2 lr2 lp2 ln2 _ _ vs2 k1 k2 k3 k4 kl kf => exact .inr ⟨p, p2, dx, dx2, _, _, rfl, rfl, g1, k1, .grp rs ps, hd, rfl, .grp g1 g2 g3 g4 hl hf, .grp k1 k2 k3 k4 kl kf⟩
theorem dp_ints {K : PySem.W.Frag} {H : Hp} : ∀ rs : List Int, DpAll K H (rs.map V.int) (rs.map PyData.int)
  | [] => .nil
  | r :: rs => .cons (.int r) (dp_ints rs)
theorem canLay_ints : ∀ rs : List Int, PyData.canLayAll0 (rs.map PyData.int) = true
  | [] => rfl
  | r :: rs => by
    show (PyData.canLay0 (.int r) && PyData.canLayAll0 (rs.map PyData.int)) = true
    rw [canLay_ints rs]
    rfl
theorem depth_ints : ∀ rs : List Int, PyData.depthAll (rs.map PyData.int) = 0
  | [] => rfl
  | r :: rs => by
    show max (PyData.depth (.int r)) (PyData.depthAll (rs.map PyData.int)) = 0
    rw [depth_ints rs]
    rfl
theorem shaped_ints (rs : List Int) : SeqAt.shaped (.list (rs.map PyData.int)) = true := by
  show (PyData.canLayAll0 (rs.map PyData.int) && decide (PyData.depthAll (rs.map PyData.int) + 1 ≤ 64)) = true
  rw [canLay_ints, depth_ints]
  rfl
section
variable {P : Program} {w : World} {K : PySem.W.Frag} {mg : Str → Option Value} {base : Heap}
theorem ok_Leaf_eq (T : Txt K mg) (n : Nat) : FnOk P w K mg base CX0 1 T.f_Leaf_eq T.d_Leaf_eq ["self", "other"] (spEq (RTr T.a_Leaf T.a_Group n true)) := by
  refine T.F_Leaf_eq.ok sc_Leaf_eq (fun vs H Q E h => ?_) (fun cdv A outer s H vs Q E hr h => ?_)
  · obtain ⟨a, b, rfl, _⟩ := h
    rfl
  obtain ⟨a, b, rfl, ⟨t, hd, hk, w1, w2⟩, q⟩ := h
  refine ⟨_, (pss_one (ps_ret (pe_and (pe_callB call_isi (by rfl) T.m_isinstance (by decide +kernel) (pa_cons (pv 1) (pa_cons (pe_glob (v := .ref T.a_Leaf) rfl T.m_Leaf rfl) pa_nil))) (pe_one (pe_cmpR op_eq (pe_fld (pv 0) rfl) (pe_fld (pv 1) rfl) (nomark _)))))), ?_⟩
  cases t with
  | grp _ _ => cases hk
  | leaf z =>
    cases w1 with
    | @leaf _ dx _ g =>
      cases w2 with
      | @leaf _ dx2 _ g2 =>
        refine ⟨_, rfl, _, _, _, _, _, rfl, .own _, .base (.ins g2 T.c_Leaf T.ca_Leaf T.gc T.tc T.mo_Leaf), kit_self, _, rfl, iteT ?_⟩
        refine ⟨_, rfl, a, _, dx, _, _, rfl, g, T.c_Leaf, T.n_Leaf_name, lf_name, _, rfl, b, _, dx2, _, _, rfl, g2, T.c_Leaf, T.n_Leaf_name, lf_name, rfl, ?_⟩
        rw [decide_eq_true rfl]
        exact q H (fun _ _ h => h)
theorem ok_Group_eq (T : Txt K mg) : ∀ n : Nat, FnOk P w K mg base CX0 (2 * n + 1) T.f_Group_eq T.d_Group_eq ["self", "other"] (spEq (RTr T.a_Leaf T.a_Group n false))
  | 0 => fn_no fun vs H Q E h => by
    obtain ⟨a, b, _, ⟨t, hd, hk, _⟩, _⟩ := h
    cases t with
    | leaf x => cases hk
    | grp rs ps => exact absurd (show depthL ps + 1 ≤ 0 from hd) (by omega)
  | n + 1 => by
    have GL : FnOk P w K mg base CX0 (2 * n + 1) T.f_Leaf_eq T.d_Leaf_eq ["self", "other"] (spEq (RTr T.a_Leaf T.a_Group n true)) := (ok_Leaf_eq T n).mono (by omega)
    have GG : FnOk P w K mg base CX0 (2 * n + 1) T.f_Group_eq T.d_Group_eq ["self", "other"] (spEq (RTr T.a_Leaf T.a_Group n false)) := ok_Group_eq T n
    refine T.F_Group_eq.ok sc_Group_eq (fun vs H Q E h => ?_) (fun cdv A outer s H vs Q E hr h => ?_)
    · obtain ⟨a, b, rfl, _⟩ := h
      rfl
    obtain ⟨a, b, rfl, ⟨t, hd, hk, w1, w2⟩, q⟩ := h
    refine ⟨_, (pss_one (ps_ret (pe_and (pe_callB call_isi (by rfl) T.m_isinstance (by decide +kernel) (pa_cons (pv 1) (pa_cons (pe_glob (v := .ref T.a_Group) rfl T.m_Group rfl) pa_nil))) (pe_and (pe_cmpR (op_eqD hr.units) (pe_fld (pv 0) rfl) (pe_fld (pv 1) rfl) (nomark _)) (pe_one (pe_cmpR (op_eqG (rcG_list (mon_tree (n := n)) (eqG_tree (T := T) rfl GL GG)) (hr.mono (by omega))) (pe_fld (pv 0) rfl) (pe_fld (pv 1) rfl) (nomark _))))))), ?_⟩
    cases t with
    | leaf _ => cases hk
    | grp rs ps =>
      have hd : depthL ps + 1 ≤ n + 1 := hd
      cases w1 with
      | @grp _ dx lr lp ln _ _ vs g1 g2 g3 g4 hl hf =>
        cases w2 with
        | @grp _ dx2 lr2 lp2 ln2 _ _ vs2 k1 k2 k3 k4 kl kf =>
          refine ⟨_, rfl, _, _, _, _, _, rfl, .own _, .base (.ins k1 T.c_Group T.ca_Group T.gc T.tc T.mo_Group), kit_self, _, rfl, iteT ?_⟩
          refine ⟨_, rfl, a, _, dx, _, _, rfl, g1, T.c_Group, T.n_Group_ranks, gf_ranks, _, rfl, b, _, dx2, _, _, rfl, k1, T.c_Group, T.n_Group_ranks, gf_ranks, _, _, .lst (SqL.of g2) (dp_ints rs), .lst (SqL.of k2) (dp_ints rs), shaped_ints rs, shaped_ints rs, _, rfl, ?_⟩
          rw [show PyData.eqv (.list (rs.map PyData.int)) (.list (rs.map PyData.int)) = true from SeqAt.eqv_refl _ (canLay_ints rs)]
          refine iteT ?_
          refine ⟨_, rfl, a, _, dx, _, _, rfl, g1, T.c_Group, T.n_Group_parts, gf_parts, _, rfl, b, _, dx2, _, _, rfl, k1, T.c_Group, T.n_Group_parts, gf_parts, ⟨lp, lp2, vs, vs2, rfl, rfl, g3, k3, by rw [hl, kl], fun i x y hx hy => ?_⟩, fun H' e => q H' e⟩
          have hi := (List.getElem?_eq_some_iff.mp hx).1
          have hi2 : i < ps.length := by rw [← hl]; exact hi
          have ht := List.getElem?_eq_getElem hi2
          have := depth_mem (List.getElem_mem hi2)
          exact ⟨ps[i], by omega, hf i x _ hx ht, kf i y _ hy ht⟩
end
end Rk
set_option Elab.async false
set_option linter.all false
set_option maxRecDepth 100000
set_option maxHeartbeats 4000000
namespace Rk
open PySem PySem.Spec PyProof.Rows L2 RkO
open Evl (Ev EvT EvA EvL EvU EvO Ex RC RCL SpV SpL)
/-- the well at a has gone on, all else stands -/
def Wl (a : Addr) (H H' : Hp) : Prop := (∃ n : Int, 0 ≤ n ∧ H' a = some (.lst [.int n])) ∧ ∀ b o, b ≠ a → H b = some o → H' b = some o
theorem Wl.refl {a : Addr} {H : Hp} {n : Int} (h : H a = some (.lst [.int n])) (h0 : 0 ≤ n) : Wl a H H := ⟨⟨n, h0, h⟩, fun _ _ _ h => h⟩
theorem Wl.trans {a : Addr} {H H1 H2 : Hp} (x : Wl a H H1) (y : Wl a H1 H2) : Wl a H H2 := ⟨y.1, fun b o n h => y.2 b o n (x.2 b o n h)⟩
theorem Wl.same {a : Addr} {H H1 H2 : Hp} (x : Wl a H H1) (y : Same H1 H2) : Wl a H H2 := ⟨x.1.elim fun n h => ⟨n, h.1, y _ _ h.2⟩, fun b o n h => y _ _ (x.2 b o n h)⟩
theorem Wl.dip {a : Addr} {H H1 : Hp} {n : Int} (x : Wl a H H1) (h0 : 0 ≤ n) : Wl a H (upd H1 a (.lst [.int n])) := ⟨⟨n, h0, upd_same⟩, fun b o nb h => by rw [upd_ne nb]; exact x.2 b o nb h⟩
theorem Wl.mut {a b : Addr} {H H1 : Hp} {o : HO} (x : Wl a H H1) (nb : b ≠ a) (h : H b = none) : Wl a H (upd H1 b o) := by
  refine ⟨x.1.elim fun n h => ⟨n, h.1, by rw [upd_ne nb.symm]; exact h.2⟩, fun c u nc hc => ?_⟩
  rw [upd_ne (ne_of_none hc h)]
  exact x.2 c u nc hc
theorem Wl.ne {a b : Addr} {H H1 : Hp} (x : Wl a H H1) (n : H1 b = none) : b ≠ a := fun z => by
  obtain ⟨k, _, h⟩ := x.1
  rw [z, h] at n
  cases n
theorem Wl.fresh {a b : Addr} {H H1 : Hp} (x : Wl a H H1) (n : H1 b = none) : H b = none := by
  cases h : H b with
  | none => rfl
  | some o =>
    rw [x.2 b o (x.ne n) h] at n
    cases n
theorem Wl.sq {K : PySem.W.Frag} {a b : Addr} {H H1 : Hp} {xs : List V} (x : Wl a H H1) (nb : b ≠ a) (h : SqL K H b xs) : SqL K H1 b xs := by
  rcases h with (h | ⟨o, h⟩) | h
  · exact .inl (.inl (x.2 _ _ nb h))
  · exact .inl (.inr ⟨o, x.2 _ _ nb h⟩)
  · exact .inr h
def letters (cs : List Nat) : Prop := ∀ c ∈ cs, 97 ≤ c ∧ c ≤ 122
theorem name_of {x : Str} (h1 : 1 ≤ x.length) (h2 : x.length ≤ 8) (h : letters x.cps.toList) : nameOk x = true := by
  unfold nameOk
  rw [decide_eq_true h1, decide_eq_true h2, Bool.true_and, Bool.true_and, List.all_eq_true]
  intro c hc
  have := h c hc
  rw [decide_eq_true this.1, decide_eq_true this.2]
  rfl
theorem name_letters {x : Str} (h : nameOk x = true) : 1 ≤ x.length ∧ x.length ≤ 8 ∧ letters x.cps.toList := by
  unfold nameOk at h
  rw [Bool.and_eq_true, Bool.and_eq_true] at h
  refine ⟨of_decide_eq_true h.1.1, of_decide_eq_true h.1.2, fun c hc => ?_⟩
  have := List.all_eq_true.mp h.2 c hc
  rw [Bool.and_eq_true] at this
  exact ⟨of_decide_eq_true this.1, of_decide_eq_true this.2⟩
theorem abc_at (d : Int) (h0 : 0 ≤ d) (h1 : d < 26) : ∃ c, atI (("abcdefghijklmnopqrstuvwxyz" : Str)).cps.toList d = some c ∧ 97 ≤ c ∧ c ≤ 122 := by
  obtain ⟨j, rfl⟩ : ∃ j : Nat, d = j := ⟨d.toNat, by omega⟩
  have key : ∀ j : _root_.Fin 26, ∃ c, ((("abcdefghijklmnopqrstuvwxyz" : Str)).cps.toList)[j.1]? = some c ∧ 97 ≤ c ∧ c ≤ 122 := fun j => by
    refine ⟨97 + j.1, ?_, by omega, by omega⟩
    revert j
    decide +kernel
  obtain ⟨c, hc, h⟩ := key ⟨j, by omega⟩
  exact ⟨c, atI_nat hc, h⟩
theorem six_at (d : Int) (h0 : 0 ≤ d) (h1 : d < 6) : ∃ s : Int, atI [V.int 1, V.int 1, V.int 1, V.int 2, V.int 3, V.int 8] d = some (.int s) ∧ 1 ≤ s ∧ s ≤ 8 := by
  obtain ⟨j, rfl⟩ : ∃ j : Nat, d = j := ⟨d.toNat, by omega⟩
  have : j = 0 ∨ j = 1 ∨ j = 2 ∨ j = 3 ∨ j = 4 ∨ j = 5 := by omega
  rcases this with rfl | rfl | rfl | rfl | rfl | rfl
  · exact ⟨1, atI_nat rfl, by decide, by decide⟩
  · exact ⟨1, atI_nat rfl, by decide, by decide⟩
  · exact ⟨1, atI_nat rfl, by decide, by decide⟩
  · exact ⟨2, atI_nat rfl, by decide, by decide⟩
  · exact ⟨3, atI_nat rfl, by decide, by decide⟩
  · exact ⟨8, atI_nat rfl, by decide, by decide⟩
theorem joinL_ones : ∀ cs : List Nat, TL.joinL [] (cs.map fun c => [c]) = cs
  | [] => rfl
  | [c] => rfl
  | c :: d :: r => by
    show [c] ++ [] ++ TL.joinL [] ((d :: r).map fun c => [c]) = _
    rw [joinL_ones (d :: r)]
    rfl
theorem join_ones (cs : List Nat) : (Txt.join (Str.ofString "") (cs.map fun c => (⟨#[c]⟩ : Str))).cps.toList = cs := by
  have h := TL.tl_join (Str.ofString "") (cs.map fun c => (⟨#[c]⟩ : Str))
  rw [← TL.join_eq, List.map_map] at h
  exact h.trans (joinL_ones cs)
theorem cut8 (z : Str) : (cutS z none (some 8)).cps.toList = z.cps.toList.take 8 := by
  show ((z.cps.toList.drop (HT.sIx z.length 0 none)).take (HT.sIx z.length z.length (some 8) - HT.sIx z.length 0 none)) = _
  rw [HT.sIx_none, show HT.sIx z.length z.length (some 8) = min 8 z.length from HT.sIx_nat z.length z.length 8, List.drop_zero, Nat.sub_zero]
  have : z.length = z.cps.toList.length := rfl
  rw [this, List.take_eq_take_iff]
  omega


theorem Wl.r {a : Addr} {H H1 : Hp} (x : Wl a H H1) : Wl a H1 H1 := by
  obtain ⟨⟨n, h0, h⟩, _⟩ := x
  exact Wl.refl h h0

/-- how far a comprehension whose turns draw from the well has come -/
def Cl (a D : Addr) (H1 : Hp) (I : Nat → List V → Prop) (i : Nat) : Hp → Prop := fun H' => (H1 D = none ∧ D ≠ a) ∧ ∃ acc, H' D = some (.lst acc) ∧ acc.length ≤ i ∧ I i acc ∧ Wl a H1 H'
section
variable {K : PySem.W.Frag} {σ σ2 : L2.St} {H H' : Hp} {te tl : TE} {t : TT} {Q : VK} {a : Addr}
def TurnW (a : Addr) (H : Hp) (I : Nat → List V → Prop) (t : TT) (te : TE) (i : Nat) (σ2 : L2.St) : Prop := ∀ H' acc, Wl a H H' → I i acc → ∀ (Y : VK) (N : Hp → Prop), (∀ y H'', Wl a H' H'' → I (i + 1) (acc ++ [y]) → Y y H'') → (∀ H'', Wl a H' H'' → I (i + 1) acc → N H'') →
  t σ2 H' fun b H3 => if b = true then te σ2 H3 Y else N H3
theorem cl_turn {D : Addr} {H1 : Hp} {I : Nat → List V → Prop} {i : Nat} {H' : Hp} (p : Cl a D H1 I i H') (hi : i < 40000) (h : TurnW a H1 I t te i σ2) :
    t σ2 H' fun b H3 => if b = true then te σ2 H3 fun y H4 => ∃ acc, H4 D = some (.lst acc) ∧ acc.length < sizeLine ∧ Cl a D H1 I (i + 1) (upd H4 D (.lst (acc ++ [y]))) else Cl a D H1 I (i + 1) H3 := by
  obtain ⟨⟨nD, na⟩, acc, hD, hl, hI, hw⟩ := p
  refine h H' acc hw hI _ _ (fun y H4 w4 I4 => ⟨acc, w4.2 _ _ na hD, Evl.sz_lt (by omega), ⟨nD, na⟩, acc ++ [y], upd_same, by rw [List.length_append]; exact Nat.succ_le_succ hl, I4, (hw.trans w4).mut na nD⟩) (fun H3 w3 I3 => ⟨⟨nD, na⟩, acc, w3.2 _ _ na hD, Nat.le_succ_of_le hl, I3, hw.trans w3⟩)
theorem cl_start {D : Addr} {I : Nat → List V → Prop} (w : Wl a H H) (hD : H D = none) (i0 : I 0 []) : Cl a D H I 0 (upd H D (.lst [])) := ⟨⟨hD, w.ne hD⟩, [], upd_same, Nat.le_refl _, i0, w.mut (w.ne hD) hD⟩
theorem lc_w1 {ta : TA} {j : Nat} {vs : List Nat} {n : Int} (I : Nat → List V → Prop) (h : ∀ R : List V → Hp → Prop, R [.int n] H → ta σ H R) (hn : 0 ≤ n ∧ n ≤ 40000) (hw : ∀ x, wipe ((wipe σ vs).set j (some x)) vs = wipe σ vs) (w : Wl a H H) (i0 : I 0 [])
    (hs : ∀ i : Nat, (i : Int) < n → TurnW a H I t te i ((wipe σ vs).set j (some (.int (i : Int))))) (q : ∀ D H' acc, H D = none → D ≠ a → H' D = some (.lst acc) → (acc.length : Int) ≤ n → I n.toNat acc → Wl a H H' → Q (.ref D) H') : tLc (iRng1 ta) (gName j) t te vs σ H Q :=
  h _ ⟨n, rfl, by omega, by omega, fun D hD => lc_range (lo := 0) (n := n.toNat) (Cl a D H I) (cl_start w hD i0) (fun i H' hi p => by
    have e0 : (0 : Int) + (i : Int) = (i : Int) := Int.zero_add _
    show wipe ((wipe σ vs).set j (some (.int ((0 : Int) + (i : Int))))) vs = wipe σ vs ∧ t ((wipe σ vs).set j (some (.int ((0 : Int) + (i : Int))))) H' fun b H3 => if b = true then te ((wipe σ vs).set j (some (.int ((0 : Int) + (i : Int))))) H3 fun y H4 => ∃ acc, H4 D = some (.lst acc) ∧ acc.length < sizeLine ∧ Cl a D H I (i + 1) (upd H4 D (.lst (acc ++ [y]))) else Cl a D H I (i + 1) H3
    rw [e0]
    exact ⟨hw _, cl_turn p (by omega) (hs i (by omega))⟩) (fun H' p => by
      obtain ⟨⟨nD, na⟩, acc, hD, hl, hI, hw⟩ := p
      exact q D H' acc nD na hD (by omega) hI hw)⟩
theorem lc_w2 {ta : TA} {j : Nat} {vs : List Nat} {lo n : Int} (I : Nat → List V → Prop) (h : ∀ R : List V → Hp → Prop, R [.int lo, .int n] H → ta σ H R) (hn : 0 ≤ lo ∧ lo ≤ 40000 ∧ 0 ≤ n ∧ n ≤ 40000) (hw : ∀ x, wipe ((wipe σ vs).set j (some x)) vs = wipe σ vs) (w : Wl a H H) (i0 : I 0 [])
    (hs : ∀ i : Nat, lo + (i : Int) < n → TurnW a H I t te i ((wipe σ vs).set j (some (.int (lo + (i : Int)))))) (q : ∀ D H' acc, H D = none → D ≠ a → H' D = some (.lst acc) → acc.length ≤ (n - lo).toNat → I (n - lo).toNat acc → Wl a H H' → Q (.ref D) H') : tLc (iRng2 ta) (gName j) t te vs σ H Q :=
  h _ ⟨lo, n, rfl, ⟨by omega, by omega, by omega, by omega⟩, fun D hD => lc_range (lo := lo) (n := (n - lo).toNat) (Cl a D H I) (cl_start w hD i0) (fun i H' hi p => ⟨hw _, cl_turn p (by omega) (hs i (by omega))⟩) (fun H' p => by
      obtain ⟨⟨nD, na⟩, acc, hD, hl, hI, hw⟩ := p
      exact q D H' acc nD na hD hl hI hw)⟩
theorem lc_wL {tl : TE} {j : Nat} {vs : List Nat} {xs : List V} {b : Addr} (I : Nat → List V → Prop) (h : ∀ R : VK, R (.ref b) H → tl σ H R) (nb : b ≠ a) (hx : SqL K H b xs) (hz : xs.length ≤ 40000) (hw : ∀ x, wipe ((wipe σ vs).set j (some x)) vs = wipe σ vs) (w : Wl a H H) (i0 : I 0 [])
    (hs : ∀ i x, xs[i]? = some x → TurnW a H I t te i ((wipe σ vs).set j (some x))) (q : ∀ D H' acc, H D = none → D ≠ a → H' D = some (.lst acc) → acc.length ≤ xs.length → I xs.length acc → Wl a H H' → Q (.ref D) H') : tLc (iList K tl) (gName j) t te vs σ H Q :=
  h _ ⟨b, rfl, ⟨xs, hx⟩, fun D hD => lc_list (xs := xs) (Cl a D H I) (cl_start w hD i0) (fun i H' _ p => by
      obtain ⟨⟨nD, na⟩, acc, hD, hl, hI, hw⟩ := p
      exact hw.sq nb hx) (fun i x H' hi p => ⟨hw _, cl_turn p (by have := (List.getElem?_eq_some_iff.mp hi).1; omega) (hs i x hi)⟩) (fun H' p => by
      obtain ⟨⟨nD, na⟩, acc, hD, hl, hI, hw⟩ := p
      exact q D H' acc nD na hD hl hI hw)⟩
end

section
variable {K : PySem.W.Frag} {σ : L2.St} {H : Hp} {tm : TE} {Q : VK} {a : Addr}
/-- a number drawn from the well -/
theorem call_dip {i : Nat} {m : Int} (hσ : σ[i]? = some (some (.ref a))) (w : Wl a H H) (ht : ∀ R : VK, R (.int m) H → tm σ H R) (hm : 0 < m ∧ m ≤ 10 ^ 40) (q : ∀ d H2, 0 ≤ d → d < m → Wl a H H2 → Q (.int d) H2) : tCall (spDip K) [] E0 (tCons (tVar i) (tCons tm tNil)) σ H Q := by
  obtain ⟨n, h0, h⟩ := w.1
  exact ⟨_, hσ, ht _ ⟨a, n, m, rfl, h, h0, hm.1, hm.2, fun d n' hd hd2 hn' => q d _ hd hd2 (w.dip hn')⟩⟩
end
theorem str_ofList {x : Str} {cs : List Nat} (h : x.cps.toList = cs) : x.length = cs.length := by
  rw [← h]
  rfl
theorem sq_asg {te : TE} {i : Nat} {u : TS} {D : Ends} {σ : L2.St} {H : Hp} (h : te σ H fun x H1 => u D (σ.set i (some x)) H1) : tSeq (tAsg te (gName i)) u D σ H := h
theorem un_asg {te : TE} {i : Nat} {D : Ends} {σ : L2.St} {H : Hp} (h : te σ H fun x H1 => D.nx (σ.set i (some x)) H1) : tAsg te (gName i) D σ H := h
theorem un_op {r : R2} {ta tb : TE} {σ : L2.St} {H : Hp} {Q : VK} (h : ta σ H fun x H1 => tb σ H1 fun y H2 => r x y H2 Q) : tOp r ta tb σ H Q := h
theorem un_m1 {r : V → List V → Hp → VK → Prop} {te : TE} {y : Str} {σ : L2.St} {H : Hp} {Q : VK} (h : te σ H fun x H1 => r (.str y) [x] H1 Q) : tM1 r (tC (.str y)) te σ H Q := ⟨⟨y, rfl⟩, h⟩
theorem dp_strs {K : PySem.W.Frag} {H : Hp} : ∀ xs : List Str, DpAll K H (xs.map V.str) (xs.map PyData.str)
  | [] => .nil
  | x :: xs => .cons (.str x) (dp_strs xs)
theorem strOk_name {x : Str} (h : nameOk x = true) : PyData.strOk x = true := by
  unfold PyData.strOk
  rw [← Array.all_toList, List.all_eq_true]
  intro c hc
  have := (name_letters h).2.2 c hc
  exact decide_eq_true (by omega)
theorem canLay_strs : ∀ xs : List Str, (∀ x ∈ xs, nameOk x = true) → PyData.canLayAll0 (xs.map PyData.str) = true
  | [], _ => rfl
  | x :: xs, h => by
    show (PyData.strOk x && PyData.canLayAll0 (xs.map PyData.str)) = true
    rw [strOk_name (h x List.mem_cons_self), canLay_strs xs fun y hy => h y (List.mem_cons_of_mem _ hy)]
    rfl
theorem depth_strs : ∀ xs : List Str, PyData.depthAll (xs.map PyData.str) = 0
  | [] => rfl
  | x :: xs => by
    show max (PyData.depth (.str x)) (PyData.depthAll (xs.map PyData.str)) = 0
    rw [depth_strs xs]
    rfl
theorem shaped_strs {xs : List Str} (h : ∀ x ∈ xs, nameOk x = true) : SeqAt.shaped (.list (xs.map PyData.str)) = true := by
  show (PyData.canLayAll0 (xs.map PyData.str) && decide (PyData.depthAll (xs.map PyData.str) + 1 ≤ 64)) = true
  rw [canLay_strs xs h, depth_strs]
  rfl
theorem eqv_strs_nil (xs : List Str) : PyData.eqv (.list (xs.map PyData.str)) (.list []) = decide (xs = []) := by
  cases xs with
  | nil => rfl
  | cons x xs => rfl
theorem flat_name (xs : List Str) : (xs.map V.str).all flatV = true := by
  induction xs with
  | nil => rfl
  | cons x xs ih => exact ih
theorem ones_sum : ∀ cs : List Nat, (List.map (fun x : Str => x.length) (cs.map fun c => (⟨#[c]⟩ : Str))).sum = cs.length
  | [] => rfl
  | c :: cs => by
    show 1 + (List.map (fun x : Str => x.length) (cs.map fun c => (⟨#[c]⟩ : Str))).sum = cs.length + 1
    rw [ones_sum cs]
    omega
theorem un_test {te : TE} {σ : L2.St} {H : Hp} {Q : Bool → Hp → Prop} (h : te σ H fun x H1 => ∃ k, x = .bl k ∧ Q k H1) : tTest te σ H Q := h
theorem un_yes {te : TE} {σ : L2.St} {H : Hp} {Y : VK} {N : Hp → Prop} (h : te σ H Y) : tYes σ H fun b H1 => if b = true then te σ H1 Y else N H1 := by
  show if true = true then te σ H Y else N H
  rw [if_pos rfl]
  exact h
theorem un_and {t u : TT} {σ : L2.St} {H : Hp} {Q : Bool → Hp → Prop} (h : t σ H fun c H1 => if c = true then u σ H1 Q else Q false H1) : tAnd t u σ H Q := h
theorem un_ifS {c : TT} {t u : TS} {D : Ends} {σ : L2.St} {H : Hp} (h : c σ H fun b H1 => if b = true then t D σ H1 else u D σ H1) : tIfS c t u D σ H := h
theorem app_list (x y : Str) : (x ++ y).cps.toList = x.cps.toList ++ y.cps.toList := TL.tl_append x y
theorem cut_name {x y : Str} (hx : nameOk x = true) (hy : nameOk y = true) : nameOk (cutS (x ++ y) none (some 8)) = true := by
  obtain ⟨x1, x2, x3⟩ := name_letters hx
  obtain ⟨y1, y2, y3⟩ := name_letters hy
  have e := cut8 (x ++ y)
  rw [app_list] at e
  have l := str_ofList e
  rw [List.length_take, List.length_append] at l
  have lx : x.length = x.cps.toList.length := rfl
  have ly : y.length = y.cps.toList.length := rfl
  refine name_of (by omega) (by omega) fun c hc => ?_
  rw [e] at hc
  rcases List.mem_append.mp (List.mem_of_mem_take hc) with h | h
  · exact x3 c h
  · exact y3 c h
def spWords (a : Addr) : Sp := fun vs H Q _ => ∃ many : Int, vs = [.ref a, .int many] ∧ (0 ≤ many ∧ many ≤ 40) ∧ Wl a H H ∧ ∀ (xs : List Str) l H', xs.Nodup → (∀ x ∈ xs, nameOk x = true) → (xs.length : Int) ≤ many → (1 ≤ many → xs ≠ []) → H l = none → l ≠ a → H' l = some (.lst (xs.map .str)) → Wl a H H' → Q (.ref l) H'
section
variable {P : Program} {w : World} {K : PySem.W.Frag} {mg : Str → Option Value} {base : Heap}
theorem ok_law_words (T : Txt K mg) (a : Addr) : FnOk P w K mg base CX0 2 T.f_law_words T.d_law_words ["well", "many"] (spWords a) := by
  have G_law_dip := ok_law_dip (P := P) (w := w) (base := base) T
  refine T.F_law_words.ok sc_law_words (fun vs H Q E h => ?_) (fun cdv A outer s H vs Q E hr h => ?_)
  · obtain ⟨many, rfl, _⟩ := h
    rfl
  obtain ⟨many, rfl, hm, hw, q⟩ := h
  refine ⟨_, (pss_cons (ps_set (i := 2) sc_law_words.nd rfl (Or.inl rfl) (pe_lst pa_nil))
  (pss_cons (ps_for PassesOwn.never rfl (pi_range1 rfl T.m_range (pa_cons (pv 1) pa_nil)) (pg_name (i := 3) sc_law_words.nd rfl (.inl rfl))
    (pss_cons (ps_set (i := 4) sc_law_words.nd rfl (Or.inl rfl) (pe_ix ix_list (pe_lst (pa_cons pe_int (pa_cons pe_int (pa_cons pe_int (pa_cons pe_int (pa_cons pe_int (pa_cons pe_int pa_nil))))))) (pe_call G_law_dip (hr.mono (by omega)) rfl T.m_law_dip T.F_law_dip.kp T.b_law_dip .nil pass0 (pa_cons (pv 0) (pa_cons pe_int pa_nil))) (fun _ _ => rfl)))
    (pss_cons (ps_set (i := 5) sc_law_words.nd rfl (Or.inl rfl) (pe_join pe_str (pe_lc (own := [("k", 6)]) rfl sc_law_words.nd  (pi_range1 rfl T.m_range (pa_cons (pv 4) pa_nil)) (blkOk_by (own := [("k", 6)]) (N := ["well", "many", "found", "turn", "size", "word", "k"]) (sc := defScope s_law_words) (by decide +kernel)) (fun _ _ _ _ _ => (pg_name (i := 6) sc_law_words.nd rfl (.inl rfl))) (fun _ _ _ _ _ => pts_nil) (fun _ _ _ _ _ => (pe_ix ix_str pe_str (pe_call G_law_dip (hr.mono (by omega)) rfl T.m_law_dip T.F_law_dip.kp T.b_law_dip .nil pass0 (pa_cons (pv 0) (pa_cons pe_int pa_nil))) (fun _ _ => rfl))))))
    (Evl.pss_cut (ps_if (PW.pt (pw_and (pt_cmpR (op_neD hr.units) (pv 2) (pe_lst pa_nil) (nomark _)) (pw_and1 (pt_cmpR op_eq (pe_call G_law_dip (hr.mono (by omega)) rfl T.m_law_dip T.F_law_dip.kp T.b_law_dip .nil pass0 (pa_cons (pv 0) (pa_cons pe_int pa_nil))) pe_int (nomark _))))) (pss_one (ps_set (i := 5) sc_law_words.nd rfl (Or.inl rfl) (pe_slice sl_str (pe_op op_add_str (pe_ix ix_list (pv 2) (pe_un un_neg pe_int) (fun _ _ => rfl)) (pv 5)) po_none (po_some pe_int)))) pss_nil)
    (pss_one (ps_if (pt_cmpR op_notIn_seq (pv 5) (pv 2) (by rfl)) (pss_one (ps_expr (pe_bm PySem.F.plainAttrs_list PySem.F.slot_list_append PySem.F.type_list_append mt_append (pv 2) (pa_cons (pv 5) pa_nil)))) pss_nil))))))
  (pss_one (ps_ret (pv 2))))), ?_⟩
  refine Evl.q_asgL (Evl.el_lst Evl.ea_nil (by decide)) fun f H1 nf e1 h1 => ?_
  have w1 : Wl a H H1 := hw.same e1
  have fa : f ≠ a := hw.ne nf
  refine Evl.q_forR1 (n := many) (Evl.ea_cons (Evl.ev_var rfl) Evl.ea_nil) (by omega) (fun i σ' H' => ∃ (xs : List Str) (t s w : Option V), σ' = [some (.ref a), some (.int many), some (.ref f), t, s, w, none] ∧ H' f = some (.lst (xs.map .str)) ∧ xs.Nodup ∧ (∀ x ∈ xs, nameOk x = true) ∧ xs.length ≤ i ∧ (1 ≤ i → xs ≠ []) ∧ Wl a H H') (fun H2 e2 => ⟨[], none, none, none, rfl, e2 _ _ h1, List.nodup_nil, (fun x h => absurd h List.not_mem_nil), Nat.le_refl _, (fun h => absurd h (by decide)), w1.same e2⟩) (fun i σ' H' hi p => ?_) (fun σ' H' p => ?_)
  rotate_left
  · obtain ⟨xs, t, s, wd, rfl, hf, nd, hn, hl, hne, hW⟩ := p
    exact ⟨_, rfl, q xs f H' nd hn (by omega) (fun h => hne (by omega)) nf fa hf hW⟩
  obtain ⟨xs, t, s, wd, rfl, hf, nd, hn, hl, hne, hW⟩ := p
  dsimp only [List.set]
  -- size
  refine sq_asg <| un_op <| Evl.el_lst (vs := [V.int 1, V.int 1, V.int 1, V.int 2, V.int 3, V.int 8]) (Evl.ea_cons (Evl.ev_c) (Evl.ea_cons Evl.ev_c (Evl.ea_cons Evl.ev_c (Evl.ea_cons Evl.ev_c (Evl.ea_cons Evl.ev_c (Evl.ea_cons Evl.ev_c Evl.ea_nil)))))) (by decide) H' (Ex.refl _) _ fun l6 H2 n6 e2 h6 => ?_
  have w2 := hW.same e2
  refine call_dip (a := a) rfl w2.r (fun R r => r) (by decide) fun d H3 d0 d6 w3 => ?_
  obtain ⟨sz, hsz, s1, s8⟩ := six_at d d0 d6
  have f3 : H3 f = some (.lst (xs.map .str)) := w3.2 _ _ fa (e2 _ _ hf)
  have W3 := w2.trans w3
  refine ⟨l6, _, d, .int sz, rfl, rfl, SqL.of (w3.2 _ _ (hW.ne n6) h6), hsz, ?_⟩
  dsimp only [List.set]
  -- word
  refine sq_asg <| un_m1 ?_
  refine lc_w1 (a := a) (n := sz) (fun i acc => ∃ cs : List Nat, acc = (cs.map fun c => (⟨#[c]⟩ : Str)).map V.str ∧ letters cs ∧ cs.length = i) (fun R r => ⟨_, rfl, r⟩) (by omega) (fun x => rfl) W3.r ⟨[], rfl, fun c h => absurd h List.not_mem_nil, rfl⟩ (fun k hk H4 acc w4 hI Y N y n => ?_) fun D H4 acc nD na hD _ hI w4 => ?_
  · obtain ⟨cs, rfl, hc, hlen⟩ := hI
    refine un_yes <| un_op ?_
    refine call_dip (a := a) rfl w4.r (fun R r => r) (by decide) fun d H5 d0 d6 w5 => ?_
    obtain ⟨c, hat, c1, c2⟩ := abc_at d d0 d6
    refine ⟨_, d, c, rfl, rfl, Evl.sz_lt (by decide), hat, y _ _ w5 ⟨cs ++ [c], by rw [List.map_append, List.map_append]; rfl, fun z hz => ?_, by rw [List.length_append, hlen]; rfl⟩⟩
    rcases List.mem_append.mp hz with h | h
    · exact hc z h
    · rw [List.mem_singleton.mp h]
      exact ⟨c1, c2⟩
  obtain ⟨cs, rfl, hc, hlen⟩ := hI
  refine ⟨_, D, _, rfl, rfl, .inl (SqL.of hD), ?_, ?_⟩
  · rw [ones_sum]
    have : (Str.ofString "").length = 0 := rfl
    rw [this]
    omega
  dsimp only [List.set]
  have hcs := join_ones cs
  generalize Txt.join (Str.ofString "") (cs.map fun c => (⟨#[c]⟩ : Str)) = wd0 at hcs ⊢
  have hwd : nameOk wd0 = true := name_of (by rw [str_ofList hcs]; omega) (by rw [str_ofList hcs]; omega) (by rw [hcs]; exact hc)
  have f4 : H4 f = some (.lst (xs.map .str)) := w4.2 _ _ fa f3
  have W4 := W3.trans w4
  refine Evl.q_cut (M := fun σ' H' => ∃ wd1, nameOk wd1 = true ∧ σ' = [some (.ref a), some (.int many), some (.ref f), some (.int i), some (.int sz), some (.str wd1), none] ∧ H' f = some (.lst (xs.map .str)) ∧ Wl a H H') ?_ ?_
  · refine un_ifS <| un_and <| un_test ⟨_, rfl, ?_⟩
    refine Evl.el_lst (vs := []) Evl.ea_nil (by decide) H4 (Ex.refl _) _ fun l7 H5 n7 e5 h7 => ?_
    have f5 := e5 _ _ f4
    have W5 := W4.same e5
    refine ⟨_, _, .lst (SqL.of f5) (dp_strs xs), .lst (SqL.of h7) .nil, shaped_strs hn, rfl, _, rfl, ?_⟩
    rw [eqv_strs_nil]
    refine ifN (fun hne' => ?_) (fun _ => iteF (nxt ⟨wd0, hwd, rfl, f5, W5⟩))
    refine un_test <| un_op ?_
    refine call_dip (a := a) rfl W5.r (fun R r => r) (by decide) fun d H6 d0 d6 w6 => ?_
    have f6 := w6.2 _ _ fa f5
    have W6 := W5.trans w6
    refine ⟨rfl, _, rfl, ?_⟩
    refine ifD (fun _ => ?_) (fun _ => nxt ⟨wd0, hwd, rfl, f6, W6⟩)
    rcases List.eq_nil_or_concat xs with h | ⟨ys, y, ey⟩
    · exact absurd h hne'
    rw [List.concat_eq_append] at ey
    subst ey
    have hy : nameOk y = true := hn y (by simp)
    refine un_asg ?_
    refine ⟨_, rfl, _, rfl, f, _, _, _, rfl, rfl, SqL.of f6, ?_, _, rfl, y, wd0, rfl, rfl, ?_, ?_⟩
    · rw [List.map_append]
      exact atI_last _ _
    · have := (name_letters hy).2.1
      have := (name_letters hwd).2.1
      exact Nat.le_of_lt <| Evl.sz_lt (by omega)
    refine ⟨_, rfl, _, rfl, ?_, ⟨_, cut_name hy hwd, rfl, f6, W6⟩⟩
    have := (name_letters hy).2.1
    have := (name_letters hwd).2.1
    show (y ++ wd0).length ≤ sizeLine
    rw [str_ofList (app_list y wd0), List.length_append]
    exact Nat.le_of_lt <| Evl.sz_lt (by show y.length + wd0.length < _; omega)
  rintro σ' H5 ⟨wd1, hwd1, rfl, f5, W5⟩
  refine un_ifS <| un_test ⟨_, rfl, _, rfl, f, _, rfl, .inl (SqL.of f5), rfl, flat_name xs, _, rfl, ?_⟩
  rw [inV_str]
  refine ifN (fun hni => ?_) (fun hin => nxt ⟨xs, _, _, _, rfl, f5, nd, hn, by omega, fun _ h => ?_, W5⟩)
  · refine ⟨_, rfl, .inl ⟨rfl, _, Evl.sq_of f5⟩, _, rfl, f, _, _, rfl, rfl, f5, ?_, ⟨xs ++ [wd1], _, _, _, rfl, ?_, ?_, ?_, ?_, ?_, W5.mut fa nf⟩⟩
    · rw [List.length_map]
      exact Evl.sz_lt (by omega)
    · rw [List.map_append]
      exact upd_same
    · refine List.nodup_append.mpr ⟨nd, List.nodup_cons.mpr ⟨List.not_mem_nil, List.nodup_nil⟩, fun u hu v hv z => ?_⟩
      rw [List.mem_singleton.mp hv] at z
      exact hni (z ▸ hu)
    · intro u hu
      rcases List.mem_append.mp hu with h | h
      · exact hn u h
      · rw [List.mem_singleton.mp h]
        exact hwd1
    · rw [List.length_append]
      exact Nat.succ_le_succ hl
    · intro _ z
      exact absurd z (by simp)
  · rw [h] at hin
    exact absurd hin List.not_mem_nil
end
end Rk
/-! sorted(set(xs)), xs a list of ints. -/
set_option Elab.async false
set_option linter.all false
set_option maxRecDepth 100000
set_option maxHeartbeats 4000000
namespace RkT
open PySem PySem.Spec PyProof PyProof.Rows L2
def ledOf (w : World) : Bool := !w.params.followText "set-order"
section
variable {prog : Program} {w : World} {A : Around}
/-- set(l), l a list of ints -/
theorem makeI {E : Value → Shared → Prop} {s : Shared} {l : Addr} {items : Array Value} {ns : List Int} {Q : Value → Shared → Prop} (calm : A.handled = none) (hl : s.heap.IsList l items) (small : ns.length + 1 < scanBound) (hints : IntsAre items.toList ns)
    (h : ∀ (h' : Heap) (tk n : Nat), SetR w h' s.heap.objs.size (fun j => decide (j ∈ ns)) n → n ≤ ns.length → (∀ b o, b < s.heap.objs.size → s.heap.get? b = some o → h'.get? b = some o) → Q (.ref s.heap.objs.size) { s with heap := h', toks := tk }) :
    wpAny (model prog w) A (call (.type "set") [.ref l]) Q E s := by
  have size : items.size = ns.length := by
    have := hints.length
    rwa [Array.length_toList] at this
  have ⟨cc, tl, bases⟩ := PySem.F.called_set.mro
  have q1 := PySem.F.called_set.made
  have q2 := PySem.F.called_set.sub
  have q3 := PySem.F.called_set.notType
  have q4 := PySem.F.called_set.canCreate
  have q5 := PySem.F.typeCall_set_1 (.ref l)
  refine wpAny_call (codeAny_of_tree ?_)
  show wpAny (model prog w) _ (callAny (.type "set") _) _ _ s
  refine wpAny_pure ⟨Code.quiet_builtin _ (by decide +kernel), codeAny_builtin PySem.F.entry_type_call (by
    rw [Around.under_plain (weight_type_call_type "set" [.ref l] []) rfl]
    repeat (any_goals (first | assumption | wp_step))
    refine codeAny_mono (code_set_led1 (.ref l) (E := E) (Q₁ := fun a s₁ => a = .ref s.heap.objs.size ∧ s₁ = { s with heap := s.heap.push (e0 (ledOf w)) }) ⟨rfl, rfl⟩) fun r s₁ hr => ?_
    rcases r with e | fl
    · exact hr
    obtain ⟨v0, rfl⟩ : ∃ v0, fl = .ret v0 := by
      cases fl with
      | ret v => exact ⟨v, rfl⟩
      | _ => exact hr.elim
    obtain ⟨rfl, rfl⟩ := hr
    have at0 : (s.heap.push (e0 (ledOf w))).get? s.heap.objs.size = some (e0 (ledOf w)) := Heap.get?_push_size _ rfl
    have ty : Shared.TypeIs { s with heap := s.heap.push (e0 (ledOf w)) } (.ref s.heap.objs.size) "set" := ⟨_, at0, rfl⟩
    have i1 := PySem.F.called_set.init.lookup
    have i2 := PySem.F.called_set.init.bind (.ref s.heap.objs.size)
    repeat (any_goals (first | assumption | wp_step))
    refine codeAny_mono (codeAny_call_builtin (R := wants (fun r s₂ => r = .none ∧ ∃ h' tk n, s₂ = { s with heap := h', toks := tk } ∧ SetR w h' s.heap.objs.size (fun j => decide (j ∈ ns)) n ∧ n ≤ ns.length ∧ ∀ b o, b < s.heap.objs.size → s.heap.get? b = some o → h'.get? b = some o) E)
      PySem.F.called_set.init.plain PySem.F.entry_set_init (check_set_init_1 ty ?_)) fun r₂ s₂ hr₂ => ?_
    · obtain ⟨⟨oc, od, odt, osl⟩, hol, hcl, nl, hdl⟩ := hl
      simp only at hcl hdl
      subst hcl hdl
      have at1 : (s.heap.push (e0 (ledOf w))).get? l = some ⟨.type "list", od, .seq items nl, osl⟩ := Heap.get?_push_of_some _ hol
      have t1 := PySem.F.sub_list_set
      have t2 := PySem.F.sub_list_frozenset
      have t3 : (Value.type "list" == Value.type "dict") = false := by decide
      have isl : (s.heap.push (e0 (ledOf w))).IsList l items := ⟨_, at1, rfl, nl, rfl⟩
      unfold Builtin.«set.__init__» noKeywords Builtin.Frozenset.updateFrom
      generalize hPI : pyIter = PI
      wp_walk
      subst hPI
      refine wpAny_pyIter_list isl (wpAny_bind (wpAny_runValue ?_))
      have l0 : l < s.heap.objs.size := Heap.lt_size hol
      have sz : (s.heap.push (e0 (ledOf w))).objs.size = s.heap.objs.size + 1 := Heap.size_push ..
      have l1 : l ≠ (s.heap.push (e0 (ledOf w))).objs.size := by rw [sz]; exact Nat.ne_of_lt (Nat.lt_succ_of_lt l0)
      have out : s.heap.objs.size ∉ [(s.heap.push (e0 (ledOf w))).objs.size, l] := by
        rw [sz]
        simp only [List.mem_cons, List.not_mem_nil, or_false, not_or]
        exact ⟨Nat.ne_of_lt (Nat.lt_succ_self _), Nat.ne_of_gt l0⟩
      refine set_update_ints ((Walks.list (by simp [calm]) _ l l1 items).toS) s.heap.objs.size out ns size small (fun i v hv => ?val) (items.size - 0) 0 _ (by omega) (Nat.zero_le _) ⟨⟨_, Heap.get?_push_size _ rfl, rfl, rfl⟩, isl.push _⟩ ?start ?fin
      case val =>
        have hi : i < ns.length := size ▸ (Array.getElem?_eq_some_iff.mp hv).1
        obtain ⟨t, e⟩ := IntsAre.int_at hints i v ((Array.getElem?_toList ..).trans hv)
        refine ⟨ns[i], t, List.getElem?_eq_getElem hi, e.trans ?_⟩
        rw [List.getD_eq_getElem?_getD, List.getElem?_eq_getElem hi]
        rfl
      case start =>
        exact ⟨0, Nat.le_refl 0, setR_new_at (Heap.get?_push_of_some _ at0)⟩
      case fin =>
        rintro ⟨h', g', d', tk', os'⟩ n mv le full
        obtain rfl : g' = s.gens := mv.gens
        obtain rfl : d' = s.drawn := mv.drawn
        obtain rfl : os' = s.os := mv.os
        show wpAny _ _ _ _ _ _
        refine wpAny_pure ?_
        show wpAny _ _ (ret Value.none) _ _ _
        refine wpAny_pure ⟨rfl, h', tk', n, rfl, full, size ▸ le, fun b o hb e => mv.heap b o ?_ (Heap.get?_push_of_some _ (Heap.get?_push_of_some _ e))⟩
        rw [sz]
        simp only [List.mem_cons, List.not_mem_nil, or_false, not_or]
        exact ⟨Nat.ne_of_lt hb, Nat.ne_of_lt (Nat.lt_succ_of_lt hb)⟩
    · rcases r₂ with e | fl₂
      · exact hr₂
      obtain ⟨v0, rfl⟩ : ∃ v0, fl₂ = .ret v0 := by
        cases fl₂ with
        | ret v => exact ⟨v, rfl⟩
        | _ => exact hr₂.elim
      obtain ⟨rfl, h', tk, n, rfl, full, le, kept⟩ := hr₂
      repeat (any_goals (first | assumption | wp_step))
      exact h _ _ _ full le kept)⟩
end
end RkT
set_option Elab.async false
set_option linter.all false
set_option maxRecDepth 100000
set_option maxHeartbeats 4000000
namespace RkO
open PySem PySem.Spec PyProof.Rows L2
variable {X : Cx}
/-- set(xs), xs a list of ints -/
def tSetI (X : Cx) (ta : TE) : TE := fun σ H Q => ta σ H fun x H1 => ∃ (l : Addr) (ns : List Int), x = .ref l ∧ SqL X.K H1 l (ns.map V.int) ∧ ns.length ≤ 1000 ∧ ∀ p n, H1 p = none → n ≤ ns.length → Q (.ref p) (upd H1 p (SetO X.w p (fun j => decide (j ∈ ns)) n))
theorem pe_setI {a : Expr} {ta : TE} {p q : Pos} (hc : X.calm = true) (hg : Gl X "set") (hm : X.mg "set" = none) (ha : PE X a ta)
    (na : starEach [a] X.env = (false, eval a X.env) :: starEach [] X.env := by rfl) : PE X (.Call (.Name "set" p) [a] [] q) (tSetI X ta) := by
  refine ⟨fun pins s σ H Q I h => Call_ (ld_blt I hg hm boot_set ?_)⟩
  refine callWith_type1 (args_cons (thn (ha.run pins s σ H _ I h) fun v s1 ⟨x, H1, I1, r1, q1⟩ => args_nil ?_) na) na rfl
  obtain ⟨l, ns, rfl, hq, small, q1⟩ := q1
  cases r1
  obtain ⟨its, r, pl, hz⟩ := I1.list hq
  refine RkT.makeI (I1.ok.hd hc) pl.isList (ns := ns) (by unfold scanBound; omega) (by simpa using RZ.intsAre_vals r) fun h' tk n full le kept => ?_
  exact ⟨.ref _, upd H1 s1.heap.objs.size (SetO X.w s1.heap.objs.size (fun j => decide (j ∈ ns)) n), I1.laid (fun b u e => kept b u (Heap.lt_size e) e) (Nat.le_refl _) (setO_new full), rfl, q1 _ n (I1.hok.fresh (Nat.le_refl _)) le⟩
end RkO
set_option Elab.async false
set_option linter.all false
set_option maxRecDepth 100000
set_option maxHeartbeats 4000000
namespace Rk
open PySem PySem.Spec PyProof.Rows L2 RkO
open Evl (Ev EvT EvA EvL EvU EvO Ex RC RCL SpV SpL)
theorem cut5 (rs : List Int) : ∃ cs : List Int, cutV (rs.map V.int) none (some 5) = cs.map V.int ∧ (∀ r ∈ cs, r ∈ rs) ∧ cs.length ≤ 5 := by
  refine ⟨(rs.drop 0).take (min 5 rs.length), ?_, fun r hr => ?_, ?_⟩
  · unfold cutV
    rw [HT.sIx_none, show HT.sIx (rs.map V.int).length (rs.map V.int).length (some 5) = min 5 (rs.map V.int).length from HT.sIx_nat _ _ 5, List.length_map, Nat.sub_zero, List.map_take, List.map_drop]
  · rw [List.drop_zero] at hr
    exact List.mem_of_mem_take hr
  · rw [List.length_take]
    omega
theorem un_setI {X : Cx} {ta : TE} {σ : L2.St} {H : Hp} {Q : VK} (h : ta σ H fun x H1 => ∃ (l : Addr) (ns : List Int), x = .ref l ∧ SqL X.K H1 l (ns.map V.int) ∧ ns.length ≤ 1000 ∧ ∀ p n, H1 p = none → n ≤ ns.length → Q (.ref p) (upd H1 p (SetO X.w p (fun j => decide (j ∈ ns)) n))) : tSetI X ta σ H Q := h
theorem un_seq {t u : TS} {D : Ends} {σ : L2.St} {H : Hp} (h : t { D with nx := u D } σ H) : tSeq t u D σ H := h
theorem un_ret {te : TE} {D : Ends} {σ : L2.St} {H : Hp} (h : te σ H fun v H1 => D.rt v H1) : tRet te D σ H := h
theorem un_cb1 {r : List V → Hp → VK → Prop} {te : TE} {σ : L2.St} {H : Hp} {Q : VK} (h : te σ H fun x H1 => r [x] H1 Q) : tCB r (tCons te tNil) σ H Q := h
section
variable {P : Program} {w : World} {K : PySem.W.Frag} {mg : Str → Option Value} {base : Heap}
def spRanks (a : Addr) : Sp := fun vs H Q _ => ∃ m : Int, vs = [.ref a, .int m] ∧ (1 ≤ m ∧ m ≤ 300) ∧ Wl a H H ∧ ∀ (rs : List Int) l H', Asc rs → rs ≠ [] → (∀ r ∈ rs, 1 ≤ r ∧ r ≤ m) → H l = none → l ≠ a → H' l = some (.lst (rs.map .int)) → Wl a H H' → Q (.ref l) H'
theorem ok_law_ranks (T : Txt K mg) (a : Addr) : FnOk P w K mg base CX0 2 T.f_law_ranks T.d_law_ranks ["well", "intake"] (spRanks a) := by
  have G_law_dip := ok_law_dip (P := P) (w := w) (base := base) T
  refine T.F_law_ranks.ok sc_law_ranks (fun vs H Q E h => ?_) (fun cdv A outer s H vs Q E hr h => ?_)
  · obtain ⟨m, rfl, _⟩ := h
    rfl
  obtain ⟨m, rfl, hm, hw, q⟩ := h
  refine ⟨_, (pss_cons (ps_set (i := 2) sc_law_ranks.nd rfl (Or.inl rfl) (pe_call G_law_dip (hr.mono (by omega)) rfl T.m_law_dip T.F_law_dip.kp T.b_law_dip .nil pass0 (pa_cons (pv 0) (pa_cons pe_int pa_nil))))
  (pss_cons (ps_if (pt_cmpR op_eq (pv 2) pe_int (nomark _)) (pss_one (ps_ret (pe_lst (pa_cons (pe_op op_fdivW (pe_op op_add (pv 1) pe_int) pe_int) pa_nil)))) pss_nil)
  (pss_cons (ps_set (i := 3) sc_law_ranks.nd rfl (Or.inl rfl) (pe_op op_add pe_int (pe_call G_law_dip (hr.mono (by omega)) rfl T.m_law_dip T.F_law_dip.kp T.b_law_dip .nil pass0 (pa_cons (pv 0) (pa_cons (pv 1) pa_nil)))))
  (pss_cons (ps_if (pt_cmpR op_eq (pv 2) pe_int (nomark _)) (pss_one (ps_ret (pe_lst (pa_cons (pv 3) pa_nil)))) pss_nil)
  (pss_cons (ps_setLc (i := 4) (own := [("rank", 5)]) rfl sc_law_ranks.nd rfl rfl (sw_true rfl rfl rfl (by decide +kernel))  (pi_range2 rfl T.m_range (pa_cons pe_int (pa_cons (pe_op op_add (pv 1) pe_int) pa_nil))) (blkOk_by (own := [("rank", 5)]) (N := ["well", "intake", "way", "one", "others", "rank"]) (sc := defScope s_law_ranks) (by decide +kernel)) (fun _ _ _ _ _ => (pg_name (i := 5) sc_law_ranks.nd rfl (.inl rfl))) (fun _ _ _ _ _ => (pts_one (pt_cmpR op_eq (pe_call G_law_dip (hr.mono (by omega)) rfl T.m_law_dip T.F_law_dip.kp T.b_law_dip .nil pass0 (pa_cons (pv 0) (pa_cons pe_int pa_nil))) pe_int (nomark _)))) (fun _ _ _ _ _ => (pv 5)))
  (pss_one (ps_ret (pe_callB (cr_sortedSet rfl) (by rfl) T.m_sorted (by decide +kernel) (pa_cons (pe_setI rfl (by rfl) T.m_set (pe_op op_cat (pe_lst (pa_cons (pv 3) pa_nil)) (pe_slice sl_list (pv 4) po_none (po_some pe_int)))) pa_nil))))))))), ?_⟩
  refine sq_asg ?_
  refine call_dip (a := a) rfl hw (fun R r => r) (by decide) fun way H1 d0 d6 w1 => ?_
  dsimp only [List.set, L2.start]
  have big : ∀ {x : Int}, x ≤ 300 → x ≤ 10 ^ 40 := fun h => Int.le_trans h (by decide)
  have one_ret : ∀ {H1 H2 : Hp} {l : Addr} {r : Int} {te : TE}, Wl a H H1 → Ex H1 H2 → H1 l = none → H2 l = some (.lst [.int r]) → 1 ≤ r → r ≤ m → Q (.ref l) H2 := fun w1 e n h h1 h2 => q [_] _ _ (List.pairwise_singleton _ _) (List.cons_ne_nil _ _) (fun x hx => by rw [List.mem_singleton.mp hx]; exact ⟨h1, h2⟩) (w1.fresh n) (w1.ne n) h (w1.same e)
  refine un_seq <| un_ifS <| un_test ⟨_, rfl, rfl, _, rfl, ?_⟩
  refine ifD (fun _ => ?_) (fun _ => nxt ?_)
  · refine Evl.s_retL (xs := [.int ((m + 1) / 2)]) (Evl.el_lst (Evl.ea_cons ?_ Evl.ea_nil) (Nat.le_of_ble_eq_true rfl)) fun l H2 nl e2 h2 => one_ret (te := tC .non) w1 e2 nl h2 (by omega) (by omega)
    intro H3 e3 Q3 q3
    exact ⟨_, rfl, _, _, rfl, rfl, _, _, rfl, rfl, ⟨by decide, by decide +kernel⟩, q3 _ (Ex.refl _)⟩
  dsimp only
  refine sq_asg <| un_op ?_
  refine call_dip (a := a) rfl w1.r (fun R r => ⟨_, rfl, r⟩) ⟨by omega, big (by omega)⟩ fun one H2 o0 o6 w2 => ⟨_, _, rfl, rfl, ?_⟩
  have W2 := w1.trans w2
  dsimp only [List.set, L2.start]
  refine un_seq <| un_ifS <| un_test ⟨_, rfl, rfl, _, rfl, ?_⟩
  refine ifD (fun _ => ?_) (fun _ => nxt ?_)
  · exact Evl.s_retL (xs := [.int (1 + one)]) (Evl.el_lst (Evl.ea_cons (Evl.ev_var rfl) Evl.ea_nil) (Nat.le_of_ble_eq_true rfl)) fun l H2 nl e2 h2 => one_ret (te := tC .non) W2 e2 nl h2 (by omega) (by omega)
  dsimp only
  refine sq_asg ?_
  refine lc_w2 (a := a) (lo := 1) (n := m + 1) (fun i acc => ∃ rs : List Int, acc = rs.map V.int ∧ ∀ r ∈ rs, 1 ≤ r ∧ r ≤ m) (fun R r => ⟨_, rfl, _, _, rfl, rfl, r⟩) (by omega) (fun x => rfl) W2.r ⟨[], rfl, fun c h => absurd h List.not_mem_nil⟩ (fun k hk H4 acc w4 hI Y N y n => ?_) fun D H4 acc nD na hD _ hI w4 => ?_
  · obtain ⟨rs, rfl, hrs⟩ := hI
    refine un_test <| un_op ?_
    refine call_dip (a := a) rfl w4.r (fun R r => r) (by decide) fun d H5 d0 d6 w5 => ⟨rfl, _, rfl, ?_⟩
    refine ifD (fun _ => ⟨_, rfl, y _ _ w5 ⟨rs ++ [1 + (k : Int)], by rw [List.map_append]; rfl, fun r hr => ?_⟩⟩) (fun _ => n _ w5 ⟨rs, rfl, hrs⟩)
    rcases List.mem_append.mp hr with h | h
    · exact hrs r h
    · rw [List.mem_singleton.mp h]
      omega
  obtain ⟨rs, rfl, hrs⟩ := hI
  have W4 := W2.trans w4
  refine un_ret <| un_cb1 ?_
  refine un_setI <| un_op ?_
  refine Evl.el_lst (vs := [.int (1 + one)]) (Evl.ea_cons (by exact Evl.ev_var rfl) Evl.ea_nil) (Nat.le_of_ble_eq_true rfl) H4 (Ex.refl _) _ fun l5 H5 n5 e5 h5 => ?_
  refine ⟨_, rfl, _, rfl, D, _, rfl, SqL.of (e5 _ _ hD), fun l6 n6 => ?_⟩
  have W5 := W4.same e5
  obtain ⟨cs, ec, hcs, lcs⟩ := cut5 rs
  rw [ec]
  have s6 := same_new n6 (.lst (cs.map V.int))
  have h6 : (upd H5 l6 (.lst (cs.map V.int))) l6 = some (.lst (cs.map V.int)) := upd_same
  generalize upd H5 l6 (.lst (cs.map V.int)) = H6 at s6 h6 ⊢
  have W6 := W5.same s6
  refine ⟨l5, l6, _, _, rfl, rfl, s6 _ _ h5, h6, Evl.sz_of (by rw [List.length_map]; show 1 + cs.length ≤ _; omega), fun l7 n7 => ?_⟩
  have s7 := same_new n7 (.lst ([V.int (1 + one)] ++ cs.map V.int))
  have h7 : (upd H6 l7 (.lst ([V.int (1 + one)] ++ cs.map V.int))) l7 = some (.lst (((1 + one) :: cs).map V.int)) := upd_same
  generalize upd H6 l7 (.lst ([V.int (1 + one)] ++ cs.map V.int)) = H7 at s7 h7 ⊢
  have W7 := W6.same s7
  refine ⟨l7, (1 + one) :: cs, rfl, SqL.of h7, by rw [List.length_cons]; omega, fun p n n8 ln => ⟨p, _, n, rfl, upd_same, ?_, fun ns z up mem len n9 => ?_⟩⟩
  · rw [List.length_cons] at ln
    omega
  have s8 := same_new n8 (SetO w p (fun j => decide (j ∈ (1 + one) :: cs)) n)
  have W8 := W7.same s8
  have s9 := same_new n9 (.lst (ns.map V.int))
  refine q ns z _ up (fun e => ?_) (fun r hr => ?_) (W8.fresh n9) (W8.ne n9) upd_same (W8.same s9)
  · have := (mem (1 + one)).mpr (decide_eq_true List.mem_cons_self)
    rw [e] at this
    cases this
  · have := of_decide_eq_true ((mem r).mp hr)
    rcases List.mem_cons.mp this with h | h
    · omega
    · exact hrs r (hcs r h)
end
end Rk
set_option Elab.async false
set_option linter.all false
set_option maxRecDepth 100000
set_option maxHeartbeats 4000000
namespace Rk
open PySem PySem.Spec PyProof.Rows L2 RkO
open Evl (Ev EvT EvA EvL EvU EvO Ex RC RCL SpV SpL)
/-- the law's own trees, as tuples -/
inductive LAt (H : Hp) : V → Tr → Prop where
  | leaf {p : Addr} {x : Str} : H p = some (.tup [.str "leaf", .str x]) → LAt H (.ref p) (.leaf x)
  | grp {p lr lp : Addr} {rs : List Int} {ps : List Tr} {vs : List V} : H p = some (.tup [.str "group", .ref lr, .ref lp]) → H lr = some (.lst (rs.map V.int)) → H lp = some (.lst vs) →
      vs.length = ps.length → (∀ (i : Nat) v t, vs[i]? = some v → ps[i]? = some t → LAt H v t) → LAt H (.ref p) (.grp rs ps)
theorem LAt.mono {H H' : Hp} {v : V} {t : Tr} (h : LAt H v t) (e : Same H H') : LAt H' v t := by
  induction h with
  | leaf h => exact .leaf (e _ _ h)
  | grp h1 h2 h3 hl _ ih => exact .grp (e _ _ h1) (e _ _ h2) (e _ _ h3) hl ih
def LF (H : Hp) (vs : List V) (ts : List Tr) : Prop := vs.length = ts.length ∧ ∀ (i : Nat) v t, vs[i]? = some v → ts[i]? = some t → LAt H v t
theorem LF.mono {H H' : Hp} {vs : List V} {ts : List Tr} (h : LF H vs ts) (e : Same H H') : LF H' vs ts := ⟨h.1, fun i v t a b => (h.2 i v t a b).mono e⟩
theorem LF.nil {H : Hp} : LF H [] [] := ⟨rfl, fun i v t a _ => by simp at a⟩
theorem LF.app {H : Hp} {vs us : List V} {ts ss : List Tr} (h : LF H vs ts) (g : LF H us ss) : LF H (vs ++ us) (ts ++ ss) := by
  refine ⟨by rw [List.length_append, List.length_append, h.1, g.1], fun i u s a b => ?_⟩
  have h1 := h.1
  by_cases hi : i < vs.length
  · rw [List.getElem?_append_left hi] at a
    rw [List.getElem?_append_left (by omega)] at b
    exact h.2 i u s a b
  · rw [List.getElem?_append_right (by omega)] at a
    rw [List.getElem?_append_right (by omega), ← h1] at b
    exact g.2 _ u s a b
theorem LF.one {H : Hp} {v : V} {t : Tr} (h : LAt H v t) : LF H [v] [t] := by
  refine ⟨rfl, fun i u s a b => ?_⟩
  cases i with
  | zero =>
    cases a
    cases b
    exact h
  | succ i => cases a
theorem un_tup {t : TA} {σ : L2.St} {H : Hp} {Q : VK} (h : t σ H fun xs H1 => xs.length ≤ sizeLine ∧ ∀ p, H1 p = none → Q (.ref p) (upd H1 p (.tup xs))) : tTup t σ H Q := h
theorem un_cons {te : TE} {tr : TA} {σ : L2.St} {H : Hp} {Q : List V → Hp → Prop} (h : te σ H fun x H1 => tr σ H1 fun xs H2 => Q (x :: xs) H2) : tCons te tr σ H Q := h
theorem un_c {v : V} {σ : L2.St} {H : Hp} {Q : VK} (h : Q v H) : tC v σ H Q := h
theorem call_ranks {σ : L2.St} {H : Hp} {tm : TE} {Q : VK} {a : Addr} {i : Nat} {m : Int} (hσ : σ[i]? = some (some (.ref a))) (w : Wl a H H) (ht : Ev tm σ H (.int m)) (hm : 1 ≤ m ∧ m ≤ 300)
    (q : ∀ (rs : List Int) l H', Asc rs → rs ≠ [] → (∀ r ∈ rs, 1 ≤ r ∧ r ≤ m) → H l = none → l ≠ a → H' l = some (.lst (rs.map .int)) → Wl a H H' → Q (.ref l) H') : tCall (spRanks a) [] E0 (tCons (tVar i) (tCons tm tNil)) σ H Q :=
  ⟨_, hσ, ht H (Ex.refl H) _ fun H1 e => ⟨m, rfl, hm, (w.same e).r, fun rs l H' h1 h2 h3 n la h4 w' => q rs l H' h1 h2 h3 (Evl.fresh_back e n) la h4 ((w.same e).trans w')⟩⟩
theorem intake_le : ∀ {ps : List Tr}, (∀ t ∈ ps, Ok t) → intakeL ps ≤ (namesL ps).length
  | [], _ => Nat.le_refl _
  | p :: ps, h => by
    show p.width + intakeL ps ≤ (p.names ++ namesL ps).length
    have h1 := (h p List.mem_cons_self).width_le
    have h2 := intake_le fun t ht => h t (List.mem_cons_of_mem _ ht)
    rw [List.length_append]
    omega
theorem Ok.wide {t : Tr} (h : Ok t) : 1 ≤ t.width := by
  cases h with
  | leaf _ => exact Nat.le_refl _
  | @grp rs ps _ _ _ hne _ _ =>
    show 1 ≤ rs.length
    exact List.length_pos_iff.mpr hne
theorem intake_pos {ps : List Tr} (h : ∀ t ∈ ps, Ok t) (ne : ps ≠ []) : 1 ≤ intakeL ps := by
  cases ps with
  | nil => exact absurd rfl ne
  | cons p ps =>
    show 1 ≤ p.width + intakeL ps
    have := (h p List.mem_cons_self).wide
    omega
theorem LF.zip {H : Hp} {vs : List V} {ts : List Tr} (h : LF H vs ts) : vs = (vs.zip ts).map Prod.fst ∧ ts = (vs.zip ts).map Prod.snd ∧ ∀ p ∈ vs.zip ts, LAt H p.1 p.2 := by
  refine ⟨?_, ?_, fun p hp => ?_⟩
  · rw [List.map_fst_zip (by rw [h.1]; exact Nat.le_refl _)]
  · rw [List.map_snd_zip (by rw [h.1]; exact Nat.le_refl _)]
  · obtain ⟨i, hi⟩ := List.mem_iff_getElem?.mp hp
    obtain ⟨g1, g2⟩ := List.getElem?_zip_eq_some.mp hi
    exact h.2 i _ _ g1 g2
section
variable {P : Program} {w : World} {K : PySem.W.Frag} {mg : Str → Option Value} {base : Heap}
def spLWidth (K : PySem.W.Frag) : Sp := fun vs H Q _ => ∃ v t, vs = [v] ∧ LAt H v t ∧ Q (.int (t.width : Nat)) H
theorem ok_law_width (T : Txt K mg) : FnOk P w K mg base CX0 1 T.f_law_width T.d_law_width ["tree"] (spLWidth K) := by
  refine T.F_law_width.ok sc_law_width (fun vs H Q E h => ?_) (fun cdv A outer s H vs Q E hr h => ?_)
  · obtain ⟨v, t, rfl, _⟩ := h
    rfl
  obtain ⟨v, t, rfl, ht, q⟩ := h
  refine ⟨_, (pss_cons (ps_if (pt_cmpR op_eq (pe_ix ix_tup (pv 0) pe_int (fun _ _ => rfl)) pe_str (nomark _)) (pss_one (ps_ret pe_int)) pss_nil)
  (pss_one (ps_ret (pe_callB call_len_seq (by rfl) T.m_len PySem.boot_len (pa_cons (pe_ix ix_tup (pv 0) pe_int (fun _ _ => rfl)) pa_nil))))), ?_⟩
  cases ht with
  | leaf h =>
    refine un_seq <| un_ifS <| un_test ⟨_, rfl, _, _, _, _, rfl, rfl, Evl.st_of h, atI_nat (j := 0) rfl, rfl, _, rfl, ?_⟩
    rw [decide_eq_true rfl]
    exact iteT q
  | @grp p lr lp rs ps us h1 h2 h3 hl hf =>
    refine un_seq <| un_ifS <| un_test ⟨_, rfl, _, _, _, _, rfl, rfl, Evl.st_of h1, atI_nat (j := 0) rfl, rfl, _, rfl, ?_⟩
    rw [decide_eq_false (by decide +kernel)]
    refine iteF (nxt ?_)
    refine ⟨_, rfl, _, _, _, _, rfl, rfl, Evl.st_of h1, atI_nat (j := 1) rfl, _, _, rfl, .inl (SqL.of h2), ?_⟩
    rw [List.length_map]
    exact q
/-- a group of the law's own; what M names is not told of -/
def spLGroup (a : Addr) : Sp := fun vs H Q _ => ∃ (lp : Addr) (us : List V) (ps : List Tr) (M : Addr → Bool), vs = [.ref a, .ref lp] ∧ Wl a H H ∧ H lp = some (.lst us) ∧ M lp = false ∧ M a = true ∧ (∀ b, M b = true → H b ≠ none) ∧ LF (hid M H) us ps ∧ (∀ t ∈ ps, Ok t) ∧ (namesL ps).Nodup ∧ ps ≠ [] ∧ (namesL ps).length ≤ 300 ∧
  ∀ p H' rs, Wl a H H' → Ok (.grp rs ps) → LAt (hid M H') (.ref p) (.grp rs ps) → Q (.ref p) H'
theorem ok_law_group (T : Txt K mg) (a : Addr) : FnOk P w K mg base CX0 3 T.f_law_group T.d_law_group ["well", "parts"] (spLGroup a) := by
  have G_law_ranks := ok_law_ranks (P := P) (w := w) (base := base) T a
  have G_law_width := ok_law_width (P := P) (w := w) (base := base) T
  refine T.F_law_group.ok sc_law_group (fun vs H Q E h => ?_) (fun cdv A outer s H vs Q E hr h => ?_)
  · obtain ⟨lp, us, ps, M, rfl, _⟩ := h
    rfl
  obtain ⟨lp, us, ps, M, rfl, hw, hp, hM, hMa, hMs, hF, hok, nd, ne, hlen, q⟩ := h
  refine ⟨_, (pss_one (ps_ret (pe_tup (pa_cons pe_str (pa_cons (pe_call G_law_ranks (hr.mono (by omega)) rfl T.m_law_ranks T.F_law_ranks.kp T.b_law_ranks .nil pass0 (pa_cons (pv 0) (pa_cons (pe_callB (cr_sum rfl) (by rfl) T.m_sum (by decide +kernel) (pa_cons (pe_lc (own := [("part", 2)]) rfl sc_law_group.nd  (pi_list (pv 1)) (blkOk_by (own := [("part", 2)]) (N := ["well", "parts", "part"]) (sc := defScope s_law_group) (by decide +kernel)) (fun _ _ _ _ _ => (pg_name (i := 2) sc_law_group.nd rfl (.inl rfl))) (fun _ _ _ _ _ => pts_nil) (fun _ _ _ _ _ => (pe_call G_law_width (hr.mono (by omega)) rfl T.m_law_width T.F_law_width.kp T.b_law_width .nil pass0 (pa_cons (pv 2) pa_nil)))) pa_nil)) pa_nil))) (pa_cons (pv 1) pa_nil)))))), ?_⟩
  obtain ⟨e1, e2, hz⟩ := hF.zip
  have es : ((us.zip ps).map fun p => ((p.2.width : Nat) : Int)).sum = (intakeL ps : Nat) := by
    rw [intakeL_sum, ← show ((us.zip ps).map Prod.snd).map (fun t => ((t.width : Nat) : Int)) = (us.zip ps).map fun p => ((p.2.width : Nat) : Int) by rw [List.map_map]; rfl, ← e2]
  have le := intake_le hok
  have lps := parts_le hok
  have hi := intake_pos hok ne
  refine un_ret <| un_tup <| un_cons <| un_c <| un_cons <| call_ranks (m := (intakeL ps : Nat)) rfl hw ?_ (by omega) fun rs lr H1 hasc hne hb nlr lra hlr w1 => ?_
  · rw [← es]
    refine ev_sumN ?_
    rw [List.map_map]
    refine el_lcM (xs := us.zip ps) (g := Prod.fst) (Evl.ev_var rfl) (by rw [← e1]; exact SqL.of hp) (by rw [List.length_zip]; omega) (fun x => rfl) fun p H1 ex hp => ?_
    intro H2 e2 Q2 q2
    exact ⟨_, rfl, _, _, rfl, ((hz p hp).mono hid_le).mono (ex.trans e2), q2 _ (Ex.refl _)⟩
  refine ⟨_, rfl, Evl.sz_of (Nat.le_of_ble_eq_true rfl), fun p np => ?_⟩
  have lpa : lp ≠ a := fun z => by rw [z, hMa] at hM; cases hM
  have nM : ∀ b, H b = none → M b = false := fun b hb => by
    cases h : M b with
    | false => rfl
    | true => exact absurd hb (hMs b h)
  have s1 : Same (hid M H) (hid M H1) := fun b o z => by
    cases h : M b with
    | true =>
      rw [hid_t h] at z
      cases z
    | false =>
      rw [hid_f h] at z ⊢
      exact w1.2 b o (fun e => by rw [e, hMa] at h; cases h) z
  have s2 : Same H1 (upd H1 p (.tup [.str "group", .ref lr, .ref lp])) := same_new np _
  refine q p _ rs (w1.same s2) (.grp hok ne nd hne hasc hb) ?_
  have np0 := w1.fresh np
  have s3 : Same (hid M H1) (hid M (upd H1 p (.tup [.str "group", .ref lr, .ref lp]))) := fun b o z => by
    cases h : M b with
    | true =>
      rw [hid_t h] at z
      cases z
    | false =>
      rw [hid_f h] at z ⊢
      exact s2 b o z
  refine .grp (lr := lr) (lp := lp) (vs := us) ?_ ?_ ?_ hF.1 ((hF.mono s1).mono s3).2
  · rw [hid_f (nM p np0)]
    exact upd_same
  · rw [hid_f (nM lr nlr)]
    exact s2 _ _ hlr
  · rw [hid_f hM]
    exact s2 _ _ (w1.2 _ _ lpa hp)
end
end Rk
set_option Elab.async false
set_option linter.all false
set_option maxRecDepth 100000
set_option maxHeartbeats 4000000
namespace Rk
open PySem PySem.Spec PyProof.Rows L2 RkO
open Evl (Ev EvT EvA EvL EvU EvO Ex RC RCL SpV SpL)
theorem hid_sub {M N : Addr → Bool} {H : Hp} (h : ∀ b, M b = true → N b = true) : Same (hid N H) (hid M H) := fun b o z => by
  cases hn : N b with
  | true =>
    rw [hid_t hn] at z
    cases z
  | false =>
    rw [hid_f hn] at z
    cases hm : M b with
    | true =>
      rw [h b hm] at hn
      cases hn
    | false =>
      rw [hid_f hm]
      exact z
theorem hid_step {M : Addr → Bool} {H H' : Hp} (h : ∀ b o, M b = false → H b = some o → H' b = some o) : Same (hid M H) (hid M H') := fun b o z => by
  cases hm : M b with
  | true =>
    rw [hid_t hm] at z
    cases z
  | false =>
    rw [hid_f hm] at z ⊢
    exact h b o hm z
theorem hid_wl {M : Addr → Bool} {a : Addr} {H H' : Hp} (ha : M a = true) (w : Wl a H H') : Same (hid M H) (hid M H') := hid_step fun b o hb z => w.2 b o (fun e => by rw [e, ha] at hb; cases hb) z
theorem hid_upd {M : Addr → Bool} {H : Hp} {b : Addr} {o : HO} (h : M b = true) : hid M (upd H b o) = hid M H := by
  funext c
  cases hc : M c with
  | true => rw [hid_t hc, hid_t hc]
  | false =>
    rw [hid_f hc, hid_f hc, upd_ne]
    intro e
    rw [e, h] at hc
    cases hc
/-- all that stands in H -/
def sm (H : Hp) : Addr → Bool := fun b => (H b).isSome
theorem sm_t {H : Hp} {b : Addr} {o : HO} (h : H b = some o) : sm H b = true := by
  show (H b).isSome = true
  rw [h]
  rfl
theorem sm_f {H : Hp} {b : Addr} (h : H b = none) : sm H b = false := by
  show (H b).isSome = false
  rw [h]
  rfl
theorem sm_get {H : Hp} {b : Addr} (h : sm H b = true) : ∃ o, H b = some o := Option.isSome_iff_exists.mp h
/-- and D with it -/
def md (H : Hp) (D : Addr) : Addr → Bool := fun b => sm H b || decide (b = D)
theorem md_D {H : Hp} {D : Addr} : md H D D = true := by
  show (sm H D || decide (D = D)) = true
  rw [decide_eq_true rfl, Bool.or_true]
theorem md_t {H : Hp} {D b : Addr} (h : sm H b = true) : md H D b = true := by
  show (sm H b || decide (b = D)) = true
  rw [h, Bool.true_or]
theorem md_f {H : Hp} {D b : Addr} (h : H b = none) (n : b ≠ D) : md H D b = false := by
  show (sm H b || decide (b = D)) = false
  rw [sm_f h, decide_eq_false n]
  rfl
theorem md_get {H : Hp} {D b : Addr} (h : md H D b = true) : (∃ o, H b = some o) ∨ b = D := by
  rcases Bool.or_eq_true_iff.mp h with h | h
  · exact .inl (sm_get h)
  · exact .inr (of_decide_eq_true h)
section
variable {K : PySem.W.Frag} {σ : L2.St} {H : Hp} {tl : TE} {Q : VK}
/-- [("leaf", name) for name in xs] -/
theorem lc_leaves {ln : Addr} {xs : List Str} {j : Nat} {vs : List Nat} (h : Ev tl σ H (.ref ln)) (hx : SqL K H ln (xs.map V.str)) (hz : xs.length ≤ 40000) (hw : ∀ x, wipe ((wipe σ vs).set j (some x)) vs = wipe σ vs) (hj : ∀ x, ((wipe σ vs).set j (some x))[j]? = some (some x))
    (q : ∀ D us H', H D = none → Same H H' → H' D = some (.lst us) → LF (hid (md H D) H') us (xs.map Tr.leaf) → Q (.ref D) H') : tLc (iList K tl) (gName j) tYes (tTup (tCons (tC (.str "leaf")) (tCons (tVar j) tNil))) vs σ H Q := h H (Ex.refl H) _ fun H1 e1 => ⟨ln, rfl, ⟨_, Evl.ex_l e1 hx⟩, fun Dl hD => by
  have nD := Evl.fresh_back e1 hD
  refine lc_list (xs := xs.map V.str) (fun i H' => Ex H1 H' ∧ ∃ us, us.length = i ∧ H' Dl = some (.lst us) ∧ LF (hid (md H Dl) H') us ((xs.take i).map Tr.leaf)) ⟨Ex.new hD, [], rfl, upd_same, .nil⟩ (fun i H' _ p => Evl.ex_l (e1.trans p.1) hx) (fun i y H' hi p => ?_) (fun H' p => ?_)
  · obtain ⟨p2, us, pl, p3, p4⟩ := p
    rw [List.getElem?_map] at hi
    obtain ⟨x, hxi, rfl⟩ := Option.map_eq_some_iff.mp hi
    have hlt := (List.getElem?_eq_some_iff.mp hxi).1
    refine ⟨hw _, ?_⟩
    refine un_yes <| un_tup ⟨_, hj _, Evl.sz_of (Nat.le_of_ble_eq_true rfl), fun p np => ?_⟩
    have npD : p ≠ Dl := fun z => by rw [z, p3] at np; cases np
    have n0 : H p = none := Evl.fresh_back (e1.trans p2) np
    have mp : md H Dl p = false := md_f n0 npD
    refine ⟨us, by rw [upd_ne npD.symm]; exact p3, Evl.sz_lt (by omega), ?_, us ++ [.ref p], by rw [List.length_append, pl]; rfl, upd_same, ?_⟩
    · intro b o z
      have nb : b ≠ Dl := ne_of_none z hD
      rw [upd_ne nb, upd_ne (ne_of_none (p2 b o z) np)]
      exact p2 b o z
    · rw [hid_upd md_D, List.take_add_one, hxi, List.map_append]
      refine (p4.mono (hid_step fun b o hb z => by rw [upd_ne (ne_of_none z np)]; exact z)).app (.one (.leaf ?_))
      rw [hid_f mp]
      exact upd_same
  · obtain ⟨p2, us, pl, p3, p4⟩ := p
    rw [List.length_map, List.take_length] at p4
    exact q Dl us H' nD (fun b o z => p2 b o (e1 b o z)) p3 p4⟩
end
theorem un_forR {ta : TA} {g : TG} {tu : TS} {D : Ends} {σ : L2.St} {H : Hp} (h : ta σ H fun vs H1 => ∃ j : Int, vs = [.int j] ∧ -(2 ^ 62) ≤ j ∧ j < 2 ^ 62 ∧ tFor (fun _ H R => R (Itr 0 j.toNat) H) g tu D σ H1) : tFor (iRng1 ta) g tu D σ H := h
theorem for_it {j : Nat} {n : Int} {tu : TS} {D : Ends} {σ : L2.St} {H : Hp} (hn : 0 ≤ n) (Pv : Nat → L2.St → Hp → Prop) (h0 : Pv 0 σ H)
    (hs : ∀ (i : Nat) σ' H', (i : Int) < n → Pv i σ' H' → tu { D with nx := Pv (i + 1), ct := Pv (i + 1), bk := D.nx } (σ'.set j (some (.int (i : Int)))) H') (hd : ∀ σ' H', Pv n.toNat σ' H' → D.nx σ' H') : tFor (fun _ H R => R (Itr 0 n.toNat) H) (gName j) tu D σ H :=
  for_range (lo := 0) (n := n.toNat) Pv h0 (fun i σ' H' hi p => by
    have e0 : (0 : Int) + (i : Int) = (i : Int) := Int.zero_add _
    show tu { D with nx := Pv (i + 1), ct := Pv (i + 1), bk := D.nx } (σ'.set j (some (.int ((0 : Int) + (i : Int))))) H'
    rw [e0]
    exact hs i σ' H' (by omega) p) hd
/-- a tree of the law's own, drawn over the names -/
def spTree (a : Addr) (n : Nat) : Sp := fun vs H Q _ => ∃ (ln : Addr) (xs : List Str) (d : Nat), vs = [.ref a, .ref ln, .int (d : Int)] ∧ d < n ∧ d ≤ 10 ∧ Wl a H H ∧ ln ≠ a ∧ H ln = some (.lst (xs.map V.str)) ∧ xs.Nodup ∧ (∀ x ∈ xs, nameOk x = true) ∧ xs ≠ [] ∧ xs.length ≤ 40 ∧
  ∀ v t H', Ok t → t.names = xs → t.depth ≤ d + 1 → Wl a H H' → LAt (hid (sm H) H') v t → Q v H'
theorem sm_wl {a : Addr} {H H1 : Hp} (w : Wl a H H1) {b : Addr} (h : sm H b = true) : sm H1 b = true := by
  by_cases hb : b = a
  · subst hb
    obtain ⟨n, _, g⟩ := w.1
    exact sm_t g
  · obtain ⟨o, ho⟩ := sm_get h
    exact sm_t (w.2 _ _ hb ho)
theorem un_or {t u : TT} {σ : L2.St} {H : Hp} {Q : Bool → Hp → Prop} (h : t σ H fun c H1 => if c = true then Q true H1 else u σ H1 Q) : tOr t u σ H Q := h
theorem seq_if {c : TT} {tu tv : TS} {D : Ends} {σ : L2.St} {H : Hp} {Mid : Hp → Prop} (h : (∀ H1, Mid H1 → tNext { D with nx := tv D } σ H1) → c σ H fun b H1 => if b = true then tu { D with nx := tv D } σ H1 else tNext { D with nx := tv D } σ H1) (h2 : ∀ H1, Mid H1 → tv D σ H1) : tSeq (tIfS c tu tNext) tv D σ H := h h2
theorem ret_leaf {K : PySem.W.Frag} {D : Ends} {σ : L2.St} {H : Hp} {ln : Addr} {x : Str} (h : σ[1]? = some (some (.ref ln))) (hl : H ln = some (.lst [.str x])) (k : ∀ p, H p = none → D.rt (.ref p) (upd H p (.tup [.str "leaf", .str x]))) :
    tRet (tTup (tCons (tC (.str "leaf")) (tCons (tOp (rIxL K) (tVar 1) (tC (.int 0))) tNil))) D σ H :=
  ⟨_, h, ln, _, 0, _, rfl, rfl, SqL.of hl, atI_nat (j := 0) rfl, Evl.sz_of (Nat.le_of_ble_eq_true rfl), k⟩
theorem leaves_names : ∀ xs : List Str, namesL (xs.map Tr.leaf) = xs
  | [] => rfl
  | x :: xs => by
    show [x] ++ namesL (xs.map Tr.leaf) = x :: xs
    rw [leaves_names xs]
    rfl
theorem leaves_depth : ∀ xs : List Str, depthL (xs.map Tr.leaf) = 0
  | [] => rfl
  | x :: xs => by
    show max 0 (depthL (xs.map Tr.leaf)) = 0
    rw [leaves_depth xs]
    rfl
theorem depthL_append : ∀ a b : List Tr, depthL (a ++ b) = max (depthL a) (depthL b)
  | [], b => by
    show depthL b = max 0 (depthL b)
    omega
  | p :: a, b => by
    show max p.depth (depthL (a ++ b)) = max (max p.depth (depthL a)) (depthL b)
    rw [depthL_append a b]
    omega
theorem cut_to (ys : List Str) (k : Nat) : cutV (ys.map V.str) none (some (k : Int)) = (ys.take k).map V.str := by
  unfold cutV
  rw [HT.sIx_none, HT.sIx_nat, List.length_map, Nat.sub_zero, List.drop_zero, ← List.map_take]
  congr 1
  rw [List.take_eq_take_iff]
  omega
theorem cut_from (ys : List Str) (k : Nat) : cutV (ys.map V.str) (some (k : Int)) none = (ys.drop k).map V.str := by
  unfold cutV
  rw [HT.sIx_none, HT.sIx_nat, List.length_map, ← List.map_drop, ← List.map_take]
  congr 1
  by_cases h : k ≤ ys.length
  · rw [Nat.min_eq_left h, List.take_of_length_le]
    rw [List.length_drop]
    exact Nat.le_refl _
  · rw [List.drop_of_length_le (by omega), List.drop_of_length_le (by omega)]
    exact List.take_nil
section
variable {P : Program} {w : World} {K : PySem.W.Frag} {mg : Str → Option Value} {base : Heap}
theorem ok_law_tree (T : Txt K mg) (a : Addr) : ∀ n : Nat, FnOk P w K mg base CX0 (n + 4) T.f_law_tree T.d_law_tree ["well", "names", "depth"] (spTree a n)
  | 0 => fn_no fun vs H Q E h => by
    obtain ⟨_, _, d, _, hd, _⟩ := h
    exact absurd hd (Nat.not_lt_zero d)
  | n + 1 => by
    have G_law_dip := ok_law_dip (P := P) (w := w) (base := base) T
    have G_law_group := ok_law_group (P := P) (w := w) (base := base) T a
    have G_law_tree : FnOk P w K mg base CX0 (n + 4) T.f_law_tree T.d_law_tree ["well", "names", "depth"] (spTree a n) := ok_law_tree T a n
    refine T.F_law_tree.ok sc_law_tree (fun vs H Q E h => ?_) (fun cdv A outer s H vs Q E hr h => ?_)
    · obtain ⟨_, _, d, rfl, _⟩ := h
      rfl
    obtain ⟨ln, xs, d, rfl, hd, hd10, hw, hla, hln, nd, hn, hne, hlen, q⟩ := h
    refine ⟨_, (pss_cons (ps_if (PW.pt (pw_and (pt_cmpR op_eq (pe_callB call_len_seq (by rfl) T.m_len PySem.boot_len (pa_cons (pv 1) pa_nil)) pe_int (nomark _)) (pw_and1 (PW.pt (pw_or (pt_cmpR op_eq (pv 2) pe_int (nomark _)) (pw_or1 (pt_cmpR op_gt (pe_call G_law_dip (hr.mono (by omega)) rfl T.m_law_dip T.F_law_dip.kp T.b_law_dip .nil pass0 (pa_cons (pv 0) (pa_cons pe_int pa_nil))) pe_int (nomark _)))))))) (pss_one (ps_ret (pe_tup (pa_cons pe_str (pa_cons (pe_ix ix_list (pv 1) pe_int (fun _ _ => rfl)) pa_nil))))) pss_nil)
  (pss_cons (ps_if (pt_cmpR op_eq (pv 2) pe_int (nomark _)) (pss_one (ps_ret (pe_call G_law_group (hr.mono (by omega)) rfl T.m_law_group T.F_law_group.kp T.b_law_group .nil pass0 (pa_cons (pv 0) (pa_cons (pe_lc (own := [("name", 7)]) rfl sc_law_tree.nd  (pi_list (pv 1)) (blkOk_by (own := [("name", 7)]) (N := ["well", "names", "depth", "parts", "rest", "turn", "size", "name"]) (sc := defScope s_law_tree) (by decide +kernel)) (fun _ _ _ _ _ => (pg_name (i := 7) sc_law_tree.nd rfl (.inl rfl))) (fun _ _ _ _ _ => pts_nil) (fun _ _ _ _ _ => (pe_tup (pa_cons pe_str (pa_cons (pv 7) pa_nil))))) pa_nil))))) pss_nil)
  (pss_cons (ps_set (i := 3) sc_law_tree.nd rfl (Or.inl rfl) (pe_lst pa_nil))
  (pss_cons (ps_set (i := 4) sc_law_tree.nd rfl (Or.inl rfl) (pv 1))
  (pss_cons (ps_for PassesOwn.never rfl (pi_range1 rfl T.m_range (pa_cons (pe_op op_add pe_int (pe_call G_law_dip (hr.mono (by omega)) rfl T.m_law_dip T.F_law_dip.kp T.b_law_dip .nil pass0 (pa_cons (pv 0) (pa_cons pe_int pa_nil)))) pa_nil)) (pg_name (i := 5) sc_law_tree.nd rfl (.inl rfl))
    (pss_one (ps_if (pt_cmpR (op_neD hr.units) (pv 4) (pe_lst pa_nil) (nomark _)) (pss_cons (ps_set (i := 6) sc_law_tree.nd rfl (Or.inl rfl) (pe_op op_add pe_int (pe_call G_law_dip (hr.mono (by omega)) rfl T.m_law_dip T.F_law_dip.kp T.b_law_dip .nil pass0 (pa_cons (pv 0) (pa_cons (pe_callB call_len_seq (by rfl) T.m_len PySem.boot_len (pa_cons (pv 4) pa_nil)) pa_nil)))))
      (pss_cons (ps_expr (pe_bm PySem.F.plainAttrs_list PySem.F.slot_list_append PySem.F.type_list_append mt_append (pv 3) (pa_cons (pe_call G_law_tree (hr.mono (by omega)) rfl T.m_law_tree T.F_law_tree.kp T.b_law_tree .nil pass0 (pa_cons (pv 0) (pa_cons (pe_slice sl_list (pv 4) po_none (po_some (pv 6))) (pa_cons (pe_op op_sub (pv 2) pe_int) pa_nil)))) pa_nil)))
      (pss_one (ps_set (i := 4) sc_law_tree.nd rfl (Or.inl rfl) (pe_slice sl_list (pv 4) (po_some (pv 6)) po_none))))) pss_nil)))
  (pss_one (ps_ret (pe_call G_law_group (hr.mono (by omega)) rfl T.m_law_group T.F_law_group.kp T.b_law_group .nil pass0 (pa_cons (pv 0) (pa_cons (pe_op op_cat (pv 3) (pe_lc (own := [("name", 7)]) rfl sc_law_tree.nd  (pi_list (pv 4)) (blkOk_by (own := [("name", 7)]) (N := ["well", "names", "depth", "parts", "rest", "turn", "size", "name"]) (sc := defScope s_law_tree) (by decide +kernel)) (fun _ _ _ _ _ => (pg_name (i := 7) sc_law_tree.nd rfl (.inl rfl))) (fun _ _ _ _ _ => pts_nil) (fun _ _ _ _ _ => (pe_tup (pa_cons pe_str (pa_cons (pv 7) pa_nil)))))) pa_nil)))))))))), ?_⟩
    have hsm : ∀ {H1 : Hp}, Wl a H H1 → ∀ b, sm H b = true → sm H1 b = true := fun w1 b hb => sm_wl w1 hb
    have hma : sm H a = true := hw.1.elim fun n h => sm_t h.2
    have hlen1 : 1 ≤ xs.length := List.length_pos_iff.mpr hne
    have leaf : ∀ (x : Str) H1 p, xs = [x] → Wl a H H1 → H1 p = none → Q (.ref p) (upd H1 p (.tup [.str "leaf", .str x])) := fun x H1 p ex w1 np => by
      refine q _ (.leaf x) _ (.leaf (hn x (by rw [ex]; exact List.mem_cons_self))) ex.symm (Nat.zero_le _) (w1.same (same_new np _)) (.leaf ?_)
      rw [hid_f (sm_f (w1.fresh np))]
      exact upd_same
    refine seq_if (Mid := fun H1 => Wl a H H1) (fun rest => ?_) (fun H1 w1 => ?_)
    · refine un_and <| un_test ⟨_, rfl, ln, _, rfl, .inl (SqL.of hln), rfl, _, rfl, ?_⟩
      refine ifD (fun e1 => ?_) (fun _ => iteF (rest H hw))
      have e1 : xs.length = 1 := by
        have := V.int.inj e1
        rw [List.length_map] at this
        omega
      obtain ⟨x, ex⟩ := List.length_eq_one_iff.mp e1
      have hx : ∀ {H1 : Hp}, Wl a H H1 → H1 ln = some (.lst [.str x]) := fun w1 => by
        have := w1.2 _ _ hla hln
        rw [ex] at this
        exact this
      refine un_or <| un_test ⟨_, rfl, rfl, _, rfl, ?_⟩
      refine ifD (fun _ => iteT (ret_leaf (ln := ln) rfl (hx hw) fun p np => leaf x H p ex hw np)) (fun _ => ?_)
      refine un_test <| un_op <| call_dip (a := a) rfl hw (fun R r => r) (by decide) fun dd H1 _ _ w1 => ⟨_, _, rfl, rfl, _, rfl, ?_⟩
      exact ifD (fun _ => ret_leaf (ln := ln) rfl (hx w1) fun p np => leaf x H1 p ex w1 np) (fun _ => rest H1 w1)
    dsimp only
    have hln1 := w1.2 _ _ hla hln
    refine seq_if (Mid := fun H2 => H2 = H1 ∧ d ≠ 0) (fun rest => ?_) (fun H2 hH2 => ?_)
    · refine un_test ⟨_, rfl, rfl, _, rfl, ?_⟩
      refine ifD (fun _ => ?_) (fun e => rest H1 ⟨rfl, fun z => e (by rw [z]; rfl)⟩)
      refine un_ret ⟨_, rfl, un_cons <| lc_leaves (Evl.ev_var rfl) (SqL.of hln1) (by omega) (fun x => rfl) (fun x => rfl) fun D us H2 nD s2 hD hF => ?_⟩
      have W2 := w1.same s2
      refine ⟨D, us, _, sm H, rfl, W2.r, hD, sm_f (w1.fresh nD), hma, fun b hb e => ?_, hF.mono (hid_sub fun b hb => md_t (hsm w1 b hb)), fun t ht => ?_, ?_, ?_, ?_, fun p H3 rs w3 hok hl => ?_⟩
      · obtain ⟨o, ho⟩ := sm_get (hsm W2 b hb)
        rw [ho] at e
        cases e
      · obtain ⟨x, hx, rfl⟩ := List.mem_map.mp ht
        exact .leaf (hn x hx)
      · rw [leaves_names]
        exact nd
      · exact fun z => hne (List.map_eq_nil_iff.mp z)
      · rw [leaves_names]
        omega
      · refine q _ _ _ hok (leaves_names xs) ?_ (W2.trans w3) hl
        show depthL (xs.map Tr.leaf) + 1 ≤ d + 1
        rw [leaves_depth]
        omega
    obtain ⟨rfl, hd0⟩ := hH2
    refine Evl.q_asgL (Evl.el_lst Evl.ea_nil (by decide)) fun f H3 nf e3 h3 => ?_
    have nf0 := w1.fresh nf
    have fa := w1.ne nf
    have lnf : ln ≠ f := ne_of_none hln nf0
    have w3 := w1.same e3
    refine sq_asg ⟨_, rfl, ?_⟩
    refine un_seq <| un_forR <| un_cons <| un_op <| un_c <| call_dip (a := a) rfl w3.r (fun R r => r) (by decide) fun dd H4 d0 d4 w4 => ⟨_, _, rfl, rfl, _, rfl, by omega, by omega, ?_⟩
    have W4 := w3.trans w4
    refine for_it (by omega) (fun i σ' H' => ∃ (us : List V) (ts : List Tr) (lr : Addr) (ys : List Str) (tt ss : Option V), σ' = [some (.ref a), some (.ref ln), some (.int d), some (.ref f), some (.ref lr), tt, ss, none] ∧ H' f = some (.lst us) ∧ LF (hid (md H f) H') us ts ∧ (∀ t ∈ ts, Ok t) ∧ depthL ts ≤ d ∧ lr ≠ a ∧ lr ≠ f ∧ H' lr = some (.lst (ys.map V.str)) ∧ namesL ts ++ ys = xs ∧ us.length ≤ i ∧ Wl a H H')
      ⟨[], [], ln, xs, none, none, rfl, w4.2 _ _ fa h3, .nil, fun t h => absurd h List.not_mem_nil, Nat.zero_le _, hla, lnf, W4.2 _ _ hla hln, rfl, Nat.le_refl _, W4⟩ (fun i σ' H5 hi p => ?_) (fun σ' H5 p => ?_)
    · obtain ⟨us, ts, lr, ys, tt, ss, rfl, hf, hF, hok, hdp, la, lf, hr', hxs, hul, W5⟩ := p
      have hy : ∀ y ∈ ys, nameOk y = true := fun y h => hn y (by rw [← hxs]; exact List.mem_append_right _ h)
      have nfH : H f = none := nf0
      refine un_ifS <| un_test ⟨_, rfl, ?_⟩
      refine Evl.el_lst (vs := []) Evl.ea_nil (by decide) H5 (Ex.refl _) _ fun l6 H6 n6 e6 h6 => ?_
      have W6 := W5.same e6
      refine ⟨_, _, .lst (SqL.of (e6 _ _ hr')) (dp_strs ys), .lst (SqL.of h6) .nil, shaped_strs hy, rfl, _, rfl, ?_⟩
      rw [eqv_strs_nil]
      have hF6 := hF.mono (hid_step (M := md H f) fun b o _ z => e6 b o z)
      refine ifN (fun hne' => ?_) (fun _ => nxt ⟨us, ts, lr, ys, _, _, rfl, e6 _ _ hf, hF6, hok, hdp, la, lf, e6 _ _ hr', hxs, by omega, W6⟩)
      have hyl : 1 ≤ ys.length := List.length_pos_iff.mpr hne'
      have hys : ys.length ≤ 40 := by
        have := congrArg List.length hxs
        rw [List.length_append] at this
        omega
      refine sq_asg <| un_op <| un_c <| call_dip (a := a) (m := ((ys.map V.str).length : Nat)) rfl W6.r (fun R r => ⟨_, rfl, lr, _, rfl, .inl (SqL.of (e6 _ _ hr')), r⟩) ⟨by rw [List.length_map]; omega, Int.le_trans (b := 40) (by rw [List.length_map]; omega) (by decide)⟩ fun dd H7 d0 d1 w7 => ⟨_, _, rfl, rfl, ?_⟩
      rw [List.length_map] at d1
      obtain ⟨k, hk⟩ : ∃ k : Nat, 1 + dd = (k : Int) := ⟨(1 + dd).toNat, by omega⟩
      dsimp only [List.set]
      rw [hk]
      have W7 := W6.trans w7
      have hf7 := w7.2 _ _ fa (e6 _ _ hf)
      have hr7 := w7.2 _ _ la (e6 _ _ hr')
      have hF7 := hF6.mono (hid_wl (M := md H f) (md_t hma) w7)
      refine un_seq ⟨_, rfl, .inl ⟨rfl, us, Evl.sq_of hf7⟩, ?_⟩
      refine un_cons ⟨_, rfl, un_cons ⟨_, rfl, _, rfl, _, rfl, lr, _, rfl, SqL.of hr7, fun l8 n8 => un_cons ⟨_, rfl, _, _, rfl, rfl, ?_⟩⟩⟩
      rw [cut_to]
      have s8 := same_new n8 (.lst ((ys.take k).map V.str))
      have h8 : (upd H7 l8 (.lst ((ys.take k).map V.str))) l8 = some (.lst ((ys.take k).map V.str)) := upd_same
      generalize upd H7 l8 (.lst ((ys.take k).map V.str)) = H8 at s8 h8 ⊢
      have W8 := W7.same s8
      have lk : (ys.take k).length = k := by
        rw [List.length_take]
        omega
      have ndy : ys.Nodup := by
        rw [← hxs] at nd
        exact (List.nodup_append.mp nd).2.1
      refine ⟨l8, ys.take k, d - 1, by rw [Int.ofNat_sub (by omega)]; rfl, by omega, by omega, W8.r, W7.ne n8, h8, ndy.sublist (List.take_sublist k ys), fun y h => hy y (List.mem_of_mem_take h), fun z => by rw [z] at lk; have : (0 : Nat) = k := lk; omega, by omega, fun v t H9 okt nt dt w9 hlt => ?_⟩
      have hf9 := w9.2 _ _ fa (s8 _ _ hf7)
      have hr9 := w9.2 _ _ la (s8 _ _ hr7)
      have W9 := W8.trans w9
      refine ⟨f, us, v, rfl, rfl, hf9, Evl.sz_lt (by omega), ?_⟩
      have hF9 := ((hF7.mono (hid_step (M := md H f) fun b o _ z => s8 b o z)).mono (hid_wl (M := md H f) (md_t hma) w9)).app (.one (hlt.mono (hid_sub (M := md H f) fun b hb => ?_)))
      · dsimp only
        refine un_asg ?_
        refine ⟨_, rfl, _, rfl, _, rfl, lr, _, rfl, SqL.of ((upd_ne lf).trans hr9), fun l10 n10 => ?_⟩
        rw [cut_from]
        have nl10 : l10 ≠ f := fun z => by rw [z, upd_same] at n10; cases n10
        have n10' : H9 l10 = none := by rw [← n10, upd_ne nl10]
        refine ⟨us ++ [v], ts ++ [t], l10, ys.drop k, _, _, rfl, by rw [upd_ne nl10.symm]; exact upd_same, ?_, fun u hu => ?_, ?_, W9.ne n10', nl10, upd_same, ?_, by rw [List.length_append]; exact Nat.succ_le_succ hul, (W9.mut fa nf0).mut (W9.ne n10') (W9.fresh n10')⟩
        · refine hF9.mono (hid_step fun b o hb z => ?_)
          have nb : b ≠ f := fun e => by rw [e, md_D] at hb; cases hb
          rw [upd_ne (ne_of_none z n10'), upd_ne nb]
          exact z
        · rcases List.mem_append.mp hu with h | h
          · exact hok u h
          · rw [List.mem_singleton.mp h]
            exact okt
        · rw [depthL_append]
          have : depthL [t] = t.depth := Nat.max_eq_left (Nat.zero_le _)
          omega
        · rw [namesL_append, show namesL [t] = t.names from List.append_nil _, nt, List.append_assoc, List.take_append_drop]
          exact hxs
      · rcases md_get hb with ⟨o, ho⟩ | rfl
        · exact sm_wl W8 (sm_t ho)
        · exact sm_t (s8 _ _ hf7)
    obtain ⟨us, ts, lr, ys, tt, ss, rfl, hf, hF, hok, hdp, la, lf, hr', hxs, hul, W5⟩ := p
    have hy : ∀ y ∈ ys, nameOk y = true := fun y h => hn y (by rw [← hxs]; exact List.mem_append_right _ h)
    have hys : (namesL ts).length + ys.length = xs.length := by
      have := congrArg List.length hxs
      rw [List.length_append] at this
      exact this
    have htl := parts_le hok
    dsimp only
    refine un_ret ?_
    refine ⟨_, rfl, un_cons <| un_op ⟨_, rfl, lc_leaves (Evl.ev_var rfl) (SqL.of hr') (by omega) (fun x => rfl) (fun x => rfl) fun D us2 H6 nD s6 hD hF2 => ?_⟩⟩
    refine ⟨f, D, us, us2, rfl, rfl, s6 _ _ hf, hD, Evl.sz_of ?_, fun lq nq => ?_⟩
    · rw [hF.1, hF2.1, List.length_map]
      omega
    have W6 := W5.same s6
    have s7 := same_new nq (.lst (us ++ us2))
    have h7 : (upd H6 lq (.lst (us ++ us2))) lq = some (.lst (us ++ us2)) := upd_same
    generalize upd H6 lq (.lst (us ++ us2)) = H7 at s7 h7 ⊢
    have W7 := W6.same s7
    have nq0 := W6.fresh nq
    have enames : namesL (ts ++ ys.map Tr.leaf) = xs := by rw [namesL_append, leaves_names, hxs]
    refine ⟨lq, us ++ us2, ts ++ ys.map Tr.leaf, md H f, rfl, W7.r, h7, md_f nq0 (fun z => by rw [z, s6 _ _ hf] at nq; cases nq), md_t hma, fun b hb e => ?_, ?_, fun t ht => ?_, ?_, ?_, ?_, fun p H8 rs w8 hok8 hl8 => ?_⟩
    · rcases md_get hb with ⟨o, ho⟩ | rfl
      · obtain ⟨o, ho⟩ := sm_get (sm_wl W7 (sm_t ho))
        rw [ho] at e
        cases e
      · rw [s7 _ _ (s6 _ _ hf)] at e
        cases e
    · refine ((hF.mono (hid_step fun b o _ z => s6 b o z)).app (hF2.mono (hid_sub fun b hb => ?_))).mono (hid_step fun b o _ z => s7 b o z)
      rcases md_get hb with ⟨o, ho⟩ | rfl
      · exact md_t (sm_wl W5 (sm_t ho))
      · exact md_t (sm_t hf)
    · rcases List.mem_append.mp ht with h | h
      · exact hok t h
      · obtain ⟨x, hx, rfl⟩ := List.mem_map.mp h
        exact .leaf (hy x hx)
    · rw [enames]
      exact nd
    · intro z
      rw [z] at enames
      exact hne enames.symm
    · rw [enames]
      omega
    · refine q _ _ _ hok8 enames ?_ (W7.trans w8) (hl8.mono (hid_sub fun b hb => md_t hb))
      show depthL (ts ++ ys.map Tr.leaf) + 1 ≤ d + 1
      rw [depthL_append, leaves_depth]
      omega
end
end Rk
set_option Elab.async false
set_option linter.all false
set_option maxRecDepth 100000
set_option maxHeartbeats 4000000
namespace Rk
open PySem PySem.Spec PyProof.Rows L2 RkO
open Evl (Ev EvT EvA EvL EvU EvO Ex RC RCL SpV SpL)
/-- a list of values that stand in R to trees -/
def GF (R : Hp → V → Tr → Prop) (H : Hp) (vs : List V) (ts : List Tr) : Prop := vs.length = ts.length ∧ ∀ (i : Nat) v t, vs[i]? = some v → ts[i]? = some t → R H v t
def MonR (R : Hp → V → Tr → Prop) : Prop := ∀ H H' v t, R H v t → Same H H' → R H' v t
theorem GF.mono {R : Hp → V → Tr → Prop} (m : MonR R) {H H' : Hp} {vs : List V} {ts : List Tr} (h : GF R H vs ts) (e : Same H H') : GF R H' vs ts := ⟨h.1, fun i v t a b => m _ _ _ _ (h.2 i v t a b) e⟩
theorem GF.nil {R : Hp → V → Tr → Prop} {H : Hp} : GF R H [] [] := ⟨rfl, fun i v t a _ => by simp at a⟩
theorem GF.snoc {R : Hp → V → Tr → Prop} {H : Hp} {vs : List V} {ts : List Tr} {v : V} {t : Tr} (h : GF R H vs ts) (g : R H v t) : GF R H (vs ++ [v]) (ts ++ [t]) := by
  have h1 := h.1
  refine ⟨by rw [List.length_append, List.length_append, h1]; rfl, fun i u s a b => ?_⟩
  by_cases hi : i < vs.length
  · rw [List.getElem?_append_left hi] at a
    rw [List.getElem?_append_left (by omega)] at b
    exact h.2 i u s a b
  · rw [List.getElem?_append_right (by omega)] at a
    rw [List.getElem?_append_right (by omega), ← h1] at b
    revert a b
    cases i - vs.length with
    | zero =>
      intro a b
      cases a
      cases b
      exact g
    | succ k =>
      intro a
      cases a
theorem GF.mem {R : Hp → V → Tr → Prop} {H : Hp} {vs : List V} {ts : List Tr} (h : GF R H vs ts) {i : Nat} {v : V} (e : vs[i]? = some v) : ∃ t, ts[i]? = some t ∧ R H v t := by
  have hi := (List.getElem?_eq_some_iff.mp e).1
  have hi2 : i < ts.length := by rw [← h.1]; exact hi
  exact ⟨ts[i], List.getElem?_eq_getElem hi2, h.2 i v _ e (List.getElem?_eq_getElem hi2)⟩
theorem lat_mon : MonR LAt := fun _ _ _ _ h e => h.mono e
theorem tat_mon {cL cG : Addr} : MonR (TAt cL cG) := fun _ _ _ _ h e => h.mono e
theorem names_part {ps : List Tr} {t : Tr} (hm : t ∈ ps) : t.names.length ≤ (namesL ps).length := by
  obtain ⟨a, b, rfl⟩ := List.append_of_mem hm
  rw [namesL_append, List.length_append]
  show t.names.length ≤ (namesL a).length + (t.names ++ namesL b).length
  rw [List.length_append]
  omega
/-- a comprehension that makes trees out of trees -/
theorem tl_gen {K : PySem.W.Frag} {A B : Hp → V → Tr → Prop} (mA : MonR A) (mB : MonR B) {σ : L2.St} {H : Hp} {tl te : TE} {a : Addr} {us : List V} {ts : List Tr} {f : Tr → Tr} {j : Nat} {vs : List Nat} (h : Ev tl σ H (.ref a)) (hx : SqL K H a us) (hF : GF A H us ts) (hz : ts.length ≤ 40000) (hw : ∀ x, wipe ((wipe σ vs).set j (some x)) vs = wipe σ vs)
    (he : ∀ v t M H1 (Q : VK), Hides M H1 → t ∈ ts → Same H (hid M H1) → A (hid M H1) v t → (∀ v' H', Same (hid M H1) H' → (∀ b, M b = true → H' b = none) → B H' v' (f t) → Q v' (put M H1 H')) → te ((wipe σ vs).set j (some v)) H1 Q)
    {Q : VK} (q : ∀ p us' H', H p = none → Same H H' → H' p = some (.lst us') → GF B (hid (one p) H') us' (ts.map f) → Q (.ref p) H') : tLc (iList K tl) (gName j) tYes te vs σ H Q := h H (Ex.refl H) _ fun H1 e1 => ⟨a, rfl, ⟨_, Evl.ex_l e1 hx⟩, fun Dl hD =>
  lc_list (xs := us) (fun i H' => Ex H1 H' ∧ ∃ us', us'.length = i ∧ H' Dl = some (.lst us') ∧ GF B (hid (one Dl) H') us' ((ts.take i).map f)) ⟨Ex.new hD, [], rfl, upd_same, .nil⟩ (fun i H' _ p => Evl.ex_l (e1.trans p.1) hx) (fun i y H' hi p => by
    obtain ⟨p2, us', pl, p3, p4⟩ := p
    obtain ⟨t, hti, ht⟩ := hF.mem hi
    have nD : H Dl = none := Evl.fresh_back e1 hD
    have up : Same H (hid (one Dl) H') := hid_same (fun b o z => p2 b o (e1 b o z)) fun b hb => by
      rw [of_decide_eq_true hb]
      exact nD
    have hlt := (List.getElem?_eq_some_iff.mp hti).1
    refine ⟨hw _, he y t (one Dl) H' _ (fun b hb => .inl ⟨us', by rw [of_decide_eq_true hb]; exact p3⟩) (List.mem_of_getElem? hti) up (mA _ _ _ _ ht up) fun v' H'' s2 gone w => ⟨us', (put_t (decide_eq_true rfl)).trans p3, Evl.sz_lt (by omega), ?_, us' ++ [v'], by rw [List.length_append, pl]; rfl, upd_same, ?_⟩⟩
    · intro b o z
      have nb : b ≠ Dl := ne_of_none z hD
      rw [upd_ne nb, put_f (decide_eq_false nb)]
      exact s2 b o (by rw [hid_one nb]; exact p2 b o z)
    · rw [hid_back (gone Dl (decide_eq_true rfl)), List.take_add_one, hti, List.map_append]
      exact (p4.mono mB s2).snoc w) (fun H' p => by
    obtain ⟨p2, us', pl, p3, p4⟩ := p
    rw [hF.1, List.take_length] at p4
    exact q Dl us' H' (Evl.fresh_back e1 hD) (fun b o z => p2 b o (e1 b o z)) p3 p4)⟩
section
variable {K : PySem.W.Frag} {σ : L2.St} {H : Hp} {te : TE}
/-- over a new list -/
theorem el_lcMN {α : Type} {xs : List α} {g f : α → V} {tl : TE} {j : Nat} {vs : List Nat} (h : EvL tl σ H (xs.map g)) (hz : xs.length ≤ 40000) (hw : ∀ x, wipe ((wipe σ vs).set j (some x)) vs = wipe σ vs)
    (he : ∀ (x : α) H1, Ex H H1 → x ∈ xs → Ev te ((wipe σ vs).set j (some (g x))) H1 (f x)) : EvL (tLc (iList K tl) (gName j) tYes te vs) σ H (xs.map f) := fun H0 e Q q => h H0 e _ fun a H1 na e1 ha => ⟨a, rfl, ⟨_, SqL.of ha⟩, fun Dl hD =>
  lc_list (xs := xs.map g) (fun i H' => H1 Dl = none ∧ Ex H1 H' ∧ H' Dl = some (.lst ((xs.take i).map f))) ⟨hD, Ex.new hD, upd_same⟩ (fun i H' _ p => SqL.of (p.2.1 _ _ ha)) (fun i y H' hi p => by
    obtain ⟨p1, p2, p3⟩ := p
    rw [List.getElem?_map] at hi
    obtain ⟨x, hxi, rfl⟩ := Option.map_eq_some_iff.mp hi
    refine ⟨hw _, ?_⟩
    refine he x H1 (e.trans e1) (List.mem_of_getElem? hxi) H' p2 _ fun H4 e4 => ⟨_, e4 _ _ p3, ?_, p1, Ex.mut (p2.trans e4) p1, ?_⟩
    · rw [List.length_map, List.length_take]
      exact Evl.sz_lt (by omega)
    · rw [upd_same, List.take_add_one, hxi, List.map_append]
      rfl) (fun H' p => q Dl H' (Evl.fresh_back e1 p.1) (e1.trans p.2.1) (by
    have := p.2.2
    rwa [List.length_map, List.take_length] at this))⟩
end
section
variable {P : Program} {w : World} {K : PySem.W.Frag} {mg : Str → Option Value} {base : Heap}
/-! ### _law_made -/
def spMade (cL cG : Addr) (n : Nat) : Sp := fun vs H Q _ => ∃ (v : V) (t : Tr), vs = [v] ∧ t.depth < n ∧ LAt H v t ∧ Ok t ∧ t.names.length ≤ 60 ∧ ∀ v' H', Same H H' → TAt cL cG H' v' t → Q v' H'
theorem ok_law_made (T : Txt K mg) : ∀ n : Nat, FnOk P w K mg base CX0 (n + 5) T.f_law_made T.d_law_made ["tree"] (spMade T.a_Leaf T.a_Group n)
  | 0 => fn_no fun vs H Q E h => by
    obtain ⟨_, t, _, hd, _⟩ := h
    exact absurd hd (Nat.not_lt_zero _)
  | n + 1 => by
    have G_Leaf_init := ok_Leaf_init (P := P) (w := w) (base := base) T
    have G_Group_init : FnOk P w K mg base CX0 4 T.f_Group_init T.d_Group_init ["self", "ranks", "parts"] (spGroupInit K T.a_Leaf T.a_Group) := ok_Group_init T
    have G_law_made := RkO.FnOk.frame (ok_law_made T n)
    refine T.F_law_made.ok sc_law_made (fun vs H Q E h => ?_) (fun cdv A outer s H vs Q E hr h => ?_)
    · obtain ⟨v, t, rfl, _⟩ := h
      rfl
    obtain ⟨v, t, rfl, hd, ht, hok, hl, q⟩ := h
    refine ⟨_, (pss_cons (ps_if (pt_cmpR op_eq (pe_ix ix_tup (pv 0) pe_int (fun _ _ => rfl)) pe_str (nomark _)) (pss_one (ps_ret (pe_make T.M_Leaf G_Leaf_init (hr.mono (by omega)) rfl T.m_Leaf T.b_Leaf_init .nil pass0 (pa_cons (pe_ix ix_tup (pv 0) pe_int (fun _ _ => rfl)) pa_nil)))) pss_nil)
  (pss_one (ps_ret (pe_make T.M_Group G_Group_init (hr.mono (by omega)) rfl T.m_Group T.b_Group_init .nil pass0 (pa_cons (pe_callTy call_list_of (by rfl) T.m_list (by decide +kernel) (pa_cons (pe_ix ix_tup (pv 0) pe_int (fun _ _ => rfl)) pa_nil)) (pa_cons (pe_lc (own := [("part", 1)]) rfl sc_law_made.nd  (pi_list (pe_ix ix_tup (pv 0) pe_int (fun _ _ => rfl))) (blkOk_by (own := [("part", 1)]) (N := ["tree", "part"]) (sc := defScope s_law_made) (by decide +kernel)) (fun _ _ _ _ _ => (pg_name (i := 1) sc_law_made.nd rfl (.inl rfl))) (fun _ _ _ _ _ => pts_nil) (fun _ _ _ _ _ => (pe_call G_law_made (hr.mono (by omega)) rfl T.m_law_made T.F_law_made.kp T.b_law_made .nil pass0 (pa_cons (pv 1) pa_nil)))) pa_nil)))))), ?_⟩
    cases ht with
    | @leaf p x h =>
      have hx : nameOk x = true := by
        cases hok
        assumption
      refine un_seq <| un_ifS <| un_test ⟨_, rfl, _, _, _, _, rfl, rfl, Evl.st_of h, atI_nat (j := 0) rfl, rfl, _, rfl, ?_⟩
      rw [decide_eq_true rfl]
      refine iteT (un_ret ?_)
      refine ⟨_, rfl, _, _, _, _, rfl, rfl, Evl.st_of h, atI_nat (j := 1) rfl, ?_⟩
      intro y dy ny ndy ne
      have := (name_letters hx).2.1
      refine ⟨y, dy, x, rfl, upd_same, hx, by omega, fun H' k hp => ⟨rfl, ?_⟩⟩
      have g := mk_leaf (cG := T.a_Group) ny ndy k hp
      exact q _ H' g.1 g.2
    | @grp p lr lp rs ps us h1 h2 h3 hvl hf =>
      have hF : GF LAt H us ps := ⟨hvl, hf⟩
      have oks : ∀ t ∈ ps, Ok t := by
        cases hok with
        | grp h1 _ _ _ h5 h6 => exact h1
      have hd : depthL ps + 1 < n + 1 := hd
      have hl : (namesL ps).length ≤ 60 := hl
      have hpl := parts_le oks
      refine un_seq <| un_ifS <| un_test ⟨_, rfl, _, _, _, _, rfl, rfl, Evl.st_of h1, atI_nat (j := 0) rfl, rfl, _, rfl, ?_⟩
      rw [decide_eq_false (by decide +kernel)]
      refine iteF (nxt ?_)
      dsimp only
      refine un_ret ?_
      refine ⟨_, rfl, _, _, _, _, rfl, rfl, Evl.st_of h1, atI_nat (j := 1) rfl, _, _, rfl, .inl (SqL.of h2), fun l2 n2 => ?_⟩
      have s2 : Same H (upd H l2 (.lst (rs.map V.int))) := same_new n2 _
      have hl2 : (upd H l2 (.lst (rs.map V.int))) l2 = some (.lst (rs.map V.int)) := upd_same
      generalize upd H l2 (.lst (rs.map V.int)) = H2 at s2 hl2 ⊢
      refine un_cons <| tl_gen (f := id) lat_mon tat_mon (A := LAt) (B := TAt T.a_Leaf T.a_Group) ?_ (SqL.of (s2 _ _ h3)) (hF.mono lat_mon s2) (by omega) (fun x => rfl) (fun v t M H3 Q hM hm s3 ht q => ?_) (fun z3 us' H3 nz3 s3 hz3 hF3 => ?_)
      · exact fun H3 e3 Q3 q3 => ⟨_, rfl, _, _, _, _, rfl, rfl, Evl.st_of (e3 _ _ (s2 _ _ h1)), atI_nat (j := 2) rfl, q3 _ (Ex.refl _)⟩
      · have hdp := depth_mem hm
        refine ⟨_, rfl, M, hM, v, t, rfl, by omega, ht, oks t hm, Nat.le_trans (names_part hm) hl, fun v' H' s' w gone => q v' H' s' gone w⟩
      · intro x dy nx ndy ne
        have ms := made_same (cG := T.a_Group) nx ndy
        rw [List.map_id] at hF3
        have hF4 : FAt T.a_Leaf T.a_Group H3 us' ps := hF3.mono tat_mon hid_le
        refine ⟨x, dy, l2, z3, _, us', ps, rfl, upd_same, SqL.of (ms _ _ (s3 _ _ hl2)), ty_list (SqL.of (K := K) (ms _ _ (s3 _ _ hl2))), SqL.of (ms _ _ hz3), ty_list (SqL.of (K := K) (ms _ _ hz3)), hF4.mono ms, hok, by omega, fun H' k w => ⟨rfl, q _ H' ?_ w⟩⟩
        exact (s2.trans s3).trans (mk_same nx ndy k)
end
end Rk
set_option Elab.async false
set_option linter.all false
set_option maxRecDepth 100000
set_option maxHeartbeats 4000000
/-! the ends of a tree, the leaves' worths given: how many are at most a bound -/
namespace Rk
open PySem
/-- sorted by insertion: any list of ints has one sorted form -/
def insI (x : Int) : List Int → List Int
  | [] => [x]
  | y :: ys => if x ≤ y then x :: y :: ys else y :: insI x ys
def sortI : List Int → List Int
  | [] => []
  | x :: xs => insI x (sortI xs)
theorem insI_perm (x : Int) : ∀ ys, (insI x ys).Perm (x :: ys)
  | [] => List.Perm.refl _
  | y :: ys => by
    unfold insI
    by_cases h : x ≤ y
    · rw [if_pos h]
    · rw [if_neg h]
      exact ((insI_perm x ys).cons y).trans (List.Perm.swap x y ys)
theorem insI_up (x : Int) : ∀ ys, ys.Pairwise (· ≤ ·) → (insI x ys).Pairwise (· ≤ ·)
  | [], _ => List.pairwise_singleton _ _
  | y :: ys, h => by
    unfold insI
    obtain ⟨h1, h2⟩ := List.pairwise_cons.mp h
    by_cases c : x ≤ y
    · rw [if_pos c]
      refine List.pairwise_cons.mpr ⟨fun z hz => ?_, h⟩
      rcases List.mem_cons.mp hz with rfl | hz
      · exact c
      · exact Int.le_trans c (h1 z hz)
    · rw [if_neg c]
      refine List.pairwise_cons.mpr ⟨fun z hz => ?_, insI_up x ys h2⟩
      rcases List.mem_cons.mp ((insI_perm x ys).mem_iff.mp hz) with rfl | hz
      · omega
      · exact h1 z hz
theorem sortI_perm : ∀ xs, (sortI xs).Perm xs
  | [] => List.Perm.refl _
  | x :: xs => (insI_perm x (sortI xs)).trans ((sortI_perm xs).cons x)
theorem sortI_up : ∀ xs, (sortI xs).Pairwise (· ≤ ·)
  | [] => List.Pairwise.nil
  | x :: xs => insI_up x _ (sortI_up xs)
/-- in a sorted list the r-th is at most b just if r at least are -/
theorem rank_le (b : Int) : ∀ (xs : List Int), xs.Pairwise (· ≤ ·) → ∀ i, i < xs.length → (xs.getD i 0 ≤ b ↔ i + 1 ≤ (xs.filter fun x => decide (x ≤ b)).length)
  | [], _, i, hi => absurd hi (Nat.not_lt_zero _)
  | x :: xs, h, i, hi => by
    obtain ⟨h1, h2⟩ := List.pairwise_cons.mp h
    by_cases c : x ≤ b
    · rw [List.filter_cons_of_pos (by simpa using c)]
      cases i with
      | zero => exact ⟨fun _ => by simp, fun _ => c⟩
      | succ i =>
        have := rank_le b xs h2 i (Nat.lt_of_succ_lt_succ hi)
        rw [List.length_cons]
        show xs.getD i 0 ≤ b ↔ _
        rw [this]
        omega
    · rw [List.filter_cons_of_neg (by simpa using c)]
      have none : (xs.filter fun x => decide (x ≤ b)) = [] := List.filter_eq_nil_iff.mpr fun y hy => by
        have := h1 y hy
        simp
        omega
      rw [none]
      refine ⟨fun z => ?_, fun z => absurd z (by simp)⟩
      cases i with
      | zero => exact absurd z c
      | succ i =>
        have hlt := Nat.lt_of_succ_lt_succ hi
        have z : xs.getD i 0 ≤ b := z
        have := h1 (xs.getD i 0) (by rw [List.getD_eq_getElem?_getD, List.getElem?_eq_getElem hlt]; exact List.getElem_mem hlt)
        omega
variable (wf : Str → Int)
mutual
/-- the ends of a tree -/
def Tr.ends : Tr → List Int
  | .leaf x => [wf x]
  | .grp rs ps => rs.map fun r => (sortI (endsL ps)).getD (r - 1).toNat 0
def endsL : List Tr → List Int
  | [] => []
  | p :: ps => p.ends ++ endsL ps
end
mutual
/-- the ends of each node -/
def Tr.outs : Tr → List (List Int)
  | .leaf x => [[wf x]]
  | .grp rs ps => (Tr.grp rs ps).ends wf :: outsL ps
def outsL : List Tr → List (List Int)
  | [] => []
  | p :: ps => p.outs ++ outsL ps
end
mutual
def Tr.nodes : Tr → List Tr
  | .leaf x => [.leaf x]
  | .grp rs ps => .grp rs ps :: nodesL ps
def nodesL : List Tr → List Tr
  | [] => []
  | p :: ps => p.nodes ++ nodesL ps
end
mutual
theorem outs_nodes : ∀ t : Tr, t.outs wf = t.nodes.map (Tr.ends wf)
  | .leaf x => rfl
  | .grp rs ps => by
    show (Tr.grp rs ps).ends wf :: outsL wf ps = (Tr.grp rs ps).ends wf :: (nodesL ps).map (Tr.ends wf)
    rw [outs_nodesL ps]
theorem outs_nodesL : ∀ ps : List Tr, outsL wf ps = (nodesL ps).map (Tr.ends wf)
  | [] => rfl
  | p :: ps => by
    show p.outs wf ++ outsL wf ps = (p.nodes ++ nodesL ps).map (Tr.ends wf)
    rw [outs_nodes p, outs_nodesL ps, List.map_append]
end
theorem ends_len (t : Tr) : (t.ends wf).length = t.width := by
  cases t with
  | leaf x => rfl
  | grp rs ps =>
    show (rs.map _).length = rs.length
    rw [List.length_map]
theorem endsL_len : ∀ ps : List Tr, (endsL wf ps).length = intakeL ps
  | [] => rfl
  | p :: ps => by
    show (p.ends wf ++ endsL wf ps).length = p.width + intakeL ps
    rw [List.length_append, ends_len, endsL_len ps]
mutual
theorem ok_nodes : ∀ {t : Tr}, Ok t → ∀ u ∈ t.nodes, Ok u ∧ (∀ x ∈ u.names, x ∈ t.names) ∧ u.names.length ≤ t.names.length ∧ u.depth ≤ t.depth
  | .leaf x, h, u, hu => by
    rw [List.mem_singleton.mp hu]
    exact ⟨h, fun _ z => z, Nat.le_refl _, Nat.le_refl _⟩
  | .grp rs ps, h, u, hu => by
    rcases List.mem_cons.mp hu with rfl | hu
    · exact ⟨h, fun _ z => z, Nat.le_refl _, Nat.le_refl _⟩
    · cases h with
      | grp h1 h2 h3 h4 h5 h6 =>
        obtain ⟨a, b, c, d⟩ := ok_nodesL h1 u hu
        exact ⟨a, b, c, Nat.le_succ_of_le d⟩
theorem ok_nodesL : ∀ {ps : List Tr}, (∀ t ∈ ps, Ok t) → ∀ u ∈ nodesL ps, Ok u ∧ (∀ x ∈ u.names, x ∈ namesL ps) ∧ u.names.length ≤ (namesL ps).length ∧ u.depth ≤ depthL ps
  | [], _, u, hu => absurd hu List.not_mem_nil
  | p :: ps, h, u, hu => by
    have e : (namesL (p :: ps)).length = p.names.length + (namesL ps).length := List.length_append
    have ed : depthL (p :: ps) = max p.depth (depthL ps) := rfl
    rcases List.mem_append.mp hu with hu | hu
    · obtain ⟨a, b, c, d⟩ := ok_nodes (h p List.mem_cons_self) u hu
      exact ⟨a, fun x z => List.mem_append_left _ (b x z), by omega, by omega⟩
    · obtain ⟨a, b, c, d⟩ := ok_nodesL (fun t ht => h t (List.mem_cons_of_mem _ ht)) u hu
      exact ⟨a, fun x z => List.mem_append_right _ (b x z), by omega, by omega⟩
end
/-- the ends ascend -/
theorem ends_up {t : Tr} (h : Ok t) : (t.ends wf).Pairwise (· ≤ ·) := by
  cases h with
  | leaf _ => exact List.pairwise_singleton _ _
  | @grp rs ps h1 h2 h3 h4 h5 h6 =>
    show (rs.map fun r => (sortI (endsL wf ps)).getD (r - 1).toNat 0).Pairwise (· ≤ ·)
    have len : (sortI (endsL wf ps)).length = intakeL ps := by rw [(sortI_perm _).length_eq, endsL_len]
    rw [List.pairwise_map]
    refine (List.pairwise_iff_forall_sublist.mpr fun {a b} hs => ?_)
    have hab : a < b := List.pairwise_iff_forall_sublist.mp h5 hs
    have ha := h6 a (hs.subset List.mem_cons_self)
    have hb := h6 b (hs.subset (List.mem_cons_of_mem _ List.mem_cons_self))
    have lt : (a - 1).toNat < (b - 1).toNat := by omega
    have lb : (b - 1).toNat < (sortI (endsL wf ps)).length := by omega
    rw [List.getD_eq_getElem?_getD, List.getD_eq_getElem?_getD, List.getElem?_eq_getElem (Nat.lt_trans lt lb), List.getElem?_eq_getElem lb]
    exact List.pairwise_iff_getElem.mp (sortI_up _) _ _ (Nat.lt_trans lt lb) lb lt
mutual
/-- so many ends are at most b as the leaves whose worths are let be low -/
theorem ends_low (b : Int) (s : List Str) : ∀ {t : Tr}, Ok t → (∀ x ∈ t.names, x ∈ s ↔ wf x ≤ b) → ((t.ends wf).filter fun x => decide (x ≤ b)).length = t.low s
  | .leaf x, _, h => by
    have hx := h x (List.mem_singleton.mpr rfl)
    show (([wf x] : List Int).filter fun x => decide (x ≤ b)).length = if x ∈ s then 1 else 0
    by_cases c : wf x ≤ b
    · rw [if_pos (hx.mpr c), List.filter_cons_of_pos (by simpa using c)]
      rfl
    · rw [if_neg (fun z => c (hx.mp z)), List.filter_cons_of_neg (by simpa using c)]
      rfl
  | .grp rs ps, hok, h => by
    cases hok with
    | grp h1 h2 h3 h4 h5 h6 =>
      have key := ends_lowL b s h1 h
      have len : (sortI (endsL wf ps)).length = intakeL ps := by rw [(sortI_perm _).length_eq, endsL_len]
      have cnt : ((sortI (endsL wf ps)).filter fun x => decide (x ≤ b)).length = lowL s ps := by rw [((sortI_perm (endsL wf ps)).filter _).length_eq, key]
      show ((rs.map fun r => (sortI (endsL wf ps)).getD (r - 1).toNat 0).filter fun x => decide (x ≤ b)).length = (rs.filter fun r => decide (r ≤ (lowL s ps : Int))).length
      rw [List.filter_map, List.length_map]
      refine congrArg List.length (List.filter_congr fun r hr => decide_eq_decide.mpr ?_)
      have hr := h6 r hr
      show (sortI (endsL wf ps)).getD (r - 1).toNat 0 ≤ b ↔ r ≤ (lowL s ps : Int)
      rw [rank_le b _ (sortI_up _) _ (by omega), cnt]
      omega
theorem ends_lowL (b : Int) (s : List Str) : ∀ {ps : List Tr}, (∀ t ∈ ps, Ok t) → (∀ x ∈ namesL ps, x ∈ s ↔ wf x ≤ b) → ((endsL wf ps).filter fun x => decide (x ≤ b)).length = lowL s ps
  | [], _, _ => rfl
  | p :: ps, hok, h => by
    show ((p.ends wf ++ endsL wf ps).filter fun x => decide (x ≤ b)).length = p.low s + lowL s ps
    rw [List.filter_append, List.length_append, ends_low b s (hok p List.mem_cons_self) fun x hx => h x (List.mem_append_left _ hx), ends_lowL b s (fun t ht => hok t (List.mem_cons_of_mem _ ht)) fun x hx => h x (List.mem_append_right _ hx)]
end
mutual
theorem nodes_len : ∀ {t : Tr}, Ok t → t.nodes.length ≤ t.names.length * (t.depth + 1)
  | .leaf x, _ => Nat.le_refl _
  | .grp rs ps, h => by
    have h1 := h.one
    cases h with
    | grp oks _ _ _ _ _ =>
      have h2 := nodes_lenL (d := depthL ps) oks fun t ht => depth_mem ht
      show (nodesL ps).length + 1 ≤ (namesL ps).length * (depthL ps + 1 + 1)
      have h1 : 1 ≤ (namesL ps).length := h1
      rw [Nat.mul_succ]
      omega
theorem nodes_lenL {d : Nat} : ∀ {ps : List Tr}, (∀ t ∈ ps, Ok t) → (∀ t ∈ ps, t.depth ≤ d) → (nodesL ps).length ≤ (namesL ps).length * (d + 1)
  | [], _, _ => Nat.zero_le _
  | p :: ps, h, hd => by
    show (p.nodes ++ nodesL ps).length ≤ (p.names ++ namesL ps).length * (d + 1)
    rw [List.length_append, List.length_append, Nat.add_mul]
    have h1 := nodes_len (h p List.mem_cons_self)
    have h2 := nodes_lenL (d := d) (fun t ht => h t (List.mem_cons_of_mem _ ht)) fun t ht => hd t (List.mem_cons_of_mem _ ht)
    have h3 : p.names.length * (p.depth + 1) ≤ p.names.length * (d + 1) := Nat.mul_le_mul_left _ (Nat.succ_le_succ (hd p List.mem_cons_self))
    omega
end
theorem nodes_part {ps : List Tr} {t : Tr} (hm : t ∈ ps) : t.nodes.length ≤ (nodesL ps).length := by
  obtain ⟨a, b, rfl⟩ := List.append_of_mem hm
  have app : ∀ (x y : List Tr), nodesL (x ++ y) = nodesL x ++ nodesL y := fun x y => by
    induction x with
    | nil => rfl
    | cons p x ih =>
      show p.nodes ++ nodesL (x ++ y) = p.nodes ++ nodesL x ++ nodesL y
      rw [ih, List.append_assoc]
  rw [app, List.length_append]
  show t.nodes.length ≤ (nodesL a).length + (t.nodes ++ nodesL b).length
  rw [List.length_append]
  omega
end Rk
set_option Elab.async false
set_option linter.all false
set_option maxRecDepth 100000
set_option maxHeartbeats 4000000
namespace Rk
open PySem PySem.Spec PyProof.Rows L2 RkO
open Evl (Ev EvT EvA EvL EvU EvO Ex RC RCL SpV SpL)
/-- a tree's nodes as values, in order -/
inductive NV (cL cG : Addr) (H : Hp) : V → Tr → List V → Prop where
  | leaf {p dx : Addr} {x : Str} : H p = some (.ins cL dx (lf x)) → NV cL cG H (.ref p) (.leaf x) [.ref p]
  | grp {p dx lr lp ln : Addr} {rs : List Int} {ps : List Tr} {vs : List V} {nss : List (List V)} : H p = some (.ins cG dx (gf lr lp (intakeL ps : Int) ln)) → H lr = some (.lst (rs.map V.int)) → H lp = some (.lst vs) → H ln = some (.lst ((namesL ps).map V.str)) →
      vs.length = ps.length → nss.length = ps.length → (∀ (i : Nat) v t ns, vs[i]? = some v → ps[i]? = some t → nss[i]? = some ns → NV cL cG H v t ns) → NV cL cG H (.ref p) (.grp rs ps) (.ref p :: nss.flatten)
theorem NV.mono {cL cG : Addr} {H H' : Hp} {v : V} {t : Tr} {ns : List V} (h : NV cL cG H v t ns) (e : Same H H') : NV cL cG H' v t ns := by
  induction h with
  | leaf h => exact .leaf (e _ _ h)
  | grp h1 h2 h3 h4 hl hn _ ih => exact .grp (e _ _ h1) (e _ _ h2) (e _ _ h3) (e _ _ h4) hl hn ih
theorem NV.tat {cL cG : Addr} {H : Hp} {v : V} {t : Tr} {ns : List V} (h : NV cL cG H v t ns) : TAt cL cG H v t := by
  induction h with
  | leaf h => exact .leaf h
  | @grp p dx lr lp ln rs ps vs nss h1 h2 h3 h4 hl hn _ ih =>
    refine .grp h1 h2 h3 h4 hl fun i v t hv ht => ?_
    have hi := (List.getElem?_eq_some_iff.mp ht).1
    have hi2 : i < nss.length := by rw [hn]; exact hi
    exact ih i v t _ hv ht (List.getElem?_eq_getElem hi2)
theorem nv_list {cL cG : Addr} {H : Hp} : ∀ (ps : List Tr) (vs : List V), vs.length = ps.length → (∀ (i : Nat) v t, vs[i]? = some v → ps[i]? = some t → ∃ ns, NV cL cG H v t ns) → ∃ nss : List (List V), nss.length = ps.length ∧ ∀ (i : Nat) v t ns, vs[i]? = some v → ps[i]? = some t → nss[i]? = some ns → NV cL cG H v t ns
  | [], vs, _, _ => ⟨[], rfl, fun i v t ns _ h _ => by simp at h⟩
  | p :: ps, [], hl, _ => by simp at hl
  | p :: ps, v :: vs, hl, h => by
    obtain ⟨ns, hns⟩ := h 0 v p rfl rfl
    obtain ⟨nss, h1, h2⟩ := nv_list ps vs (by simpa using hl) fun i v t a b => h (i + 1) v t a b
    refine ⟨ns :: nss, by simp [h1], fun i v' t ns' a b c => ?_⟩
    cases i with
    | zero =>
      cases a
      cases b
      cases c
      exact hns
    | succ i => exact h2 i v' t ns' a b c
theorem nv_of {cL cG : Addr} {H : Hp} {v : V} {t : Tr} (h : TAt cL cG H v t) : ∃ ns, NV cL cG H v t ns := by
  induction h with
  | leaf h => exact ⟨_, .leaf h⟩
  | @grp p dx lr lp ln rs ps vs h1 h2 h3 h4 hl _ ih =>
    obtain ⟨nss, hn, hh⟩ := nv_list ps vs hl ih
    exact ⟨_, .grp h1 h2 h3 h4 hl hn hh⟩
theorem gf_append {R : Hp → V → Tr → Prop} {H : Hp} {vs us : List V} {ts ss : List Tr} (h : GF R H vs ts) (g : GF R H us ss) : GF R H (vs ++ us) (ts ++ ss) := by
  refine ⟨by rw [List.length_append, List.length_append, h.1, g.1], fun i u s a b => ?_⟩
  have h1 := h.1
  by_cases hi : i < vs.length
  · rw [List.getElem?_append_left hi] at a
    rw [List.getElem?_append_left (by omega)] at b
    exact h.2 i u s a b
  · rw [List.getElem?_append_right (by omega)] at a
    rw [List.getElem?_append_right (by omega), ← h1] at b
    exact g.2 _ u s a b
theorem gf_one {R : Hp → V → Tr → Prop} {H : Hp} {v : V} {t : Tr} (h : R H v t) : GF R H [v] [t] := GF.snoc GF.nil h
theorem nv_flat {R : Hp → V → Tr → Prop} {H : Hp} : ∀ (ps : List Tr) (nss : List (List V)), nss.length = ps.length → (∀ (i : Nat) t ns, ps[i]? = some t → nss[i]? = some ns → GF R H ns t.nodes) → GF R H nss.flatten (nodesL ps)
  | [], [], _, _ => GF.nil
  | [], _ :: _, hl, _ => by simp at hl
  | p :: ps, [], hl, _ => by simp at hl
  | p :: ps, ns :: nss, hl, h => gf_append (h 0 p ns rfl rfl) (nv_flat ps nss (by simpa using hl) fun i t ns a b => h (i + 1) t ns a b)
theorem NV.nodes {cL cG : Addr} {H : Hp} {v : V} {t : Tr} {ns : List V} (h : NV cL cG H v t ns) : GF (TAt cL cG) H ns t.nodes := by
  have w := h.tat
  induction h with
  | leaf h => exact gf_one w
  | @grp p dx lr lp ln rs ps vs nss h1 h2 h3 h4 hl hn hc ih =>
    refine gf_append (gf_one w) (nv_flat ps nss hn fun i t ns ht hns => ?_)
    have hi := (List.getElem?_eq_some_iff.mp ht).1
    have hi2 : i < vs.length := by rw [hl]; exact hi
    exact ih i _ t ns (List.getElem?_eq_getElem hi2) ht hns (hc i _ t ns (List.getElem?_eq_getElem hi2) ht hns).tat
theorem zip3 {α β γ : Type} (us : List α) (ps : List β) (ns : List γ) (h1 : us.length = ps.length) (h2 : ns.length = ps.length) : ((us.zip ps).zip ns).map (fun z => z.1.1) = us ∧ ((us.zip ps).zip ns).map (fun z => z.2) = ns ∧ ∀ z ∈ (us.zip ps).zip ns, ∃ i : Nat, us[i]? = some z.1.1 ∧ ps[i]? = some z.1.2 ∧ ns[i]? = some z.2 := by
  have l : (us.zip ps).length = ps.length := by rw [List.length_zip]; omega
  refine ⟨?_, ?_, fun z hz => ?_⟩
  · rw [show (fun z : (α × β) × γ => z.1.1) = Prod.fst ∘ Prod.fst from rfl, ← List.map_map, List.map_fst_zip (by omega), List.map_fst_zip (by omega)]
  · exact List.map_snd_zip (by omega)
  · obtain ⟨i, hi⟩ := List.mem_iff_getElem?.mp hz
    obtain ⟨g1, g2⟩ := List.getElem?_zip_eq_some.mp hi
    obtain ⟨g3, g4⟩ := List.getElem?_zip_eq_some.mp g1
    exact ⟨i, g3, g4, g2⟩
end Rk
set_option Elab.async false
set_option linter.all false
set_option maxRecDepth 100000
set_option maxHeartbeats 4000000
namespace Rk
open PySem PySem.Spec PyProof.Rows L2 RkO
open Evl (Ev EvT EvA EvL EvU EvO Ex RC RCL SpV SpL)
theorem un_call1 {sp : Sp} {te : TE} {σ : L2.St} {H : Hp} {Q : VK} (h : te σ H fun x H1 => sp [x] H1 Q E0) : tCall sp [] E0 (tCons te tNil) σ H Q := h
theorem un_var {v : V} {i : Nat} {σ : L2.St} {H : Hp} {Q : VK} (h0 : σ[i]? = some (some v)) (h : Q v H) : tVar i σ H Q := ⟨v, h0, h⟩
/-- a list of pairs of a name and a worth -/
def PairsAt (H : Hp) (l : Addr) (L : List (Addr × Str × Int)) : Prop := H l = some (.lst (L.map fun r => V.ref r.1)) ∧ ∀ r ∈ L, H r.1 = some (.tup [.str r.2.1, .int r.2.2])
def rLenK (K : PySem.W.Frag) : List V → Hp → VK → Prop := fun xs H Q => ∃ (p : Addr) (ys : List V), xs = [.ref p] ∧ (SqL K H p ys ∨ SqT K H p ys) ∧ Q (.int ys.length) H
theorem kit_self_ty {K : PySem.W.Frag} {t : String} : PySem.W.kitOne K (.type t) (.type t) = some true := by
  unfold PySem.W.kitOne
  rw [if_pos (beq_self_eq_true _)]
section
variable {P : Program} {w : World} {K : PySem.W.Frag} {mg : Str → Option Value} {base : Heap}
def spPairs : Sp := fun vs H Q _ => ∃ (l : Addr) (L : List (Addr × Str × Int)), vs = [.ref l] ∧ PairsAt H l L ∧ (L.map fun r => r.2.1).Nodup ∧ (∀ r ∈ L, nameOk r.2.1 = true) ∧ L.length ≤ 60 ∧ ∀ H', Same H H' → Q (.bl true) H'
theorem ok_are_name_pairs (T : Txt K mg) : FnOk P w K mg base CX0 3 T.f_are_name_pairs T.d_are_name_pairs ["value"] spPairs := by
  have G_are_names := ok_are_names (P := P) (w := w) (base := base) T
  refine T.F_are_name_pairs.ok sc_are_name_pairs (fun vs H Q E h => ?_) (fun cdv A outer s H vs Q E hr h => ?_)
  · obtain ⟨l, L, rfl, _⟩ := h
    rfl
  obtain ⟨l, L, rfl, ⟨hl, hL⟩, nd, hn, hz, q⟩ := h
  refine ⟨_, (pss_cons (ps_if (pt_not (pt_val (pe_callB call_isi (by rfl) T.m_isinstance (by decide +kernel) (pa_cons (pv 0) (pa_cons (pe_bltn (v := .ty "list") (by rfl) T.m_list (by decide +kernel) rfl) pa_nil))))) (pss_one (ps_ret pe_bl)) pss_nil)
  (pss_cons (ps_if (pt_not (pt_val (pe_callB (cr_all rfl) (by rfl) T.m_all (by decide +kernel) (pa_cons (pe_lc (own := [("item", 1)]) rfl sc_are_name_pairs.nd  (pi_list (pv 0)) (blkOk_by (own := [("item", 1)]) (N := ["value", "item"]) (sc := defScope s_are_name_pairs) (by decide +kernel)) (fun _ _ _ _ _ => (pg_name (i := 1) sc_are_name_pairs.nd rfl (.inl rfl))) (fun _ _ _ _ _ => pts_nil) (fun _ _ _ _ _ => (by exact (pe_K (t := fun K => tAndV (tCB (rIsi K) (tCons (tVar 1) (tCons (tC (.ty "tuple")) tNil))) (tOp rEq (tCB (rLenK K) (tCons (tVar 1) tNil)) (tC (.int 2)))) (K := K) rfl (by exact (pe_and (pe_callB call_isi (by rfl) T.m_isinstance (by decide +kernel) (pa_cons (pv 1) (pa_cons (pe_bltn (v := .ty "tuple") (by rfl) T.m_tuple (by decide +kernel) rfl) pa_nil))) (pe_one (pe_cmpR op_eq (pe_callB call_len_seq (by rfl) T.m_len PySem.boot_len (pa_cons (pv 1) pa_nil)) pe_int (nomark _))))))))) pa_nil)))) (pss_one (ps_ret pe_bl)) pss_nil)
  (pss_one (ps_ret (pe_call G_are_names (hr.mono (by omega)) rfl T.m_are_names T.F_are_names.kp T.b_are_names .nil pass0 (pa_cons (pe_lc (own := [("item", 1)]) rfl sc_are_name_pairs.nd  (pi_list (pv 0)) (blkOk_by (own := [("item", 1)]) (N := ["value", "item"]) (sc := defScope s_are_name_pairs) (by decide +kernel)) (fun _ _ _ _ _ => (pg_name (i := 1) sc_are_name_pairs.nd rfl (.inl rfl))) (fun _ _ _ _ _ => pts_nil) (fun _ _ _ _ _ => (by exact (pe_K (t := fun K => tOp (rIxT K) (tVar 1) (tC (.int 0))) (K := K) rfl (by exact (pe_ix ix_tup (pv 1) pe_int (fun _ _ => rfl))))))) pa_nil)))))), ?_⟩
  -- a list
  refine un_seq <| un_ifS ?_
  refine ⟨_, rfl, _, _, _, _, _, rfl, .ty "list", ty_list (K := K) (SqL.of hl), kit_self_ty, _, rfl, iteF (nxt ?_)⟩
  dsimp only
  refine un_seq <| un_ifS ?_
  have hall : Ev (tCB (rAll K) (tCons (tLc (iList K (tVar 0)) (gName 1) tYes (tAndV (tCB (rIsi K) (tCons (tVar 1) (tCons (tC (V.ty "tuple")) tNil))) (tOp rEq (tCB (rLenK K) (tCons (tVar 1) tNil)) (tC (V.int 2)))) [1]) tNil)) [some (.ref l), none] H (.bl ((L.map fun _ => true).all id)) := by
    refine ev_allN ?_
    rw [List.map_map]
    refine el_lcM (xs := L) (g := fun r => V.ref r.1) (Evl.ev_var rfl) (SqL.of hl) (by omega) (fun x => rfl) fun r H1 e hm => ?_
    intro H2 e2 Q2 q2
    have ht := (e.trans e2) _ _ (hL r hm)
    refine ⟨_, rfl, _, _, _, _, _, rfl, .ty "tuple", .base (.tup ht), kit_self_ty, _, rfl, iteT ⟨_, rfl, _, _, rfl, .inr (Evl.st_of ht), rfl, q2 _ (Ex.refl _)⟩⟩
  refine hall H (Ex.refl _) _ fun H1 e1 => ⟨_, rfl, ?_⟩
  rw [all_true]
  refine iteF (nxt ?_)
  dsimp only
  have hl1 := e1 _ _ hl
  have lnames : EvL (tLc (iList K (tVar 0)) (gName 1) tYes (tOp (rIxT K) (tVar 1) (tC (.int 0))) [1]) [some (.ref l), none] H1 ((L.map fun r => r.2.1).map V.str) := by
    rw [List.map_map]
    refine el_lcM (xs := L) (g := fun r => V.ref r.1) (Evl.ev_var rfl) (SqL.of hl1) (by omega) (fun x => rfl) fun r H2 e hm => ?_
    exact fun H3 e3 Q3 q3 => ⟨_, rfl, _, _, _, _, rfl, rfl, Evl.st_of ((e1.trans (e.trans e3)) _ _ (hL r hm)), atI_nat (j := 0) rfl, q3 _ (Ex.refl _)⟩
  refine un_ret <| un_call1 <| lnames H1 (Ex.refl _) _ fun z H2 nz e2 hz => ⟨z, _, rfl, SqL.of hz, ty_list (K := K) (SqL.of hz), by rw [List.length_map]; omega, fun x hx => ?_, fun H3 s3 => ?_⟩
  · obtain ⟨r, hr, rfl⟩ := List.mem_map.mp hx
    have := (name_letters (hn r hr)).2.1
    omega
  · have e : ((L.map fun r => r.2.1).all nameOk && decide (L.map fun r => r.2.1).Nodup) = true := by
      rw [decide_eq_true nd, Bool.and_true]
      exact List.all_eq_true.mpr fun x hx => by
        obtain ⟨r, hr, rfl⟩ := List.mem_map.mp hx
        exact hn r hr
    rw [e]
    exact q H3 ((e1.trans e2).trans s3)
end
end Rk
set_option Elab.async false
set_option linter.all false
set_option maxRecDepth 100000
set_option maxHeartbeats 4000000
namespace Rk
open PySem PySem.Spec PyProof.Rows L2 RkO
open Evl (Ev EvT EvA EvL EvU EvO Ex RC RCL SpV SpL)
def kvsOf (L : List (Addr × Str × Int)) : List (Key × V) := L.map fun r => (.inr r.2.1, .int r.2.2)
theorem paired_of {H : Hp} {K : PySem.W.Frag} : ∀ {L : List (Addr × Str × Int)}, (∀ r ∈ L, SqT K H r.1 [.str r.2.1, .int r.2.2]) → Paired (fun p kv => SqT K H p [kV kv.1, kv.2]) (L.map fun r => r.1) (kvsOf L)
  | [], _ => .nil
  | r :: L, h => .cons (h r List.mem_cons_self) (paired_of fun x hx => h x (List.mem_cons_of_mem _ hx))
theorem merge_out (k : Key) : ∀ (more kvs : List (Key × V)), (∀ m ∈ more, m.1 ≠ k) → valV (mergeK kvs more) k = valV kvs k
  | [], _, _ => rfl
  | m :: more, kvs, h => by
    show valV (mergeK (putK kvs m.1 m.2) more) k = _
    rw [merge_out k more _ fun x hx => h x (List.mem_cons_of_mem _ hx), valV_put, if_neg fun z => h m List.mem_cons_self z.symm]
theorem merge_in : ∀ (L : List (Addr × Str × Int)) (kvs : List (Key × V)), (L.map fun r => r.2.1).Nodup → ∀ r ∈ L, valV (mergeK kvs (kvsOf L)) (.inr r.2.1) = some (.int r.2.2)
  | [], _, _, r, hr => absurd hr List.not_mem_nil
  | m :: L, kvs, nd, r, hr => by
    obtain ⟨n1, n2⟩ := List.nodup_cons.mp (show (m.2.1 :: L.map fun r => r.2.1).Nodup from nd)
    show valV (mergeK (putK kvs (.inr m.2.1) (.int m.2.2)) (kvsOf L)) _ = _
    rcases List.mem_cons.mp hr with rfl | hr
    · rw [merge_out _ _ _ fun x hx => ?_, valV_put, if_pos rfl]
      obtain ⟨y, hy, rfl⟩ := List.mem_map.mp hx
      intro z
      exact n1 (List.mem_map.mpr ⟨y, hy, Sum.inr.inj z⟩)
    · exact merge_in L _ n2 r hr
section
variable {K : PySem.W.Frag} {σ : L2.St} {H : Hp} {te : TE}
/-- any target: sx, what the frame is with an item taken -/
theorem el_lcG {α : Type} {a : Addr} {xs : List α} {g f : α → V} {tl : TE} {G : TG} {sx : α → L2.St} {vs : List Nat} (h : Ev tl σ H (.ref a)) (hx : SqL K H a (xs.map g)) (hz : xs.length ≤ 40000)
    (hg : ∀ (x : α) H1 (Q : L2.St → Hp → Prop), Ex H H1 → x ∈ xs → Q (sx x) H1 → G (g x) (wipe σ vs) H1 Q) (hw : ∀ x, wipe (sx x) vs = wipe σ vs) (he : ∀ (x : α) H1, Ex H H1 → x ∈ xs → Ev te (sx x) H1 (f x)) :
    EvL (tLc (iList K tl) G tYes te vs) σ H (xs.map f) := fun H0 e Q q => h H0 e _ fun H1 e1 => ⟨a, rfl, ⟨_, Evl.ex_l (e.trans e1) hx⟩, fun Dl hD =>
  lc_list (xs := xs.map g) (fun i H' => H1 Dl = none ∧ Ex H1 H' ∧ H' Dl = some (.lst ((xs.take i).map f))) ⟨hD, Ex.new hD, upd_same⟩ (fun i H' _ p => Evl.ex_l ((e.trans e1).trans p.2.1) hx) (fun i y H' hi p => by
    obtain ⟨p1, p2, p3⟩ := p
    rw [List.getElem?_map] at hi
    obtain ⟨x, hxi, rfl⟩ := Option.map_eq_some_iff.mp hi
    refine hg x H' _ ((e.trans e1).trans p2) (List.mem_of_getElem? hxi) ⟨hw x, ?_⟩
    refine he x H1 (e.trans e1) (List.mem_of_getElem? hxi) H' p2 _ fun H4 e4 => ⟨_, e4 _ _ p3, ?_, p1, Ex.mut (p2.trans e4) p1, ?_⟩
    · rw [List.length_map, List.length_take]
      exact Evl.sz_lt (by omega)
    · rw [upd_same, List.take_add_one, hxi, List.map_append]
      rfl) (fun H' p => q Dl H' (Evl.fresh_back e1 p.1) (e1.trans p.2.1) (by
    have := p.2.2
    rwa [List.length_map, List.take_length] at this))⟩
end
section
variable {P : Program} {w : World} {K : PySem.W.Frag} {mg : Str → Option Value} {base : Heap}
def spLotInit (cT : Addr) : Sp := fun vs H Q _ => ∃ (p dx l : Addr) (L : List (Addr × Str × Int)), vs = [.ref p, .ref l] ∧ H p = some (.ins cT dx []) ∧ PairsAt H l L ∧ (L.map fun r => r.2.1).Nodup ∧ (∀ r ∈ L, nameOk r.2.1 = true) ∧ L.length ≤ 60 ∧
  ∀ d H', H d = none → (∀ b o, b ≠ p → H b = some o → H' b = some o) → H' p = some (.ins cT dx (putF "_worths" (.ref d) [])) → H' d = some (.dK (mergeK [] (kvsOf L))) → Q .non H'
theorem ok_Lot_init (T : Txt K mg) : FnOk P w K mg base CX0 4 T.f_Lot_init T.d_Lot_init ["self", "pairs"] (spLotInit T.a_Lot) := by
  have G_are_name_pairs := ok_are_name_pairs (P := P) (w := w) (base := base) T
  have G_is_whole := ok_is_whole (P := P) (w := w) (base := base) T
  refine T.F_Lot_init.ok sc_Lot_init (fun vs H Q E h => ?_) (fun cdv A outer s H vs Q E hr h => ?_)
  · obtain ⟨_, _, _, _, rfl, _⟩ := h
    rfl
  obtain ⟨p, dx, l, L, rfl, hp, hL, nd, hn, hz, q⟩ := h
  refine ⟨_, PSs.nox (pss_cons (ps_set (i := 2) sc_Lot_init.nd rfl (Or.inl rfl) (pe_ifExp (pt_cmpR op_isN (pv 1) pe_non (nomark _)) (pe_lst pa_nil) (pv 1)))
  (pss_cons (ps_if (PW.pt (pw_or (pt_not (pt_val (pe_call G_are_name_pairs (hr.mono (by omega)) rfl T.m_are_name_pairs T.F_are_name_pairs.kp T.b_are_name_pairs .nil pass0 (pa_cons (pv 2) pa_nil)))) (pw_or1 (pt_not (pt_val (pe_callB (cr_all rfl) (by rfl) T.m_all (by decide +kernel) (pa_cons (pe_lc (own := [("name", 3), ("worth", 4)]) rfl sc_Lot_init.nd  (pi_list (pv 2)) (blkOk_by (own := [("name", 3), ("worth", 4)]) (N := ["self", "pairs", "given", "name", "worth"]) (sc := defScope s_Lot_init) (by decide +kernel)) (fun _ _ _ _ _ => (by exact (pg_K (K := K) (g := fun K => gTup K 2 (gCons (gName 3) (gCons (gName 4) gNil))) rfl (by exact (pg_tup rfl (pgs_cons (pg_name (i := 3) sc_Lot_init.nd rfl (.inl rfl)) (pgs_cons (pg_name (i := 4) sc_Lot_init.nd rfl (.inl rfl)) pgs_nil))))))) (fun _ _ _ _ _ => pts_nil) (fun _ _ _ _ _ => (pe_call G_is_whole (hr.mono (by omega)) rfl T.m_is_whole T.F_is_whole.kp T.b_is_whole .nil pass0 (pa_cons (pv 4) pa_nil)))) pa_nil))))))) (pss_one ps_never) pss_nil)
  (pss_one (ps_fld (pv 0) (pe_callTy (call_dictP rfl) (by rfl) T.m_dict (by decide +kernel) (pa_cons (pv 2) pa_nil)) rfl)))), ?_⟩
  refine sq_asg ⟨_, rfl, rfl, _, rfl, ?_⟩
  rw [decide_eq_false (by intro z; cases z)]
  refine iteF ⟨_, rfl, ?_⟩
  refine un_seq <| un_ifS <| un_or ?_
  refine ⟨_, rfl, l, L, rfl, hL, nd, hn, hz, fun H1 e1 => ⟨_, rfl, iteF ?_⟩⟩
  have hl1 := e1 _ _ hL.1
  have hall : Ev (tCB (rAll K) (tCons (tLc (iList K (tVar 2)) (gTup K 2 (gCons (gName 3) (gCons (gName 4) gNil))) tYes (tCall (spIsWhole K) [] E0 (tCons (tVar 4) tNil)) [3, 4]) tNil)) [some (.ref p), some (.ref l), some (.ref l), none, none] H1 (.bl ((L.map fun _ => true).all id)) := by
    refine ev_allN ?_
    rw [List.map_map]
    refine el_lcG (xs := L) (g := fun r => V.ref r.1) (sx := fun r => [some (.ref p), some (.ref l), some (.ref l), some (.str r.2.1), some (.int r.2.2)]) (Evl.ev_var rfl) (SqL.of hl1) (by omega) (fun r H2 Q2 e hm q2 => ?_) (fun x => rfl) fun r H2 e hm => ?_
    · exact ⟨_, _, rfl, Evl.st_of ((e1.trans e) _ _ (hL.2 r hm)), rfl, _, _, rfl, _, _, rfl, rfl, q2⟩
    · exact Evl.ev_call (Evl.ea_cons (Evl.ev_var rfl) Evl.ea_nil) fun H2 e2 Q q E => ⟨_, _, true, false, rfl, .base (.int r.2.2), (show PySem.W.kitOne _ (.type "int") (.type "int") = some true by rfl), fun _ => kit_ty (by decide +kernel), q H2 (Ex.refl H2)⟩
  refine hall H1 (Ex.refl _) _ fun H2 e2 => ⟨_, rfl, ?_⟩
  rw [all_true]
  refine iteF (nxt ?_)
  dsimp only
  have e12 := Same.trans e1 e2
  refine ⟨_, rfl, l, L.map (fun r => r.1), kvsOf L, rfl, ?_, ?_, fun d nd2 => ?_⟩
  · rw [List.map_map]
    exact SqL.of (e12 _ _ hL.1)
  · exact paired_of fun r hr => Evl.st_of (e12 _ _ (hL.2 r hr))
  · have np : p ≠ d := ne_of_none (e12 _ _ hp) nd2
    refine ⟨_, rfl, p, T.a_Lot, dx, [], rfl, ?_, T.c_Lot, T.n_Lot_worths, (by show 0 < 1000; decide), q d _ (Evl.fresh_back e12 nd2) (fun b o hb z => ?_) upd_same ?_⟩
    · rw [upd_ne np]
      exact e12 _ _ hp
    · rw [upd_ne hb, upd_ne (ne_of_none (e12 _ _ z) nd2)]
      exact e12 _ _ z
    · rw [upd_ne np.symm]
      exact upd_same
end
end Rk
set_option Elab.async false
set_option linter.all false
set_option maxRecDepth 100000
set_option maxHeartbeats 4000000
namespace Rk
open PySem PySem.Spec PyProof.Rows L2 RkO
open Evl (Ev EvT EvA EvL EvU EvO Ex RC RCL SpV SpL)
/-- a lot, the worths of the names xs told by wf -/
def LotAt (cT : Addr) (H : Hp) (v : V) (wf : Str → Int) (xs : List Str) : Prop := ∃ (p dx d : Addr) (kvs : List (Key × V)), v = .ref p ∧ H p = some (.ins cT dx (putF "_worths" (.ref d) [])) ∧ H d = some (.dK kvs) ∧ ∀ x ∈ xs, valV kvs (.inr x) = some (.int (wf x))
theorem LotAt.mono {cT : Addr} {H H' : Hp} {v : V} {wf : Str → Int} {xs : List Str} (h : LotAt cT H v wf xs) (e : Same H H') : LotAt cT H' v wf xs := by
  obtain ⟨p, dx, d, kvs, h1, h2, h3, h4⟩ := h
  exact ⟨p, dx, d, kvs, h1, e _ _ h2, e _ _ h3, h4⟩
theorem wo_at {d : Addr} : (putF "_worths" (.ref d) []).lookup ("_worths" : Str) = some (.ref d) := by
  rw [lookup_putF, if_pos rfl]
theorem wo_no {d : Addr} {m : Str} (h : ¬ m = "_worths") : (putF "_worths" (.ref d) ([] : List (Str × V))).lookup m = none := by
  rw [lookup_putF, if_neg h]
  rfl
section
variable {P : Program} {w : World} {K : PySem.W.Frag} {mg : Str → Option Value} {base : Heap}
def spLotGet (cT : Addr) : Sp := fun vs H Q _ => ∃ (v : V) (x : Str) (wf : Str → Int) (xs : List Str), vs = [v, .str x] ∧ LotAt cT H v wf xs ∧ x ∈ xs ∧ nameOk x = true ∧ ∀ H', Same H H' → Q (.int (wf x)) H'
theorem ok_Lot_getitem (T : Txt K mg) : FnOk P w K mg base CX0 2 T.f_Lot_getitem T.d_Lot_getitem ["self", "name"] (spLotGet T.a_Lot) := by
  have G_is_name := ok_is_name (P := P) (w := w) (base := base) T
  refine T.F_Lot_getitem.ok sc_Lot_getitem (fun vs H Q E h => ?_) (fun cdv A outer s H vs Q E hr h => ?_)
  · obtain ⟨_, _, _, _, rfl, _⟩ := h
    rfl
  obtain ⟨v, x, wf, xs, rfl, ⟨p, dx, d, kvs, rfl, h1, h2, h3⟩, hx, hn, q⟩ := h
  refine ⟨_, (pss_cons (ps_if (pt_not (pt_val (pe_call G_is_name (hr.mono (by omega)) rfl T.m_is_name T.F_is_name.kp T.b_is_name .nil pass0 (pa_cons (pv 1) pa_nil)))) (pss_one ps_never) pss_nil)
  (pss_cons (ps_if (pt_cmp (pc_dnotin (hu_of hr) (pv 1) (pe_fld (pv 0) rfl))) (pss_one ps_never) pss_nil)
  (pss_one (ps_ret (pe_dget (hu_of hr) (pe_fld (pv 0) rfl) (pv 1) (fun _ _ => rfl)))))), ?_⟩
  have hlen := (name_letters hn).2.1
  have hget : ∀ {H1 : Hp}, Same H H1 → DGet H1 d (.str x) (some (.int (wf x))) := fun e => by
    have := DGet.k (k := (Sum.inr x : Key)) (e _ _ h2)
    rwa [h3 x hx] at this
  refine un_seq <| un_ifS ?_
  refine ⟨_, rfl, _, rfl, .inl ⟨x, rfl, by omega, fun H1 e1 => ⟨_, rfl, ifNot hn (nxt ?_)⟩⟩⟩
  dsimp only
  refine un_seq <| un_ifS ⟨_, rfl, _, rfl, p, T.a_Lot, dx, _, _, rfl, e1 _ _ h1, T.c_Lot, T.n_Lot_worths, wo_at, d, _, rfl, hget e1, _, rfl, iteF (nxt ?_)⟩
  exact ⟨_, rfl, p, T.a_Lot, dx, _, _, rfl, e1 _ _ h1, T.c_Lot, T.n_Lot_worths, wo_at, _, rfl, d, _, rfl, hget e1, q H1 e1⟩
def spLotHas (cT : Addr) : Sp := fun vs H Q _ => ∃ (v : V) (x : Str) (wf : Str → Int) (xs : List Str), vs = [v, .str x] ∧ LotAt cT H v wf xs ∧ x ∈ xs ∧ nameOk x = true ∧ ∀ H', Same H H' → Q (.bl true) H'
theorem ok_Lot_contains (T : Txt K mg) : FnOk P w K mg base CX0 2 T.f_Lot_contains T.d_Lot_contains ["self", "name"] (spLotHas T.a_Lot) := by
  have G_is_name := ok_is_name (P := P) (w := w) (base := base) T
  refine T.F_Lot_contains.ok sc_Lot_contains (fun vs H Q E h => ?_) (fun cdv A outer s H vs Q E hr h => ?_)
  · obtain ⟨_, _, _, _, rfl, _⟩ := h
    rfl
  obtain ⟨v, x, wf, xs, rfl, ⟨p, dx, d, kvs, rfl, h1, h2, h3⟩, hx, hn, q⟩ := h
  refine ⟨_, (pss_one (ps_ret (pe_and (pe_call G_is_name (hr.mono (by omega)) rfl T.m_is_name T.F_is_name.kp T.b_is_name .nil pass0 (pa_cons (pv 1) pa_nil)) (pe_one (pe_cmp (pc_din (hu_of hr) (pv 1) (pe_fld (pv 0) rfl))))))), ?_⟩
  have hlen := (name_letters hn).2.1
  have hget : ∀ {H1 : Hp}, Same H H1 → DGet H1 d (.str x) (some (.int (wf x))) := fun e => by
    have := DGet.k (k := (Sum.inr x : Key)) (e _ _ h2)
    rwa [h3 x hx] at this
  refine un_ret ⟨_, rfl, _, rfl, .inl ⟨x, rfl, by omega, fun H1 e1 => ⟨_, rfl, ?_⟩⟩⟩
  rw [hn]
  exact iteT ⟨_, rfl, _, rfl, p, T.a_Lot, dx, _, _, rfl, e1 _ _ h1, T.c_Lot, T.n_Lot_worths, wo_at, d, _, rfl, hget e1, q H1 e1⟩
end
end Rk
set_option Elab.async false
set_option linter.all false
set_option maxRecDepth 100000
set_option maxHeartbeats 4000000
namespace Rk
open PySem PySem.Spec PyProof.Rows L2 RkO
open Evl (Ev EvT EvA EvL EvU EvO Ex RC RCL SpV SpL)
section
variable {P : Program} {w : World} {K : PySem.W.Frag} {mg : Str → Option Value} {base : Heap}
def spIsLot (cT : Addr) : Sp := fun vs H Q _ => ∃ (v : V) (wf : Str → Int) (xs : List Str), vs = [v] ∧ LotAt cT H v wf xs ∧ Q (.bl true) H
theorem ok_is_lot (T : Txt K mg) : FnOk P w K mg base CX0 1 T.f_is_lot T.d_is_lot ["value"] (spIsLot T.a_Lot) := by
  refine T.F_is_lot.ok sc_is_lot (fun vs H Q E h => ?_) (fun cdv A outer s H vs Q E hr h => ?_)
  · obtain ⟨_, _, _, rfl, _⟩ := h
    rfl
  obtain ⟨v, wf, xs, rfl, ⟨p, dx, d, kvs, rfl, h1, h2, h3⟩, q⟩ := h
  refine ⟨_, (pss_one (ps_ret (pe_callB call_isi (by rfl) T.m_isinstance (by decide +kernel) (pa_cons (pv 0) (pa_cons (pe_glob (v := .ref T.a_Lot) rfl T.m_Lot rfl) pa_nil))))), ?_⟩
  exact ⟨_, rfl, _, _, _, _, _, rfl, .own _, .base (.ins h1 T.c_Lot T.ca_Lot T.gc T.tc T.mo_Lot), kit_self, q⟩
def spCheckKinds (cL cG cT : Addr) : Sp := fun vs H Q _ => ∃ (v u : V) (t : Tr) (wf : Str → Int) (xs : List Str), vs = [v, u] ∧ TAt cL cG H v t ∧ LotAt cT H u wf xs ∧ ∀ H', Same H H' → Q .non H'
theorem ok_check_kinds (T : Txt K mg) : FnOk P w K mg base CX0 2 T.f_check_kinds T.d_check_kinds ["tree", "lot"] (spCheckKinds T.a_Leaf T.a_Group T.a_Lot) := by
  have G_is_tree := ok_is_tree (P := P) (w := w) (base := base) T
  have G_is_lot := ok_is_lot (P := P) (w := w) (base := base) T
  refine T.F_check_kinds.ok sc_check_kinds (fun vs H Q E h => ?_) (fun cdv A outer s H vs Q E hr h => ?_)
  · obtain ⟨_, _, _, _, _, rfl, _⟩ := h
    rfl
  obtain ⟨v, u, t, wf, xs, rfl, ht, hu, q⟩ := h
  refine ⟨_, (pss_cons (ps_if (pt_not (pt_val (pe_call G_is_tree (hr.mono (by omega)) rfl T.m_is_tree T.F_is_tree.kp T.b_is_tree .nil pass0 (pa_cons (pv 0) pa_nil)))) (pss_one ps_never) pss_nil)
  (pss_one (ps_if (pt_not (pt_val (pe_call G_is_lot (hr.mono (by omega)) rfl T.m_is_lot T.F_is_lot.kp T.b_is_lot .nil pass0 (pa_cons (pv 1) pa_nil)))) (pss_one ps_never) pss_nil))), ?_⟩
  refine un_seq <| un_ifS ⟨_, rfl, v, t, rfl, ht, fun H1 e1 => ⟨_, rfl, iteF (nxt ?_)⟩⟩
  exact ⟨_, rfl, u, wf, xs, rfl, hu.mono e1, _, rfl, iteF (nxt (q H1 e1))⟩
def spCheckFull (cL cG cT : Addr) : Sp := fun vs H Q _ => ∃ (v u : V) (t : Tr) (wf : Str → Int) (xs : List Str), vs = [v, u] ∧ TAt cL cG H v t ∧ LotAt cT H u wf xs ∧ (∀ x ∈ t.names, x ∈ xs ∧ nameOk x = true) ∧ t.names.length ≤ 60 ∧ ∀ H', Same H H' → Q .non H'
theorem ok_check_full (T : Txt K mg) : FnOk P w K mg base CX0 4 T.f_check_full T.d_check_full ["tree", "lot"] (spCheckFull T.a_Leaf T.a_Group T.a_Lot) := by
  have GH := ok_Lot_contains (P := P) (w := w) (base := base) T
  refine T.F_check_full.ok sc_check_full (fun vs H Q E h => ?_) (fun cdv A outer s H vs Q E hr h => ?_)
  · obtain ⟨_, _, _, _, _, rfl, _⟩ := h
    rfl
  obtain ⟨v, u, t, wf, xs, rfl, ht, hu, hx, hz, q⟩ := h
  refine ⟨_, (pss_one (ps_for PassesOwn.never rfl (pi_list (pe_names (T := T) rfl (pv 0) (ok_Leaf_names T) (ok_Group_names T) (hr.mono (by omega)))) (pg_name (i := 2) sc_check_full.nd rfl (.inl rfl))
    (pss_one (ps_if (pt_cmpR (op_notInO T.M_Lot_contains GH (hr.mono (by omega)) T.b_Lot_contains pass0) (pv 2) (pv 1) (by rfl)) (pss_one ps_never) pss_nil)))), ?_⟩
  refine Evl.s_forNL (rd_names (Evl.ev_var rfl) ht) (fun p i σ' H' => H' p = some (.lst (t.names.map V.str)) ∧ Same H H' ∧ ∃ nm, σ' = [some v, some u, nm]) (fun p H1 np e1 h1 => ⟨h1, e1, _, rfl⟩) (fun p i σ' H' _ h => SqL.of h.1) (fun p i y σ' H' hy h => ?_) (fun p σ' H' h => q H' h.2.1)
  obtain ⟨hp, e1, nm, rfl⟩ := h
  rw [List.getElem?_map] at hy
  obtain ⟨x, hxi, rfl⟩ := Option.map_eq_some_iff.mp hy
  have hm := hx x (List.mem_of_getElem? hxi)
  obtain ⟨a, dx, d, kvs, rfl, h1, h2, h3⟩ := hu.mono e1
  refine un_ifS <| un_test ⟨_, rfl, _, rfl, a, dx, _, rfl, h1, _, x, wf, xs, rfl, ⟨a, dx, d, kvs, rfl, h1, h2, h3⟩, hm.1, hm.2, fun H2 e2 => ⟨_, rfl, _, rfl, iteF (nxt ⟨e2 _ _ hp, e1.trans e2, _, rfl⟩)⟩⟩
end
end Rk
set_option Elab.async false
set_option linter.all false
set_option maxRecDepth 100000
set_option maxHeartbeats 4000000
namespace Rk
open PySem PySem.Spec PyProof.Rows L2 RkO
open Evl (Ev EvT EvA EvL EvU EvO Ex RC RCL SpV SpL)
section
variable {P : Program} {w : World} {K : PySem.W.Frag} {mg : Str → Option Value} {base : Heap}
def spPName (cL cG : Addr) : Sp := fun vs H Q _ => ∃ (v : V) (x : Str), vs = [v] ∧ TAt cL cG H v (.leaf x) ∧ Q (.str x) H
theorem ok_Leaf_name (T : Txt K mg) : FnOk P w K mg base CX0 1 T.f_Leaf_name T.d_Leaf_name ["self"] (spPName T.a_Leaf T.a_Group) := by
  refine T.F_Leaf_name.ok sc_Leaf_name (fun vs H Q E h => ?_) (fun cdv A outer s H vs Q E hr h => ?_)
  · obtain ⟨_, _, rfl, _⟩ := h
    rfl
  obtain ⟨v, x, rfl, ht, q⟩ := h
  refine ⟨_, (pss_one (ps_ret (pe_fld (pv 0) rfl))), ?_⟩
  cases ht with
  | @leaf p dx x h => exact ⟨_, rfl, p, _, dx, _, _, rfl, h, T.c_Leaf, T.n_Leaf_name, lf_name, q⟩
def spPParts (cL cG : Addr) : Sp := fun vs H Q _ => ∃ (v : V) (rs : List Int) (ps : List Tr), vs = [v] ∧ TAt cL cG H v (.grp rs ps) ∧ ps.length ≤ 1000 ∧ ∀ us z H', H z = none → Same H H' → H' z = some (.lst us) → FAt cL cG H us ps → Q (.ref z) H'
theorem ok_Group_parts (T : Txt K mg) : FnOk P w K mg base CX0 1 T.f_Group_parts T.d_Group_parts ["self"] (spPParts T.a_Leaf T.a_Group) := by
  refine T.F_Group_parts.ok sc_Group_parts (fun vs H Q E h => ?_) (fun cdv A outer s H vs Q E hr h => ?_)
  · obtain ⟨_, _, _, rfl, _⟩ := h
    rfl
  obtain ⟨v, rs, ps, rfl, ht, hz, q⟩ := h
  refine ⟨_, (pss_one (ps_ret (pe_callTy call_list_of (by rfl) T.m_list (by decide +kernel) (pa_cons (pe_fld (pv 0) rfl) pa_nil)))), ?_⟩
  cases ht with
  | @grp p dx lr lp ln rs ps us h1 h2 h3 h4 hl hf => exact ⟨_, rfl, p, _, dx, _, _, rfl, h1, T.c_Group, T.n_Group_parts, gf_parts, _, _, rfl, .inl (SqL.of h3), fun z nz => q us z _ nz (same_new nz _) upd_same ⟨hl, hf⟩⟩
def spPRanks (cL cG : Addr) : Sp := fun vs H Q _ => ∃ (v : V) (rs : List Int) (ps : List Tr), vs = [v] ∧ TAt cL cG H v (.grp rs ps) ∧ ∀ z H', H z = none → Same H H' → H' z = some (.lst (rs.map V.int)) → Q (.ref z) H'
theorem ok_Group_ranks (T : Txt K mg) : FnOk P w K mg base CX0 1 T.f_Group_ranks T.d_Group_ranks ["self"] (spPRanks T.a_Leaf T.a_Group) := by
  refine T.F_Group_ranks.ok sc_Group_ranks (fun vs H Q E h => ?_) (fun cdv A outer s H vs Q E hr h => ?_)
  · obtain ⟨_, _, _, rfl, _⟩ := h
    rfl
  obtain ⟨v, rs, ps, rfl, ht, q⟩ := h
  refine ⟨_, (pss_one (ps_ret (pe_callTy call_list_of (by rfl) T.m_list (by decide +kernel) (pa_cons (pe_fld (pv 0) rfl) pa_nil)))), ?_⟩
  cases ht with
  | @grp p dx lr lp ln rs ps us h1 h2 h3 h4 hl hf => exact ⟨_, rfl, p, _, dx, _, _, rfl, h1, T.c_Group, T.n_Group_ranks, gf_ranks, _, _, rfl, .inl (SqL.of h2), fun z nz => q z _ nz (same_new nz _) upd_same⟩
end
end Rk
set_option Elab.async false
set_option linter.all false
set_option maxRecDepth 100000
set_option maxHeartbeats 4000000
/-! what an expression leaves, said by a relation of a value to a heap; some lists may be hidden meanwhile -/
namespace Rx
open PySem PySem.Spec PyProof.Rows L2 RkO
open Evl (Ev EvT EvA EvL EvU EvO Ex)
abbrev Rel := Hp → V → Prop
def MonV (R : Rel) : Prop := ∀ (H H' : Hp) (v : V), R H v → Ex H H' → R H' v
def RV (u : V) : Rel := fun _ v => v = u
theorem mon_RV {u : V} : MonV (RV u) := fun _ _ _ h _ => h
def AllR : List Rel → Hp → List V → Prop
  | [], _, xs => xs = []
  | R :: Rs, H, xs => ∃ x r, xs = x :: r ∧ R H x ∧ AllR Rs H r
def MonA (Rs : List Rel) : Prop := ∀ R ∈ Rs, MonV R
theorem AllR.mono : ∀ {Rs : List Rel} {H H' : Hp} {xs : List V}, MonA Rs → AllR Rs H xs → Ex H H' → AllR Rs H' xs
  | [], _, _, _, _, h, _ => h
  | R :: Rs, H, H', xs, m, h, e => by
    obtain ⟨x, r, rfl, h1, h2⟩ := h
    exact ⟨x, r, rfl, m R (List.mem_cons_self ..) _ _ _ h1 e, AllR.mono (fun S hS => m S (List.mem_cons_of_mem _ hS)) h2 e⟩
theorem AllR.len : ∀ {Rs : List Rel} {H : Hp} {xs : List V}, AllR Rs H xs → xs.length = Rs.length
  | [], _, _, h => by rw [show _ = [] from h]; rfl
  | R :: Rs, H, xs, h => by
    obtain ⟨x, r, rfl, _, h2⟩ := h
    rw [List.length_cons, List.length_cons, AllR.len h2]
theorem AllR.get : ∀ {Rs : List Rel} {H : Hp} {xs : List V}, AllR Rs H xs → ∀ {i : Nat} {R : Rel}, Rs[i]? = some R → ∃ x, xs[i]? = some x ∧ R H x
  | [], _, _, h, i, R, e => by simp at e
  | S :: Rs, H, xs, h, 0, R, e => by
    obtain ⟨x, r, rfl, h1, h2⟩ := h
    cases e
    exact ⟨x, rfl, h1⟩
  | S :: Rs, H, xs, h, i + 1, R, e => by
    obtain ⟨x, r, rfl, h1, h2⟩ := h
    exact AllR.get h2 (i := i) e
theorem AllR.app : ∀ {Rs Ss : List Rel} {H : Hp} {xs ys : List V}, AllR Rs H xs → AllR Ss H ys → AllR (Rs ++ Ss) H (xs ++ ys)
  | [], Ss, H, xs, ys, h, g => by
    rw [show xs = [] from h]
    exact g
  | R :: Rs, Ss, H, xs, ys, h, g => by
    obtain ⟨x, r, rfl, h1, h2⟩ := h
    exact ⟨x, r ++ ys, rfl, h1, AllR.app h2 g⟩
theorem AllR.one {R : Rel} {H : Hp} {x : V} (h : R H x) : AllR [R] H [x] := ⟨x, [], rfl, h, rfl⟩
theorem MonA.nil : MonA [] := fun _ h => by simp at h
theorem MonA.cons {R : Rel} {Rs : List Rel} (h : MonV R) (g : MonA Rs) : MonA (R :: Rs) := fun S hS => by
  rcases List.mem_cons.mp hS with rfl | hS
  · exact h
  · exact g S hS
theorem MonA.app {Rs Ss : List Rel} (h : MonA Rs) (g : MonA Ss) : MonA (Rs ++ Ss) := fun S hS => by
  rcases List.mem_append.mp hS with hS | hS
  · exact h S hS
  · exact g S hS
theorem MonA.map {α : Type} {f : α → Rel} {as : List α} (h : ∀ a ∈ as, MonV (f a)) : MonA (as.map f) := fun S hS => by
  obtain ⟨a, ha, rfl⟩ := List.mem_map.mp hS
  exact h a ha
/-- a list, a tuple of such -/
def RL (Rs : List Rel) : Rel := fun H v => ∃ a xs, v = .ref a ∧ H a = some (.lst xs) ∧ AllR Rs H xs
def RT (Rs : List Rel) : Rel := fun H v => ∃ a xs, v = .ref a ∧ H a = some (.tup xs) ∧ AllR Rs H xs
theorem mon_RL {Rs : List Rel} (m : MonA Rs) : MonV (RL Rs) := fun _ _ _ ⟨a, xs, e, h, g⟩ s => ⟨a, xs, e, s _ _ h, g.mono m s⟩
theorem mon_RT {Rs : List Rel} (m : MonA Rs) : MonV (RT Rs) := fun _ _ _ ⟨a, xs, e, h, g⟩ s => ⟨a, xs, e, s _ _ h, g.mono m s⟩
theorem RL.of_vals {vs : List V} {H : Hp} {a : Addr} (h : H a = some (.lst vs)) : RL (vs.map RV) H (.ref a) := by
  refine ⟨a, vs, rfl, h, ?_⟩
  clear h
  induction vs with
  | nil => rfl
  | cons v vs ih => exact ⟨v, vs, rfl, rfl, ih⟩
theorem AllR.vals {vs : List V} : ∀ {H : Hp} {xs : List V}, AllR (vs.map RV) H xs → xs = vs := by
  induction vs with
  | nil =>
    intro H xs h
    exact h
  | cons v vs ih =>
    intro H xs h
    obtain ⟨x, r, rfl, h1, h2⟩ := h
    rw [show x = v from h1, ih h2]
/-! ### plain data -/
mutual
def dR : PyData → Rel
  | .none => fun _ v => v = .non
  | .bool b => fun _ v => v = .bl b
  | .int i => fun _ v => v = .int i
  | .str s => fun _ v => v = .str s
  | .list ds => fun H v => ∃ a xs, v = .ref a ∧ H a = some (.lst xs) ∧ dRs ds H xs
  | .tuple ds => fun H v => ∃ a xs, v = .ref a ∧ H a = some (.tup xs) ∧ dRs ds H xs
  | .dict _ => fun _ _ => False
def dRs : List PyData → Hp → List V → Prop
  | [] => fun _ xs => xs = []
  | d :: ds => fun H xs => ∃ x r, xs = x :: r ∧ dR d H x ∧ dRs ds H r
end
theorem dRs_all : ∀ (ds : List PyData) (H : Hp) (xs : List V), dRs ds H xs = AllR (ds.map dR) H xs
  | [], _, _ => rfl
  | d :: ds, H, xs => by
    show (∃ x r, xs = x :: r ∧ dR d H x ∧ dRs ds H r) = ∃ x r, xs = x :: r ∧ dR d H x ∧ AllR (ds.map dR) H r
    simp only [dRs_all ds]
theorem dR_list (ds : List PyData) : dR (.list ds) = RL (ds.map dR) := by
  funext H v
  show (∃ a xs, v = .ref a ∧ H a = some (.lst xs) ∧ dRs ds H xs) = _
  simp only [dRs_all]
  rfl
theorem dR_tup (ds : List PyData) : dR (.tuple ds) = RT (ds.map dR) := by
  funext H v
  show (∃ a xs, v = .ref a ∧ H a = some (.tup xs) ∧ dRs ds H xs) = _
  simp only [dRs_all]
  rfl
mutual
theorem mon_dR : ∀ (d : PyData) {H H' : Hp} {v : V}, dR d H v → Ex H H' → dR d H' v
  | .none, _, _, _, h, _ => h
  | .bool b, _, _, _, h, _ => h
  | .int i, _, _, _, h, _ => h
  | .str s, _, _, _, h, _ => h
  | .list ds, _, _, _, h, e => by
    obtain ⟨a, xs, rfl, h1, h2⟩ := h
    exact ⟨a, xs, rfl, e _ _ h1, mon_dRs ds h2 e⟩
  | .tuple ds, _, _, _, h, e => by
    obtain ⟨a, xs, rfl, h1, h2⟩ := h
    exact ⟨a, xs, rfl, e _ _ h1, mon_dRs ds h2 e⟩
  | .dict _, _, _, _, h, _ => h
theorem mon_dRs : ∀ (ds : List PyData) {H H' : Hp} {xs : List V}, dRs ds H xs → Ex H H' → dRs ds H' xs
  | [], _, _, _, h, _ => h
  | d :: ds, _, _, _, h, e => by
    obtain ⟨x, r, rfl, h1, h2⟩ := h
    exact ⟨x, r, rfl, mon_dR d h1 e, mon_dRs ds h2 e⟩
end
theorem monD (d : PyData) : MonV (dR d) := fun _ _ _ h e => mon_dR d h e
mutual
theorem dp_of {K : PySem.W.Frag} : ∀ (d : PyData) {H : Hp} {v : V}, dR d H v → Dp K H v d
  | .none, _, _, h => by rw [show _ = _ from h]; exact .non
  | .bool b, _, _, h => by rw [show _ = _ from h]; exact .bl b
  | .int i, _, _, h => by rw [show _ = _ from h]; exact .int i
  | .str s, _, _, h => by rw [show _ = _ from h]; exact .str s
  | .list ds, _, _, h => by
    obtain ⟨a, xs, rfl, h1, h2⟩ := h
    exact .lst (SqL.of h1) (dps_of ds h2)
  | .tuple ds, _, _, h => by
    obtain ⟨a, xs, rfl, h1, h2⟩ := h
    exact .tup (SqT.of h1) (dps_of ds h2)
  | .dict _, _, _, h => False.elim h
theorem dps_of {K : PySem.W.Frag} : ∀ (ds : List PyData) {H : Hp} {xs : List V}, dRs ds H xs → DpAll K H xs ds
  | [], _, _, h => by rw [show _ = [] from h]; exact .nil
  | d :: ds, _, _, h => by
    obtain ⟨x, r, rfl, h1, h2⟩ := h
    exact .cons (dp_of d h1) (dps_of ds h2)
end
/-! ### what evaluates to what -/
theorem hid_le {M : Addr → Bool} {H : Hp} : Ex (hid M H) H := fun b o z => by
  cases hb : M b with
  | true => rw [hid_t hb] at z; cases z
  | false => rw [hid_f hb] at z; exact z
theorem hid_ex {M : Addr → Bool} {H H' : Hp} (e : Ex H H') : Ex (hid M H) (hid M H') := fun b o z => by
  cases hb : M b with
  | true => rw [hid_t hb] at z; cases z
  | false => rw [hid_f hb] at z; rw [hid_f hb]; exact e b o z
theorem _root_.RkO.Hides.ex {M : Addr → Bool} {H H' : Hp} (h : Hides M H) (e : Ex H H') : Hides M H' := fun b hb => (h b hb).elim (fun ⟨xs, z⟩ => .inl ⟨xs, e _ _ z⟩) fun ⟨kvs, z⟩ => .inr ⟨kvs, e _ _ z⟩
theorem _root_.RkO.Hides.some {M : Addr → Bool} {H : Hp} (h : Hides M H) {b : Addr} (n : H b = none) : M b = false := by
  cases hb : M b with
  | false => rfl
  | true => rcases h b hb with ⟨_, z⟩ | ⟨_, z⟩ <;> (rw [n] at z; cases z)
def no : Addr → Bool := fun _ => false
theorem hides_no {H : Hp} : Hides no H := fun _ h => by cases h
theorem hid_no {H : Hp} : hid no H = H := by
  funext b
  exact hid_f rfl
def EvX (te : TE) (σ : L2.St) (H : Hp) (R : Rel) : Prop := ∀ (M : Addr → Bool) H1, Hides M H1 → Ex H (hid M H1) → ∀ Q : VK, (∀ v H2, Ex H1 H2 → R (hid M H2) v → Q v H2) → te σ H1 Q
def EvXs (ta : TA) (σ : L2.St) (H : Hp) (Rs : List Rel) : Prop := ∀ (M : Addr → Bool) H1, Hides M H1 → Ex H (hid M H1) → ∀ Q : List V → Hp → Prop, (∀ vs H2, Ex H1 H2 → AllR Rs (hid M H2) vs → Q vs H2) → ta σ H1 Q
section
variable {K : PySem.W.Frag} {σ : L2.St} {H H' : Hp} {ta tb te tl ti tx : TE} {t tt : TT} {as : TA} {x y z v : V} {r : R2} {R S : Rel} {Rs Ss : List Rel}
theorem EvX.mono (e : Ex H H') (h : EvX te σ H R) : EvX te σ H' R := fun M H1 hm e1 Q q => h M H1 hm (e.trans e1) Q q
theorem EvX.imp (h : EvX te σ H R) (f : ∀ H1 v, Ex H H1 → R H1 v → S H1 v) : EvX te σ H S := fun M H1 hm e1 Q q => h M H1 hm e1 Q fun v H2 e2 r => q v H2 e2 (f _ _ (e1.trans (hid_ex e2)) r)
theorem EvX.run (h : EvX te σ H R) {Q : VK} (q : ∀ v H2, Ex H H2 → R H2 v → Q v H2) : te σ H Q := h no H hides_no (by rw [hid_no]; exact Ex.refl H) Q fun v H2 e r => q v H2 e (by rw [hid_no] at r; exact r)
theorem x_ev (h : Ev te σ H v) (m : MonV R) (r : R H v) : EvX te σ H R := fun M H1 hm e1 Q q => h H1 (e1.trans hid_le) Q fun H2 e2 => q v H2 e2 (m _ _ _ r (e1.trans (hid_ex e2)))
theorem x_evV (h : Ev te σ H v) : EvX te σ H (RV v) := x_ev h mon_RV rfl
theorem ev_x (h : EvX te σ H (RV v)) : Ev te σ H v := fun H1 e Q q => h no H1 hides_no (by rw [hid_no]; exact e) Q fun v' H2 e2 r => by
  rw [show v' = v from r]
  exact q H2 e2
theorem x_var {i : Nat} (h : σ[i]? = some (some v)) (m : MonV R) (r : R H v) : EvX (tVar i) σ H R := x_ev (Evl.ev_var h) m r
theorem x_nil : EvXs tNil σ H [] := fun M H1 _ _ Q q => q [] H1 (Ex.refl H1) rfl
theorem x_cons {tr : TA} (m : MonV R) (h : EvX te σ H R) (g : EvXs tr σ H Rs) : EvXs (tCons te tr) σ H (R :: Rs) := fun M H1 hm e1 Q q => h M H1 hm e1 _ fun v H2 e2 r => g M H2 (hm.ex e2) (e1.trans (hid_ex e2)) _ fun vs H3 e3 rs => q _ H3 (e2.trans e3) ⟨v, vs, rfl, m _ _ _ r (hid_ex e3), rs⟩
theorem x_args {vs : List V} (h : EvA as σ H vs) : EvXs as σ H (vs.map RV) := fun M H1 hm e1 Q q => h H1 (e1.trans hid_le) Q fun H2 e2 => q vs H2 e2 (by
  clear h q
  induction vs with
  | nil => rfl
  | cons v vs ih => exact ⟨v, vs, rfl, rfl, ih⟩)
theorem hid_upd {M : Addr → Bool} {H : Hp} {p : Addr} {o : HO} (h : M p = false) : hid M (upd H p o) = upd (hid M H) p o := by
  funext b
  by_cases hb : b = p
  · subst hb
    rw [hid_f h, upd_same, upd_same]
  · rw [upd_ne hb]
    cases hm : M b with
    | true => rw [hid_t hm, hid_t hm]
    | false => rw [hid_f hm, hid_f hm, upd_ne hb]
theorem hid_upd_t {M : Addr → Bool} {H : Hp} {p : Addr} {o : HO} (h : M p = true) : hid M (upd H p o) = hid M H := by
  funext b
  cases hm : M b with
  | true => rw [hid_t hm, hid_t hm]
  | false =>
    rw [hid_f hm, hid_f hm, upd_ne]
    intro z
    rw [z, h] at hm
    cases hm
theorem x_lst (m : MonA Rs) (h : EvXs as σ H Rs) (hz : Rs.length ≤ 100000) : EvX (tLst as) σ H (RL Rs) := fun M H1 hm e1 Q q => h M H1 hm e1 _ fun vs H2 e2 rs => ⟨Evl.sz_of (by rw [rs.len]; exact hz), fun p np => by
  have mp := (hm.ex e2).some np
  have e3 : Ex (hid M H2) (hid M (upd H2 p (.lst vs))) := hid_ex (Ex.new np)
  exact q _ _ (e2.trans (Ex.new np)) ⟨p, vs, rfl, by rw [hid_f mp, upd_same], rs.mono m e3⟩⟩
theorem x_tup (m : MonA Rs) (h : EvXs as σ H Rs) (hz : Rs.length ≤ 100000) : EvX (tTup as) σ H (RT Rs) := fun M H1 hm e1 Q q => h M H1 hm e1 _ fun vs H2 e2 rs => ⟨Evl.sz_of (by rw [rs.len]; exact hz), fun p np => by
  have mp := (hm.ex e2).some np
  have e3 : Ex (hid M H2) (hid M (upd H2 p (.tup vs))) := hid_ex (Ex.new np)
  exact q _ _ (e2.trans (Ex.new np)) ⟨p, vs, rfl, by rw [hid_f mp, upd_same], rs.mono m e3⟩⟩
theorem x_ixL {i : Int} {k : Nat} (h : EvX te σ H (RL Rs)) (hi : ∀ H1, Ex H H1 → Ev ti σ H1 (.int i)) (ek : i = (k : Int)) (hk : Rs[k]? = some R) (m : MonA Rs) : EvX (tOp (rIxL K) te ti) σ H R := fun M H1 hm e1 Q q => h M H1 hm e1 _ fun v H2 e2 r => by
  obtain ⟨a, xs, rfl, ha, hx⟩ := r
  refine hi H2 ((e1.trans hid_le).trans e2) H2 (Ex.refl _) _ fun H3 e3 => ?_
  have ha2 : H3 a = some (.lst xs) := e3 _ _ (hid_le _ _ ha)
  have hx3 := hx.mono m (hid_ex e3)
  obtain ⟨w, hw, rw'⟩ := hx3.get hk
  exact ⟨a, xs, i, w, rfl, rfl, SqL.of ha2, by rw [ek]; exact atI_nat hw, q w H3 (e2.trans e3) rw'⟩
theorem x_ixT {i : Int} {k : Nat} (h : EvX te σ H (RT Rs)) (hi : ∀ H1, Ex H H1 → Ev ti σ H1 (.int i)) (ek : i = (k : Int)) (hk : Rs[k]? = some R) (m : MonA Rs) : EvX (tOp (rIxT K) te ti) σ H R := fun M H1 hm e1 Q q => h M H1 hm e1 _ fun v H2 e2 r => by
  obtain ⟨a, xs, rfl, ha, hx⟩ := r
  refine hi H2 ((e1.trans hid_le).trans e2) H2 (Ex.refl _) _ fun H3 e3 => ?_
  have ha2 : H3 a = some (.tup xs) := e3 _ _ (hid_le _ _ ha)
  have hx3 := hx.mono m (hid_ex e3)
  obtain ⟨w, hw, rw'⟩ := hx3.get hk
  exact ⟨a, xs, i, w, rfl, rfl, SqT.of ha2, by rw [ek]; exact atI_nat hw, q w H3 (e2.trans e3) rw'⟩
theorem x_cat (mR : MonA Rs) (mS : MonA Ss) (h : EvX ta σ H (RL Rs)) (g : EvX tb σ H (RL Ss)) (hz : Rs.length + Ss.length ≤ 100000) : EvX (tOp rCat ta tb) σ H (RL (Rs ++ Ss)) := fun M H1 hm e1 Q q => h M H1 hm e1 _ fun v H2 e2 r => g M H2 (hm.ex e2) (e1.trans (hid_ex e2)) _ fun u H3 e3 s => by
  obtain ⟨a, xs, rfl, ha, hx⟩ := r
  obtain ⟨b, ys, rfl, hb, hy⟩ := s
  refine ⟨a, b, xs, ys, rfl, rfl, e3 _ _ (hid_le _ _ ha), hid_le _ _ hb, Evl.sz_of (by rw [hx.len, hy.len]; exact hz), fun p np => ?_⟩
  have mp := ((hm.ex e2).ex e3).some np
  have e4 : Ex (hid M H3) (hid M (upd H3 p (.lst (xs ++ ys)))) := hid_ex (Ex.new np)
  exact q _ _ ((e2.trans e3).trans (Ex.new np)) ⟨p, _, rfl, by rw [hid_f mp, upd_same], (hx.mono mR ((hid_ex e3).trans e4)).app (hy.mono mS e4)⟩
theorem x_lenL (h : EvX te σ H (RL Rs)) : Ev (tCB (Evl.rLenS K) (tCons te tNil)) σ H (.int (Rs.length : Int)) := fun H1 e Q q => h no H1 hides_no (by rw [hid_no]; exact e) _ fun v H2 e2 r => by
  obtain ⟨a, xs, rfl, ha, hx⟩ := r
  rw [hid_no] at ha
  refine ⟨a, xs, rfl, .inl (SqL.of ha), ?_⟩
  rw [hx.len]
  exact q H2 e2
theorem x_if {b : Bool} (h : EvT t σ H b) (h1 : b = true → EvX ta σ H R) (h2 : b = false → EvX tb σ H R) : EvX (tIf t ta tb) σ H R := fun M H1 hm e1 Q q => h H1 (e1.trans hid_le) _ fun H2 e2 => by
  cases b with
  | true => exact h1 rfl M H2 (hm.ex e2) (e1.trans (hid_ex e2)) Q fun v H3 e3 r => q v H3 (e2.trans e3) r
  | false => exact h2 rfl M H2 (hm.ex e2) (e1.trans (hid_ex e2)) Q fun v H3 e3 r => q v H3 (e2.trans e3) r
/-- a call by a promise -/
def SpX (sp : Sp) (vs : List V) (H : Hp) (R : Rel) : Prop := ∀ H1, Ex H H1 → ∀ Q : VK, (∀ v H2, Ex H1 H2 → R H2 v → Q v H2) → ∀ E : XK, sp vs H1 Q E
theorem spF_x {sp : Sp} {vs : List V} {M : Addr → Bool} {E : XK} {Q : VK} (m : MonV R) (h : SpX sp vs H R) (hm : Hides M H') (e : Ex H (hid M H')) (q : ∀ v H2, Ex H' H2 → R (hid M H2) v → Q v H2) : spF sp vs H' Q E := by
  refine ⟨M, hm, h (hid M H') e _ (fun v H2 e2 r => ?_) E⟩
  intro gone
  refine q v (put M H' H2) (fun b o z => ?_) (m _ _ _ r fun b o z => ?_)
  · cases hb : M b with
    | true => rw [put_t hb]; exact z
    | false =>
      rw [put_f hb]
      exact e2 b o (by rw [hid_f hb]; exact z)
  · cases hb : M b with
    | true => rw [gone b hb] at z; cases z
    | false => rw [hid_f hb, put_f hb]; exact z
theorem x_callA {sp : Sp} {vs dvs : List V} {E : XK} (m : MonV R) (h : EvA as σ H vs) (hs : SpX sp (vs ++ dvs) H R) : EvX (tCall (spF sp) dvs E as) σ H R := fun M H1 hm e1 Q q => h H1 (e1.trans hid_le) _ fun H2 e2 => by
  refine spF_x (R := R) m hs (hm.ex e2) (e1.trans (hid_ex e2)) fun v H3 e3 r => ?_
  exact q v H3 (e2.trans e3) r
theorem x_callX {sp : Sp} {dvs : List V} {E : XK} (m : MonV R) (h : EvXs as σ H Rs) (hs : ∀ vs H1, Ex H H1 → AllR Rs H1 vs → SpX sp (vs ++ dvs) H1 R) : EvX (tCall (spF sp) dvs E as) σ H R := fun M H1 hm e1 Q q => h M H1 hm e1 _ fun vs H2 e2 rs => by
  refine spF_x (R := R) m (hs vs (hid M H2) (e1.trans (hid_ex e2)) rs) (hm.ex e2) (Ex.refl _) fun v H3 e3 r => ?_
  exact q v H3 (e2.trans e3) r
/-- a comprehension over any target: items by Ra, those with p, by Rb; Gd: what the target leaves -/
theorem x_lcG {α : Type} {Ra Rb : α → Rel} {p : α → Bool} {xs : List α} {g : TG} {vs : List Nat} (Gd : α → L2.St → Hp → Prop) (mA : ∀ a ∈ xs, MonV (Ra a)) (mB : ∀ a ∈ xs, MonV (Rb a)) (h : EvX tl σ H (RL (xs.map Ra))) (hz : xs.length ≤ 40000) (hw : ∀ a σ' H1, Gd a σ' H1 → wipe σ' vs = wipe σ vs)
    (hg : ∀ a ∈ xs, ∀ v H0 H1, Ex H H0 → Ra a H0 v → Ex H0 H1 → ∀ Q' : L2.St → Hp → Prop, (∀ σ', Gd a σ' H0 → Q' σ' H1) → g v (wipe σ vs) H1 Q')
    (ht : ∀ a ∈ xs, ∀ σ' H1, Ex H H1 → Gd a σ' H1 → EvT tt σ' H1 (p a)) (he : ∀ a ∈ xs, p a = true → ∀ σ' H1, Ex H H1 → Gd a σ' H1 → EvX te σ' H1 (Rb a)) :
    EvX (tLc (iList K tl) g tt te vs) σ H (RL ((xs.filter p).map Rb)) := fun M H0 hm e0 Q q => h M H0 hm e0 _ fun v H1 e1 r => by
  obtain ⟨a, us, rfl, ha, hx⟩ := r
  have ha1 : H1 a = some (.lst us) := hid_le _ _ ha
  have hul : us.length = xs.length := by rw [hx.len, List.length_map]
  refine ⟨a, rfl, ⟨_, SqL.of ha1⟩, fun Dl hD => ?_⟩
  have mD := (hm.ex e1).some hD
  refine lc_list (xs := us) (fun i H' => Ex H1 H' ∧ ∃ us', us'.length ≤ i ∧ H' Dl = some (.lst us') ∧ AllR (((xs.take i).filter p).map Rb) (hid (fun b => M b || decide (b = Dl)) H') us') ⟨Ex.new hD, [], Nat.le_refl _, upd_same, rfl⟩ (fun i H' _ p => SqL.of (p.1 _ _ ha1)) (fun i y H' hi p0 => ?_) (fun H' p0 => ?_)
  · obtain ⟨p2, us', pl, p3, p4⟩ := p0
    have hlt : i < xs.length := by rw [← hul]; exact (List.getElem?_eq_some_iff.mp hi).1
    have hai : xs[i]? = some xs[i] := List.getElem?_eq_getElem hlt
    have hmem : xs[i] ∈ xs := List.getElem_mem hlt
    obtain ⟨y', hy', ry⟩ := hx.get (i := i) (R := Ra xs[i]) (by rw [List.getElem?_map, hai]; rfl)
    rw [hi] at hy'
    cases hy'
    have hM1 : Hides (fun b => M b || decide (b = Dl)) H' := fun b hb => by
      rcases Bool.or_eq_true_iff.mp hb with hb | hb
      · exact (hm.ex (e1.trans p2)) b hb
      · rw [of_decide_eq_true hb]
        exact .inl ⟨_, p3⟩
    have up : Ex (hid M H1) (hid (fun b => M b || decide (b = Dl)) H') := fun b o z => by
      have hb : M b = false := by
        cases hb : M b with
        | false => rfl
        | true => rw [hid_t hb] at z; cases z
      rw [hid_f hb] at z
      have nb : b ≠ Dl := ne_of_none z hD
      rw [hid_f (show (M b || decide (b = Dl)) = false by rw [hb, decide_eq_false nb]; rfl)]
      exact p2 b o z
    have exH : Ex H (hid (fun b => M b || decide (b = Dl)) H') := (e0.trans (hid_ex e1)).trans up
    have ry1 := mA _ hmem _ _ _ ry up
    refine hg _ hmem y _ H' exH ry1 hid_le _ fun σ' gd => ⟨hw _ _ _ gd, ht _ hmem σ' _ exH gd H' hid_le _ fun H3 e3 => ?_⟩
    have tk : xs.take (i + 1) = xs.take i ++ [xs[i]] := by rw [List.take_add_one, hai]; rfl
    have p4' := p4
    cases hp : p xs[i] with
    | true =>
      refine he _ hmem hp σ' _ exH gd _ H3 (hM1.ex e3) (hid_ex e3) _ fun v' H4 e4 rv => ⟨us', e4 _ _ (e3 _ _ p3), Evl.sz_lt (by omega), (p2.trans (e3.trans e4)).mut hD, us' ++ [v'], by rw [List.length_append]; exact Nat.succ_le_succ pl, upd_same, ?_⟩
      rw [hid_upd_t (by simp), tk, List.filter_append, List.map_append, List.filter_cons, if_pos hp]
      refine AllR.app (p4.mono (MonA.map fun a ha => mB a (List.mem_of_mem_take ((List.mem_filter.mp ha).1))) (hid_ex (e3.trans e4))) (AllR.one rv)
    | false =>
      refine ⟨p2.trans e3, us', Nat.le_succ_of_le pl, e3 _ _ p3, ?_⟩
      rw [tk, List.filter_append, List.filter_cons, if_neg (by rw [hp]; decide), List.filter_nil, List.append_nil]
      exact p4.mono (MonA.map fun a ha => mB a (List.mem_of_mem_take ((List.mem_filter.mp ha).1))) (hid_ex e3)
  · obtain ⟨p2, us', pl, p3, p4⟩ := p0
    rw [hul, List.take_length] at p4
    refine q _ H' (e1.trans p2) ⟨Dl, us', rfl, by rw [hid_f mD]; exact p3, p4.mono (MonA.map fun a ha => mB a ((List.mem_filter.mp ha).1)) fun b o z => ?_⟩
    have hb : (M b || decide (b = Dl)) = false := by
      cases hb : (M b || decide (b = Dl)) with
      | false => rfl
      | true => rw [hid_t hb] at z; cases z
    rw [hid_f hb] at z
    rw [hid_f (Bool.or_eq_false_iff.mp hb).1]
    exact z
/-- .. over one name -/
theorem x_lc {α : Type} {Ra Rb : α → Rel} {p : α → Bool} {xs : List α} {j : Nat} {vs : List Nat} (mA : ∀ a ∈ xs, MonV (Ra a)) (mB : ∀ a ∈ xs, MonV (Rb a)) (h : EvX tl σ H (RL (xs.map Ra))) (hz : xs.length ≤ 40000) (hw : ∀ x, wipe ((wipe σ vs).set j (some x)) vs = wipe σ vs)
    (ht : ∀ a ∈ xs, ∀ v H1, Ex H H1 → Ra a H1 v → EvT tt ((wipe σ vs).set j (some v)) H1 (p a)) (he : ∀ a ∈ xs, p a = true → ∀ v H1, Ex H H1 → Ra a H1 v → EvX te ((wipe σ vs).set j (some v)) H1 (Rb a)) :
    EvX (tLc (iList K tl) (gName j) tt te vs) σ H (RL ((xs.filter p).map Rb)) :=
  x_lcG (fun a σ' H1 => ∃ v, σ' = (wipe σ vs).set j (some v) ∧ Ra a H1 v) mA mB h hz (fun a σ' H1 ⟨v, e, _⟩ => by rw [e]; exact hw v) (fun a _ v H0 H1 _ r _ Q' q => q _ ⟨v, rfl, r⟩) (fun a ha σ' H1 e ⟨v, ev, r⟩ => by rw [ev]; exact ht a ha v H1 e r) (fun a ha hp σ' H1 e ⟨v, ev, r⟩ => by rw [ev]; exact he a ha hp v H1 e r)
/-- .. over two names, the items tuples -/
theorem x_lcT {α : Type} {R1 R2 Rb : α → Rel} {p : α → Bool} {xs : List α} {j1 j2 : Nat} {vs : List Nat} (m1 : ∀ a ∈ xs, MonV (R1 a)) (m2 : ∀ a ∈ xs, MonV (R2 a)) (mB : ∀ a ∈ xs, MonV (Rb a)) (h : EvX tl σ H (RL (xs.map fun a => RT [R1 a, R2 a]))) (hz : xs.length ≤ 40000)
    (hw : ∀ x y, wipe (((wipe σ vs).set j1 (some x)).set j2 (some y)) vs = wipe σ vs)
    (ht : ∀ a ∈ xs, ∀ v1 v2 H1, Ex H H1 → R1 a H1 v1 → R2 a H1 v2 → EvT tt (((wipe σ vs).set j1 (some v1)).set j2 (some v2)) H1 (p a)) (he : ∀ a ∈ xs, p a = true → ∀ v1 v2 H1, Ex H H1 → R1 a H1 v1 → R2 a H1 v2 → EvX te (((wipe σ vs).set j1 (some v1)).set j2 (some v2)) H1 (Rb a)) :
    EvX (tLc (iList K tl) (gTup K 2 (gCons (gName j1) (gCons (gName j2) gNil))) tt te vs) σ H (RL ((xs.filter p).map Rb)) :=
  x_lcG (fun a σ' H1 => ∃ v1 v2, σ' = ((wipe σ vs).set j1 (some v1)).set j2 (some v2) ∧ R1 a H1 v1 ∧ R2 a H1 v2) (fun a ha => mon_RT (MonA.cons (m1 a ha) (MonA.cons (m2 a ha) MonA.nil))) mB h hz (fun a σ' H1 ⟨v1, v2, e, _⟩ => by rw [e]; exact hw v1 v2)
    (fun a _ v H0 H1 _ r e Q' q => by
      obtain ⟨b, xs, rfl, hb, x1, r1, rfl, h1, x2, r2, rfl, h2, rfl⟩ := r
      exact ⟨b, _, rfl, SqT.of (e _ _ hb), rfl, _, _, rfl, _, _, rfl, rfl, q _ ⟨_, _, rfl, h1, h2⟩⟩)
    (fun a ha σ' H1 e ⟨v1, v2, ev, r1, r2⟩ => by rw [ev]; exact ht a ha v1 v2 H1 e r1 r2) (fun a ha hp σ' H1 e ⟨v1, v2, ev, r1, r2⟩ => by rw [ev]; exact he a ha hp v1 v2 H1 e r1 r2)
/-- .. without a test -/
theorem x_lcM {α : Type} {Ra Rb : α → Rel} {xs : List α} {j : Nat} {vs : List Nat} (mA : ∀ a ∈ xs, MonV (Ra a)) (mB : ∀ a ∈ xs, MonV (Rb a)) (h : EvX tl σ H (RL (xs.map Ra))) (hz : xs.length ≤ 40000) (hw : ∀ x, wipe ((wipe σ vs).set j (some x)) vs = wipe σ vs)
    (he : ∀ a ∈ xs, ∀ v H1, Ex H H1 → Ra a H1 v → EvX te ((wipe σ vs).set j (some v)) H1 (Rb a)) :
    EvX (tLc (iList K tl) (gName j) tYes te vs) σ H (RL (xs.map Rb)) := by
  have := x_lc (K := K) (tt := tYes) (p := fun _ => true) mA mB h hz hw (fun a _ v H1 _ _ H2 _ Q q => q H2 (Ex.refl _)) (fun a ha _ v H1 e r => he a ha v H1 e r)
  rwa [List.filter_eq_self.mpr (fun _ _ => rfl)] at this
end
theorem un_var {v : V} {i : Nat} {σ : L2.St} {H : Hp} {Q : VK} (h0 : σ[i]? = some (some v)) (h : Q v H) : tVar i σ H Q := ⟨v, h0, h⟩
theorem un_call1 {sp : Sp} {te : TE} {σ : L2.St} {H : Hp} {Q : VK} (h : te σ H fun x H1 => sp [x] H1 Q E0) : tCall sp [] E0 (tCons te tNil) σ H Q := h
theorem un_drop {te : TE} {D : Ends} {σ : L2.St} {H : Hp} (h : te σ H fun _ H1 => D.nx σ H1) : tDrop te D σ H := h
theorem un_par {i j : Nat} {ta : TA} {D : Ends} {σ : L2.St} {H : Hp} (h : ta σ H fun vs H1 => ∃ v w, vs = [v, w] ∧ D.nx ((σ.set i (some v)).set j (some w)) H1) : tPar i j ta D σ H := h
/-- a for over enumerate(xs), two names -/
theorem for_enum {K : PySem.W.Frag} {ta : TA} {i j : Nat} {tb : TS} {D : Ends} {σ : L2.St} {H : Hp} {a : Addr} {xs : List V} (h : EvA ta σ H [.ref a]) (hx : H a = some (.lst xs)) (Pv : Nat → L2.St → Hp → Prop) (h0 : ∀ H1, Ex H H1 → Pv 0 σ H1) (hG : ∀ k σ' H', k ≤ xs.length → Pv k σ' H' → H' a = some (.lst xs))
    (hs : ∀ k x σ' H' T, k < xs.length → Pv k σ' H' → xs[k]? = some x → H' T = none → tb { D with nx := Pv (k + 1), ct := Pv (k + 1), bk := D.nx } ((σ'.set i (some (.int (k : Int)))).set j (some x)) (upd H' T (.tup [.int (k : Int), x])))
    (hd : ∀ σ' H', Pv xs.length σ' H' → D.nx σ' H') : tFor (iEnum K ta) (gTup K 2 (gCons (gName i) (gCons (gName j) gNil))) tb D σ H := h H (Ex.refl _) _ fun H1 e1 => ⟨a, xs, rfl, SqL.of (e1 _ _ hx), L2.for_it walk_enum Pv (h0 H1 e1) (fun k σ' H' hk p => SqL.of (hG k σ' H' hk p)) (fun k v σ' H' H'' hk p y => by
    obtain ⟨T, x, y, rfl, nT, rfl, h1, h2⟩ := y
    have h1 : some (V.int (k : Nat)) = some x := h1
    cases h1
    exact ⟨T, _, rfl, SqT.of upd_same, rfl, _, _, rfl, _, _, rfl, rfl, hs k y σ' H' T hk p h2 nT⟩) hd⟩
theorem AllR.split {Rs Ss : List Rel} : ∀ {H : Hp} {xs : List V}, AllR (Rs ++ Ss) H xs → ∃ ys zs, xs = ys ++ zs ∧ AllR Rs H ys ∧ AllR Ss H zs := by
  induction Rs with
  | nil =>
    intro H xs h
    exact ⟨[], xs, rfl, rfl, h⟩
  | cons R Rs ih =>
    intro H xs h
    obtain ⟨x, r, rfl, h1, h2⟩ := h
    obtain ⟨ys, zs, rfl, h3, h4⟩ := ih h2
    exact ⟨x :: ys, zs, rfl, ⟨x, ys, rfl, h1, h3⟩, h4⟩
theorem AllR.take {Rs : List Rel} {H : Hp} : ∀ {xs : List V} (k : Nat), AllR Rs H xs → AllR (Rs.take k) H (xs.take k) := by
  induction Rs with
  | nil =>
    intro xs k h
    rw [show xs = [] from h]
    simp
    rfl
  | cons R Rs ih =>
    intro xs k h
    obtain ⟨x, r, rfl, h1, h2⟩ := h
    cases k with
    | zero => rfl
    | succ k => exact ⟨x, r.take k, rfl, h1, ih k h2⟩
theorem x_prop {C a dx : Addr} {fs : List (Str × V)} {sp : Sp} {E : XK} {te : TE} {σ : L2.St} {H : Hp} {R : Rel} (m : MonV R) (h : Ev te σ H (.ref a)) (ha : H a = some (.ins C dx fs)) (hs : SpX sp [.ref a] H R) : EvX (tProp C (spF sp) [] E te) σ H R := fun M H1 hm e1 Q q => h H1 (e1.trans hid_le) _ fun H2 e2 => by
  refine ⟨a, dx, fs, rfl, e2 _ _ (hid_le _ _ (e1 _ _ ha)), ?_⟩
  refine spF_x (R := R) m hs (hm.ex e2) (e1.trans (hid_ex e2)) fun v H3 e3 r => ?_
  exact q v H3 (e2.trans e3) r
/-- [y for x in xs for y in e(x)] -/
theorem x_lc2 {K : PySem.W.Frag} {σ : L2.St} {H : Hp} {tl ti : TE} {α : Type} {Ra : α → Rel} {f : α → List Rel} {xs : List α} {j j1 : Nat} {vs vs1 : List Nat} (mA : ∀ a ∈ xs, MonV (Ra a)) (mF : ∀ a ∈ xs, MonA (f a)) (h : EvX tl σ H (RL (xs.map Ra))) (hz : ∀ i, ((xs.take i).map f).flatten.length ≤ 40000)
    (hw : ∀ x, wipe ((wipe σ vs).set j (some x)) vs = wipe σ vs) (hw1 : ∀ x y, wipe ((wipe ((wipe σ vs).set j (some x)) vs1).set j1 (some y)) vs1 = wipe ((wipe σ vs).set j (some x)) vs1)
    (hj : ∀ x y, ((wipe ((wipe σ vs).set j (some x)) vs1).set j1 (some y))[j1]? = some (some y)) (he : ∀ a ∈ xs, ∀ v H1, Ex H H1 → Ra a H1 v → EvX ti ((wipe σ vs).set j (some v)) H1 (RL (f a))) :
    EvX (tLc2 (iList K tl) (gName j) tYes (iList K ti) (gName j1) tYes (tVar j1) vs vs1) σ H (RL ((xs.map f).flatten)) := fun M H0 hm e0 Q q => h M H0 hm e0 _ fun v H1 e1 r => by
  obtain ⟨a, us, rfl, ha, hx⟩ := r
  have ha1 : H1 a = some (.lst us) := hid_le _ _ ha
  have hul : us.length = xs.length := by rw [hx.len, List.length_map]
  refine ⟨a, rfl, ⟨_, SqL.of ha1⟩, fun Dl hD => ?_⟩
  have mD := (hm.ex e1).some hD
  have mfl : ∀ i, MonA (((xs.take i).map f).flatten) := fun i R hR => by
    obtain ⟨l, hl, hR⟩ := List.mem_flatten.mp hR
    obtain ⟨x, hx, rfl⟩ := List.mem_map.mp hl
    exact mF x (List.mem_of_mem_take hx) R hR
  have msk : ∀ H', Ex H1 H' → (∃ us', H' Dl = some (.lst us')) → Hides (fun b => M b || decide (b = Dl)) H' := fun H' p2 p3 b hb => by
    rcases Bool.or_eq_true_iff.mp hb with hb | hb
    · exact (hm.ex (e1.trans p2)) b hb
    · rw [of_decide_eq_true hb]
      exact .inl p3
  have ups : ∀ H', Ex H1 H' → Ex (hid M H1) (hid (fun b => M b || decide (b = Dl)) H') := fun H' p2 b o z => by
    have hb : M b = false := by
      cases hb : M b with
      | false => rfl
      | true => rw [hid_t hb] at z; cases z
    rw [hid_f hb] at z
    have nb : b ≠ Dl := ne_of_none z hD
    rw [hid_f (show (M b || decide (b = Dl)) = false by rw [hb, decide_eq_false nb]; rfl)]
    exact p2 b o z
  refine ⟨fun i m H' => m = xs.length - i ∧ i ≤ xs.length ∧ Ex H1 H' ∧ ∃ us', H' Dl = some (.lst us') ∧ AllR (((xs.take i).map f).flatten) (hid (fun b => M b || decide (b = Dl)) H') us', ⟨_, rfl, Nat.zero_le _, Ex.new hD, [], upd_same, rfl⟩, ?_⟩
  rintro i m H' ⟨rfl, hi, p2, us', p3, p4⟩
  have hq : SqL K H' a us := SqL.of (p2 _ _ ha1)
  by_cases hlt : i < xs.length
  · have hai : xs[i]? = some xs[i] := List.getElem?_eq_getElem hlt
    have hmem : xs[i] ∈ xs := List.getElem_mem hlt
    obtain ⟨y, hy, ry⟩ := hx.get (i := i) (R := Ra xs[i]) (by rw [List.getElem?_map, hai]; rfl)
    refine .inr ⟨⟨_, y, hq, hy⟩, fun H' => i + 1 ≤ xs.length ∧ Ex H1 H' ∧ ∃ us', H' Dl = some (.lst us') ∧ AllR (((xs.take (i + 1)).map f).flatten) (hid (fun b => M b || decide (b = Dl)) H') us', fun H2 p => ⟨xs.length - (i + 1), by omega, rfl, p.1, p.2.1, p.2.2⟩, fun x H2 y2 => ?_⟩
    obtain ⟨rfl, y2⟩ := y2
    have ex : x = y := by
      have := y2 _ hq
      rw [hy] at this
      exact (Option.some.inj this).symm
    subst ex
    refine ⟨hw _, ?_⟩
    simp only [tYes, ↓reduceIte]
    have exH : Ex H (hid (fun b => M b || decide (b = Dl)) H2) := (e0.trans (hid_ex e1)).trans (ups H2 p2)
    refine he _ hmem x _ exH (mA _ hmem _ _ _ ry (ups H2 p2)) _ H2 (msk H2 p2 ⟨_, p3⟩) (Ex.refl _) _ fun v4 H4 e4 r4 => ?_
    obtain ⟨b, ys, rfl, hb, hys⟩ := r4
    have hb4 : H4 b = some (.lst ys) := hid_le _ _ hb
    have nbD : b ≠ Dl := fun z => by
      rw [hid_t (show (M b || decide (b = Dl)) = true by rw [z]; simp)] at hb
      cases hb
    have hpre : (xs.take (i + 1)).map f = (xs.take i).map f ++ [f xs[i]] := by rw [List.take_add_one, hai, List.map_append]; rfl
    have hfl : [f xs[i]].flatten = f xs[i] := by simp
    have hlen := hz (i + 1)
    rw [hpre, List.flatten_append, List.length_append, hfl] at hlen
    have hyl : ys.length = (f xs[i]).length := hys.len
    refine ⟨b, rfl, ⟨_, SqL.of hb4⟩, ?_⟩
    have p5 := p4.mono (mfl i) (hid_ex e4)
    refine ⟨fun k m H' => m = ys.length - k ∧ k ≤ ys.length ∧ hid (fun b => M b || decide (b = Dl)) H' = hid (fun b => M b || decide (b = Dl)) H4 ∧ Ex H1 H' ∧ H' b = some (.lst ys) ∧ ∃ us', H' Dl = some (.lst us') ∧ AllR (((xs.take i).map f).flatten ++ (f xs[i]).take k) (hid (fun b => M b || decide (b = Dl)) H4) us', ⟨_, rfl, Nat.zero_le _, rfl, p2.trans e4, hb4, us', e4 _ _ p3, by rw [List.take_zero, List.append_nil]; exact p5⟩, ?_⟩
    rintro k m H5 ⟨rfl, hk, qe, q2, qb, us5, q3, q4⟩
    by_cases hkl : k < ys.length
    · refine .inr ⟨⟨_, ys[k], SqL.of qb, by simp [hkl]⟩, fun H' => k + 1 ≤ ys.length ∧ hid (fun b => M b || decide (b = Dl)) H' = hid (fun b => M b || decide (b = Dl)) H4 ∧ Ex H1 H' ∧ H' b = some (.lst ys) ∧ ∃ us', H' Dl = some (.lst us') ∧ AllR (((xs.take i).map f).flatten ++ (f xs[i]).take (k + 1)) (hid (fun b => M b || decide (b = Dl)) H4) us', fun H' p => ⟨_, by omega, rfl, p.1, p.2.1, p.2.2.1, p.2.2.2.1, p.2.2.2.2⟩, fun y H6 z => ?_⟩
      obtain ⟨rfl, z⟩ := z
      have ey : ys[k]? = some y := z _ (SqL.of qb)
      refine ⟨hw1 _ _, ?_⟩
      simp only [tYes, ↓reduceIte]
      have hfk : (f xs[i])[k]? = some ((f xs[i])[k]'(by omega)) := List.getElem?_eq_getElem (by omega)
      obtain ⟨y', ey', ry'⟩ := hys.get hfk
      rw [ey] at ey'
      cases ey'
      have ul : us5.length = (((xs.take i).map f).flatten ++ (f xs[i]).take k).length := q4.len
      refine ⟨y, hj _ _, _, q3, ?_, hkl, ?_, q2.mut hD, ?_, _, upd_same, ?_⟩
      · rw [ul, List.length_append, List.length_take]
        exact Evl.sz_lt (by omega)
      · rw [hid_upd_t (by simp)]
        exact qe
      · rw [upd_ne nbD]
        exact qb
      · rw [List.take_add_one, hfk, ← List.append_assoc]
        exact q4.app (AllR.one ry')
    · have ek : k = ys.length := by omega
      subst ek
      refine .inl ⟨⟨_, SqL.of qb, Nat.le_refl _⟩, hlt, q2, us5, q3, ?_⟩
      rw [hyl, List.take_length] at q4
      rw [qe, hpre, List.flatten_append, hfl]
      exact q4
  · have ei : i = xs.length := by omega
    subst ei
    rw [List.take_length] at p4
    refine .inl ⟨⟨_, hq, by rw [hul]; exact Nat.le_refl _⟩, q _ H' (e1.trans p2) ⟨Dl, us', rfl, by rw [hid_f mD]; exact p3, p4.mono (by have := mfl xs.length; rwa [List.take_length] at this) fun b o z => ?_⟩⟩
    have hb : (M b || decide (b = Dl)) = false := by
      cases hb : (M b || decide (b = Dl)) with
      | false => rfl
      | true => rw [hid_t hb] at z; cases z
    rw [hid_f hb] at z
    rw [hid_f (Bool.or_eq_false_iff.mp hb).1]
    exact z
/-- two operands, each known by a relation -/
theorem ev_op2 {ta tb : TE} {σ : L2.St} {H : Hp} {R S : Rel} {r : R2} {z : V} (mR : MonV R) (ha : EvX ta σ H R) (hb : EvX tb σ H S) (hr : ∀ x y H1, Ex H H1 → R H1 x → S H1 y → Evl.RV r x y H1 z) : Ev (tOp r ta tb) σ H z := fun H1 e Q q =>
  (ha.mono e).run fun x H2 e2 rx => (hb.mono (e.trans e2)).run fun y H3 e3 ry => hr x y H3 ((e.trans e2).trans e3) (mR _ _ _ rx e3) ry H3 (Ex.refl _) Q fun H4 e4 => q H4 ((e2.trans e3).trans e4)
theorem rv_neD {K : PySem.W.Frag} {x y : V} {H : Hp} {d e : PyData} (hx : dR d H x) (hy : dR e H y) (sd : SeqAt.shaped d = true) (se : SeqAt.shaped e = true) : Evl.RV (rNeD K) x y H (.bl (!PyData.eqv d e)) := fun H1 e1 _ q => ⟨d, e, dp_of d (mon_dR d hx e1), dp_of e (mon_dR e hy e1), sd, se, q H1 (Ex.refl H1)⟩
theorem rv_eqD {K : PySem.W.Frag} {x y : V} {H : Hp} {d e : PyData} (hx : dR d H x) (hy : dR e H y) (sd : SeqAt.shaped d = true) (se : SeqAt.shaped e = true) : Evl.RV (rEqD K) x y H (.bl (PyData.eqv d e)) := fun H1 e1 _ q => ⟨d, e, dp_of d (mon_dR d hx e1), dp_of e (mon_dR e hy e1), sd, se, q H1 (Ex.refl H1)⟩
theorem RL_map {α : Type} {f : α → V} {xs : List α} {H : Hp} {v : V} (h : RL (xs.map fun x => RV (f x)) H v) : ∃ a, v = .ref a ∧ H a = some (.lst (xs.map f)) := by
  obtain ⟨a, ys, rfl, h1, h2⟩ := h
  have e : (xs.map fun x => RV (f x)) = (xs.map f).map RV := by rw [List.map_map]; rfl
  rw [e] at h2
  exact ⟨a, rfl, by rw [h1, h2.vals]⟩
theorem RL_mk {α : Type} {f : α → V} {xs : List α} {H : Hp} {a : Addr} (h : H a = some (.lst (xs.map f))) : RL (xs.map fun x => RV (f x)) H (.ref a) := by
  have := RL.of_vals h
  rwa [List.map_map] at this
theorem dR_ints {ns : List Int} {H : Hp} {a : Addr} (h : H a = some (.lst (ns.map V.int))) : dR (.list (ns.map PyData.int)) H (.ref a) := by
  rw [dR_list, List.map_map]
  exact RL_mk h
theorem dR_strs {ns : List Str} {H : Hp} {a : Addr} (h : H a = some (.lst (ns.map V.str))) : dR (.list (ns.map PyData.str)) H (.ref a) := by
  rw [dR_list, List.map_map]
  exact RL_mk h
/-- a call's result, where what is left matters no more -/
theorem x_ls {ta : TA} {σ : L2.St} {H : Hp} {vs : List V} (h : EvA ta σ H vs) (hl : vs.length ≤ 100000) : EvX (tLst ta) σ H (RL (vs.map RV)) := x_lst (MonA.map fun _ _ => mon_RV) (x_args h) (by rw [List.length_map]; exact hl)
/-! within a comprehension: the written part by its own name -/
section
variable {X : Cx} {K : PySem.W.Frag}
theorem callR_K {f : Value} {r : PySem.W.Frag → List V → Hp → VK → Prop} (hK : X.K = K) (h : CallR X f (r X.K)) : CallR X f (r K) := by
  subst hK
  exact h
theorem opR_K {g : Value → Value → Sem Value} {r : PySem.W.Frag → R2} (hK : X.K = K) (h : OpR X g (r X.K)) : OpR X g (r K) := by
  subst hK
  exact h
theorem ixR_K {r : PySem.W.Frag → R2} (hK : X.K = K) (h : IxR X (r X.K)) : IxR X (r K) := by
  subst hK
  exact h
theorem slR_K {r : PySem.W.Frag → V → Option Int → Option Int → Hp → VK → Prop} (hK : X.K = K) (h : SlR X (r X.K)) : SlR X (r K) := by
  subst hK
  exact h
theorem unR_K {f : Value → Sem Value} {r : PySem.W.Frag → V → Hp → VK → Prop} (hK : X.K = K) (h : UnR X f (r X.K)) : UnR X f (r K) := by
  subst hK
  exact h
end
end Rx
set_option Elab.async false
set_option linter.all false
set_option maxRecDepth 100000
set_option maxHeartbeats 4000000
/-! min(xs, key=len), xs a list of lists -/
namespace RkM
open PySem PyProof.Rows
section
variable {prog : Program} {w : World} {A : Around} {E : Value → Shared → Prop} {s : Shared}
theorem min_len {l : Addr} {its : List Value} {kf : Nat → Nat} {Q : Value → Shared → Prop} (hh : A.handled = none) (hl : s.heap.IsList l its.toArray) (hne : 0 < its.length)
    (hi : ∀ i v, its[i]? = some v → ∃ b ys, v = .ref b ∧ s.heap.IsList b ys ∧ ys.size = kf i ∧ (ys.size : Int) < 2 ^ 63)
    (h : ∀ v h' tk, its[argBest (fun i j => decide (((kf i : Nat) : Int) < ((kf j : Nat) : Int))) (its.length - 1)]? = some v → (∀ b o, s.heap.get? b = some o → h'.get? b = some o) → Q v { s with heap := h', toks := tk }) :
    wpAny (model prog w) A (call (.builtin "min") [.ref l] [(Str.ofString "key", .builtin "len")]) Q E s := by
  refine call_min_walkKB (wpAny_pyIter_list hl ?_)
  obtain ⟨ol, hol, hoc, n0, hod⟩ := id hl
  have hll : l < s.heap.objs.size := Heap.lt_size hol
  have hlI : l ≠ s.heap.objs.size := Nat.ne_of_lt hll
  have W := (Walks.list (prog := prog) (w := w) (A := A.in1) hh s.heap.objs.size l hlI its.toArray).toS
  have hs2 : (s.heap.push { cls := .type "list_iterator", data := .fields #[.ref l, .int 0 0] }).objs.size = s.heap.objs.size + 1 := size_push' ..
  have J0 : ∀ b o, s.heap.get? b = some o → (s.heap.push { cls := .type "list_iterator", data := .fields #[.ref l, .int 0 0] }).get? b = some o := fun b o e => Heap.get?_push_of_some _ e
  have hsz : its.toArray.size = its.length := List.size_toArray ..
  refine ⟨s.heap.objs.size, _, _, _, _, _, _, fun s' => ∃ h' tk, s' = { s with heap := h', toks := tk } ∧ ∀ b o, s.heap.get? b = some o → h'.get? b = some o, fun i k _ => ∃ t, k = .int ((kf i : Nat) : Int) t, fun i j => decide (((kf i : Nat) : Int) < ((kf j : Nat) : Int)), rfl, W,
    ⟨⟨_, Heap.get?_push_size _ rfl, rfl, rfl⟩, ⟨ol, J0 _ _ hol, hoc, n0, hod⟩⟩, ?_, by rw [hsz]; exact hne, ?_, ⟨_, s.toks, rfl, J0⟩, ?_⟩
  · intro b hb
    rw [hs2]
    simp at hb
    rcases hb with rfl | rfl
    · exact Nat.lt_succ_self _
    · exact Nat.lt_succ_of_lt hll
  · refine ⟨?_, fun i k s1 s2 hv _ => hv, ?_, ?_⟩
    · rintro s1 s2 ⟨h1, t1, rfl, k1⟩ mv
      obtain ⟨hp2, g2, d2, t2, o2⟩ := s2
      have e1 := mv.gens
      have e2 := mv.drawn
      have e3 := mv.os
      dsimp only at e1 e2 e3
      subst e1
      subst e2
      subst e3
      refine ⟨hp2, t2, rfl, fun b o e => mv.heap b o ?_ (k1 b o e)⟩
      intro hb
      have hlt : b < s.heap.objs.size := Heap.lt_size e
      rcases List.mem_cons.mp hb with hb | hb
      · rw [hs2] at hb
        exact absurd hlt (by rw [hb]; exact Nat.not_lt.mpr (Nat.le_succ _))
      · rw [List.mem_singleton.mp hb] at hlt
        exact absurd hlt (Nat.lt_irrefl _)
    · rintro i v s1 o Q1 E1 hin hP ⟨h1, t1, rfl, k1⟩ hst hS hq
      have hv : its[i]? = some v := by simpa using hP
      obtain ⟨b, ys, rfl, hb, hy, hy63⟩ := hi i v hv
      obtain ⟨ob, hob, hbc, nb, hbd⟩ := id hb
      refine PySem.Calls.call_len_list (items := ys) ⟨ob, k1 _ _ hob, hbc, nb, hbd⟩ hy63 ?_
      exact hq _ _ ⟨h1, _, rfl, k1⟩ hst hS ⟨_, by rw [hy]⟩ fun j k' z => z
    · intro i j ki kj s1 Q1 E1 _ hi1 hj1 hq
      obtain ⟨t, rfl⟩ := hi1
      obtain ⟨u, rfl⟩ := hj1
      exact CmpOf.ints_lt (prog := prog) (w := w) (A := A.in1) (P := fun i v => ∃ t, v = .int ((kf i : Nat) : Int) t) (fun i => ((kf i : Nat) : Int)) (fun i v h => h) i j _ _ _ _ _ ⟨t, rfl⟩ ⟨u, rfl⟩ hq
  · rintro v s' hP ⟨h', tk, rfl, k'⟩
    refine h v h' tk ?_ k'
    rw [hsz] at hP
    simpa using hP
end
end RkM
namespace L2
open PySem PySem.Spec PyProof.Rows
section
variable {X : Cx}
/-- the place of the first of the least -/
def atMin (ks : List Nat) : Nat := argBest (fun i j => decide (((ks.getD i 0 : Nat) : Int) < ((ks.getD j 0 : Nat) : Int))) (ks.length - 1)
/-- as: the lists' places, xss their items -/
def tMinLen (K : PySem.W.Frag) (ta : TA) : TE := fun σ H Q => ta σ H fun vs H1 => ∃ (a : Addr) (bs : List Addr) (ks : List Nat), vs = [.ref a] ∧ SqL K H1 a (bs.map V.ref) ∧ bs ≠ [] ∧ ks.length = bs.length ∧ (∀ i b, bs[i]? = some b → ∃ ys, SqL K H1 b ys ∧ ys.length = ks.getD i 0) ∧ Q (.ref (bs.getD (atMin ks) 0)) H1
theorem vals_refs : ∀ {bs : List Addr} {its : List Value}, Vals (bs.map V.ref) its → its = bs.map Value.ref
  | [], _, .nil => rfl
  | b :: bs, _, .cons r rs => by
    rw [show (b :: bs).map Value.ref = Value.ref b :: bs.map Value.ref from rfl, ← vals_refs rs]
    cases (show _ = Value.ref b from r)
    rfl
theorem atMin_lt {ks : List Nat} (h : ks ≠ []) : atMin ks < ks.length := by
  have h1 := (argBest_lt (fun i => ((ks.getD i 0 : Nat) : Int)) (ks.length - 1)).1
  have h2 : 0 < ks.length := List.length_pos_iff.mpr h
  show argBest _ _ < _
  omega
theorem atMin_le {ks : List Nat} {j : Nat} (hj : j < ks.length) : ks.getD (atMin ks) 0 ≤ ks.getD j 0 := by
  have h2 := (argBest_lt (fun i => ((ks.getD i 0 : Nat) : Int)) (ks.length - 1)).2 j (by omega)
  have h3 : ((ks.getD (atMin ks) 0 : Nat) : Int) ≤ ((ks.getD j 0 : Nat) : Int) := h2
  omega
theorem pe_minLen {e : Expr} {ta : TA} {p p2 p3 pos : Pos} (hc : X.calm = true) (hg : Gl X "min") (hm : X.mg "min" = none) (hg2 : Gl X "len") (hm2 : X.mg "len" = none) (ha : PA X (e :: []) ta)
    (he1 : backTo pos (starEach (e :: []) X.env) = (false, eval e X.env) :: backTo pos (starEach [] X.env) := by rfl) (hpl : (backTo pos (starEach (e :: []) X.env)).any (·.1) = false := by rfl)
    (hall : (backToKw pos (keywordEach [⟨some "key", .Name "len" p2, p3⟩] X.env)).all (·.1.isSome) = true := by rfl) (hnone : (backToKw pos (keywordEach [⟨some "key", .Name "len" p2, p3⟩] X.env)).any (·.1.isNone) = false := by rfl) :
    PE X (.Call (.Name "min" p) [e] [⟨some "key", .Name "len" p2, p3⟩] pos) (tMinLen X.K ta) := by
  refine ⟨fun pins s σ H Q I h => ?_⟩
  refine wpAny_Call_Name_kw (ld_blt I hg hm (by decide +kernel : bootBuiltins "min" = some (.builtin "min")) ?_ (by decide) (by decide))
  refine PyProof.Rows.callWith_kw (thn (ha.run pos pins _ σ H _ I h) fun us s1 ⟨vs, H1, I1, r1, q1⟩ => ?_) he1 hpl hall hnone
  refine wpAny_evalAll_cons (wpAny_bind (ld_blt I1 hg2 hm2 PySem.boot_len ?_ (by decide) (by decide)))
  refine wpAny_bind (wpAny_standAt (wpAny_pure ?_))
  refine wpAny_evalAll_nil ?_
  obtain ⟨a, bs, ks, rfl, hs, hne, hkl, hk, q⟩ := q1
  obtain ⟨its, rv, hl, hz⟩ := I1.list hs
  rw [Vals.ref1 r1]
  have ei := vals_refs rv
  subst ei
  have hn := line63
  have hs63 : sizeLine = 16777216 := sizeLine_eq
  have hlen : (bs.map Value.ref).length = bs.length := List.length_map _
  refine RkM.min_len (kf := fun i => ks.getD i 0) (I1.ok.hd hc) hl.isList (by rw [hlen]; exact List.length_pos_iff.mpr hne) (fun i v hi => ?_) fun v h' tk hv hkp => ?_
  · rw [List.getElem?_map] at hi
    obtain ⟨b, hb, rfl⟩ := Option.map_eq_some_iff.mp hi
    obtain ⟨ys, hy, hyl⟩ := hk i b hb
    obtain ⟨its2, rv2, hl2, hz2⟩ := I1.list hy
    refine ⟨b, _, rfl, hl2.isList, ?_, ?_⟩
    · rw [List.size_toArray, ← rv2.length, hyl]
    · rw [List.size_toArray]
      have e2 := rv2.length
      have e3 := hyl
      omega
  · have e : argBest (fun i j => decide (((ks.getD i 0 : Nat) : Int) < ((ks.getD j 0 : Nat) : Int))) ((bs.map Value.ref).length - 1) = atMin ks := by rw [hlen, ← hkl]; rfl
    have hv2 : (bs.map Value.ref)[atMin ks]? = some v := by rw [← e]; exact hv
    rw [List.getElem?_map] at hv2
    obtain ⟨b, hb, rfl⟩ := Option.map_eq_some_iff.mp hv2
    refine ⟨.ref b, H1, I1.kept hkp, rfl, ?_⟩
    rw [List.getD_eq_getElem?_getD, hb] at q
    exact q
end
end L2
set_option Elab.async false
set_option linter.all false
set_option maxRecDepth 100000
set_option maxHeartbeats 4000000
/-! the mathematics of counts: the fewest leaves that make so many ends low -/
namespace Rk
open PySem L2 RkO
section
variable {α : Type} (op : α → α → α)
def sums1 (a : α) (i : Nat) : List α → Nat → List (List α) → List (List α)
  | [], _, F => F
  | b :: bs, k, F => sums1 a i bs (k + 1) (F.modify (i + k) (· ++ [op a b]))
def sums (B : List α) : List α → Nat → List (List α) → List (List α)
  | [], _, F => F
  | a :: as, i, F => sums B as (i + 1) (sums1 op a i B 0 F)
def sumsBy (A B : List α) : List (List α) := sums op B A 0 (List.replicate (A.length + B.length - 1) [])
theorem sums1_len (a : α) (i : Nat) : ∀ (B : List α) (k : Nat) (F : List (List α)), (sums1 op a i B k F).length = F.length
  | [], _, _ => rfl
  | b :: bs, k, F => by
    show (sums1 op a i bs (k + 1) _).length = _
    rw [sums1_len a i bs]
    exact List.length_modify _ _ _
theorem sums_len (B : List α) : ∀ (A : List α) (i : Nat) (F : List (List α)), (sums op B A i F).length = F.length
  | [], _, _ => rfl
  | a :: as, i, F => by
    show (sums op B as (i + 1) _).length = _
    rw [sums_len B as, sums1_len]
theorem sumsBy_len (A B : List α) : (sumsBy op A B).length = A.length + B.length - 1 := by
  unfold sumsBy
  rw [sums_len, List.length_replicate]
theorem mod_mem {F : List (List α)} {p q : Nat} {x y : α} {L : List α} (h : (F.modify p (· ++ [y]))[q]? = some L) : x ∈ L ↔ (∃ M, F[q]? = some M ∧ x ∈ M) ∨ (p = q ∧ x = y) := by
  rw [List.getElem?_modify] at h
  obtain ⟨M, hM, e⟩ := Option.map_eq_some_iff.mp h
  by_cases hpq : p = q
  · rw [if_pos hpq] at e
    subst e
    rw [List.mem_append, List.mem_singleton]
    exact ⟨fun z => z.elim (fun z => .inl ⟨M, hM, z⟩) (fun z => .inr ⟨hpq, z⟩), fun z => z.elim (fun ⟨N, hN, z⟩ => by
      rw [hM] at hN
      cases hN
      exact .inl z) (fun z => .inr z.2)⟩
  · rw [if_neg hpq] at e
    cases e
    exact ⟨fun z => .inl ⟨_, hM, z⟩, fun z => z.elim (fun ⟨N, hN, z⟩ => by
      rw [hM] at hN
      cases hN
      exact z) (fun z => absurd z.1 hpq)⟩
theorem some_of_len {F G : List (List α)} {q : Nat} {L : List α} (h : G[q]? = some L) (e : G.length = F.length) : ∃ M, F[q]? = some M := by
  have := (List.getElem?_eq_some_iff.mp h).1
  exact ⟨_, List.getElem?_eq_getElem (by omega)⟩
theorem sums1_mem (a : α) (i : Nat) : ∀ (B : List α) (k : Nat) (F : List (List α)) (q : Nat) (L : List α) (x : α), (sums1 op a i B k F)[q]? = some L → (x ∈ L ↔ (∃ M, F[q]? = some M ∧ x ∈ M) ∨ ∃ j b, B[j]? = some b ∧ i + k + j = q ∧ x = op a b)
  | [], k, F, q, L, x, h => by
    have h : F[q]? = some L := h
    exact ⟨fun z => .inl ⟨L, h, z⟩, fun z => z.elim (fun ⟨M, hM, z⟩ => by
      rw [h] at hM
      cases hM
      exact z) (fun ⟨j, b, z, _⟩ => by simp at z)⟩
  | b :: bs, k, F, q, L, x, h => by
    have h : (sums1 op a i bs (k + 1) (F.modify (i + k) (· ++ [op a b])))[q]? = some L := h
    rw [sums1_mem a i bs (k + 1) _ q L x h]
    constructor
    · rintro (⟨M, hM, z⟩ | ⟨j, c, hj, e, rfl⟩)
      · rcases (mod_mem hM).mp z with z | ⟨z1, z2⟩
        · exact .inl z
        · exact .inr ⟨0, b, rfl, z1, z2⟩
      · exact .inr ⟨j + 1, c, hj, by omega, rfl⟩
    · rintro (⟨M, hM, z⟩ | ⟨j, c, hj, e, rfl⟩)
      · obtain ⟨N, hN⟩ := some_of_len (F := F.modify (i + k) (· ++ [op a b])) h (sums1_len op a i bs _ _)
        exact .inl ⟨N, hN, (mod_mem hN).mpr (.inl ⟨M, hM, z⟩)⟩
      · cases j with
        | zero =>
          cases hj
          obtain ⟨N, hN⟩ := some_of_len (F := F.modify (i + k) (· ++ [op a b])) h (sums1_len op a i bs _ _)
          exact .inl ⟨N, hN, (mod_mem hN).mpr (.inr ⟨e, rfl⟩)⟩
        | succ j => exact .inr ⟨j, c, hj, by omega, rfl⟩
theorem sums_mem (B : List α) : ∀ (A : List α) (i : Nat) (F : List (List α)) (q : Nat) (L : List α) (x : α), (sums op B A i F)[q]? = some L → (x ∈ L ↔ (∃ M, F[q]? = some M ∧ x ∈ M) ∨ ∃ m a j b, A[m]? = some a ∧ B[j]? = some b ∧ i + m + j = q ∧ x = op a b)
  | [], i, F, q, L, x, h => by
    have h : F[q]? = some L := h
    exact ⟨fun z => .inl ⟨L, h, z⟩, fun z => z.elim (fun ⟨M, hM, z⟩ => by
      rw [h] at hM
      cases hM
      exact z) (fun ⟨m, a, j, b, z, _⟩ => by simp at z)⟩
  | a :: as, i, F, q, L, x, h => by
    have h : (sums op B as (i + 1) (sums1 op a i B 0 F))[q]? = some L := h
    rw [sums_mem B as (i + 1) _ q L x h]
    constructor
    · rintro (⟨M, hM, z⟩ | ⟨m, c, j, b, h1, h2, e, rfl⟩)
      · rcases (sums1_mem op a i B 0 F q M x hM).mp z with z | ⟨j, b, h2, e, rfl⟩
        · exact .inl z
        · exact .inr ⟨0, a, j, b, rfl, h2, by omega, rfl⟩
      · exact .inr ⟨m + 1, c, j, b, h1, h2, by omega, rfl⟩
    · obtain ⟨N, hN⟩ := some_of_len (F := sums1 op a i B 0 F) h (sums_len op B as _ _)
      rintro (z | ⟨m, c, j, b, h1, h2, e, rfl⟩)
      · exact .inl ⟨N, hN, (sums1_mem op a i B 0 F q N x hN).mpr (.inl z)⟩
      · cases m with
        | zero =>
          cases h1
          exact .inl ⟨N, hN, (sums1_mem op a i B 0 F q N _ hN).mpr (.inr ⟨j, b, h2, by omega, rfl⟩)⟩
        | succ m => exact .inr ⟨m, c, j, b, h1, h2, by omega, rfl⟩
theorem sumsBy_mem {A B : List α} {q : Nat} {L : List α} {x : α} (h : (sumsBy op A B)[q]? = some L) : x ∈ L ↔ ∃ m a j b, A[m]? = some a ∧ B[j]? = some b ∧ m + j = q ∧ x = op a b := by
  unfold sumsBy at h
  rw [sums_mem op B A 0 _ q L x h]
  constructor
  · rintro (⟨M, hM, z⟩ | ⟨m, a, j, b, h1, h2, e, rfl⟩)
    · rw [List.getElem?_replicate] at hM
      split at hM
      · cases hM
        simp at z
      · cases hM
    · exact ⟨m, a, j, b, h1, h2, by omega, rfl⟩
  · rintro ⟨m, a, j, b, h1, h2, e, rfl⟩
    exact .inr ⟨m, a, j, b, h1, h2, by omega, rfl⟩
end
/-- the first of the shortest -/
def minLen (L : List (List Str)) : List Str := L.getD (atMin (L.map List.length)) []
theorem minLen_mem {L : List (List Str)} (h : L ≠ []) : minLen L ∈ L := by
  have h1 := atMin_lt (ks := L.map List.length) (by intro z; exact h (List.map_eq_nil_iff.mp z))
  rw [List.length_map] at h1
  unfold minLen
  rw [List.getD_eq_getElem?_getD, List.getElem?_eq_getElem h1]
  exact List.getElem_mem h1
theorem minLen_le {L : List (List Str)} {x : List Str} (h : x ∈ L) : (minLen L).length ≤ x.length := by
  obtain ⟨j, hj, rfl⟩ := List.mem_iff_getElem.mp h
  have h1 := atMin_lt (ks := L.map List.length) (by intro z; rw [List.map_eq_nil_iff] at z; subst z; simp at hj)
  have h2 := atMin_le (ks := L.map List.length) (j := j) (by rw [List.length_map]; exact hj)
  rw [List.length_map] at h1
  unfold minLen
  rw [List.getD_eq_getElem?_getD, List.getElem?_eq_getElem h1]
  rw [List.getD_eq_getElem?_getD, List.getD_eq_getElem?_getD, List.getElem?_map, List.getElem?_map, List.getElem?_eq_getElem h1, List.getElem?_eq_getElem hj] at h2
  exact h2
abbrev Tab := List (List Str)
mutual
def Tr.few : Tr → Tab
  | .leaf x => [[], [x]]
  | .grp rs ps => (fewL ps [[]]).getD 0 [] :: rs.map fun r => (fewL ps [[]]).getD r.toNat []
def fewL : List Tr → Tab → Tab
  | [], T => T
  | p :: ps, T => fewL ps ((sumsBy (· ++ ·) T p.few).map minLen)
end
mutual
def Tr.fews : Tr → List Tab
  | .leaf x => [[[], [x]]]
  | .grp rs ps => ((fewL ps [[]]).getD 0 [] :: rs.map fun r => (fewL ps [[]]).getD r.toNat []) :: fewsL ps
def fewsL : List Tr → List Tab
  | [] => []
  | p :: ps => p.fews ++ fewsL ps
end
theorem fews_head (t : Tr) : t.fews[0]? = some t.few := by
  cases t with
  | leaf x => simp [Tr.fews, Tr.few]
  | grp rs ps => simp [Tr.fews, Tr.few]
theorem few_len (t : Tr) : t.few.length = t.width + 1 := by
  cases t with
  | leaf x => rfl
  | grp rs ps => simp [Tr.few, Tr.width]
theorem fewL_len : ∀ (ps : List Tr) (T : Tab), 1 ≤ T.length → (fewL ps T).length = T.length + intakeL ps
  | [], T, _ => by simp [fewL, intakeL]
  | p :: ps, T, h => by
    have e : ((sumsBy (· ++ ·) T p.few).map minLen).length = T.length + p.width := by
      rw [List.length_map, sumsBy_len, few_len]
      omega
    show (fewL ps ((sumsBy (· ++ ·) T p.few).map minLen)).length = T.length + (p.width + intakeL ps)
    rw [fewL_len ps _ (by rw [e]; omega), e]
    omega
/-- T tells for each number of low ends the fewest names of nm -/
structure Good (T : Tab) (lw : List Str → Nat) (nm : List Str) : Prop where
  sub : ∀ (j : Nat) (S : List Str), T[j]? = some S → ∀ x ∈ S, x ∈ nm
  nd : ∀ (j : Nat) (S : List Str), T[j]? = some S → S.Nodup
  lo : ∀ (j : Nat) (S : List Str), T[j]? = some S → ∀ s : List Str, (∀ x ∈ S, x ∈ s) → j ≤ lw s
  best : ∀ (j : Nat) (S : List Str), T[j]? = some S → ∀ s : List Str, j ≤ lw s → S.length ≤ (nm.filter fun x => decide (x ∈ s)).length
  top : ∀ s, lw s < T.length
theorem Good.join {A B : Tab} {la lb : List Str → Nat} {na nb : List Str} (g : Good A la na) (h : Good B lb nb) (dj : ∀ x ∈ na, x ∉ nb) : Good ((sumsBy (· ++ ·) A B).map minLen) (fun s => la s + lb s) (na ++ nb) := by
  have pick : ∀ (q : Nat) (S : List Str), ((sumsBy (· ++ ·) A B).map minLen)[q]? = some S → ∃ L, (sumsBy (· ++ ·) A B)[q]? = some L ∧ S = minLen L ∧ S ∈ L := fun q S e => by
    rw [List.getElem?_map] at e
    obtain ⟨L, hL, rfl⟩ := Option.map_eq_some_iff.mp e
    refine ⟨L, hL, rfl, minLen_mem fun z => ?_⟩
    have hq := (List.getElem?_eq_some_iff.mp hL).1
    rw [sumsBy_len] at hq
    have ha := g.top []
    have hb := h.top []
    have h1 : min q (A.length - 1) < A.length := by omega
    have h2 : q - min q (A.length - 1) < B.length := by omega
    have := (sumsBy_mem (· ++ ·) (x := A[min q (A.length - 1)] ++ B[q - min q (A.length - 1)]) hL).mpr ⟨_, _, _, _, List.getElem?_eq_getElem h1, List.getElem?_eq_getElem h2, by omega, rfl⟩
    rw [z] at this
    simp at this
  refine ⟨fun q S e x hx => ?_, fun q S e => ?_, fun q S e s hs => ?_, fun q S e s hs => ?_, fun s => ?_⟩
  · obtain ⟨L, hL, _, hm⟩ := pick q S e
    obtain ⟨m, a, j, b, h1, h2, _, rfl⟩ := (sumsBy_mem _ hL).mp hm
    rcases List.mem_append.mp hx with hx | hx
    · exact List.mem_append_left _ (g.sub _ _ h1 x hx)
    · exact List.mem_append_right _ (h.sub _ _ h2 x hx)
  · obtain ⟨L, hL, _, hm⟩ := pick q S e
    obtain ⟨m, a, j, b, h1, h2, _, rfl⟩ := (sumsBy_mem _ hL).mp hm
    refine List.nodup_append.mpr ⟨g.nd _ _ h1, h.nd _ _ h2, fun x hx y hy z => ?_⟩
    subst z
    exact dj x (g.sub _ _ h1 x hx) (h.sub _ _ h2 x hy)
  · obtain ⟨L, hL, _, hm⟩ := pick q S e
    obtain ⟨m, a, j, b, h1, h2, e2, rfl⟩ := (sumsBy_mem _ hL).mp hm
    have l1 := g.lo _ _ h1 s fun x hx => hs x (List.mem_append_left _ hx)
    have l2 := h.lo _ _ h2 s fun x hx => hs x (List.mem_append_right _ hx)
    show q ≤ la s + lb s
    omega
  · obtain ⟨L, hL, rfl, _⟩ := pick q S e
    have hs : q ≤ la s + lb s := hs
    have ta := g.top s
    have tb := h.top s
    have h1 : min q (la s) < A.length := by omega
    have h2 : q - min q (la s) < B.length := by omega
    have hm := (sumsBy_mem (· ++ ·) (x := A[min q (la s)] ++ B[q - min q (la s)]) hL).mpr ⟨_, _, _, _, List.getElem?_eq_getElem h1, List.getElem?_eq_getElem h2, by omega, rfl⟩
    have l := minLen_le hm
    rw [List.length_append] at l
    have b1 := g.best _ _ (List.getElem?_eq_getElem h1) s (by omega)
    have b2 := h.best _ _ (List.getElem?_eq_getElem h2) s (by omega)
    rw [List.filter_append, List.length_append]
    omega
  · rw [List.length_map, sumsBy_len]
    have ta := g.top s
    have tb := h.top s
    show la s + lb s < _
    omega
theorem count_ge {l : Int} : ∀ {rs : List Int}, Asc rs → ∀ {j : Nat} {r : Int}, rs[j]? = some r → (j + 1 ≤ (rs.filter fun q => decide (q ≤ l)).length ↔ r ≤ l)
  | [], _, j, r, h => by simp at h
  | q :: rs, ha, 0, r, h => by
    have h : q = r := Option.some.inj h
    subst h
    constructor
    · intro z
      by_cases c : q ≤ l
      · exact c
      · have e : (rs.filter fun q => decide (q ≤ l)) = [] := List.filter_eq_nil_iff.mpr fun y hy z => c (by
          have := List.rel_of_pairwise_cons ha hy
          have := of_decide_eq_true z
          omega)
        rw [List.filter_cons, if_neg (by rw [decide_eq_false c]; decide), e] at z
        simp at z
    · intro c
      rw [List.filter_cons, if_pos (decide_eq_true c), List.length_cons]
      omega
  | q :: rs, ha, j + 1, r, h => by
    have h : rs[j]? = some r := h
    have ih := count_ge (l := l) (List.Pairwise.of_cons ha) h
    have hq := List.rel_of_pairwise_cons ha (List.mem_of_getElem? h)
    by_cases c : q ≤ l
    · rw [List.filter_cons, if_pos (decide_eq_true c), List.length_cons]
      omega
    · have e : (rs.filter fun q => decide (q ≤ l)) = [] := List.filter_eq_nil_iff.mpr fun y hy z => c (by
        have := List.rel_of_pairwise_cons ha hy
        have := of_decide_eq_true z
        omega)
      rw [List.filter_cons, if_neg (by rw [decide_eq_false c]; decide), e]
      constructor
      · intro z
        simp at z
      · intro z
        omega
theorem good_nil : Good [[]] (fun _ => 0) [] := by
  refine ⟨fun j S e => ?_, fun j S e => ?_, fun j S e s _ => ?_, fun j S e s _ => ?_, fun s => by simp⟩ <;> cases j with
  | zero =>
    have e : [] = S := Option.some.inj e
    subst e
    first | (intro x hx; simp at hx; done) | exact List.nodup_nil | exact Nat.zero_le _
  | succ j => simp at e
mutual
theorem good_few : ∀ {t : Tr}, Ok t → Good t.few (fun s => t.low s) t.names
  | .leaf x, _ => by
    refine ⟨fun j S e => ?_, fun j S e => ?_, fun j S e s hs => ?_, fun j S e s hs => ?_, fun s => ?_⟩
    · match j, e with
      | 0, e =>
        have e : [] = S := Option.some.inj e
        subst e
        intro y hy
        simp at hy
      | 1, e =>
        have e : [x] = S := Option.some.inj e
        subst e
        exact fun y hy => hy
      | j + 2, e => simp [Tr.few] at e
    · match j, e with
      | 0, e =>
        have e : [] = S := Option.some.inj e
        subst e
        exact List.nodup_nil
      | 1, e =>
        have e : [x] = S := Option.some.inj e
        subst e
        simp
      | j + 2, e => simp [Tr.few] at e
    · match j, e with
      | 0, e => exact Nat.zero_le _
      | 1, e =>
        have e : [x] = S := Option.some.inj e
        subst e
        show 1 ≤ if x ∈ s then 1 else 0
        rw [if_pos (hs x (List.mem_singleton.mpr rfl))]
        exact Nat.le_refl _
      | j + 2, e => simp [Tr.few] at e
    · match j, e with
      | 0, e =>
        have e : [] = S := Option.some.inj e
        subst e
        exact Nat.zero_le _
      | 1, e =>
        have e : [x] = S := Option.some.inj e
        subst e
        have hs : 1 ≤ if x ∈ s then 1 else 0 := hs
        by_cases c : x ∈ s
        · show 1 ≤ ([x].filter _).length
          rw [List.filter_cons, if_pos (decide_eq_true c)]
          exact Nat.succ_le_succ (Nat.zero_le _)
        · rw [if_neg c] at hs
          omega
      | j + 2, e => simp [Tr.few] at e
    · show (if x ∈ s then 1 else 0) < 2
      split <;> omega
  | .grp rs ps, h => by
    have hasc : Asc rs := by cases h with | grp _ _ _ _ h5 _ => exact h5
    have hb : ∀ r ∈ rs, 1 ≤ r ∧ r ≤ (intakeL ps : Int) := by cases h with | grp _ _ _ _ _ h6 => exact h6
    have g : Good (fewL ps [[]]) (fun s => 0 + lowL s ps) ([] ++ namesL ps) := by
      cases h with
      | grp oks _ ndn _ _ _ => exact good_fewL oks good_nil (fun x hx => by simp at hx) ndn
    rw [List.nil_append] at g
    have gl : (fewL ps [[]]).length = 1 + intakeL ps := fewL_len ps [[]] (Nat.le_refl _)
    have at_ : ∀ r ∈ rs, (fewL ps [[]])[r.toNat]? = some ((fewL ps [[]]).getD r.toNat []) := fun r hr => by
      have := hb r hr
      rw [List.getD_eq_getElem?_getD, List.getElem?_eq_getElem (by rw [gl]; omega)]
      rfl
    have at0 : (fewL ps [[]])[0]? = some ((fewL ps [[]]).getD 0 []) := by
      rw [List.getD_eq_getElem?_getD, List.getElem?_eq_getElem (by rw [gl]; omega)]
      rfl
    have cs : ∀ (j : Nat) (S : List Str), (Tr.grp rs ps).few[j]? = some S → (j = 0 ∧ (fewL ps [[]])[0]? = some S) ∨ ∃ i r, j = i + 1 ∧ rs[i]? = some r ∧ (fewL ps [[]])[r.toNat]? = some S := fun j S e => by
      cases j with
      | zero =>
        have e : (fewL ps [[]]).getD 0 [] = S := Option.some.inj e
        exact .inl ⟨rfl, by rw [← e]; exact at0⟩
      | succ i =>
        have e : (rs.map fun r => (fewL ps [[]]).getD r.toNat [])[i]? = some S := e
        rw [List.getElem?_map] at e
        obtain ⟨r, hr, e⟩ := Option.map_eq_some_iff.mp e
        exact .inr ⟨i, r, rfl, hr, by rw [← e]; exact at_ r (List.mem_of_getElem? hr)⟩
    refine ⟨fun j S e => ?_, fun j S e => ?_, fun j S e s hs => ?_, fun j S e s hs => ?_, fun s => ?_⟩
    · rcases cs j S e with ⟨_, e⟩ | ⟨i, r, _, _, e⟩ <;> exact g.sub _ _ e
    · rcases cs j S e with ⟨_, e⟩ | ⟨i, r, _, _, e⟩ <;> exact g.nd _ _ e
    · rcases cs j S e with ⟨rfl, _⟩ | ⟨i, r, rfl, hr, e0⟩
      · exact Nat.zero_le _
      · have := g.lo _ _ e0 s hs
        have hb2 := hb r (List.mem_of_getElem? hr)
        exact (count_ge hasc hr).mpr (by omega)
    · rcases cs j S e with ⟨rfl, e0⟩ | ⟨i, r, rfl, hr, e0⟩
      · exact g.best _ _ e0 s (Nat.zero_le _)
      · have := (count_ge hasc hr).mp (show i + 1 ≤ (rs.filter fun q => decide (q ≤ (lowL s ps : Int))).length from hs)
        exact g.best _ _ e0 s (by show r.toNat ≤ 0 + lowL s ps; omega)
    · show (rs.filter _).length < _
      rw [few_len]
      have := List.length_filter_le (fun q => decide (q ≤ (lowL s ps : Int))) rs
      show _ < rs.length + 1
      omega
theorem good_fewL : ∀ {ps : List Tr} {T : Tab} {lw : List Str → Nat} {nm : List Str}, (∀ t ∈ ps, Ok t) → Good T lw nm → (∀ x ∈ nm, x ∉ namesL ps) → (namesL ps).Nodup → Good (fewL ps T) (fun s => lw s + lowL s ps) (nm ++ namesL ps)
  | [], T, lw, nm, _, g, _, _ => by
    rw [show nm ++ namesL [] = nm from List.append_nil _]
    exact g
  | p :: ps, T, lw, nm, oks, g, dj, nd => by
    have nd : (p.names ++ namesL ps).Nodup := nd
    obtain ⟨nd1, nd2, nd3⟩ := List.nodup_append.mp nd
    have g1 := g.join (good_few (oks p (List.mem_cons_self ..))) fun x hx z => dj x hx (List.mem_append_left _ z)
    have g2 := good_fewL (fun t ht => oks t (List.mem_cons_of_mem _ ht)) g1 (fun x hx z => by
      rcases List.mem_append.mp hx with hx | hx
      · exact dj x hx (List.mem_append_right _ z)
      · exact nd3 x hx x z rfl) nd2
    have e1 : (fun s => lw s + p.low s + lowL s ps) = fun s => lw s + lowL s (p :: ps) := by
      funext s
      show lw s + p.low s + lowL s ps = lw s + (p.low s + lowL s ps)
      omega
    have e2 : nm ++ p.names ++ namesL ps = nm ++ namesL (p :: ps) := by
      rw [List.append_assoc]
      rfl
    rw [← e1, ← e2]
    exact g2
end

def setsOf : List Str → List (List Str) → List (List Str)
  | [], F => F
  | x :: xs, F => setsOf xs (F ++ F.map (· ++ [x]))
theorem mem_sets : ∀ (xs : List Str) (F : List (List Str)) (s : List Str), s ∈ setsOf xs F ↔ ∃ u ∈ F, ∃ v : List Str, List.Sublist v xs ∧ s = u ++ v
  | [], F, s => ⟨fun h => ⟨s, h, [], List.nil_sublist _, (List.append_nil _).symm⟩, fun ⟨u, hu, v, hv, e⟩ => by
    rw [List.sublist_nil.mp hv, List.append_nil] at e
    rw [e]
    exact hu⟩
  | x :: xs, F, s => by
    show s ∈ setsOf xs (F ++ F.map (· ++ [x])) ↔ _
    rw [mem_sets xs]
    constructor
    · rintro ⟨u, hu, v, hv, rfl⟩
      rcases List.mem_append.mp hu with hu | hu
      · exact ⟨u, hu, v, List.Sublist.cons _ hv, rfl⟩
      · obtain ⟨u0, hu0, rfl⟩ := List.mem_map.mp hu
        exact ⟨u0, hu0, x :: v, List.Sublist.cons_cons _ hv, by simp⟩
    · rintro ⟨u, hu, v, hv, rfl⟩
      cases hv with
      | cons _ h => exact ⟨u, List.mem_append_left _ hu, v, h, rfl⟩
      | @cons_cons v' _ _ h => exact ⟨u ++ [x], List.mem_append_right _ (List.mem_map.mpr ⟨u, hu, rfl⟩), v', h, by simp⟩
theorem mem_sets1 {xs s : List Str} : s ∈ setsOf xs [[]] ↔ List.Sublist s xs := by
  rw [mem_sets]
  constructor
  · rintro ⟨u, hu, v, hv, rfl⟩
    rw [List.mem_singleton.mp hu]
    exact hv
  · intro h
    exact ⟨[], List.mem_singleton.mpr rfl, s, h, rfl⟩
theorem sets_len : ∀ (xs : List Str) (F : List (List Str)), (setsOf xs F).length = F.length * 2 ^ xs.length
  | [], F => by simp [setsOf]
  | x :: xs, F => by
    show (setsOf xs (F ++ F.map (· ++ [x]))).length = _
    rw [sets_len xs, List.length_append, List.length_map, List.length_cons, Nat.pow_succ]
    have : (F.length + F.length) * 2 ^ xs.length = F.length * (2 ^ xs.length * 2) := by
      rw [← Nat.two_mul, Nat.mul_assoc, Nat.mul_left_comm, Nat.mul_comm 2]
    exact this
theorem filt_self {xs s : List Str} (nd : xs.Nodup) (h : List.Sublist s xs) : (xs.filter fun x => decide (x ∈ s)) = s := by
  induction h with
  | slnil => rfl
  | @cons s xs x h ih =>
    have nx : x ∉ s := fun z => (List.nodup_cons.mp nd).1 (h.subset z)
    rw [List.filter_cons, if_neg (by rw [decide_eq_false nx]; decide)]
    exact ih (List.nodup_cons.mp nd).2
  | @cons_cons s xs x h ih =>
    have nx := (List.nodup_cons.mp nd).1
    rw [List.filter_cons, if_pos (by simp)]
    refine congrArg (List.cons x) ?_
    refine Eq.trans (List.filter_congr fun y hy => ?_) (ih (List.nodup_cons.mp nd).2)
    refine decide_eq_decide.mpr ⟨fun z => ?_, fun z => List.mem_cons_of_mem _ z⟩
    rcases List.mem_cons.mp z with z | z
    · exact absurd (by rw [← z]; exact hy) nx
    · exact z
theorem filt_len {xs S : List Str} (nd : xs.Nodup) (ns : S.Nodup) (h : ∀ x ∈ S, x ∈ xs) : (xs.filter fun x => decide (x ∈ S)).length = S.length := by
  refine List.Perm.length_eq ((List.perm_ext_iff_of_nodup (nd.filter _) ns).mpr fun x => ?_)
  rw [List.mem_filter, decide_eq_true_iff]
  exact ⟨fun z => z.2, fun z => ⟨h x z, z⟩⟩
def Tr.lr (t : Tr) (k : Nat) : Nat := (t.few.getD k []).length
theorem few_at {t : Tr} {k : Nat} (h : k ≤ t.width) : t.few[k]? = some (t.few.getD k []) := by
  rw [List.getD_eq_getElem?_getD, List.getElem?_eq_getElem (by rw [few_len]; omega)]
  rfl
theorem least_ex {t : Tr} (h : Ok t) (nd : t.names.Nodup) {k : Nat} (hk : k ≤ t.width) : ∃ s, s ∈ setsOf t.names [[]] ∧ k ≤ t.low s ∧ s.length = t.lr k := by
  have g := good_few h
  have e := few_at hk
  refine ⟨t.names.filter fun x => decide (x ∈ t.few.getD k []), mem_sets1.mpr List.filter_sublist, g.lo _ _ e _ fun x hx => List.mem_filter.mpr ⟨g.sub _ _ e x hx, decide_eq_true hx⟩, ?_⟩
  exact filt_len nd (g.nd _ _ e) (g.sub _ _ e)
theorem least_le {t : Tr} (h : Ok t) (nd : t.names.Nodup) {k : Nat} (hk : k ≤ t.width) {s : List Str} (hs : s ∈ setsOf t.names [[]]) (hl : k ≤ t.low s) : t.lr k ≤ s.length := by
  have g := good_few h
  have := g.best _ _ (few_at hk) s hl
  rw [filt_self nd (mem_sets1.mp hs)] at this
  exact this
theorem compl_len (xs s : List Str) : (xs.filter fun x => decide (x ∈ s)).length + (xs.filter fun x => decide (x ∉ s)).length = xs.length := by
  induction xs with
  | nil => rfl
  | cons x xs ih =>
    rw [List.filter_cons, List.filter_cons]
    by_cases c : x ∈ s
    · rw [if_pos (decide_eq_true c), if_neg (by simpa using c), List.length_cons, List.length_cons]
      omega
    · rw [if_neg (by simpa using c), if_pos (decide_eq_true c), List.length_cons, List.length_cons]
      omega
theorem great_le {t : Tr} (h : Ok t) (nd : t.names.Nodup) {k : Nat} (h1 : 1 ≤ k) (hk : k ≤ t.width) {s : List Str} (hs : s ∈ setsOf t.names [[]]) (hl : t.low s < k) : s.length + t.mirror.lr (t.width + 1 - k) ≤ t.names.length := by
  have g := good_few h.mirror
  have e := few_at (t := t.mirror) (k := t.width + 1 - k) (by rw [mirror_width]; omega)
  have tu := low_turn (t.names.filter fun x => decide (x ∉ s)) s t fun x hx => by
    rw [List.mem_filter, decide_eq_true_iff]
    exact ⟨fun z y => y.2 z, fun z => Classical.byContradiction fun y => z ⟨hx, y⟩⟩
  have b := g.best _ _ e (t.names.filter fun x => decide (x ∉ s)) (by show _ ≤ t.mirror.low _; omega)
  rw [mirror_names] at b
  have c := compl_len t.names s
  rw [filt_self nd (mem_sets1.mp hs)] at c
  have d : (t.names.filter fun x => decide (x ∈ t.names.filter fun y => decide (y ∉ s))).length = (t.names.filter fun x => decide (x ∉ s)).length := by
    rw [filt_self nd List.filter_sublist]
  rw [d] at b
  show s.length + (t.mirror.few.getD (t.width + 1 - k) []).length ≤ _
  omega
theorem great_ex {t : Tr} (h : Ok t) (nd : t.names.Nodup) {k : Nat} (h1 : 1 ≤ k) (hk : k ≤ t.width) : ∃ s, s ∈ setsOf t.names [[]] ∧ t.low s < k ∧ s.length + t.mirror.lr (t.width + 1 - k) = t.names.length := by
  have g := good_few h.mirror
  have e := few_at (t := t.mirror) (k := t.width + 1 - k) (by rw [mirror_width]; omega)
  have hsub := g.sub _ _ e
  have hnd := g.nd _ _ e
  rw [mirror_names] at hsub
  refine ⟨t.names.filter fun x => decide (x ∉ t.mirror.few.getD (t.width + 1 - k) []), mem_sets1.mpr List.filter_sublist, ?_, ?_⟩
  · have lo := g.lo _ _ e (t.mirror.few.getD (t.width + 1 - k) []) fun x hx => hx
    have tu := low_turn (t.mirror.few.getD (t.width + 1 - k) []) (t.names.filter fun x => decide (x ∉ t.mirror.few.getD (t.width + 1 - k) [])) t fun x hx => by
      rw [List.mem_filter, decide_eq_true_iff]
      exact ⟨fun z => z.2, fun z => ⟨hx, z⟩⟩
    have lo : t.width + 1 - k ≤ t.mirror.low (t.mirror.few.getD (t.width + 1 - k) []) := lo
    omega
  · have c := compl_len t.names (t.mirror.few.getD (t.width + 1 - k) [])
    rw [filt_len nd hnd hsub] at c
    show _ + (t.mirror.few.getD (t.width + 1 - k) []).length = _
    omega
end Rk
set_option Elab.async false
set_option linter.all false
set_option maxRecDepth 100000
set_option maxHeartbeats 4000000
namespace Rk
open PySem PySem.Spec PyProof.Rows L2 RkO Rx
open Evl (Ev EvT EvA EvL EvU EvO Ex RC RCL SpV SpL)
section
variable {P : Program} {w : World} {K : PySem.W.Frag} {mg : Str → Option Value} {base : Heap}
theorem int_whole {K : PySem.W.Frag} {H : Hp} {j : Int} {Q : VK} {E : XK} (q : Q (.bl true) H) : spIsWhole K [.int j] H Q E := ⟨_, _, true, false, rfl, .base (.int j), (show PySem.W.kitOne _ (.type "int") (.type "int") = some true by rfl), fun _ => kit_ty (by decide +kernel), q⟩
def spIsEnd (cL cG : Addr) : Sp := fun vs H Q _ => ∃ (v : V) (t : Tr) (j : Int), vs = [v, .int j] ∧ TAt cL cG H v t ∧ ∀ H', Same H H' → Q (.bl (decide (1 ≤ j) && decide (j ≤ (t.width : Int)))) H'
theorem ok_is_end (T : Txt K mg) : FnOk P w K mg base CX0 3 T.f_is_end T.d_is_end ["tree", "j"] (spIsEnd T.a_Leaf T.a_Group) := by
  refine T.F_is_end.ok sc_is_end (fun vs H Q E h => ?_) (fun cdv A outer s H vs Q E hr h => ?_)
  · obtain ⟨_, _, _, rfl, _⟩ := h
    rfl
  obtain ⟨v, t, j, rfl, ht, q⟩ := h
  refine ⟨_, (pss_one (ps_ret (pe_and (pe_call (ok_is_whole T) (hr.mono (by decide)) rfl T.m_is_whole T.F_is_whole.kp T.b_is_whole .nil pass0 (pa_cons (pv 1) pa_nil)) (pe_one (pe_chain op_le op_le pe_int (pv 1) (pe_width (T := T) rfl (pv 0) (ok_Leaf_width T) (ok_Group_width T) (hr.mono (by decide)) rfl)))))), ?_⟩
  refine Evl.s_ret (v := .bl (decide (1 ≤ j) && decide (j ≤ (t.width : Int)))) ?_ fun H1 e1 => q H1 e1
  refine Evl.ev_is (ev_andB (a := true) (Evl.ev_call (Evl.ea_cons (Evl.ev_var rfl) Evl.ea_nil) fun H2 e2 Q q E => int_whole (q H2 (Ex.refl H2))) fun _ => ev_chain (b := decide (1 ≤ j)) (c := decide (j ≤ (t.width : Int))) Evl.ev_c (Evl.ev_var rfl) Evl.rv_I0 (fun _ => rd_width (Evl.ev_var rfl) ht) (fun _ => Evl.rv_I0)) ?_
  simp
end
end Rk
set_option Elab.async false
set_option linter.all false
set_option maxRecDepth 100000
set_option maxHeartbeats 4000000
namespace Rk
open PySem PySem.Spec PyProof.Rows L2 RkO Rx
open Evl (Ev EvT EvA EvL EvU EvO Ex RC RCL SpV SpL)
def RLt (t : Tr) : Rel := fun H v => LAt H v t
theorem mon_RLt {t : Tr} : MonV (RLt t) := fun _ _ _ h e => h.mono e
theorem LF.all {H : Hp} : ∀ {vs : List V} {ts : List Tr}, LF H vs ts → AllR (ts.map RLt) H vs
  | vs, [], h => by
    have := h.1
    cases vs with
    | nil => rfl
    | cons _ _ => cases this
  | vs, t :: ts, h => by
    have h1 := h.1
    cases vs with
    | nil => cases h1
    | cons v vs => exact ⟨v, vs, rfl, h.2 0 v t rfl rfl, LF.all ⟨Nat.succ.inj h1, fun i u s a b => h.2 (i + 1) u s a b⟩⟩
section
variable {P : Program} {w : World} {K : PySem.W.Frag} {mg : Str → Option Value} {base : Heap}
end
end Rk
set_option Elab.async false
set_option linter.all false
set_option maxRecDepth 100000
set_option maxHeartbeats 4000000
/-! o[k] of an instance whose class has its own def for it -/
namespace RkO
open PySem PySem.Spec PyProof.Rows L2
variable {X : Cx} {CX : CXT} {k : Nat} {C f : Addr} {fd : FuncData} {ps : List Str} {sp : Sp} {E : XK}
theorem fn_in {K : PySem.W.Frag} {x qual : Str} {st : Stmt} (F : Fun K x qual st f fd) : PySem.W.fnIn K f = true := by
  obtain ⟨oc, od, kV, doc, pm, an, cdv, ct, osl, e, l, c⟩ := F.ex
  unfold PySem.W.fnIn
  rw [l]
theorem pe_ixO {a b : Expr} {ta tb : TE} {pos : Pos} (hm : Meth X.K C "__getitem__" f) (hfn : PySem.W.fnIn X.K f = true) (F : FnOk X.prog X.w X.K X.mg X.base CX k f fd ps sp) (hr : Room (k + 1) X.A) (hb : Binds X.K fd ps []) (hx : Passes CX X E) (ha : PE X a ta) (hi : PE X b tb)
    (hs : ∀ v u : Value, subscripted b true v u = runValue (.builtin "lifetime.subscript" ⟨[v, u], []⟩) := by intro _ _; with_unfolding_all rfl) : PE X (.Subscript a b pos) (tOp (rIxO C sp E) ta tb) := by
  refine ⟨fun pins s σ H Q I h => Subscript_ (binT ha hi I h fun v u s2 x y H2 I2 rx ry q => ?_)⟩
  obtain ⟨o, dx, fs, rfl, ho, q⟩ := q
  cases (show v = Value.ref o from rx)
  obtain ⟨mA, O, _⟩ := ins_get I2.hok ho
  obtain ⟨od, J, _⟩ := O.look
  obtain ⟨m, hF⟩ := I2.fr
  exact PySem.W.sub_K hF I2.ok.mod.kin J hm.at_ hfn hm.fn (run_here (A := X.A.in1) (us := [.ref o, u]) (vs := [.ref o, y]) F hr.in1 rfl hb hx I2 (.cons rfl (.cons ry .nil)) q) (hs _ _)
end RkO
set_option Elab.async false
set_option linter.all false
set_option maxRecDepth 100000
set_option maxHeartbeats 4000000
namespace Rk
open PySem PySem.Spec PyProof.Rows L2 RkO
open Evl (Ev EvT EvA EvL EvU EvO Ex RC RCL SpV SpL)
/-- lists of ints at addresses -/
def GO (H : Hp) (as : List Addr) (os : List (List Int)) : Prop := as.length = os.length ∧ ∀ (i : Nat) a o, as[i]? = some a → os[i]? = some o → H a = some (.lst (o.map V.int))
theorem GO.mono {H H' : Hp} {as : List Addr} {os : List (List Int)} (h : GO H as os) (e : Same H H') : GO H' as os := ⟨h.1, fun i a o x y => e _ _ (h.2 i a o x y)⟩
theorem GO.nil {H : Hp} : GO H [] [] := ⟨rfl, fun i a o x _ => by simp at x⟩
theorem GO.app {H : Hp} {as bs : List Addr} {os us : List (List Int)} (h : GO H as os) (g : GO H bs us) : GO H (as ++ bs) (os ++ us) := by
  refine ⟨by rw [List.length_append, List.length_append, h.1, g.1], fun i u s a b => ?_⟩
  have h1 := h.1
  by_cases hi : i < as.length
  · rw [List.getElem?_append_left hi] at a
    rw [List.getElem?_append_left (by omega)] at b
    exact h.2 i u s a b
  · rw [List.getElem?_append_right (by omega)] at a
    rw [List.getElem?_append_right (by omega), ← h1] at b
    exact g.2 _ u s a b
theorem GO.one {H : Hp} {a : Addr} {o : List Int} (h : H a = some (.lst (o.map V.int))) : GO H [a] [o] := ⟨rfl, fun i u s x y => by
  cases i with
  | zero =>
    cases x
    cases y
    exact h
  | succ i => cases x⟩
/-- the value that holds the ends of each node of a tree, the lists at as -/
def OV (wf : Str → Int) (H : Hp) (v : V) (t : Tr) (as : List Addr) : Prop := ∃ l, v = .ref l ∧ H l = some (.lst (as.map V.ref)) ∧ GO H as (t.outs wf)
def OR (wf : Str → Int) (H : Hp) (v : V) (t : Tr) : Prop := ∃ as, OV wf H v t as
theorem OV.mono {wf : Str → Int} {H H' : Hp} {v : V} {t : Tr} {as : List Addr} (h : OV wf H v t as) (e : Same H H') : OV wf H' v t as := by
  obtain ⟨l, h1, h2, h3⟩ := h
  exact ⟨l, h1, e _ _ h2, h3.mono e⟩
theorem or_mon {wf : Str → Int} : MonR (OR wf) := fun _ _ _ _ h e => h.elim fun as h => ⟨as, h.mono e⟩
theorem ov_list {wf : Str → Int} {H : Hp} : ∀ (ps : List Tr) (vs : List V), GF (OR wf) H vs ps → ∃ ass : List (List Addr), ass.length = ps.length ∧ ∀ (i : Nat) v t as, vs[i]? = some v → ps[i]? = some t → ass[i]? = some as → OV wf H v t as
  | [], vs, _ => ⟨[], rfl, fun i v t ns _ h _ => by simp at h⟩
  | p :: ps, [], h => absurd h.1 (by simp)
  | p :: ps, v :: vs, h => by
    obtain ⟨as, has⟩ := h.2 0 v p rfl rfl
    obtain ⟨ass, h1, h2⟩ := ov_list ps vs ⟨by have := h.1; simpa using this, fun i v t a b => h.2 (i + 1) v t a b⟩
    refine ⟨as :: ass, by simp [h1], fun i v' t as' a b c => ?_⟩
    cases i with
    | zero =>
      cases a
      cases b
      cases c
      exact has
    | succ i => exact h2 i v' t as' a b c
theorem go_flat {wf : Str → Int} {H : Hp} : ∀ (ps : List Tr) (ass : List (List Addr)), ass.length = ps.length → (∀ (i : Nat) t as, ps[i]? = some t → ass[i]? = some as → GO H as (t.outs wf)) → GO H ass.flatten (outsL wf ps)
  | [], [], _, _ => GO.nil
  | [], _ :: _, hl, _ => by simp at hl
  | p :: ps, [], hl, _ => by simp at hl
  | p :: ps, as :: ass, hl, h => GO.app (h 0 p as rfl rfl) (go_flat ps ass (by simpa using hl) fun i t as a b => h (i + 1) t as a b)
theorem outs_head (wf : Str → Int) (t : Tr) : (t.outs wf)[0]? = some (t.ends wf) := by
  cases t with
  | leaf x => rfl
  | grp rs ps => rfl
theorem names_in {ps : List Tr} {t : Tr} {x : Str} (hm : t ∈ ps) (h : x ∈ t.names) : x ∈ namesL ps := by
  rw [namesL_flat]
  exact List.mem_flatten.mpr ⟨_, List.mem_map.mpr ⟨t, hm, rfl⟩, h⟩
theorem endsL_flat (wf : Str → Int) : ∀ ps : List Tr, (endsL wf ps).map V.int = (ps.map fun t => (t.ends wf).map V.int).flatten
  | [] => rfl
  | p :: ps => by
    show (p.ends wf ++ endsL wf ps).map V.int = (p.ends wf).map V.int ++ (ps.map fun t => (t.ends wf).map V.int).flatten
    rw [List.map_append, endsL_flat wf ps]
theorem zip3b {α β γ : Type} (us : List α) (ps : List β) (ns : List γ) (h1 : us.length = ps.length) (h2 : ns.length = ps.length) : ((us.zip ps).zip ns).map (fun z => z.1.2) = ps := by
  have l : (us.zip ps).length = ps.length := by rw [List.length_zip]; omega
  rw [show (fun z : (α × β) × γ => z.1.2) = Prod.snd ∘ Prod.fst from rfl, ← List.map_map, List.map_fst_zip (by omega), List.map_snd_zip (by omega)]
theorem take_flat {α β : Type} (xs : List α) (f : α → List β) (i : Nat) : ((xs.take i).map f).flatten.length ≤ (xs.map f).flatten.length := by
  conv => rhs; rw [← List.take_append_drop i xs, List.map_append, List.flatten_append, List.length_append]
  omega
theorem go_head {wf : Str → Int} {H : Hp} {t : Tr} {as : List Addr} (h : GO H as (t.outs wf)) : H (as.headD 0) = some (.lst ((t.ends wf).map V.int)) := by
  have o := outs_head wf t
  cases as with
  | nil =>
    have := (List.getElem?_eq_some_iff.mp o).1
    have l := h.1
    rw [← l] at this
    exact absurd this (Nat.lt_irrefl 0)
  | cons a as => exact h.2 0 a _ rfl o
theorem go_at {wf : Str → Int} {H : Hp} {t : Tr} {as : List Addr} (h : GO H as (t.outs wf)) : atI (as.map V.ref) 0 = some (.ref (as.headD 0)) := by
  have o := outs_head wf t
  cases as with
  | nil =>
    have := (List.getElem?_eq_some_iff.mp o).1
    have l := h.1
    rw [← l] at this
    exact absurd this (Nat.lt_irrefl 0)
  | cons a as => exact atI_nat (j := 0) rfl
def adr : V → Addr
  | .ref l => l
  | _ => 0
theorem lc_tl {K : PySem.W.Frag} {tl : TE} {g : TG} {tt : TT} {te : TE} {vs : List Nat} {σ : L2.St} {H : Hp} {Q : VK} (h : tl σ H fun x H1 => tLc (iList K (tC x)) g tt te vs σ H1 Q) : tLc (iList K tl) g tt te vs σ H Q := h
section
variable {K : PySem.W.Frag} {σ : L2.St} {H : Hp}
/-- [y for x in xs for y in e(x)], each e(x) a list that stands -/
theorem el_lc2X {α : Type} {a : Addr} {xs : List α} {g : α → V} {f : α → List V} {ad : α → Addr} {tl ti : TE} {j j1 : Nat} {vs vs1 : List Nat} (h : Ev tl σ H (.ref a)) (hx : SqL K H a (xs.map g)) (hz : ∀ i, ((xs.take i).map f).flatten.length ≤ 40000)
    (hw : ∀ x, wipe ((wipe σ vs).set j (some x)) vs = wipe σ vs) (hw1 : ∀ x y, wipe ((wipe ((wipe σ vs).set j (some x)) vs1).set j1 (some y)) vs1 = wipe ((wipe σ vs).set j (some x)) vs1)
    (hj : ∀ x y, ((wipe ((wipe σ vs).set j (some x)) vs1).set j1 (some y))[j1]? = some (some y)) (hb : ∀ x ∈ xs, H (ad x) = some (.lst (f x))) (he : ∀ (x : α) H1, Ex H H1 → x ∈ xs → Ev ti ((wipe σ vs).set j (some (g x))) H1 (.ref (ad x))) :
    EvL (tLc2 (iList K tl) (gName j) tYes (iList K ti) (gName j1) tYes (tVar j1) vs vs1) σ H (xs.map f).flatten := fun H0 e Q q => h H0 e _ fun H1 e1 => ⟨a, rfl, ⟨_, Evl.ex_l (e.trans e1) hx⟩, fun Dl hD => by
  refine ⟨fun i m H' => m = xs.length - i ∧ i ≤ xs.length ∧ H1 Dl = none ∧ Ex H1 H' ∧ H' Dl = some (.lst ((xs.take i).map f).flatten), ⟨_, rfl, Nat.zero_le _, hD, Ex.new hD, upd_same⟩, ?_⟩
  rintro i m H' ⟨rfl, hi, p1, p2, p3⟩
  have hq : SqL K H' a (xs.map g) := Evl.ex_l ((e.trans e1).trans p2) hx
  by_cases hlt : i < xs.length
  · refine .inr ⟨⟨_, g xs[i], hq, by rw [List.getElem?_map, List.getElem?_eq_getElem hlt]; rfl⟩, fun H' => i + 1 ≤ xs.length ∧ Ex H1 H' ∧ H' Dl = some (.lst ((xs.take (i + 1)).map f).flatten), fun H2 p => ⟨xs.length - (i + 1), by omega, rfl, p.1, p1, p.2.1, p.2.2⟩, fun x H2 y => ?_⟩
    obtain ⟨rfl, y⟩ := y
    have ex : x = g xs[i] := by
      have := y _ hq
      rw [List.getElem?_map, List.getElem?_eq_getElem hlt] at this
      exact (Option.some.inj this).symm
    subst ex
    refine ⟨hw _, ?_⟩
    simp only [tYes, ↓reduceIte]
    have hb1 : H1 (ad xs[i]) = some (.lst (f xs[i])) := (e.trans e1) _ _ (hb xs[i] (List.getElem_mem hlt))
    refine he xs[i] H1 (e.trans e1) (List.getElem_mem hlt) H2 p2 _ fun H4 e4 => ⟨ad xs[i], rfl, ⟨_, SqL.of ((p2.trans e4) _ _ hb1)⟩, ?_⟩
    have nbD : ad xs[i] ≠ Dl := ne_of_none hb1 hD
    have hpre : (xs.take (i + 1)).map f = (xs.take i).map f ++ [f xs[i]] := by rw [List.take_add_one, List.getElem?_eq_getElem hlt, List.map_append]; rfl
    have hlen := hz (i + 1)
    rw [hpre, List.flatten_append, List.length_append] at hlen
    have hfl : [f xs[i]].flatten = f xs[i] := by simp
    rw [hfl] at hlen
    refine ⟨fun k m H' => m = (f xs[i]).length - k ∧ k ≤ (f xs[i]).length ∧ Ex H1 H' ∧ H' Dl = some (.lst (((xs.take i).map f).flatten ++ (f xs[i]).take k)), ⟨_, rfl, Nat.zero_le _, p2.trans e4, by rw [List.take_zero, List.append_nil]; exact e4 _ _ p3⟩, ?_⟩
    rintro k m H5 ⟨rfl, hk, q2, q3⟩
    have qb : H5 (ad xs[i]) = some (.lst (f xs[i])) := q2 _ _ hb1
    by_cases hkl : k < (f xs[i]).length
    · refine .inr ⟨⟨_, (f xs[i])[k], SqL.of qb, by simp [hkl]⟩, fun H' => k + 1 ≤ (f xs[i]).length ∧ Ex H1 H' ∧ H' Dl = some (.lst (((xs.take i).map f).flatten ++ (f xs[i]).take (k + 1))), fun H' p => ⟨_, by omega, rfl, p.1, p.2.1, p.2.2⟩, fun y H6 z => ?_⟩
      obtain ⟨rfl, z⟩ := z
      have ey : (f xs[i])[k]? = some y := z _ (SqL.of qb)
      refine ⟨hw1 _ _, ?_⟩
      simp only [tYes, ↓reduceIte]
      refine ⟨y, hj _ _, _, q3, ?_, hkl, Ex.mut q2 p1, ?_⟩
      · rw [List.length_append, List.length_take]
        exact Evl.sz_lt (by omega)
      · rw [upd_same, List.take_add_one, ey, List.append_assoc]
        rfl
    · have ek : k = (f xs[i]).length := by omega
      subst ek
      refine .inl ⟨⟨_, SqL.of qb, Nat.le_refl _⟩, hlt, q2, ?_⟩
      rw [q3, List.take_length, hpre, List.flatten_append, hfl]
  · have ei : i = xs.length := by omega
    subst ei
    refine .inl ⟨⟨_, hq, by rw [List.length_map]; exact Nat.le_refl _⟩, q Dl H' (Evl.fresh_back e1 p1) (e1.trans p2) ?_⟩
    rw [p3, List.take_length]⟩
end
theorem OV.some_at {wf : Str → Int} {H : Hp} {v : V} {t : Tr} {as : List Addr} (h : OV wf H v t as) : ∀ a ∈ as, ∃ o, H a = some o := fun a ha => by
  obtain ⟨l, _, _, g1, g2⟩ := h
  obtain ⟨i, hi, e⟩ := List.mem_iff_getElem.mp ha
  have hi2 : i < (t.outs wf).length := by rw [← g1]; exact hi
  exact ⟨_, g2 i a _ (by rw [List.getElem?_eq_getElem hi, e]) (List.getElem?_eq_getElem hi2)⟩
theorem snoc_all {α β : Type} {R : α → β → Prop} {L : List α} {ts : List β} {x : α} {t : β} (h : ∀ (k : Nat) p u, L[k]? = some p → ts[k]? = some u → R p u) (ht : ts[L.length]? = some t) (hx : R x t) (k : Nat) (p : α) (u : β) (e : (L ++ [x])[k]? = some p) (e2 : ts[k]? = some u) : R p u := by
  by_cases hk : k < L.length
  · rw [List.getElem?_append_left hk] at e
    exact h k p u e e2
  · rw [List.getElem?_append_right (by omega)] at e
    have ek : k = L.length := by
      have := (List.getElem?_eq_some_iff.mp e).1
      simp at this
      omega
    subst ek
    rw [Nat.sub_self] at e
    cases e
    rw [ht] at e2
    cases e2
    exact hx
/-- a comprehension that makes lists of new lists -/
theorem tl_outs {K : PySem.W.Frag} {A : Hp → V → Tr → Prop} {wf : Str → Int} (mA : MonR A) {σ : L2.St} {H : Hp} {tl te : TE} {a : Addr} {us : List V} {ts : List Tr} {j : Nat} {vs : List Nat} (h : Ev tl σ H (.ref a)) (hx : SqL K H a us) (hF : GF A H us ts) (hz : ts.length ≤ 40000) (hw : ∀ x, wipe ((wipe σ vs).set j (some x)) vs = wipe σ vs)
    (he : ∀ v t M H1 (Q : VK), Hides M H1 → t ∈ ts → Same H (hid M H1) → A (hid M H1) v t → (∀ v' as H', Same (hid M H1) H' → (∀ b, M b = true → H' b = none) → OV wf H' v' t as → as.Nodup → (∀ a ∈ as, hid M H1 a = none) → Q v' (put M H1 H')) → te ((wipe σ vs).set j (some v)) H1 Q)
    {Q : VK} (q : ∀ p (L : List (V × List Addr)) H', H p = none → Same H H' → H' p = some (.lst (L.map Prod.fst)) → L.length = ts.length → (∀ (i : Nat) p t, L[i]? = some p → ts[i]? = some t → OV wf H' p.1 t p.2) → (L.map Prod.snd).flatten.Nodup → (∀ a ∈ (L.map Prod.snd).flatten, H a = none) → Q (.ref p) H') : tLc (iList K tl) (gName j) tYes te vs σ H Q := h H (Ex.refl H) _ fun H1 e1 => ⟨a, rfl, ⟨_, Evl.ex_l e1 hx⟩, fun Dl hD =>
  lc_list (xs := us) (fun i H' => Ex H1 H' ∧ ∃ L : List (V × List Addr), L.length = i ∧ H' Dl = some (.lst (L.map Prod.fst)) ∧ (∀ (k : Nat) p t, L[k]? = some p → ts[k]? = some t → OV wf (hid (one Dl) H') p.1 t p.2) ∧ (L.map Prod.snd).flatten.Nodup ∧ (∀ a ∈ (L.map Prod.snd).flatten, H1 a = none ∧ ∃ o, hid (one Dl) H' a = some o)) ⟨Ex.new hD, [], rfl, upd_same, (fun k p t e => by simp at e), List.nodup_nil, fun a h => absurd h List.not_mem_nil⟩ (fun i H' _ p => Evl.ex_l (e1.trans p.1) hx) (fun i y H' hi p => by
    obtain ⟨p2, L, pl, p3, p4, p5, p6⟩ := p
    obtain ⟨t, hti, ht⟩ := hF.mem hi
    have nD : H Dl = none := Evl.fresh_back e1 hD
    have up : Same H (hid (one Dl) H') := hid_same (fun b o z => p2 b o (e1 b o z)) fun b hb => by
      rw [of_decide_eq_true hb]
      exact nD
    have hlt := (List.getElem?_eq_some_iff.mp hti).1
    refine ⟨hw _, he y t (one Dl) H' _ (fun b hb => .inl ⟨L.map Prod.fst, by rw [of_decide_eq_true hb]; exact p3⟩) (List.mem_of_getElem? hti) up (mA _ _ _ _ ht up) fun v' as H'' s2 gone w nd fr => ⟨L.map Prod.fst, (put_t (decide_eq_true rfl)).trans p3, Evl.sz_lt (by rw [List.length_map]; omega), ?_, L ++ [(v', as)], by rw [List.length_append, pl]; rfl, by rw [upd_same, List.map_append]; rfl, ?_, ?_, ?_⟩⟩
    · intro b o z
      have nb : b ≠ Dl := ne_of_none z hD
      rw [upd_ne nb, put_f (decide_eq_false nb)]
      exact s2 b o (by rw [hid_one nb]; exact p2 b o z)
    · rw [hid_back (gone Dl (decide_eq_true rfl))]
      exact snoc_all (x := (v', as)) (R := fun p t => OV wf H'' p.1 t p.2) (fun k p t a b => (p4 k p t a b).mono s2) (by rw [pl]; exact hti) w
    · rw [List.map_append, List.flatten_append]
      refine List.nodup_append.mpr ⟨p5, by simpa using nd, fun u hu x hx z => ?_⟩
      have hx : x ∈ as := by simpa using hx
      obtain ⟨_, o, ho⟩ := p6 u hu
      rw [z, fr x hx] at ho
      cases ho
    · rw [hid_back (gone Dl (decide_eq_true rfl))]
      intro u hu
      rw [List.map_append, List.flatten_append] at hu
      rcases List.mem_append.mp hu with hu | hu
      · obtain ⟨g1, o, g2⟩ := p6 u hu
        exact ⟨g1, o, s2 _ _ g2⟩
      · have hu : u ∈ as := by simpa using hu
        refine ⟨?_, w.some_at u hu⟩
        cases e : H1 u with
        | none => rfl
        | some o =>
          have := fr u hu
          rw [hid_one (ne_of_none e hD), p2 _ _ e] at this
          cases this) (fun H' p => by
    obtain ⟨p2, L, pl, p3, p4, p5, p6⟩ := p
    exact q Dl L H' (Evl.fresh_back e1 hD) (fun b o z => p2 b o (e1 b o z)) p3 (by rw [pl, hF.1]) (fun i p t a b => (p4 i p t a b).mono hid_le) p5 fun a ha => Evl.fresh_back e1 (p6 a ha).1)⟩
section
variable {P : Program} {w : World} {K : PySem.W.Frag} {mg : Str → Option Value} {base : Heap}
def spOuts2 (cL cG cT : Addr) (n : Nat) : Sp := fun vs H Q _ => ∃ (v u : V) (t : Tr) (wf : Str → Int) (xs : List Str), vs = [v, u] ∧ t.depth < n ∧ TAt cL cG H v t ∧ LotAt cT H u wf xs ∧ Ok t ∧ (∀ x ∈ t.names, x ∈ xs) ∧ t.names.length ≤ 60 ∧ t.nodes.length ≤ 1000 ∧ ∀ v' as H', Same H H' → OV wf H' v' t as → as.Nodup → (∀ a ∈ as, H a = none) → (∀ l, v' = .ref l → H l = none) → Q v' H'
theorem ok_outs2 (T : Txt K mg) : ∀ n : Nat, FnOk P w K mg base CX0 (n + 4) T.f_outs T.d_outs ["tree", "lot"] (spOuts2 T.a_Leaf T.a_Group T.a_Lot n)
  | 0 => fn_no fun vs H Q E h => by
    obtain ⟨_, _, _, _, _, _, hd, _⟩ := h
    exact absurd hd (Nat.not_lt_zero _)
  | n + 1 => by
    have GN := ok_Leaf_name (P := P) (w := w) (base := base) T
    have GP := ok_Group_parts (P := P) (w := w) (base := base) T
    have GR := ok_Group_ranks (P := P) (w := w) (base := base) T
    have GG := ok_Lot_getitem (P := P) (w := w) (base := base) T
    have G_outs := RkO.FnOk.frame (ok_outs2 T n)
    refine T.F_outs.ok sc_outs (fun vs H Q E h => ?_) (fun cdv A outer s H vs Q E hr h => ?_)
    · obtain ⟨_, _, _, _, _, rfl, _⟩ := h
      rfl
    obtain ⟨v, u, t, wf, xs, rfl, hd, ht, hu, hok, hx, hz, hnz, q⟩ := h
    refine ⟨_, (pss_cons (ps_if (pt_val (pe_callB call_isi (by rfl) T.m_isinstance (by decide +kernel) (pa_cons (pv 0) (pa_cons (pe_glob (v := .ref T.a_Leaf) rfl T.m_Leaf rfl) pa_nil)))) (pss_one (ps_ret (pe_lst (pa_cons (pe_lst (pa_cons (pe_ixO T.M_Lot_getitem (fn_in T.F_Lot_getitem) GG (hr.mono (by omega)) T.b_Lot_getitem pass0 (pv 1) (pe_prop (pv 0) T.c_Leaf T.P_Leaf_name GN (hr.mono (by omega)) T.b_Leaf_name .nil pass0 rfl)) pa_nil)) pa_nil)))) pss_nil)
  (pss_cons (ps_setLc (i := 2) (own := [("part", 5)]) rfl sc_outs.nd rfl rfl (sw_true rfl rfl rfl (by decide +kernel))  (pi_list (pe_prop (pv 0) T.c_Group T.P_Group_parts GP (hr.mono (by omega)) T.b_Group_parts .nil pass0 rfl)) (blkOk_by (own := [("part", 5)]) (N := ["tree", "lot", "within", "taken", "passed", "part", "outs", "end", "rank", "ends"]) (sc := defScope s_outs) (by decide +kernel)) (fun _ _ _ _ _ => (pg_name (i := 5) sc_outs.nd rfl (.inl rfl))) (fun _ _ _ _ _ => pts_nil) (fun _ _ _ _ _ => (pe_call G_outs (hr.mono (by omega)) rfl T.m_outs T.F_outs.kp T.b_outs .nil pass0 (pa_cons (pv 5) (pa_cons (pv 1) pa_nil)))))
  (pss_cons (ps_set (i := 3) sc_outs.nd rfl (Or.inr rfl) (pe_callB cr_sorted (by rfl) T.m_sorted (by decide +kernel) (pa_cons (by refine' pe_lc2 (own := [("outs", 6), ("end", 7)]) (vs1 := [7]) rfl sc_outs.nd  (pi_list (pv 2)) (blkOk_by (own := [("outs", 6), ("end", 7)]) (N := ["tree", "lot", "within", "taken", "passed", "part", "outs", "end", "rank", "ends"]) (sc := defScope s_outs) (by decide +kernel)) (by decide) (fun _ _ _ _ _ => (pg_name (i := 6) sc_outs.nd rfl (.inl rfl))) (fun _ _ _ _ _ => pts_nil) ?i1 ?g1 ?t1 ?e1; (case i1 => exact (fun _ _ _ _ _ => (pi_listK (K := K) rfl (by exact (pe_K (t := fun K => tOp (rIxL K) (tVar 6) (tC (.int 0))) (K := K) rfl (by exact (pe_ix ix_list (pv 6) pe_int (fun _ _ => rfl)))))))); (case g1 => exact (fun _ _ _ _ _ => (pg_name (i := 7) sc_outs.nd rfl (.inl rfl)))); (case t1 => exact (fun _ _ _ _ _ => pts_nil)); (case e1 => exact (fun _ _ _ _ _ => (pv 7)))) pa_nil)))
  (pss_cons (ps_setLc (i := 4) (own := [("rank", 8)]) rfl sc_outs.nd rfl rfl (sw_true rfl rfl rfl (by decide +kernel))  (pi_list (pe_prop (pv 0) T.c_Group T.P_Group_ranks GR (hr.mono (by omega)) T.b_Group_ranks .nil pass0 rfl)) (blkOk_by (own := [("rank", 8)]) (N := ["tree", "lot", "within", "taken", "passed", "part", "outs", "end", "rank", "ends"]) (sc := defScope s_outs) (by decide +kernel)) (fun _ _ _ _ _ => (pg_name (i := 8) sc_outs.nd rfl (.inl rfl))) (fun _ _ _ _ _ => pts_nil) (fun _ _ _ _ _ => (by exact (pe_K (t := fun K => tOp (rIxL K) (tVar 3) (tOp (rI0 fun i j => .int (i - j)) (tVar 8) (tC (.int 1)))) (K := K) rfl (by exact (pe_ix ix_list (pv 3) (pe_op op_sub (pv 8) pe_int) (fun _ _ => rfl)))))))
  (pss_one (ps_ret (pe_op op_cat (pe_lst (pa_cons (pv 4) pa_nil)) (by refine' pe_lc2 (own := [("outs", 6), ("ends", 9)]) (vs1 := [9]) rfl sc_outs.nd  (pi_list (pv 2)) (blkOk_by (own := [("outs", 6), ("ends", 9)]) (N := ["tree", "lot", "within", "taken", "passed", "part", "outs", "end", "rank", "ends"]) (sc := defScope s_outs) (by decide +kernel)) (by decide) (fun _ _ _ _ _ => (pg_name (i := 6) sc_outs.nd rfl (.inl rfl))) (fun _ _ _ _ _ => pts_nil) ?i1 ?g1 ?t1 ?e1; (case i1 => exact (fun _ _ _ _ _ => (pi_listK (K := K) rfl (pv 6)))); (case g1 => exact (fun _ _ _ _ _ => (pg_name (i := 9) sc_outs.nd rfl (.inl rfl)))); (case t1 => exact (fun _ _ _ _ _ => pts_nil)); (case e1 => exact (fun _ _ _ _ _ => (pv 9))))))))))), ?_⟩
    cases ht with
    | @leaf p dx x h =>
      have w : TAt T.a_Leaf T.a_Group H (.ref p) (.leaf x) := .leaf h
      have hn : nameOk x = true := by
        cases hok
        assumption
      refine un_seq <| un_ifS ⟨_, rfl, _, _, _, _, _, rfl, .own _, .base (.ins h T.c_Leaf T.ca_Leaf T.gc T.tc T.mo_Leaf), kit_self, _, rfl, iteT ?_⟩
      obtain ⟨a, dy, d, kvs, rfl, u1, u2, u3⟩ := hu
      refine un_ret ?_
      refine ⟨_, rfl, _, rfl, p, dx, _, rfl, h, _, x, rfl, w, a, dy, _, rfl, u1, _, x, wf, xs, rfl, ⟨a, dy, d, kvs, rfl, u1, u2, u3⟩, hx x (List.mem_singleton.mpr rfl), hn, fun H1 e1 => ?_⟩
      refine ⟨Evl.sz_of (Nat.le_of_ble_eq_true rfl), fun l1 n1 => ⟨Evl.sz_of (Nat.le_of_ble_eq_true rfl), fun l2 n2 => ?_⟩⟩
      have s1 := same_new n1 (.lst [.int (wf x)])
      have s2 := same_new n2 (.lst [.ref l1])
      exact q _ [l1] _ ((e1.trans s1).trans s2) ⟨l2, rfl, upd_same, GO.one (s2 _ _ upd_same)⟩ (List.nodup_cons.mpr ⟨List.not_mem_nil, List.nodup_nil⟩) (fun a ha => by rw [List.mem_singleton.mp ha]; exact Evl.fresh_back e1 n1) fun l el => by
        cases el
        exact Evl.fresh_back (e1.trans s1) n2
    | @grp p dx lr lp ln rs ps us h1 h2 h3 h4 hul hf =>
      have w : TAt T.a_Leaf T.a_Group H (.ref p) (.grp rs ps) := .grp h1 h2 h3 h4 hul hf
      have oks : ∀ t ∈ ps, Ok t := by
        cases hok with
        | grp h1 _ _ _ h5 h6 => exact h1
      have hb : ∀ r ∈ rs, 1 ≤ r ∧ r ≤ (intakeL ps : Int) := by
        cases hok with
        | grp h1 _ _ _ h5 h6 => exact h6
      have hd : depthL ps + 1 < n + 1 := hd
      have hl : (namesL ps).length ≤ 60 := hz
      have hrl : rs.length ≤ 60 := Nat.le_trans hok.width_le hz
      have hpl := parts_le oks
      have hin := intake_le oks
      have hnn : (nodesL ps).length + 1 ≤ 1000 := hnz
      refine un_seq <| un_ifS ⟨_, rfl, _, _, _, _, _, rfl, .own _, .base (.ins h1 T.c_Group T.ca_Group T.gc T.tc T.mo_Group), T.is_Group_Leaf, _, rfl, iteF (nxt ?_)⟩
      dsimp only
      -- within
      refine sq_asg <| lc_tl ?_
      refine ⟨_, rfl, p, dx, _, rfl, h1, _, rs, ps, rfl, w, by omega, fun us1 z1 H1 nz1 s1 hz1 hF1 => ?_⟩
      refine tl_outs (wf := wf) tat_mon (A := TAt T.a_Leaf T.a_Group) Evl.ev_c (SqL.of hz1) (ts := ps) (hF1.mono s1) (by omega) (fun x => rfl) (fun v t M H3 Q hM hm s3 ht q => ?_) (fun D L H2 nD s2 hD hLl hLo hLn hLf => ?_)
      · have hdp := depth_mem hm
        exact ⟨_, rfl, _, rfl, M, hM, v, u, t, wf, xs, rfl, by omega, ht, (hu.mono s1).mono s3, oks t hm, fun x hx' => hx x (names_in hm hx'), Nat.le_trans (names_part hm) hl, Nat.le_trans (nodes_part hm) (by omega), fun v' as H' s' w nd fr _ gone => q v' as H' s' gone w nd fr⟩
      obtain ⟨us', eus⟩ : ∃ us', us' = L.map Prod.fst := ⟨_, rfl⟩
      obtain ⟨ass, eass⟩ : ∃ ass, ass = L.map Prod.snd := ⟨_, rfl⟩
      rw [← eus] at hD
      rw [← eass] at hLn hLf
      have hF3 : us'.length = ps.length := by rw [eus, List.length_map, hLl]
      have hal : ass.length = ps.length := by rw [eass, List.length_map, hLl]
      have hov : ∀ (i : Nat) v t as, us'[i]? = some v → ps[i]? = some t → ass[i]? = some as → OV wf H2 v t as := fun i v t as h1 h2 h3 => by
        rw [eus, List.getElem?_map] at h1
        rw [eass, List.getElem?_map] at h3
        obtain ⟨p, hp, rfl⟩ := Option.map_eq_some_iff.mp h1
        rw [hp] at h3
        cases h3
        exact hLo i p t hp h2
      obtain ⟨z1', z2', z3'⟩ := zip3 us' ps ass hF3 hal
      have s12 := Same.trans s1 s2
      have z12 := zip3b us' ps ass hF3 hal
      have flat2 : (((us'.zip ps).zip ass).map fun z => (z.1.2.ends wf).map V.int).flatten = (endsL wf ps).map V.int := by
        rw [show (fun z : (V × Tr) × List Addr => (z.1.2.ends wf).map V.int) = (fun t : Tr => (t.ends wf).map V.int) ∘ (fun z => z.1.2) from rfl, ← List.map_map, z12, endsL_flat]
      have lc2 := el_lc2X (K := K) (σ := [some (.ref p), some u, some (.ref D), none, none, none, none, none, none, none]) (H := H2) (a := D) (xs := (us'.zip ps).zip ass) (g := fun z => z.1.1) (f := fun z => (z.1.2.ends wf).map V.int) (ad := fun z => z.2.headD 0) (tl := tVar 2) (ti := tOp (rIxL K) (tVar 6) (tC (.int 0))) (j := 6) (j1 := 7) (vs := [6, 7]) (vs1 := [7])
        (Evl.ev_var rfl) (by rw [z1']; exact SqL.of hD) (fun i => ?_) (fun x => rfl) (fun x y => rfl) (fun x y => rfl) (fun z hz => ?_) (fun z H1 e hz => ?_)
      rotate_left
      · refine Nat.le_trans (take_flat _ _ i) ?_
        rw [flat2, List.length_map, endsL_len]
        omega
      · obtain ⟨i, g1, g2, g3⟩ := z3' z hz
        obtain ⟨l, e1, e2, e3⟩ := hov i _ _ _ g1 g2 g3
        exact go_head e3
      · obtain ⟨i, g1, g2, g3⟩ := z3' z hz
        obtain ⟨l, e1, e2, e3⟩ := hov i _ _ _ g1 g2 g3
        intro H3 e4 Q3 q3
        exact ⟨_, congrArg (fun x => some (some x)) e1, l, _, 0, _, rfl, rfl, SqL.of ((e.trans e4) _ _ e2), go_at e3, q3 _ (Ex.refl _)⟩
      rw [flat2] at lc2
      have eN : (endsL wf ps).length = intakeL ps := endsL_len wf ps
      refine seq_asg_cb1 <| lc2 H2 (Ex.refl _) _ fun z5 H5 n5 s5 h5 => ⟨z5, _, rfl, SqL.of h5, by omega, fun ns' z6 perm up n6 => ?_⟩
      have ens : ns' = sortI (endsL wf ps) := PySem.W.ksm_same (perm.trans (sortI_perm _).symm) up (sortI_up _)
      subst ens
      have s6 := same_new n6 (.lst ((sortI (endsL wf ps)).map V.int))
      have h6 : (upd H5 z6 (.lst ((sortI (endsL wf ps)).map V.int))) z6 = some (.lst ((sortI (endsL wf ps)).map V.int)) := upd_same
      generalize upd H5 z6 (.lst ((sortI (endsL wf ps)).map V.int)) = H6 at s6 h6 ⊢
      have s26 := Same.trans s5 s6
      have s16 := s12.trans s26
      have eS : (sortI (endsL wf ps)).length = intakeL ps := by rw [(sortI_perm _).length_eq, eN]
      -- passed
      refine sq_asg <| lc_tl ?_
      refine ⟨_, rfl, p, dx, _, rfl, s16 _ _ h1, _, rs, ps, rfl, w.mono s16, fun z7 H7 n7 s7 h7 => ?_⟩
      have lc3 := el_lcM (K := K) (σ := [some (.ref p), some u, some (.ref D), some (.ref z6), none, none, none, none, none, none]) (H := H7) (a := z7) (xs := rs) (g := V.int) (f := fun r => V.int ((sortI (endsL wf ps)).getD (r - 1).toNat 0)) (tl := tC (.ref z7)) (te := tOp (rIxL K) (tVar 3) (tOp (rI0 fun i j => .int (i - j)) (tVar 8) (tC (.int 1)))) (j := 8) (vs := [8])
        Evl.ev_c (SqL.of h7) (by omega) (fun x => rfl) (fun r H8 e8 hr => ?_)
      rotate_left
      · have hr := hb r hr
        intro H9 e9 Q9 q9
        refine ⟨_, rfl, _, rfl, _, _, rfl, rfl, z6, _, r - 1, _, rfl, rfl, SqL.of ((s7.trans (e8.trans e9)) _ _ h6), ?_, q9 _ (Ex.refl _)⟩
        rw [show r - 1 = (((r - 1).toNat : Nat) : Int) by omega]
        refine atI_nat ?_
        rw [List.getElem?_map, List.getElem?_eq_getElem (by omega), List.getD_eq_getElem?_getD, List.getElem?_eq_getElem (by omega)]
        simp
      refine lc3 H7 (Ex.refl _) _ fun z8 H8 n8 s8 h8 => ?_
      have s28 := (s26.trans s7).trans s8
      have gfl := go_flat (wf := wf) (H := H2) ps ass hal fun i t as ht has => by
        have hi := (List.getElem?_eq_some_iff.mp ht).1
        have hi2 : i < us'.length := by rw [hF3]; exact hi
        obtain ⟨l, _, _, e3⟩ := hov i _ t as (List.getElem?_eq_getElem hi2) ht has
        exact e3
      have lfl : ass.flatten.length = (nodesL ps).length := by rw [gfl.1, outs_nodesL, List.length_map]
      refine un_ret <| un_op <| Evl.el_lst (vs := [.ref z8]) (Evl.ea_cons (by exact Evl.ev_var rfl) Evl.ea_nil) (Nat.le_of_ble_eq_true rfl) H8 (Ex.refl _) _ fun l9 H9 n9 s9 h9 => ?_
      have flat4 : (((us'.zip ps).zip ass).map fun z => z.2.map V.ref).flatten = ass.flatten.map V.ref := by
        rw [show (fun z : (V × Tr) × List Addr => z.2.map V.ref) = (fun as : List Addr => as.map V.ref) ∘ (fun z => z.2) from rfl, ← List.map_map, z2', List.map_flatten]
      have s29 := s28.trans s9
      have lc4 := el_lc2X (K := K) (σ := [some (.ref p), some u, some (.ref D), some (.ref z6), some (.ref z8), none, none, none, none, none]) (H := H9) (a := D) (xs := (us'.zip ps).zip ass) (g := fun z => z.1.1) (f := fun z => z.2.map V.ref) (ad := fun z => adr z.1.1) (tl := tVar 2) (ti := tVar 6) (j := 6) (j1 := 9) (vs := [6, 9]) (vs1 := [9])
        (Evl.ev_var rfl) (by rw [z1']; exact SqL.of (s29 _ _ hD)) (fun i => ?_) (fun x => rfl) (fun x y => rfl) (fun x y => rfl) (fun z hz => ?_) (fun z H1 e hz => ?_)
      rotate_left
      · refine Nat.le_trans (take_flat _ _ i) ?_
        rw [flat4, List.length_map, lfl]
        omega
      · obtain ⟨i, g1, g2, g3⟩ := z3' z hz
        obtain ⟨l, e1, e2, e3⟩ := hov i _ _ _ g1 g2 g3
        rw [e1]
        exact s29 _ _ e2
      · obtain ⟨i, g1, g2, g3⟩ := z3' z hz
        obtain ⟨l, e1, e2, e3⟩ := hov i _ _ _ g1 g2 g3
        intro H3 e4 Q3 q3
        refine ⟨_, rfl, ?_⟩
        have q4 := q3 H3 (Ex.refl _)
        rw [e1] at q4 ⊢
        exact q4
      rw [flat4] at lc4
      refine lc4 H9 (Ex.refl _) _ fun l10 H10 n10 s10 h10 => ⟨l9, l10, _, _, rfl, rfl, s10 _ _ h9, h10, Evl.sz_of (by rw [List.length_map, lfl]; show 1 + _ ≤ _; omega), fun l11 n11 => ?_⟩
      have s11 := same_new n11 (.lst ([V.ref z8] ++ ass.flatten.map V.ref))
      have s211 := (s29.trans s10).trans s11
      have s811 := (s9.trans s10).trans s11
      refine q _ (z8 :: ass.flatten) _ (s12.trans s211) ⟨l11, rfl, upd_same, ?_⟩ (List.nodup_cons.mpr ⟨fun hz8 => ?_, hLn⟩) (fun a ha => ?_) fun l el => by
        cases el
        exact Evl.fresh_back (s12.trans (s29.trans s10)) n11
      rotate_left
      · obtain ⟨o, ho⟩ := (show ∃ o, H2 z8 = some o from by
          obtain ⟨i, hi, e⟩ := List.mem_iff_getElem.mp hz8
          have hi2 : i < (outsL wf ps).length := by rw [← gfl.1]; exact hi
          exact ⟨_, gfl.2 i z8 _ (by rw [List.getElem?_eq_getElem hi, e]) (List.getElem?_eq_getElem hi2)⟩)
        have := (s26.trans s7) _ _ ho
        rw [n8] at this
        cases this
      · rcases List.mem_cons.mp ha with rfl | ha
        · exact Evl.fresh_back ((s12.trans s26).trans s7) n8
        · exact Evl.fresh_back s1 (hLf a ha)
      have head : (upd H10 l11 (.lst ([V.ref z8] ++ ass.flatten.map V.ref))) z8 = some (.lst (((Tr.grp rs ps).ends wf).map V.int)) := by
        have := s811 _ _ h8
        rw [this]
        show some (HO.lst (rs.map fun r => V.int ((sortI (endsL wf ps)).getD (r - 1).toNat 0))) = some (HO.lst ((rs.map fun r => (sortI (endsL wf ps)).getD (r - 1).toNat 0).map V.int))
        rw [List.map_map]
        rfl
      exact (GO.one head).app (gfl.mono s211)
def spOuts (cL cG cT : Addr) (n : Nat) : Sp := fun vs H Q _ => ∃ (v u : V) (t : Tr) (wf : Str → Int) (xs : List Str), vs = [v, u] ∧ t.depth < n ∧ TAt cL cG H v t ∧ LotAt cT H u wf xs ∧ Ok t ∧ (∀ x ∈ t.names, x ∈ xs) ∧ t.names.length ≤ 60 ∧ t.nodes.length ≤ 1000 ∧ ∀ v' H', Same H H' → OR wf H' v' t → Q v' H'
theorem ok_outs (T : Txt K mg) (n : Nat) : FnOk P w K mg base CX0 (n + 4) T.f_outs T.d_outs ["tree", "lot"] (spOuts T.a_Leaf T.a_Group T.a_Lot n) := (ok_outs2 T n).imp fun vs H Q E h => by
  obtain ⟨v, u, t, wf, xs, e, h1, h2, h3, h4, h5, h6, h7, q⟩ := h
  exact ⟨v, u, t, wf, xs, e, h1, h2, h3, h4, h5, h6, h7, fun v' as H' s o _ _ _ => q v' H' s ⟨as, o⟩⟩
end
end Rk
set_option Elab.async false
set_option linter.all false
set_option maxRecDepth 100000
set_option maxHeartbeats 4000000
namespace Rk
open PySem PySem.Spec PyProof.Rows L2 RkO
open Evl (Ev EvT EvA EvL EvU EvO Ex RC RCL SpV SpL)
section
variable {P : Program} {w : World} {K : PySem.W.Frag} {mg : Str → Option Value} {base : Heap}
/-- what is asked of the ends' callers -/
def EndsIn (cL cG cT : Addr) (H : Hp) (v u : V) (t : Tr) (wf : Str → Int) (n : Nat) : Prop := ∃ xs : List Str, t.depth < n ∧ TAt cL cG H v t ∧ LotAt cT H u wf xs ∧ Ok t ∧ (∀ x ∈ t.names, x ∈ xs ∧ nameOk x = true) ∧ t.names.length ≤ 60 ∧ t.nodes.length ≤ 1000
def spOutsOf2 (cL cG cT : Addr) (n : Nat) : Sp := fun vs H Q _ => ∃ (v u : V) (t : Tr) (wf : Str → Int), vs = [v, u] ∧ EndsIn cL cG cT H v u t wf n ∧ ∀ v' as H', Same H H' → OV wf H' v' t as → as.Nodup → (∀ a ∈ as, H a = none) → (∀ l, v' = .ref l → H l = none) → Q v' H'
theorem ok_outs_of2 (T : Txt K mg) (n : Nat) : FnOk P w K mg base CX0 (n + 5) T.f_outs_of T.d_outs_of ["tree", "lot"] (spOutsOf2 T.a_Leaf T.a_Group T.a_Lot n) := by
  have G_check_kinds := ok_check_kinds (P := P) (w := w) (base := base) T
  have G_check_full := ok_check_full (P := P) (w := w) (base := base) T
  have G_outs := ok_outs2 (P := P) (w := w) (base := base) T n
  refine T.F_outs_of.ok sc_outs_of (fun vs H Q E h => ?_) (fun cdv A outer s H vs Q E hr h => ?_)
  · obtain ⟨_, _, _, _, rfl, _⟩ := h
    rfl
  obtain ⟨v, u, t, wf, rfl, ⟨xs, hd, ht, hu, hok, hx, hz, hnz⟩, q⟩ := h
  refine ⟨_, (pss_cons (ps_expr (pe_call G_check_kinds (hr.mono (by omega)) rfl T.m_check_kinds T.F_check_kinds.kp T.b_check_kinds .nil pass0 (pa_cons (pv 0) (pa_cons (pv 1) pa_nil))))
  (pss_cons (ps_expr (pe_call G_check_full (hr.mono (by omega)) rfl T.m_check_full T.F_check_full.kp T.b_check_full .nil pass0 (pa_cons (pv 0) (pa_cons (pv 1) pa_nil))))
  (pss_one (ps_ret (pe_call G_outs (hr.mono (by omega)) rfl T.m_outs T.F_outs.kp T.b_outs .nil pass0 (pa_cons (pv 0) (pa_cons (pv 1) pa_nil))))))), ?_⟩
  refine un_seq ⟨_, rfl, _, rfl, v, u, t, wf, xs, rfl, ht, hu, fun H1 e1 => ?_⟩
  refine un_seq ⟨_, rfl, _, rfl, v, u, t, wf, xs, rfl, ht.mono e1, hu.mono e1, hx, hz, fun H2 e2 => ?_⟩
  have e12 := Same.trans e1 e2
  exact ⟨_, rfl, _, rfl, v, u, t, wf, xs, rfl, hd, ht.mono e12, hu.mono e12, hok, fun x h => (hx x h).1, hz, hnz, fun v' as H3 e3 o nd fr fl => q v' as H3 (e12.trans e3) o nd (fun a ha => Evl.fresh_back e12 (fr a ha)) fun l el => Evl.fresh_back e12 (fl l el)⟩
def spOutsOf (cL cG cT : Addr) (n : Nat) : Sp := fun vs H Q _ => ∃ (v u : V) (t : Tr) (wf : Str → Int), vs = [v, u] ∧ EndsIn cL cG cT H v u t wf n ∧ ∀ v' H', Same H H' → OR wf H' v' t → Q v' H'
theorem ok_outs_of (T : Txt K mg) (n : Nat) : FnOk P w K mg base CX0 (n + 5) T.f_outs_of T.d_outs_of ["tree", "lot"] (spOutsOf T.a_Leaf T.a_Group T.a_Lot n) := (ok_outs_of2 T n).imp fun vs H Q E h => by
  obtain ⟨v, u, t, wf, e, h1, q⟩ := h
  exact ⟨v, u, t, wf, e, h1, fun v' as H' s o _ _ _ => q v' H' s ⟨as, o⟩⟩
def spEndsOf2 (cL cG cT : Addr) (n : Nat) : Sp := fun vs H Q _ => ∃ (v u : V) (t : Tr) (wf : Str → Int), vs = [v, u] ∧ EndsIn cL cG cT H v u t wf n ∧ ∀ l H', H l = none → Same H H' → H' l = some (.lst ((t.ends wf).map V.int)) → Q (.ref l) H'
theorem ok_ends_of2 (T : Txt K mg) (n : Nat) : FnOk P w K mg base CX0 (n + 5) T.f_ends_of T.d_ends_of ["tree", "lot"] (spEndsOf2 T.a_Leaf T.a_Group T.a_Lot n) := by
  have G_check_kinds := ok_check_kinds (P := P) (w := w) (base := base) T
  have G_check_full := ok_check_full (P := P) (w := w) (base := base) T
  have G_outs := ok_outs2 (P := P) (w := w) (base := base) T n
  refine T.F_ends_of.ok sc_ends_of (fun vs H Q E h => ?_) (fun cdv A outer s H vs Q E hr h => ?_)
  · obtain ⟨_, _, _, _, rfl, _⟩ := h
    rfl
  obtain ⟨v, u, t, wf, rfl, ⟨xs, hd, ht, hu, hok, hx, hz, hnz⟩, q⟩ := h
  refine ⟨_, (pss_cons (ps_expr (pe_call G_check_kinds (hr.mono (by omega)) rfl T.m_check_kinds T.F_check_kinds.kp T.b_check_kinds .nil pass0 (pa_cons (pv 0) (pa_cons (pv 1) pa_nil))))
  (pss_cons (ps_expr (pe_call G_check_full (hr.mono (by omega)) rfl T.m_check_full T.F_check_full.kp T.b_check_full .nil pass0 (pa_cons (pv 0) (pa_cons (pv 1) pa_nil))))
  (pss_one (ps_ret (pe_ix ix_list (pe_call G_outs (hr.mono (by omega)) rfl T.m_outs T.F_outs.kp T.b_outs .nil pass0 (pa_cons (pv 0) (pa_cons (pv 1) pa_nil))) pe_int (fun _ _ => rfl)))))), ?_⟩
  refine un_seq ⟨_, rfl, _, rfl, v, u, t, wf, xs, rfl, ht, hu, fun H1 e1 => ?_⟩
  refine un_seq ⟨_, rfl, _, rfl, v, u, t, wf, xs, rfl, ht.mono e1, hu.mono e1, hx, hz, fun H2 e2 => ?_⟩
  have e12 := Same.trans e1 e2
  refine ⟨_, rfl, _, rfl, v, u, t, wf, xs, rfl, hd, ht.mono e12, hu.mono e12, hok, fun x h => (hx x h).1, hz, hnz, fun v' as H3 e3 o nd fr _ => ?_⟩
  obtain ⟨l, rfl, h1, h2⟩ := o
  have hm : as.headD 0 ∈ as := by
    have o := outs_head wf t
    cases as with
    | nil =>
      have := (List.getElem?_eq_some_iff.mp o).1
      have l := h2.1
      rw [← l] at this
      exact absurd this (Nat.lt_irrefl 0)
    | cons a as => exact List.mem_cons_self
  exact ⟨l, _, 0, _, rfl, rfl, SqL.of h1, go_at h2, q _ H3 (Evl.fresh_back e12 (fr _ hm)) (e12.trans e3) (go_head h2)⟩
def spEndsOf (cL cG cT : Addr) (n : Nat) : Sp := fun vs H Q _ => ∃ (v u : V) (t : Tr) (wf : Str → Int), vs = [v, u] ∧ EndsIn cL cG cT H v u t wf n ∧ ∀ l H', Same H H' → H' l = some (.lst ((t.ends wf).map V.int)) → Q (.ref l) H'
theorem ok_ends_of (T : Txt K mg) (n : Nat) : FnOk P w K mg base CX0 (n + 5) T.f_ends_of T.d_ends_of ["tree", "lot"] (spEndsOf T.a_Leaf T.a_Group T.a_Lot n) := (ok_ends_of2 T n).imp fun vs H Q E h => by
  obtain ⟨v, u, t, wf, e, h1, q⟩ := h
  exact ⟨v, u, t, wf, e, h1, fun l H' _ s o => q l H' s o⟩
end
end Rk
set_option Elab.async false
set_option linter.all false
set_option maxRecDepth 100000
set_option maxHeartbeats 4000000
namespace Rk
open PySem PySem.Spec PyProof.Rows L2 RkO
open Evl (Ev EvT EvA EvL EvU EvO Ex RC RCL SpV SpL)
theorem seven_at (d : Int) (h0 : 0 ≤ d) (h1 : d < 7) : ∃ s : Int, atI [V.int 2, V.int 3, V.int 5, V.int 9, V.int 40, V.int (10 ^ 6), V.int (10 ^ 38)] d = some (.int s) ∧ 2 ≤ s ∧ s ≤ 10 ^ 38 := by
  obtain ⟨j, rfl⟩ : ∃ j : Nat, d = j := ⟨d.toNat, by omega⟩
  have : j = 0 ∨ j = 1 ∨ j = 2 ∨ j = 3 ∨ j = 4 ∨ j = 5 ∨ j = 6 := by omega
  rcases this with rfl | rfl | rfl | rfl | rfl | rfl | rfl
  · exact ⟨2, atI_nat rfl, by decide, by decide⟩
  · exact ⟨3, atI_nat rfl, by decide, by decide⟩
  · exact ⟨5, atI_nat rfl, by decide, by decide⟩
  · exact ⟨9, atI_nat rfl, by decide, by decide⟩
  · exact ⟨40, atI_nat rfl, by decide, by decide⟩
  · exact ⟨10 ^ 6, atI_nat rfl, by decide, by decide⟩
  · exact ⟨10 ^ 38, atI_nat rfl, by decide, by decide⟩
theorem not_in_take {xs : List Str} {i : Nat} {x : Str} (nd : xs.Nodup) (h : xs[i]? = some x) : x ∉ xs.take i := fun z => by
  obtain ⟨j, hj⟩ := List.mem_iff_getElem?.mp z
  rw [List.getElem?_take] at hj
  by_cases c : j < i
  · rw [if_pos c] at hj
    obtain ⟨l1, e1⟩ := List.getElem?_eq_some_iff.mp hj
    obtain ⟨l2, e2⟩ := List.getElem?_eq_some_iff.mp h
    exact List.pairwise_iff_getElem.mp nd j i l1 l2 c (e1.trans e2.symm)
  · rw [if_neg c] at hj
    cases hj
section
variable {P : Program} {w : World} {K : PySem.W.Frag} {mg : Str → Option Value} {base : Heap}
def spWorths (a : Addr) : Sp := fun vs H Q _ => ∃ (ln : Addr) (xs : List Str), vs = [.ref a, .ref ln] ∧ Wl a H H ∧ ln ≠ a ∧ H ln = some (.lst (xs.map V.str)) ∧ xs.Nodup ∧ xs.length ≤ 40 ∧
  ∀ (wf : Str → Int) (kvs : List (Key × V)) d H', H d = none → d ≠ a → H' d = some (.dK kvs) → kvs.map (·.1) = xs.map Sum.inr → (∀ x ∈ xs, valV kvs (.inr x) = some (.int (wf x))) → Wl a H H' → Q (.ref d) H'
theorem ok_law_worths (T : Txt K mg) (a : Addr) : FnOk P w K mg base CX0 2 T.f_law_worths T.d_law_worths ["well", "names"] (spWorths a) := by
  have G_law_dip := ok_law_dip (P := P) (w := w) (base := base) T
  refine T.F_law_worths.ok sc_law_worths (fun vs H Q E h => ?_) (fun cdv A outer s H vs Q E hr h => ?_)
  · obtain ⟨_, _, rfl, _⟩ := h
    rfl
  obtain ⟨ln, xs, rfl, hw, hla, hln, nd, hz, q⟩ := h
  have hu := hu_of hr
  refine ⟨_, (pss_cons (ps_set (i := 2) sc_law_worths.nd rfl (Or.inl rfl) (pe_ix ix_list (pe_lst (pa_cons pe_int (pa_cons pe_int (pa_cons pe_int (pa_cons pe_int (pa_cons pe_int (pa_cons (pe_op op_pow pe_int pe_int) (pa_cons (pe_op op_pow pe_int pe_int) pa_nil)))))))) (pe_call G_law_dip (hr.mono (by omega)) rfl T.m_law_dip T.F_law_dip.kp T.b_law_dip .nil pass0 (pa_cons (pv 0) (pa_cons pe_int pa_nil))) (fun _ _ => rfl)))
  (pss_cons (ps_set (i := 3) sc_law_worths.nd rfl (Or.inl rfl) pe_dnewK)
  (pss_cons (ps_for PassesOwn.never rfl (pi_list (pv 1)) (pg_name (i := 4) sc_law_worths.nd rfl (.inl rfl))
    (pss_one (ps_dput hu (pv 3) (pv 4) (pe_op op_sub (pe_call G_law_dip (hr.mono (by omega)) rfl T.m_law_dip T.F_law_dip.kp T.b_law_dip .nil pass0 (pa_cons (pv 0) (pa_cons (pv 2) pa_nil))) (pe_op op_fdivW (pv 2) pe_int)) rfl)))
  (pss_one (ps_ret (pv 3)))))), ?_⟩
  have pw : ∀ {σ : L2.St} {H1 : Hp} (n : Nat), n ≤ 38 → Ev (tOp (rI CPow fun i j => V.int (i ^ j.toNat)) (tC (V.int 10)) (tC (V.int (n : Int)))) σ H1 (.int (10 ^ n)) := fun n hn H2 e2 Q2 q2 => ⟨_, _, rfl, rfl, ⟨by omega, by omega, by decide⟩, q2 _ (Ex.refl _)⟩
  refine sq_asg <| un_op <| Evl.el_lst (vs := [V.int 2, V.int 3, V.int 5, V.int 9, V.int 40, V.int (10 ^ 6), V.int (10 ^ 38)]) (Evl.ea_cons Evl.ev_c (Evl.ea_cons Evl.ev_c (Evl.ea_cons Evl.ev_c (Evl.ea_cons Evl.ev_c (Evl.ea_cons Evl.ev_c (Evl.ea_cons (by exact pw 6 (by decide)) (Evl.ea_cons (by exact pw 38 (by decide)) Evl.ea_nil))))))) (Nat.le_of_ble_eq_true rfl) H (Ex.refl _) _ fun l1 H1 n1 e1 h1 => ?_
  have w1 := hw.same e1
  refine call_dip (a := a) rfl w1.r (fun R r => r) (by decide) fun d H2 d0 d7 w2 => ?_
  obtain ⟨sp, hsp, s1, s2⟩ := seven_at d d0 d7
  have W2 := w1.trans w2
  refine ⟨l1, _, d, .int sp, rfl, rfl, SqL.of (w2.2 _ _ (hw.ne n1) h1), hsp, ?_⟩
  refine sq_asg fun dw ndw => ?_
  have s3 := same_new ndw (.dK [])
  have W3 := W2.same s3
  have da := W2.ne ndw
  have nd0 := W2.fresh ndw
  refine Evl.q_forLn (K := K) (a := ln) (xs := xs.map V.str) (Evl.ev_var rfl) (SqL.of (s3 _ _ (W2.2 _ _ hla hln))) (fun i σ' H' => ∃ (kvs : List (Key × V)) (nm : Option V), σ' = [some (.ref a), some (.ref ln), some (.int sp), some (.ref dw), nm] ∧ H' dw = some (.dK kvs) ∧ kvs.map (·.1) = (xs.take i).map Sum.inr ∧ (∀ x ∈ xs.take i, ∃ z : Int, valV kvs (.inr x) = some (.int z)) ∧ Wl a H H') (fun H4 e4 => ⟨[], none, rfl, e4 _ _ upd_same, rfl, fun x h => absurd h List.not_mem_nil, W3.same e4⟩) (fun i σ' H' _ h => ?_) (fun i y σ' H' hy h => ?_) (fun σ' H' h => ?_)
  · obtain ⟨_, _, _, _, _, _, W⟩ := h
    exact SqL.of (W.2 _ _ hla hln)
  · obtain ⟨kvs, nm, rfl, hd, hk, hv, W⟩ := h
    rw [List.getElem?_map] at hy
    obtain ⟨x, hxi, rfl⟩ := Option.map_eq_some_iff.mp hy
    have hlt := (List.getElem?_eq_some_iff.mp hxi).1
    refine call_dip (a := a) rfl W.r (fun R r => ⟨_, rfl, r⟩) ⟨by omega, Int.le_trans s2 (by decide)⟩ fun z H5 z0 z1 w5 => ?_
    have hd5 := w5.2 _ _ da hd
    refine ⟨_, rfl, _, _, rfl, rfl, ⟨by decide, by decide +kernel⟩, _, _, rfl, rfl, _, rfl, _, rfl, dw, _, rfl, DPut.k (k := (Sum.inr x : Key)) hd5 (Evl.sz_lt ?_), ?_⟩
    · have := congrArg List.length hk
      rw [List.length_map, List.length_map, List.length_take] at this
      omega
    · have hnew : valV kvs (Sum.inr x : Key) = none := by
        cases hv' : valV kvs (Sum.inr x : Key) with
        | none => rfl
        | some v =>
          have hm := valV_in hv'
          rw [hk] at hm
          obtain ⟨y, hy, ey⟩ := List.mem_map.mp hm
          have : x ∈ xs.take i := (Sum.inr.inj ey) ▸ hy
          exact absurd this (not_in_take nd hxi)
      refine ⟨_, _, rfl, upd_same, ?_, fun y hy => ?_, (W.trans w5).mut da nd0⟩
      · rw [putK_new _ hnew, List.map_append, hk, List.take_add_one, hxi, List.map_append]
        rfl
      · rw [valV_put]
        by_cases c : (Sum.inr y : Key) = Sum.inr x
        · exact ⟨_, by rw [if_pos c]⟩
        · rw [if_neg c]
          rw [List.take_add_one, hxi] at hy
          rcases List.mem_append.mp hy with h | h
          · exact hv y h
          · exact absurd (congrArg Sum.inr (List.mem_singleton.mp h)) c
  · obtain ⟨kvs, nm, rfl, hd, hk, hv, W⟩ := h
    rw [List.length_map, List.take_length] at hk hv
    refine ⟨_, rfl, q (fun x => match valV kvs (.inr x) with | some (.int z) => z | _ => 0) kvs dw H' nd0 da hd hk (fun x hx => ?_) W⟩
    obtain ⟨z, hz⟩ := hv x hx
    rw [hz]
end
end Rk
set_option Elab.async false
set_option linter.all false
set_option maxRecDepth 100000
set_option maxHeartbeats 4000000
namespace Rk
open PySem PySem.Spec PyProof.Rows L2 RkO
open Evl (Ev EvT EvA EvL EvU EvO Ex RC RCL SpV SpL)
section
variable {K : PySem.W.Frag} {σ : L2.St} {H : Hp} {tl te2 : TE} {Q : VK}
/-- [(x, wf x) for x in ys] -/
theorem lc_pairs {ys : List Str} {wf : Str → Int} {j : Nat} {vs : List Nat} {a : Addr} (h : Ev tl σ H (.ref a)) (hx : H a = some (.lst (ys.map V.str))) (hz : ys.length ≤ 40000) (hw : ∀ x, wipe ((wipe σ vs).set j (some x)) vs = wipe σ vs) (hj : ∀ x, ((wipe σ vs).set j (some x))[j]? = some (some x))
    (he : ∀ x H1, Ex H H1 → x ∈ ys → Ev te2 ((wipe σ vs).set j (some (.str x))) H1 (.int (wf x)))
    (q : ∀ D L H', H D = none → Same H H' → PairsAt H' D L → L.map (fun r => r.2.1) = ys → (∀ r ∈ L, r.2.2 = wf r.2.1) → Q (.ref D) H') : tLc (iList K tl) (gName j) tYes (tTup (tCons (tVar j) (tCons te2 tNil))) vs σ H Q := h H (Ex.refl H) _ fun H1 e1 => ⟨a, rfl, ⟨_, SqL.of (e1 _ _ hx)⟩, fun Dl hD => by
  have ha := e1 _ _ hx
  have nD := Evl.fresh_back e1 hD
  refine lc_list (xs := ys.map V.str) (fun i H' => Ex H1 H' ∧ ∃ L : List (Addr × Str × Int), L.length = i ∧ H' Dl = some (.lst (L.map fun r => V.ref r.1)) ∧ (∀ r ∈ L, H' r.1 = some (.tup [.str r.2.1, .int r.2.2])) ∧ L.map (fun r => r.2.1) = ys.take i ∧ ∀ r ∈ L, r.2.2 = wf r.2.1) ⟨Ex.new hD, [], rfl, upd_same, (fun r h => absurd h List.not_mem_nil), rfl, fun r h => absurd h List.not_mem_nil⟩ (fun i H' _ p => SqL.of (p.1 _ _ ha)) (fun i y H' hi p => ?_) (fun H' p => ?_)
  · obtain ⟨p2, L, pl, p3, p4, p5, p6⟩ := p
    rw [List.getElem?_map] at hi
    obtain ⟨x, hxi, rfl⟩ := Option.map_eq_some_iff.mp hi
    have hlt := (List.getElem?_eq_some_iff.mp hxi).1
    refine ⟨hw _, ?_⟩
    refine un_yes <| un_tup ⟨_, hj _, un_cons <| he x H1 e1 (List.mem_of_getElem? hxi) H' p2 _ fun H4 e4 => ⟨Evl.sz_of (Nat.le_of_ble_eq_true rfl), fun p np => ?_⟩⟩
    have p34 := e4 _ _ p3
    have npD : p ≠ Dl := fun z => by rw [z, p34] at np; cases np
    have s5 := same_new np (.tup [.str x, .int (wf x)])
    refine ⟨L.map (fun r => V.ref r.1), s5 _ _ p34, Evl.sz_lt (by rw [List.length_map]; omega), ?_, L ++ [(p, x, wf x)], by rw [List.length_append, pl]; rfl, by rw [List.map_append]; exact upd_same, fun r hr => ?_, by rw [List.map_append, p5, List.take_add_one, hxi]; rfl, fun r hr => ?_⟩
    · exact Ex.mut ((p2.trans e4).trans s5) hD
    · rcases List.mem_append.mp hr with h | h
      · have g := s5 _ _ (e4 _ _ (p4 r h))
        rw [upd_ne (fun z => by rw [z, s5 _ _ p34] at g; cases g)]
        exact g
      · rw [List.mem_singleton.mp h]
        rw [upd_ne npD]
        exact upd_same
    · rcases List.mem_append.mp hr with h | h
      · exact p6 r h
      · rw [List.mem_singleton.mp h]
  · obtain ⟨p2, L, pl, p3, p4, p5, p6⟩ := p
    rw [List.length_map, List.take_length] at p5
    exact q Dl L H' nD (fun b o z => p2 b o (e1 b o z)) ⟨p3, p4⟩ p5 p6⟩
end
section
variable {P : Program} {w : World} {K : PySem.W.Frag} {mg : Str → Option Value} {base : Heap}
/-- a dict of worths -/
def WD (H : Hp) (d : Addr) (wf : Str → Int) (xs : List Str) : Prop := ∃ kvs : List (Key × V), H d = some (.dK kvs) ∧ kvs.map (·.1) = xs.map Sum.inr ∧ ∀ x ∈ xs, valV kvs (.inr x) = some (.int (wf x))
theorem WD.mono {H H' : Hp} {d : Addr} {wf : Str → Int} {xs : List Str} (h : WD H d wf xs) (e : Same H H') : WD H' d wf xs := by
  obtain ⟨kvs, h1, h2⟩ := h
  exact ⟨kvs, e _ _ h1, h2⟩
theorem WD.get {H : Hp} {d : Addr} {wf : Str → Int} {xs : List Str} {x : Str} (h : WD H d wf xs) (hx : x ∈ xs) : DGet H d (.str x) (some (.int (wf x))) := by
  obtain ⟨kvs, h1, h2, h3⟩ := h
  have := DGet.k (k := (Sum.inr x : Key)) h1
  rwa [h3 x hx] at this
def spLPairs : Sp := fun vs H Q _ => ∃ (d : Addr) (wf : Str → Int) (xs : List Str), vs = [.ref d] ∧ WD H d wf xs ∧ xs.Nodup ∧ xs.length ≤ 40 ∧ ∀ l L H', Same H H' → PairsAt H' l L → (L.map fun r => r.2.1).Perm xs → (∀ r ∈ L, r.2.2 = wf r.2.1) → Q (.ref l) H'
theorem ok_law_pairs (T : Txt K mg) : FnOk P w K mg base CX0 2 T.f_law_pairs T.d_law_pairs ["worths"] spLPairs := by
  refine T.F_law_pairs.ok sc_law_pairs (fun vs H Q E h => ?_) (fun cdv A outer s H vs Q E hr h => ?_)
  · obtain ⟨_, _, _, rfl, _⟩ := h
    rfl
  obtain ⟨d, wf, xs, rfl, hW, nd, hz, q⟩ := h
  refine ⟨_, (pss_one (ps_ret (pe_lc (own := [("name", 1)]) rfl sc_law_pairs.nd  (pi_list (pe_callB (call_sortedD rfl) (by rfl) T.m_sorted (by decide +kernel) (pa_cons (pv 0) pa_nil))) (blkOk_by (own := [("name", 1)]) (N := ["worths", "name"]) (sc := defScope s_law_pairs) (by decide +kernel)) (fun _ _ _ _ _ => (pg_name (i := 1) sc_law_pairs.nd rfl (.inl rfl))) (fun _ _ _ _ _ => pts_nil) (fun _ _ _ _ _ => (pe_tup (pa_cons (pv 1) (pa_cons (by exact (pe_dget (hu_of hr) (pv 0) (pv 1) (fun _ _ => rfl))) pa_nil))))))), ?_⟩
  refine un_ret <| lc_tl ?_
  have hW0 := hW
  obtain ⟨kvs, h1, h2, h3⟩ := hW0
  refine ⟨_, rfl, d, kvs, xs, rfl, .inl h1, h2, by omega, fun ys p perm _ np => ?_⟩
  have s1 := same_new np (.lst (ys.map V.str))
  have hy : (upd H p (.lst (ys.map V.str))) p = some (.lst (ys.map V.str)) := upd_same
  generalize upd H p (.lst (ys.map V.str)) = H1 at s1 hy ⊢
  refine lc_pairs (wf := wf) Evl.ev_c hy (by rw [perm.length_eq]; omega) (fun x => rfl) (fun x => rfl) (fun x H2 e hm => ?_) fun D L H2 nD s2 hL eL hv => q D L H2 (s1.trans s2) hL (by rw [eL]; exact perm) hv
  intro H3 e3 Q3 q3
  exact ⟨_, rfl, _, rfl, d, _, rfl, (hW.mono ((s1.trans e).trans e3)).get (perm.mem_iff.mp hm), q3 _ (Ex.refl _)⟩
end
end Rk
set_option Elab.async false
set_option linter.all false
set_option maxRecDepth 100000
set_option maxHeartbeats 4000000
/-! enumerate(xs, start=k) -/
namespace RkM
open PySem PyProof.Rows
section
variable {M : Model} {A : Around} {E : Value → Shared → Prop} {s : Shared} {env : Env}
theorem type_kw {pos : Pos} {T : String} {a : Expr} {more : List Expr} {kws : List Keyword} {Q : Value → Shared → Prop}
    (go : wpAny M A (spliced (backTo pos (starEach (a :: more) env))) (fun us s1 => wpAny M A (evalAll ((backToKw pos (keywordEach kws env)).map (·.2)))
      (fun ws s2 => wpAny M A (call (.type T) us (((backToKw pos (keywordEach kws env)).filterMap (·.1)).zip ws)) Q E s2) E s1) E s)
    (k1 : backTo pos (starEach (a :: more) env) = (false, eval a env) :: backTo pos (starEach more env)) (k2 : (backTo pos (starEach (a :: more) env)).any (·.1) = false)
    (k3 : (backToKw pos (keywordEach kws env)).all (·.1.isSome) = true) (k4 : (backToKw pos (keywordEach kws env)).any (·.1.isNone) = false) :
    wpAny M A (callWith pos (.type T) [] (backTo pos (starEach (a :: more) env)) (backToKw pos (keywordEach kws env))) Q E s := by
  have ev : wpAny M A (evalArgs (.type T) true (backTo pos (starEach (a :: more) env)) (backToKw pos (keywordEach kws env))) (fun x s1 => wpAny M A (call (.type T) ([] ++ x.pos) x.kw) Q E s1) E s := by
    rw [k1] at go ⊢
    exact evalArgs_kwB k3 go
  unfold callWith
  refine wpAny_bind (wpAny_holding (wpAny_mono ev (fun x s1 y => wpAny_bind (wpAny_standAt ?_)) fun _ _ z => z))
  simp only [k2, k4, Bool.or_false]
  first
    | exact wpAny_bind (wpAny_pure (wpAny_bind (wpAny_mono y (fun r s2 z => wpAny_bind (wpAny_holding (wpAny_point (wpAny_pure z)))) fun _ _ z => z)))
    | exact wpAny_bind (wpAny_mono y (fun r s2 z => wpAny_bind (wpAny_holding (wpAny_point (wpAny_pure z)))) fun _ _ z => z)
end
end RkM
namespace L2
open PySem PySem.Spec PyProof.Rows
/-- the list at a as it stands at each turn, each item in a new pair, counted from lo -/
def Itf (K : PySem.W.Frag) (a : Addr) (lo : Int) : It :=
  ⟨fun i H => ∃ (ys : List V) (y : V), SqL K H a ys ∧ ys[i]? = some y, fun i H v H' => ∃ T y, v = .ref T ∧ H T = none ∧ H' = upd H T (.tup [.int (lo + (i : Nat)), y]) ∧ ∀ ys, SqL K H a ys → ys[i]? = some y, fun i H => ∃ ys : List V, SqL K H a ys ∧ ys.length = i⟩
theorem turn_from {P : Program} {w : World} {K : PySem.W.Frag} {tup : List Expr} {kk : Nat} {tp : Pos} (a e t : Addr) (lo : Int) (hea : e ≠ a) (hta : a ≠ t) :
    Turn P w K (.Tuple tup kk tp) (Itf K a lo) [e, t] e (fun i h => (∃ was, IsEnum h e t (lo + (i : Int)) was) ∧ h.IsListIter t a i ∧ e ≠ t) where
  mem := by simp
  obj := fun i h z b hb => by
    obtain ⟨⟨was, he⟩, ⟨o, ho, hc, hd⟩, _⟩ := z
    have cs : b = e ∨ b = t := by simpa using hb
    rcases cs with y | y
    · rw [y]
      exact ⟨_, he, fun v q => nomatch q⟩
    · rw [y]
      exact ⟨o, ho, fun v q => by rw [hd] at q; cases q⟩
  keep := fun i h h' z k => by
    obtain ⟨⟨was, he⟩, hi, hne⟩ := z
    exact ⟨⟨was, k e (by simp) _ he⟩, hi.at fun o q => k t (by simp) o q, hne⟩
  item := by
    intro X hP hw hK hc i pins s σ H E I hf z hg
    subst hP
    subst hw
    subst hK
    obtain ⟨⟨was, he⟩, hit, hne⟩ := z
    obtain ⟨ys, y, hq, hy⟩ := hg
    obtain ⟨us, rv, pl, _⟩ := I.list hq
    obtain ⟨u, hu, ru⟩ := rv.get hy
    have hel : e < s.heap.objs.size := Heap.lt_size he
    have htl : t < s.heap.objs.size := by
      obtain ⟨_, q, _⟩ := hit
      exact Heap.lt_size q
    have hlt : i < us.toArray.size := by
      rw [List.size_toArray]
      exact (List.getElem?_eq_some_iff.mp hu).1
    refine wpAny_pyNext_enum_itemC (Draws.list (prog := X.prog) (w := X.w) (A := X.A.in1) (I.ok.hd hc) t a hta us.toArray) he ⟨hit, pl.isList⟩ hlt hne (by simp [hne, hea]) fun x h1 tk hx ho hst hT hsz hk => ?_
    have hx : us.toArray[i]? = some x := hx
    have ex : x = u := by
      rw [show us.toArray[i]? = us[i]? by simp, hu] at hx
      exact (Option.some.inj hx).symm
    subst ex
    refine ⟨_, rfl, wpAny_letOwnedTupleGo_enum (s := { s with heap := h1, toks := tk + 1 }) ho fun h2 he2 sb => ?_⟩
    have hT2 : h2.get? s.heap.objs.size = some { cls := .type "tuple", data := .seq #[.int (lo + (i : Int)) tk, x] } := (sb.2 _ (Nat.ne_of_gt hel)).trans hT
    have fresh : ObjOk X.prog X.w (upd H s.heap.objs.size (.tup [.int (lo + (i : Nat)), y])) h2 s.heap.objs.size (.tup [.int (lo + (i : Nat)), y]) :=
      ⟨by show 2 ≤ sizeLine; decide, [.int (lo + (i : Int)) tk, x], .cons ⟨_, rfl⟩ (.cons ru .nil), ⟨_, hT2, rfl, _, rfl⟩⟩
    have J : Inv X pins σ (upd H s.heap.objs.size (.tup [.int (lo + (i : Nat)), y])) { s with heap := h2, toks := tk + 1 } :=
      I.turnedNew (ch := [e, t]) (fun b ob hb q => (sb.2 b (fun z => hb (by simp [z]))).trans (hk b ob (fun z => hb (by simp [z])) (fun z => hb (by simp [z])) q)) hf (Nat.le_refl _) fresh
    refine ⟨.ref s.heap.objs.size, _, J, rfl, ⟨_, y, rfl, I.hok.fresh (Nat.le_refl _), rfl, fun zs hz => by rw [I.list_inj hz hq]; exact hy⟩, ⟨⟨x, ?_⟩, hst.1.at fun o q => (sb.2 t (Ne.symm hne)).trans q, hne⟩, fun b hb => ?_⟩
    · have e1 : lo + ((i + 1 : Nat) : Int) = lo + (i : Int) + 1 := by omega
      rw [e1]
      exact he2
    · have hb' : b < s.heap.objs.size := by
        have cs : b = e ∨ b = t := by simpa using hb
        rcases cs with z | z
        · rw [z]
          exact hel
        · rw [z]
          exact htl
      rw [upd_ne (Nat.ne_of_lt hb')]
      exact (hf b hb).1
  done := by
    intro X hP hw hK hc i pins s σ H E I hf z hg
    subst hP
    subst hw
    subst hK
    obtain ⟨⟨was, he⟩, hit, hne⟩ := z
    obtain ⟨ys, hq, hy⟩ := hg
    obtain ⟨us, rv, pl, _⟩ := I.list hq
    obtain ⟨f0, f1, f2, f3, f4, f5⟩ := hf t (by simp)
    have hl := rv.length
    have hi2 : i = us.toArray.size := by
      rw [List.size_toArray, ← hl]
      exact hy.symm
    subst hi2
    exact wpAny_pyNext_enum_endD (Draws.list (prog := X.prog) (w := X.w) (A := X.A.in1) (I.ok.hd hc) t a hta us.toArray) he ⟨hit, pl.isList⟩ fun h1 eb => ⟨rfl, I.turned (t' := s.toks) (fun b o hb q => eb b o hb q) f0 f1 f3 f4 f5⟩
  self := fun A i s Q E z h => by
    obtain ⟨⟨_, he⟩, _⟩ := z
    exact wpAny_pyIter_enum he h
def iFrom (K : PySem.W.Frag) (lo : Int) (ta : TA) : TI := fun σ H R => ta σ H fun vs H1 => ∃ a ys, vs = [.ref a] ∧ SqL K H1 a ys ∧ R (Itf K a lo) H1
theorem pi_from {X : Cx} {e : Expr} {ta : TA} {p p3 pos tp : Pos} {tup : List Expr} {kk : Nat} {lo : Int} {ke : Expr} (hk0 : -(2 ^ 63) ≤ lo ∧ lo < 2 ^ 63) (hc : PE X ke (tC (.int lo))) (hg : Gl X "enumerate") (hm : X.mg "enumerate" = none) (ha : PA X [e] ta)
    (k1 : backTo pos (starEach [e] X.env) = (false, eval e X.env) :: backTo pos (starEach [] X.env) := by rfl) (k2 : (backTo pos (starEach [e] X.env)).any (·.1) = false := by rfl)
    (k3 : (backToKw pos (keywordEach [⟨some "start", ke, p3⟩] X.env)).all (·.1.isSome) = true := by rfl) (k4 : (backToKw pos (keywordEach [⟨some "start", ke, p3⟩] X.env)).any (·.1.isNone) = false := by rfl) :
    PI X (.Tuple tup kk tp) (.Call (.Name "enumerate" p) [e] [⟨some "start", ke, p3⟩] pos) (iFrom X.K lo ta) := by
  refine ⟨fun pins s σ H R I h => ?_⟩
  refine wpAny_Call_Name_kw (ld_blt I hg hm boot_enumerate ?_ (by decide) (by decide))
  refine RkM.type_kw (thn (ha.run pos pins _ σ H _ I h) fun us s1 ⟨vs, H1, I1, r1, q1⟩ => ?_) k1 k2 k3 k4
  refine wpAny_evalAll_cons (wpAny_bind (thn (hc.run pins s1 σ H1 (fun v H2 => v = .int lo ∧ H2 = H1) I1 ⟨rfl, rfl⟩) fun w s2 ⟨v, H2, I2, rw2, ev, eH⟩ => ?_))
  subst ev
  subst eH
  obtain ⟨tok, rfl⟩ := (show ∃ t, w = Value.int lo t from rw2)
  refine wpAny_bind (wpAny_standAt (wpAny_pure (wpAny_evalAll_nil ?_)))
  obtain ⟨a, ys, rfl, hq, q⟩ := q1
  rw [Vals.ref1 r1]
  obtain ⟨its, rv, pl, _⟩ := I2.list hq
  refine enum_begins_start (begins_list a its.toArray) pl.isList hk0.1 hk0.2 fun h1 he hit hsz hk => wpAny_pyIter_enum he ?_
  have I3 : Inv X pins σ H2 { s2 with heap := h1 } := I2.kept (t' := s2.toks) hk
  have hla : a < s2.heap.objs.size := by
    obtain ⟨o, ho, _⟩ := pl.isList
    exact Heap.lt_size ho
  refine ⟨s2.heap.objs.size + 1, [s2.heap.objs.size + 1, s2.heap.objs.size], _, _, H2, rfl, I3, turn_from a (s2.heap.objs.size + 1) s2.heap.objs.size lo (Nat.ne_of_gt (Nat.lt_succ_of_lt hla)) (Nat.ne_of_lt hla), ⟨⟨.none, ?_⟩, ⟨_, hit, rfl, rfl⟩, Nat.succ_ne_self _⟩, fun b hb => ?_, q⟩
  · rw [show lo + ((0 : Nat) : Int) = lo by omega]
    exact he
  · have cs : b = s2.heap.objs.size + 1 ∨ b = s2.heap.objs.size := by simpa using hb
    have hle : s2.heap.objs.size ≤ b := by
      rcases cs with z | z
      · rw [z]
        exact Nat.le_add_right _ _
      · rw [z]
        exact Nat.le_refl _
    exact I2.fpOk hle (I2.hok.fresh hle)
theorem pi_fromK {X : Cx} {K : PySem.W.Frag} {tg it : Expr} {ta : TA} {lo : Int} (hK : X.K = K) (h : PI X tg it (iFrom X.K lo ta)) : PI X tg it (iFrom K lo ta) := by
  subst hK
  exact h
theorem walk_from {K : PySem.W.Frag} {a : Addr} {lo : Int} {xs : List V} : Walk (Itf K a lo) xs.length (fun H => SqL K H a xs) (YPair (fun i => some (.int (lo + (i : Nat)))) (fun i => xs[i]?)) := by
  refine ⟨fun i _ hi q => ⟨xs, xs[i], q, by simp [hi]⟩, fun _ q => ⟨xs, q, rfl⟩, fun i H v H' _ q y => ?_⟩
  obtain ⟨T, x, h1, h2, h3, h4⟩ := y
  exact ⟨T, _, x, h1, h2, h3, rfl, h4 xs q⟩
end L2
set_option Elab.async false
set_option linter.all false
set_option maxRecDepth 100000
set_option maxHeartbeats 4000000
namespace Rx
open PySem PySem.Spec PyProof.Rows L2 RkO
open Evl (Ev EvT EvA EvL EvU EvO Ex)
section
variable {K : PySem.W.Frag} {σ : L2.St} {H : Hp} {te tl : TE} {ta : TA}
/-- [e for i, x in (a walk that counts from lo over a list)] -/
theorem lcE_core {α : Type} {Ra : α → Rel} {Rb : Nat → α → Rel} {xs : List α} {j1 j2 : Nat} {vs : List Nat} {lo : Int} {J : It} {a : Addr} {us : List V} {M : Addr → Bool} {H0 H1 : Hp} {Q : VK} {tt : TT} {p : Nat → α → Bool} (mA : ∀ a ∈ xs, MonV (Ra a)) (mB : ∀ i, ∀ a ∈ xs, MonV (Rb i a))
    (wk : Walk J us.length (fun H => SqL K H a us) (YPair (fun i => some (.int (lo + (i : Nat)))) (fun i => us[i]?))) (hm : Hides M H0) (e0 : Ex H (hid M H0)) (e1 : Ex H0 H1) (ha1 : H1 a = some (.lst us)) (hx : AllR (xs.map Ra) (hid M H1) us) (hz : xs.length ≤ 40000)
    (hw : ∀ x y, wipe (((wipe σ vs).set j1 (some x)).set j2 (some y)) vs = wipe σ vs)
    (he : ∀ i a, xs[i]? = some a → ∀ v H1, Ex H H1 → Ra a H1 v → EvX te (((wipe σ vs).set j1 (some (.int (lo + (i : Nat))))).set j2 (some v)) H1 (Rb i a))
    (q : ∀ v H2, Ex H0 H2 → RL (xs.mapIdx Rb) (hid M H2) v → Q v H2) {Dl : Addr} (hD : H1 Dl = none) :
    ∃ W : Nat → Nat → Hp → Prop, (∃ m, W 0 m (upd H1 Dl (.lst []))) ∧ ∀ i m H, W i m H →
      (J.stop i H ∧ Q (.ref Dl) H) ∨ (J.go i H ∧ ∃ Nx : Hp → Prop, (∀ H', Nx H' → ∃ m', m' < m ∧ W (i + 1) m' H') ∧ ∀ x H', J.yld i H x H' → gTup K 2 (gCons (gName j1) (gCons (gName j2) gNil)) x (wipe σ vs) H' fun σ2 H2 => wipe σ2 vs = wipe σ vs ∧ tYes σ2 H2 fun b H3 =>
        if b = true then te σ2 H3 fun y H4 => ∃ acc, H4 Dl = some (.lst acc) ∧ acc.length < sizeLine ∧ Nx (upd H4 Dl (.lst (acc ++ [y]))) else Nx H3) := by
  have hul : us.length = xs.length := by rw [hx.len, List.length_map]
  have mD := (hm.ex e1).some hD
  have mBi : ∀ i, MonA ((xs.take i).mapIdx Rb) := fun i R hR => by
    obtain ⟨k, hk, rfl⟩ := List.mem_mapIdx.mp hR
    exact mB k _ (List.mem_of_mem_take (List.getElem_mem hk))
  refine lc_it wk (fun i H' => Ex H1 H' ∧ ∃ us', us'.length ≤ i ∧ H' Dl = some (.lst us') ∧ AllR ((xs.take i).mapIdx Rb) (hid (fun b => M b || decide (b = Dl)) H') us') ⟨Ex.new hD, [], Nat.le_refl _, upd_same, rfl⟩ (fun i H' _ p => SqL.of (p.1 _ _ ha1)) (fun i v H' H'' hi p0 y => ?_) (fun H' p0 => ?_)
  · obtain ⟨T, x, y, rfl, nT, rfl, hc, hy⟩ := y
    have hc : some (V.int (lo + (i : Nat))) = some x := hc
    cases hc
    obtain ⟨p2, us', pl, p3, p4⟩ := p0
    have hlt : i < xs.length := by rw [← hul]; exact hi
    have hai : xs[i]? = some xs[i] := List.getElem?_eq_getElem hlt
    have hmem : xs[i] ∈ xs := List.getElem_mem hlt
    obtain ⟨y', hy', ry⟩ := hx.get (i := i) (R := Ra xs[i]) (by rw [List.getElem?_map, hai]; rfl)
    have hy : us[i]? = some y := hy
    rw [hy] at hy'
    cases hy'
    have eT := Ex.new (o := .tup [.int (lo + (i : Nat)), y]) nT
    have p3' := eT _ _ p3
    have hM1 : Hides (fun b => M b || decide (b = Dl)) (upd H' T (.tup [.int (lo + (i : Nat)), y])) := fun b hb => by
      rcases Bool.or_eq_true_iff.mp hb with hb | hb
      · exact (hm.ex (e1.trans (p2.trans eT))) b hb
      · rw [of_decide_eq_true hb]
        exact .inl ⟨_, p3'⟩
    have up : Ex (hid M H1) (hid (fun b => M b || decide (b = Dl)) (upd H' T (.tup [.int (lo + (i : Nat)), y]))) := fun b o z => by
      have hb : M b = false := by
        cases hb : M b with
        | false => rfl
        | true => rw [hid_t hb] at z; cases z
      rw [hid_f hb] at z
      have nb : b ≠ Dl := ne_of_none z hD
      rw [hid_f (show (M b || decide (b = Dl)) = false by rw [hb, decide_eq_false nb]; rfl)]
      exact (p2.trans eT) b o z
    have exH : Ex H (hid (fun b => M b || decide (b = Dl)) (upd H' T (.tup [.int (lo + (i : Nat)), y]))) := (e0.trans (hid_ex e1)).trans up
    refine ⟨T, _, rfl, SqT.of upd_same, rfl, _, _, rfl, _, _, rfl, rfl, hw _ _, ?_⟩
    simp only [tYes, ↓reduceIte]
    refine he i _ hai y _ exH (mA _ hmem _ _ _ ry up) _ _ hM1 (Ex.refl _) _ fun v' H4 e4 rv => ⟨us', e4 _ _ p3', Evl.sz_lt (by omega), (p2.trans (eT.trans e4)).mut hD, us' ++ [v'], by rw [List.length_append]; exact Nat.succ_le_succ pl, upd_same, ?_⟩
    have tk : xs.take (i + 1) = xs.take i ++ [xs[i]] := by rw [List.take_add_one, hai]; rfl
    rw [hid_upd_t (by simp), tk, List.mapIdx_concat, List.length_take, Nat.min_eq_left (Nat.le_of_lt hlt)]
    exact AllR.app (p4.mono (mBi i) (hid_ex (eT.trans e4))) (AllR.one rv)
  · obtain ⟨p2, us', pl, p3, p4⟩ := p0
    have m2 := mBi us.length
    rw [hul, List.take_length] at p4 m2
    refine q _ H' (e1.trans p2) ⟨Dl, us', rfl, by rw [hid_f mD]; exact p3, p4.mono m2 fun b o z => ?_⟩
    have hb : (M b || decide (b = Dl)) = false := by
      cases hb : (M b || decide (b = Dl)) with
      | false => rfl
      | true => rw [hid_t hb] at z; cases z
    rw [hid_f hb] at z
    rw [hid_f (Bool.or_eq_false_iff.mp hb).1]
    exact z
theorem x_lcF {α : Type} {Ra : α → Rel} {Rb : Nat → α → Rel} {xs : List α} {j1 j2 : Nat} {vs : List Nat} {lo : Int} (mA : ∀ a ∈ xs, MonV (Ra a)) (mB : ∀ i, ∀ a ∈ xs, MonV (Rb i a)) (h : EvX tl σ H (RL (xs.map Ra))) (hz : xs.length ≤ 40000) (hw : ∀ x y, wipe (((wipe σ vs).set j1 (some x)).set j2 (some y)) vs = wipe σ vs)
    (he : ∀ i a, xs[i]? = some a → ∀ v H1, Ex H H1 → Ra a H1 v → EvX te (((wipe σ vs).set j1 (some (.int (lo + (i : Nat))))).set j2 (some v)) H1 (Rb i a)) : EvX (tLc (iFrom K lo (tCons tl tNil)) (gTup K 2 (gCons (gName j1) (gCons (gName j2) gNil))) tYes te vs) σ H (RL (xs.mapIdx Rb)) := fun M H0 hm e0 Q q => h M H0 hm e0 _ fun v H1 e1 r => by
  obtain ⟨a, us, rfl, ha, hx⟩ := r
  have ha1 : H1 a = some (.lst us) := hid_le _ _ ha
  exact ⟨a, us, rfl, SqL.of ha1, fun Dl hD => lcE_core (p := fun _ _ => true) (tt := tYes) mA mB walk_from hm e0 e1 ha1 hx hz hw he q hD⟩
theorem x_lcE {α : Type} {Ra : α → Rel} {Rb : Nat → α → Rel} {xs : List α} {j1 j2 : Nat} {vs : List Nat} (mA : ∀ a ∈ xs, MonV (Ra a)) (mB : ∀ i, ∀ a ∈ xs, MonV (Rb i a)) (h : EvX tl σ H (RL (xs.map Ra))) (hz : xs.length ≤ 40000) (hw : ∀ x y, wipe (((wipe σ vs).set j1 (some x)).set j2 (some y)) vs = wipe σ vs)
    (he : ∀ (i : Nat) a, xs[i]? = some a → ∀ v H1, Ex H H1 → Ra a H1 v → EvX te (((wipe σ vs).set j1 (some (.int (i : Nat)))).set j2 (some v)) H1 (Rb i a)) : EvX (tLc (iEnum K (tCons tl tNil)) (gTup K 2 (gCons (gName j1) (gCons (gName j2) gNil))) tYes te vs) σ H (RL (xs.mapIdx Rb)) := fun M H0 hm e0 Q q => h M H0 hm e0 _ fun v H1 e1 r => by
  obtain ⟨a, us, rfl, ha, hx⟩ := r
  have ha1 : H1 a = some (.lst us) := hid_le _ _ ha
  have wk : Walk (Ite K a) us.length (fun H => SqL K H a us) (YPair (fun i => some (.int ((0 : Int) + (i : Nat)))) (fun i => us[i]?)) := by
    have := walk_enum (K := K) (a := a) (xs := us)
    have e : (fun i : Nat => some (V.int ((0 : Int) + (i : Nat)))) = fun i : Nat => some (V.int (i : Nat)) := by
      funext i
      rw [Int.zero_add]
    rw [e]
    exact this
  exact ⟨a, us, rfl, SqL.of ha1, fun Dl hD => lcE_core (p := fun _ _ => true) (tt := tYes) mA mB wk hm e0 e1 ha1 hx hz hw (fun i a hi v H1 e r => by rw [Int.zero_add]; exact he i a hi v H1 e r) q hD⟩
/-- [e for i in range(lo, n) if t] -/
theorem lcR_core {Rb : Nat → Rel} {j n : Nat} {vs : List Nat} {lo : Int} {M : Addr → Bool} {H0 H1 : Hp} {Q : VK} {tt : TT} {p : Nat → Bool} (mB : ∀ i, MonV (Rb i)) (hm : Hides M H0) (e0 : Ex H (hid M H0)) (e1 : Ex H0 H1) (hz : n ≤ 40000)
    (hw : ∀ x, wipe ((wipe σ vs).set j (some x)) vs = wipe σ vs)
    (ht : ∀ i, i < n → ∀ H1, Ex H H1 → EvT tt ((wipe σ vs).set j (some (.int (lo + (i : Nat))))) H1 (p i)) (he : ∀ i, i < n → p i = true → ∀ H1, Ex H H1 → EvX te ((wipe σ vs).set j (some (.int (lo + (i : Nat))))) H1 (Rb i))
    (q : ∀ v H2, Ex H0 H2 → RL (((List.range n).filter p).map Rb) (hid M H2) v → Q v H2) {Dl : Addr} (hD : H1 Dl = none) :
    ∃ W : Nat → Nat → Hp → Prop, (∃ m, W 0 m (upd H1 Dl (.lst []))) ∧ ∀ i m H, W i m H →
      ((Itr lo n).stop i H ∧ Q (.ref Dl) H) ∨ ((Itr lo n).go i H ∧ ∃ Nx : Hp → Prop, (∀ H', Nx H' → ∃ m', m' < m ∧ W (i + 1) m' H') ∧ ∀ x H', (Itr lo n).yld i H x H' → gName j x (wipe σ vs) H' fun σ2 H2 => wipe σ2 vs = wipe σ vs ∧ tt σ2 H2 fun b H3 =>
        if b = true then te σ2 H3 fun y H4 => ∃ acc, H4 Dl = some (.lst acc) ∧ acc.length < sizeLine ∧ Nx (upd H4 Dl (.lst (acc ++ [y]))) else Nx H3) := by
  have mD := (hm.ex e1).some hD
  have mm : ∀ i, MonA (((List.range i).filter p).map Rb) := fun i => MonA.map fun k _ => mB k
  refine lc_it (walk_range (lo := lo) (n := n)) (fun i H' => Ex H1 H' ∧ ∃ us', us'.length ≤ i ∧ H' Dl = some (.lst us') ∧ AllR (((List.range i).filter p).map Rb) (hid (fun b => M b || decide (b = Dl)) H') us') ⟨Ex.new hD, [], Nat.le_refl _, upd_same, rfl⟩ (fun i H' _ p => trivial) (fun i v Hx H' hi p0 y => ?_) (fun H' p0 => ?_)
  · obtain ⟨rfl, rfl⟩ := y
    obtain ⟨p2, us', pl, p3, p4⟩ := p0
    have hM1 : Hides (fun b => M b || decide (b = Dl)) H' := fun b hb => by
      rcases Bool.or_eq_true_iff.mp hb with hb | hb
      · exact (hm.ex (e1.trans p2)) b hb
      · rw [of_decide_eq_true hb]
        exact .inl ⟨_, p3⟩
    have up : Ex (hid M H1) (hid (fun b => M b || decide (b = Dl)) H') := fun b o z => by
      have hb : M b = false := by
        cases hb : M b with
        | false => rfl
        | true => rw [hid_t hb] at z; cases z
      rw [hid_f hb] at z
      have nb : b ≠ Dl := ne_of_none z hD
      rw [hid_f (show (M b || decide (b = Dl)) = false by rw [hb, decide_eq_false nb]; rfl)]
      exact p2 b o z
    have exH : Ex H (hid (fun b => M b || decide (b = Dl)) H') := (e0.trans (hid_ex e1)).trans up
    refine ⟨hw _, ht i hi _ exH H' hid_le _ fun H3 e3 => ?_⟩
    cases hp : p i with
    | true =>
      refine he i hi hp _ exH _ H3 (hM1.ex e3) (hid_ex e3) _ fun v' H4 e4 rv => ⟨us', e4 _ _ (e3 _ _ p3), Evl.sz_lt (by omega), (p2.trans (e3.trans e4)).mut hD, us' ++ [v'], by rw [List.length_append]; exact Nat.succ_le_succ pl, upd_same, ?_⟩
      rw [hid_upd_t (by simp), List.range_succ, List.filter_append, List.map_append, List.filter_cons, if_pos hp]
      exact AllR.app (p4.mono (mm i) (hid_ex (e3.trans e4))) (AllR.one rv)
    | false =>
      refine ⟨p2.trans e3, us', Nat.le_succ_of_le pl, e3 _ _ p3, ?_⟩
      rw [List.range_succ, List.filter_append, List.filter_cons, if_neg (by rw [hp]; decide), List.filter_nil, List.append_nil]
      exact p4.mono (mm i) (hid_ex e3)
  · obtain ⟨p2, us', pl, p3, p4⟩ := p0
    refine q _ H' (e1.trans p2) ⟨Dl, us', rfl, by rw [hid_f mD]; exact p3, p4.mono (mm n) fun b o z => ?_⟩
    have hb : (M b || decide (b = Dl)) = false := by
      cases hb : (M b || decide (b = Dl)) with
      | false => rfl
      | true => rw [hid_t hb] at z; cases z
    rw [hid_f hb] at z
    rw [hid_f (Bool.or_eq_false_iff.mp hb).1]
    exact z
theorem x_lcR2 {Rb : Nat → Rel} {j n : Nat} {vs : List Nat} {lo hi : Int} {tt : TT} {p : Nat → Bool} (mB : ∀ i, MonV (Rb i)) (h : EvA ta σ H [.int lo, .int hi]) (hn : (hi - lo).toNat = n) (hz : n ≤ 40000) (hb : -100000 ≤ lo ∧ lo ≤ 100000 ∧ -100000 ≤ hi ∧ hi ≤ 100000) (hw : ∀ x, wipe ((wipe σ vs).set j (some x)) vs = wipe σ vs)
    (ht : ∀ i, i < n → ∀ H1, Ex H H1 → EvT tt ((wipe σ vs).set j (some (.int (lo + (i : Nat))))) H1 (p i)) (he : ∀ i, i < n → p i = true → ∀ H1, Ex H H1 → EvX te ((wipe σ vs).set j (some (.int (lo + (i : Nat))))) H1 (Rb i)) : EvX (tLc (iRng2 ta) (gName j) tt te vs) σ H (RL (((List.range n).filter p).map Rb)) := fun M H0 hm e0 Q q => h H0 (e0.trans hid_le) _ fun H1 e1 => by
  subst hn
  exact ⟨lo, hi, rfl, ⟨by omega, by omega, by omega, by omega⟩, fun Dl hD => lcR_core mB hm e0 e1 hz hw ht he q hD⟩
theorem x_lcR1 {Rb : Nat → Rel} {j n : Nat} {vs : List Nat} {tt : TT} {p : Nat → Bool} (mB : ∀ i, MonV (Rb i)) (h : EvA ta σ H [.int (n : Int)]) (hz : n ≤ 40000) (hw : ∀ x, wipe ((wipe σ vs).set j (some x)) vs = wipe σ vs)
    (ht : ∀ i, i < n → ∀ H1, Ex H H1 → EvT tt ((wipe σ vs).set j (some (.int (i : Nat)))) H1 (p i)) (he : ∀ i, i < n → p i = true → ∀ H1, Ex H H1 → EvX te ((wipe σ vs).set j (some (.int (i : Nat)))) H1 (Rb i)) : EvX (tLc (iRng1 ta) (gName j) tt te vs) σ H (RL (((List.range n).filter p).map Rb)) := fun M H0 hm e0 Q q => h H0 (e0.trans hid_le) _ fun H1 e1 =>
  ⟨(n : Int), rfl, by omega, by omega, fun Dl hD => lcR_core (lo := 0) mB hm e0 e1 hz hw (fun i hi H1 e => by rw [Int.zero_add]; exact ht i hi H1 e) (fun i hi hp H1 e => by rw [Int.zero_add]; exact he i hi hp H1 e) q hD⟩
/-- no test -/
theorem et_yes : EvT tYes σ H true := fun H1 _ Q q => q H1 (Ex.refl _)
theorem range_all {n : Nat} : (List.range n).filter (fun _ => true) = List.range n := List.filter_eq_self.mpr fun _ _ => rfl
end
end Rx
set_option Elab.async false
set_option linter.all false
set_option maxRecDepth 100000
set_option maxHeartbeats 4000000
namespace Rk
open PySem PySem.Spec PyProof.Rows L2 RkO Rx
open Evl (Ev EvT EvA EvL EvU EvO Ex RC RCL SpV SpL)
/-- a pair (name, worth) -/
def RP (p : Str × Int) : Rel := RT [RV (.str p.1), RV (.int p.2)]
theorem mon_RP {p : Str × Int} : MonV (RP p) := mon_RT (MonA.cons mon_RV (MonA.cons mon_RV MonA.nil))
theorem RP_list : ∀ {ps : List (Str × Int)} {H : Hp} {us : List V}, AllR (ps.map RP) H us → ∃ L : List (Addr × Str × Int), us = L.map (fun r => V.ref r.1) ∧ (∀ r ∈ L, H r.1 = some (.tup [.str r.2.1, .int r.2.2])) ∧ L.map (fun r => r.2) = ps
  | [], _, _, h => ⟨[], h, fun r hr => absurd hr List.not_mem_nil, rfl⟩
  | p :: ps, H, us, h => by
    obtain ⟨x, r, rfl, ⟨a, zs, rfl, ha, x1, r1, rfl, g1, x2, r2, rfl, g2, g3⟩, h2⟩ := h
    obtain ⟨L, rfl, hL, e⟩ := RP_list h2
    rw [show x1 = _ from g1, show x2 = _ from g2, show r2 = _ from g3] at ha
    exact ⟨(a, p.1, p.2) :: L, rfl, fun r hr => by
      rcases List.mem_cons.mp hr with rfl | hr
      · exact ha
      · exact hL r hr, by rw [List.map_cons, e]⟩
/-- a lot with the names ks, no others -/
def LotK (cT : Addr) (H : Hp) (v : V) (wf : Str → Int) (ks : List Str) : Prop := ∃ (p dx d : Addr) (kvs : List (Key × V)), v = .ref p ∧ H p = some (.ins cT dx (putF "_worths" (.ref d) [])) ∧ H d = some (.dK kvs) ∧ kvs.map (·.1) = ks.map Sum.inr ∧ ∀ x ∈ ks, valV kvs (.inr x) = some (.int (wf x))
theorem LotK.mono {cT : Addr} {H H' : Hp} {v : V} {wf : Str → Int} {xs : List Str} (h : LotK cT H v wf xs) (e : Same H H') : LotK cT H' v wf xs := by
  obtain ⟨p, dx, d, kvs, h1, h2, h3, h4⟩ := h
  exact ⟨p, dx, d, kvs, h1, e _ _ h2, e _ _ h3, h4⟩
theorem LotK.at_ {cT : Addr} {H : Hp} {v : V} {wf : Str → Int} {ks xs : List Str} (h : LotK cT H v wf ks) (hs : ∀ x ∈ xs, x ∈ ks) : LotAt cT H v wf xs := by
  obtain ⟨p, dx, d, kvs, h1, h2, h3, h4, h5⟩ := h
  exact ⟨p, dx, d, kvs, h1, h2, h3, fun x hx => h5 x (hs x hx)⟩
theorem merge_keys : ∀ (L : List (Addr × Str × Int)) (kvs : List (Key × V)), (L.map fun r => r.2.1).Nodup → (∀ r ∈ L, (Sum.inr r.2.1 : Key) ∉ kvs.map (·.1)) → (mergeK kvs (kvsOf L)).map (·.1) = kvs.map (·.1) ++ (L.map fun r => r.2.1).map Sum.inr
  | [], kvs, _, _ => (List.append_nil _).symm
  | m :: L, kvs, nd, h => by
    obtain ⟨n1, n2⟩ := List.nodup_cons.mp (show (m.2.1 :: L.map fun r => r.2.1).Nodup from nd)
    have hn : valV kvs (Sum.inr m.2.1 : Key) = none := by
      cases hv : valV kvs (Sum.inr m.2.1 : Key) with
      | none => rfl
      | some v => exact absurd (valV_in hv) (h m List.mem_cons_self)
    show (mergeK (putK kvs (.inr m.2.1) (.int m.2.2)) (kvsOf L)).map (·.1) = _
    rw [putK_new _ hn, merge_keys L _ n2 fun r hr => ?_, List.map_append, List.append_assoc]
    · rfl
    · rw [List.map_append]
      intro z
      rcases List.mem_append.mp z with z | z
      · exact h r (List.mem_cons_of_mem _ hr) z
      · exact n1 (List.mem_map.mpr ⟨r, hr, Sum.inr.inj (List.mem_singleton.mp z)⟩)
/-- Lot of a list of pairs that has been made -/
theorem use_lot1 {cT : Addr} {H7 : Hp} {l : V} {ps : List (Str × Int)} {wf : Str → Int} {R : Hp → Prop} (hl : RL (ps.map RP) H7 l) (nd : (ps.map Prod.fst).Nodup) (hn : ∀ p ∈ ps, nameOk p.1 = true) (hz : ps.length ≤ 60) (hw : ∀ p ∈ ps, p.2 = wf p.1)
    {p dx : Addr} (np : H7 p = none) (ndx : H7 dx = none) (ne : dx ≠ p) (q : ∀ H', Same H7 H' → LotK cT H' (.ref p) wf (ps.map Prod.fst) → R H') :
    spLotInit cT [.ref p, l] (upd (upd H7 dx (.own p)) p (.ins cT dx [])) (fun v H' => v = .non ∧ R H') E0 := by
  obtain ⟨a, us, rfl, ha, hu⟩ := hl
  obtain ⟨L, rfl, hL, eL⟩ := RP_list hu
  have ms := made_same (cG := cT) np ndx
  have e1 : L.map (fun r => r.2.1) = ps.map Prod.fst := by rw [← eL, List.map_map]; rfl
  have e2 : L.length = ps.length := by rw [← eL, List.length_map]
  have mem : ∀ r ∈ L, r.2 ∈ ps := fun r hr => by rw [← eL]; exact List.mem_map.mpr ⟨r, hr, rfl⟩
  refine ⟨p, dx, a, L, rfl, upd_same, ⟨ms _ _ ha, fun r hr => ms _ _ (hL r hr)⟩, by rw [e1]; exact nd, fun r hr => hn _ (mem r hr), by omega, fun d H8 _ keep hp hd8 => ⟨rfl, ?_⟩⟩
  have s78 : Same H7 H8 := mk_same np ndx keep
  refine q H8 s78 ⟨p, dx, d, _, rfl, hp, hd8, by rw [merge_keys L [] (by rw [e1]; exact nd) fun r _ => List.not_mem_nil, e1]; rfl, fun x hx => ?_⟩
  rw [← e1] at hx
  obtain ⟨r, hr, rfl⟩ := List.mem_map.mp hx
  rw [← hw r.2 (mem r hr)]
  exact merge_in L [] (by rw [e1]; exact nd) r hr
theorem use_lot {cT cG : Addr} {H H7 : Hp} {l : V} {ps : List (Str × Int)} {wf : Str → Int} {Q : VK} (hl : RL (ps.map RP) H7 l) (nd : (ps.map Prod.fst).Nodup) (hn : ∀ p ∈ ps, nameOk p.1 = true) (hz : ps.length ≤ 60) (hw : ∀ p ∈ ps, p.2 = wf p.1)
    (q : ∀ v H', Same H7 H' → LotK cT H' v wf (ps.map Prod.fst) → Q v H') :
    ∀ x dx, H7 x = none → H7 dx = none → dx ≠ x → spLotInit cT [.ref x, l] (upd (upd H7 dx (.own x)) x (.ins cT dx [])) (fun v H' => v = .non ∧ Q (.ref x) H') E0 := by
  exact fun p dx np ndx ne => use_lot1 hl nd hn hz hw np ndx ne fun H' s h => q _ H' s h
def wfAt (xs : List Str) (x : Str) : Int := (xs.idxOf x : Int) + 1
theorem wfAt_get {xs : List Str} (nd : xs.Nodup) {i : Nat} {x : Str} (h : xs[i]? = some x) : wfAt xs x = 1 + (i : Int) := by
  unfold wfAt
  obtain ⟨hi, e⟩ := List.getElem?_eq_some_iff.mp h
  subst e
  rw [List.Nodup.idxOf_getElem nd]
  omega
section
variable {P : Program} {w : World} {K : PySem.W.Frag} {mg : Str → Option Value} {base : Heap}
end
end Rk
set_option Elab.async false
namespace Rk
end Rk
set_option Elab.async false
set_option linter.all false
set_option maxRecDepth 100000
namespace Rx
open PySem PySem.Spec PyProof.Rows
/-! equal lists of sorted texts; xs.count(y) of whole numbers -/
theorem cps_tot : ∀ (a b : List Nat), ltCps a b = false → ltCps b a = false → a = b
  | [], [], _, _ => rfl
  | [], _ :: _, h, _ => by cases h
  | _ :: _, [], _, h => by cases h
  | x :: r, y :: t, h1, h2 => by
    simp only [ltCps, Bool.or_eq_false_iff, decide_eq_false_iff_not, Bool.and_eq_false_iff, beq_eq_false_iff_ne] at h1 h2
    have e : x = y := by omega
    subst e
    have a1 : ltCps r t = false := h1.2.resolve_left fun z => z rfl
    have a2 : ltCps t r = false := h2.2.resolve_left fun z => z rfl
    rw [cps_tot r t a1 a2]
theorem cps_tr : ∀ (a b c : List Nat), ltCps b a = false → ltCps c b = false → ltCps c a = false
  | [], [], [], _, _ => rfl
  | [], [], _ :: _, _, _ => rfl
  | [], _ :: _, [], _, h => by cases h
  | [], _ :: _, _ :: _, _, _ => rfl
  | _ :: _, [], _, h, _ => by cases h
  | _ :: _, _ :: _, [], _, h => by cases h
  | x :: r, y :: t, z :: u, h1, h2 => by
    simp only [ltCps, Bool.or_eq_false_iff, decide_eq_false_iff_not, Bool.and_eq_false_iff, beq_eq_false_iff_ne] at h1 h2 ⊢
    refine ⟨by omega, ?_⟩
    by_cases e : z = x
    · right
      have e1 : y = x := by omega
      have e2 : z = y := by omega
      exact cps_tr r t u (h1.2.resolve_left fun w => w e1) (h2.2.resolve_left fun w => w e2)
    · exact .inl e
theorem sortedS_pw : ∀ {ys : List Str}, sortedS ys = true → ys.Pairwise fun a b => ltCps b.cps.toList a.cps.toList = false
  | [], _ => .nil
  | [x], _ => List.pairwise_singleton _ _
  | x :: y :: r, h => by
    have h : (!ltCps y.cps.toList x.cps.toList && sortedS (y :: r)) = true := h
    rw [Bool.and_eq_true, Bool.not_eq_true'] at h
    have ih := sortedS_pw h.2
    refine List.pairwise_cons.mpr ⟨fun z hz => ?_, ih⟩
    rcases List.mem_cons.mp hz with rfl | hz
    · exact h.1
    · exact cps_tr _ _ _ h.1 ((List.pairwise_cons.mp ih).1 z hz)
theorem str_eq {a b : Str} (h : a.cps.toList = b.cps.toList) : a = b := by
  cases a with
  | mk a =>
    cases b with
    | mk b =>
      have : a = b := by
        cases a
        cases b
        exact congrArg Array.mk h
      rw [this]
theorem sorted_one {xs ys : List Str} (h : xs.Perm ys) (hx : sortedS xs = true) (hy : sortedS ys = true) : xs = ys :=
  List.Perm.eq_of_pairwise (fun x y _ _ h1 h2 => str_eq (cps_tot _ _ h2 h1)) (sortedS_pw hx) (sortedS_pw hy) h
end Rx
namespace L2
open PySem PySem.Spec PyProof.Rows
section
variable {X : Cx}
/-- xs.count(k) of whole numbers -/
theorem mt_countI : MtR X "list.count" (fun x vs H Q => ∃ (l : Addr) (ns : List Int) (k : Int), x = .ref l ∧ vs = [.int k] ∧ H l = some (.lst (ns.map V.int)) ∧ Q (.int (ns.count k : Nat)) H) := by
  intro pins s σ H x vs v us Q I rx rv h
  obtain ⟨l, ns, k, rfl, rfl, hH, q⟩ := h
  cases rx
  obtain ⟨u, rfl, r1⟩ := rv.one
  obtain ⟨t, rfl⟩ := r1
  obtain ⟨z, its, n, r, hl, e⟩ := I.lstM hH
  have hi := ints_of_vals r
  refine call_meets PySem.F.slot_list_count ⟨_, e, rfl⟩ PySem.F.entry_list_count (PySem.F.args_list_count_2 _ _)
    (MeetsSeq.list_count l its.toArray n (.int k t) (eqk k) (fun y hy => eqk_gives hi y (by simpa using hy))) ⟨e, ?_⟩
  refine ⟨.int (ns.count k : Nat), H, I.tok _, ⟨s.toks, ?_⟩, q⟩
  show Value.int ((its.countP (eqk k) : Nat) : Int) s.toks = _
  rw [eqk_count hi]
end
end L2
set_option Elab.async false
set_option linter.all false
set_option maxRecDepth 100000
set_option maxHeartbeats 4000000
namespace Rk
open PySem PySem.Spec PyProof.Rows L2 RkO Rx
open Evl (Ev EvT EvA EvL EvU EvO Ex RC RCL SpV SpL)
theorem sq_asgG {te : TE} {g : TG} {u : TS} {D : Ends} {σ : L2.St} {H : Hp} (h : te σ H fun x H1 => g x σ H1 (u D)) : tSeq (tAsg te g) u D σ H := h
theorem rv_is {r : R2} {x y z w : V} {H : Hp} (h : Evl.RV r x y H z) (e : z = w) : Evl.RV r x y H w := by
  subst e
  exact h
theorem x_ofL {α : Type} {te : TE} {σ : L2.St} {H : Hp} {f : α → V} {xs : List α} (h : EvL te σ H (xs.map f)) : EvX te σ H (RL (xs.map fun x => RV (f x))) := fun M H1 hm e1 Q q => h H1 (e1.trans hid_le) Q fun p H2 n2 e2 h2 => q _ H2 e2 (RL_mk (by
  show (if M p then _ else _) = _
  rw [hm.some n2]
  exact h2))
section
variable {P : Program} {w : World} {K : PySem.W.Frag} {mg : Str → Option Value} {base : Heap}
def spEndOf (cL cG cT : Addr) (n : Nat) : Sp := fun vs H Q _ => ∃ (v u : V) (t : Tr) (wf : Str → Int) (j : Int), vs = [v, u, .int j] ∧ EndsIn cL cG cT H v u t wf n ∧ 1 ≤ j ∧ j ≤ (t.width : Int) ∧ ∀ H', Same H H' → Q (.int ((t.ends wf).getD (j - 1).toNat 0)) H'
theorem ok_end_of (T : Txt K mg) (n : Nat) : FnOk P w K mg base CX0 (n + 5) T.f_end_of T.d_end_of ["tree", "lot", "j"] (spEndOf T.a_Leaf T.a_Group T.a_Lot n) := by
  have G_check_kinds := ok_check_kinds (P := P) (w := w) (base := base) T
  have G_check_full := ok_check_full (P := P) (w := w) (base := base) T
  have G_is_end := ok_is_end (P := P) (w := w) (base := base) T
  have G_outs := ok_outs (P := P) (w := w) (base := base) T n
  refine T.F_end_of.ok sc_end_of (fun vs H Q E h => ?_) (fun cdv A outer s H vs Q E hr h => ?_)
  · obtain ⟨_, _, _, _, _, rfl, _⟩ := h
    rfl
  obtain ⟨v, u, t, wf, j, rfl, ⟨xs, hd, ht, hu, hok, hx, hz, hnz⟩, lo, hi, q⟩ := h
  refine ⟨_, (pss_cons (ps_expr (pe_call G_check_kinds (hr.mono (by omega)) rfl T.m_check_kinds T.F_check_kinds.kp T.b_check_kinds .nil pass0 (pa_cons (pv 0) (pa_cons (pv 1) pa_nil))))
  (pss_cons (ps_if (pt_not (pt_val (pe_call G_is_end (hr.mono (by omega)) rfl T.m_is_end T.F_is_end.kp T.b_is_end .nil pass0 (pa_cons (pv 0) (pa_cons (pv 2) pa_nil))))) (pss_one ps_never) pss_nil)
  (pss_cons (ps_expr (pe_call G_check_full (hr.mono (by omega)) rfl T.m_check_full T.F_check_full.kp T.b_check_full .nil pass0 (pa_cons (pv 0) (pa_cons (pv 1) pa_nil))))
  (pss_one (ps_ret (pe_ix ix_list (pe_ix ix_list (pe_call G_outs (hr.mono (by omega)) rfl T.m_outs T.F_outs.kp T.b_outs .nil pass0 (pa_cons (pv 0) (pa_cons (pv 1) pa_nil))) pe_int (fun _ _ => rfl)) (pe_op op_sub (pv 2) pe_int) (fun _ _ => rfl))))))), ?_⟩
  refine un_seq ⟨_, rfl, _, rfl, v, u, t, wf, xs, rfl, ht, hu, fun H1 e1 => ?_⟩
  dsimp only
  refine un_seq <| un_ifS ⟨_, rfl, _, rfl, v, t, j, rfl, ht.mono e1, fun H2 e2 => ⟨_, rfl, ?_⟩⟩
  rw [decide_eq_true lo, decide_eq_true hi]
  refine iteF (nxt ?_)
  have e12 := Same.trans e1 e2
  refine un_seq ⟨_, rfl, _, rfl, v, u, t, wf, xs, rfl, ht.mono e12, hu.mono e12, hx, hz, fun H3 e3 => ?_⟩
  have e13 := Same.trans e12 e3
  refine ⟨_, rfl, _, rfl, v, u, t, wf, xs, rfl, hd, ht.mono e13, hu.mono e13, hok, fun x h => (hx x h).1, hz, hnz, fun v' H4 e4 o => ?_⟩
  obtain ⟨as, l, rfl, h1, h2⟩ := o
  have hel : (t.ends wf).length = t.width := ends_len (wf := wf) t
  refine ⟨l, _, 0, _, rfl, rfl, SqL.of h1, go_at h2, _, rfl, _, _, rfl, rfl, _, _, _, _, rfl, rfl, SqL.of (go_head h2), at_of (j := (j - 1).toNat) (by omega) ?_, q H4 (e13.trans e4)⟩
  rw [List.getElem?_map, List.getD_eq_getElem?_getD, List.getElem?_eq_getElem (by omega)]
  rfl
def spLotNames (cT : Addr) : Sp := fun vs H Q _ => ∃ (v : V) (wf : Str → Int) (ks : List Str), vs = [v] ∧ LotK cT H v wf ks ∧ ks.length ≤ 60 ∧ ∀ p ys H', Same H H' → H' p = some (.lst (ys.map V.str)) → ys.Perm ks → sortedS ys = true → Q (.ref p) H'
theorem ok_Lot_names (T : Txt K mg) : FnOk P w K mg base CX0 1 T.f_Lot_names T.d_Lot_names ["self"] (spLotNames T.a_Lot) := by
  refine T.F_Lot_names.ok sc_Lot_names (fun vs H Q E h => ?_) (fun cdv A outer s H vs Q E hr h => ?_)
  · obtain ⟨_, _, _, rfl, _⟩ := h
    rfl
  obtain ⟨v, wf, ks, rfl, ⟨p, dx, d, kvs, rfl, h1, h2, h3, h4⟩, hz, q⟩ := h
  refine ⟨_, (pss_one (ps_ret (pe_callB cr_sortedS (by rfl) T.m_sorted (by decide +kernel) (pa_cons (pe_callTy (call_listD rfl) (by rfl) T.m_list (by decide +kernel) (pa_cons (pe_fld (pv 0) rfl) pa_nil)) pa_nil)))), ?_⟩
  refine un_ret ⟨_, rfl, p, T.a_Lot, dx, _, _, rfl, h1, T.c_Lot, T.n_Lot_worths, wo_at, d, kvs, rfl, .inl h2, fun l nl => ?_⟩
  have s1 := same_new nl (.lst (kvs.map fun kv => kV kv.1))
  have ek : (kvs.map fun kv => kV kv.1) = ks.map V.str := by
    have := congrArg (List.map kV) h3
    rw [List.map_map, List.map_map] at this
    exact this
  rw [ek] at s1 ⊢
  refine ⟨l, ks, rfl, SqL.of upd_same, by omega, fun ys p2 pm so n2 => q p2 ys _ (s1.trans (same_new n2 _)) upd_same pm so⟩
def RPs (wf : Str → Int) (ys : List Str) : Rel := RL (ys.map fun x => RP (x, wf x))
theorem RPs_dR (wf : Str → Int) (ys : List Str) : RPs wf ys = dR (.list (ys.map fun x => .tuple [.str x, .int (wf x)])) := by
  rw [dR_list, List.map_map]
  unfold RPs
  congr 1
theorem mon_RPs {wf : Str → Int} {ys : List Str} : MonV (RPs wf ys) := mon_RL (MonA.map fun _ _ => mon_RP)
def spLotPairs (cT : Addr) : Sp := fun vs H Q _ => ∃ (v : V) (wf : Str → Int) (ks : List Str), vs = [v] ∧ LotK cT H v wf ks ∧ ks.length ≤ 60 ∧ ∀ u ys H', Same H H' → RPs wf ys H' u → ys.Perm ks → sortedS ys = true → Q u H'
theorem ok_Lot_pairs (T : Txt K mg) : FnOk P w K mg base CX0 2 T.f_Lot_pairs T.d_Lot_pairs ["self"] (spLotPairs T.a_Lot) := by
  have G_Lot_names := ok_Lot_names (P := P) (w := w) (base := base) T
  refine T.F_Lot_pairs.ok sc_Lot_pairs (fun vs H Q E h => ?_) (fun cdv A outer s H vs Q E hr h => ?_)
  · obtain ⟨_, _, _, rfl, _⟩ := h
    rfl
  obtain ⟨v, wf, ks, rfl, hK, hz, q⟩ := h
  refine ⟨_, (pss_one (ps_ret (pe_lc (own := [("name", 1)]) rfl sc_Lot_pairs.nd  (pi_list (pe_meth0 (pv 0) T.c_Lot T.M_Lot_names G_Lot_names (hr.mono (by omega)) T.b_Lot_names .nil pass0)) (blkOk_by (own := [("name", 1)]) (N := ["self", "name"]) (sc := defScope s_Lot_pairs) (by decide +kernel)) (fun _ _ _ _ _ => (pg_name (i := 1) sc_Lot_pairs.nd rfl (.inl rfl))) (fun _ _ _ _ _ => pts_nil) (fun _ _ _ _ _ => (pe_tup (pa_cons (pv 1) (pa_cons (by exact (pe_K (t := fun K => tDGet (tFld K (tVar 0) "_worths") (tVar 1)) (K := K) rfl (by exact (pe_dget (hu_of hr) (pe_fld (pv 0) rfl) (pv 1) (fun _ _ => rfl))))) pa_nil))))))), ?_⟩
  refine un_ret <| lc_tl ?_
  have hK0 := hK
  obtain ⟨p, dx, d, kvs, rfl, h1, h2, h3, h4⟩ := hK0
  refine ⟨_, rfl, p, dx, _, rfl, h1, wo_no (by decide +kernel), _, wf, ks, rfl, hK, hz, fun a ys H1 s1 ha pm so => ?_⟩
  refine (x_lcM (xs := ys) (Ra := fun x => RV (.str x)) (Rb := fun x => RP (x, wf x)) (fun _ _ => mon_RV) (fun _ _ => mon_RP) (x_ev Evl.ev_c (mon_RL (MonA.map fun _ _ => mon_RV)) (RL_mk ha)) (by rw [pm.length_eq]; omega) (fun x => rfl) (fun x hx u H2 e2 ru => ?_)).run fun u H2 e2 r => q u ys H2 (s1.trans e2) r pm so
  rw [show u = _ from ru]
  refine x_tup (MonA.cons mon_RV (MonA.cons mon_RV MonA.nil)) (x_cons mon_RV (x_evV (Evl.ev_var rfl)) (x_cons mon_RV (x_evV ?_) x_nil)) (Nat.le_of_ble_eq_true rfl)
  intro H3 e3 Q3 q3
  have e := s1.trans (e2.trans e3)
  refine ⟨_, rfl, p, T.a_Lot, dx, _, _, rfl, e _ _ h1, T.c_Lot, T.n_Lot_worths, wo_at, _, rfl, d, _, rfl, ?_, q3 _ (Ex.refl _)⟩
  have := DGet.k (k := (Sum.inr x : Key)) (e _ _ h2)
  rwa [h4 x (pm.mem_iff.mp hx)] at this
theorem lesser_count (wf : Str → Int) (c : Int) : ∀ ys : List Str, ((ys.filter fun x => decide (wf x < c)).length + (ys.map wf).count c : Nat) = (ys.filter fun x => decide (wf x ≤ c)).length
  | [] => rfl
  | y :: ys => by
    have ih := lesser_count wf c ys
    rw [List.map_cons, List.count_cons, List.filter_cons, List.filter_cons]
    rcases Int.lt_trichotomy (wf y) c with h | h | h
    · rw [if_pos (decide_eq_true h), if_pos (decide_eq_true (by omega)), if_neg (by simp; omega), List.length_cons, List.length_cons]
      omega
    · rw [if_neg (by simp; omega), if_pos (decide_eq_true (by omega)), if_pos (by simpa using h), List.length_cons]
      omega
    · rw [if_neg (by simp; omega), if_neg (by simp; omega), if_neg (by simp; omega)]
      omega
def RIn (t : Tr) (wf : Str → Int) (c : Int) : Rel := RT [RV (.int (((t.names.filter fun x => decide (wf x < c)).length : Nat) + 1 : Int)), RV (.int ((t.names.filter fun x => decide (wf x ≤ c)).length : Nat))]
theorem mon_RIn {t : Tr} {wf : Str → Int} {c : Int} : MonV (RIn t wf c) := mon_RT (MonA.cons mon_RV (MonA.cons mon_RV MonA.nil))
def spRankIn (cL cG cT : Addr) (n : Nat) : Sp := fun vs H Q _ => ∃ (v u : V) (t : Tr) (wf : Str → Int) (j : Int), vs = [v, u, .int j] ∧ EndsIn cL cG cT H v u t wf n ∧ 1 ≤ j ∧ j ≤ (t.width : Int) ∧ ∀ v' H', Same H H' → RIn t wf ((t.ends wf).getD (j - 1).toNat 0) H' v' → Q v' H'
theorem ok_rank_in (T : Txt K mg) (n : Nat) : FnOk P w K mg base CX0 (n + 6) T.f_rank_in T.d_rank_in ["tree", "lot", "j"] (spRankIn T.a_Leaf T.a_Group T.a_Lot n) := by
  have G_end_of := ok_end_of (P := P) (w := w) (base := base) T n
  have GG := ok_Lot_getitem (P := P) (w := w) (base := base) T
  obtain ⟨ds1, hd1, bA_end_of⟩ := T.F_end_of.binds1 (ps := ["tree", "lot", "j"]) 3 1 (List.cons_ne_nil _ _) rfl fun _ _ _ _ _ _ _ us its hl hi => match us, hl, its, hi with | [_, _, _], _, [_], _ => ⟨_, rfl, rfl⟩
  cases hd1
  refine T.F_rank_in.ok sc_rank_in (fun vs H Q E h => ?_) (fun cdv A outer s H vs Q E hr h => ?_)
  · obtain ⟨_, _, _, _, _, rfl, _⟩ := h
    rfl
  obtain ⟨v, u, t, wf, j, rfl, h, lo, hi, q⟩ := h
  refine ⟨_, (pss_cons (ps_set (i := 3) sc_rank_in.nd rfl (Or.inr rfl) (pe_call G_end_of (hr.mono (by omega)) rfl T.m_end_of T.F_end_of.kp bA_end_of .nil pass0 (pa_cons (pv 0) (pa_cons (pv 1) (pa_cons (pv 2) pa_nil)))))
  (pss_cons (ps_setLc (i := 4) (own := [("name", 6)]) rfl sc_rank_in.nd rfl rfl (sw_true rfl rfl rfl (by decide +kernel))  (pi_list (pe_names (T := T) rfl (pv 0) (ok_Leaf_names T) (ok_Group_names T) (hr.mono (by omega)))) (blkOk_by (own := [("name", 6)]) (N := ["tree", "lot", "j", "end", "worths", "lesser", "name", "worth"]) (sc := defScope s_rank_in) (by decide +kernel)) (fun _ _ _ _ _ => (pg_name (i := 6) sc_rank_in.nd rfl (.inl rfl))) (fun _ _ _ _ _ => pts_nil) (fun _ _ _ _ _ => (pe_ixO T.M_Lot_getitem (fn_in T.F_Lot_getitem) GG (hr.mono (by omega)) T.b_Lot_getitem pass0 (pv 1) (pv 6))))
  (pss_cons (ps_set (i := 5) sc_rank_in.nd rfl (Or.inl rfl) (pe_callB call_len_seq (by rfl) T.m_len PySem.boot_len (pa_cons (pe_lc (own := [("worth", 7)]) rfl sc_rank_in.nd  (pi_list (pv 4)) (blkOk_by (own := [("worth", 7)]) (N := ["tree", "lot", "j", "end", "worths", "lesser", "name", "worth"]) (sc := defScope s_rank_in) (by decide +kernel)) (fun _ _ _ _ _ => (pg_name (i := 7) sc_rank_in.nd rfl (.inl rfl))) (fun _ _ _ _ _ => (pts_one (pt_cmpR op_lt (pv 7) (pv 3) (nomark _)))) (fun _ _ _ _ _ => (pv 7))) pa_nil)))
  (pss_one (ps_ret (pe_tup (pa_cons (pe_op op_add (pv 5) pe_int) (pa_cons (pe_op op_add (pv 5) (pe_bm PySem.F.plainAttrs_list PySem.F.slot_list_count PySem.F.type_list_count mt_countI (pv 4) (pa_cons (pv 3) pa_nil))) pa_nil)))))))), ?_⟩
  refine sq_asg ⟨_, rfl, _, rfl, _, rfl, v, u, t, wf, j, rfl, h, lo, hi, fun H1 e1 => ?_⟩
  obtain ⟨xs, hd, ht, hu, hok, hx, hz, hnz⟩ := h
  generalize (t.ends wf).getD (j - 1).toNat 0 = c at q ⊢
  have xn : EvX (teor (tMeth T.a_Leaf "names" (spNames T.a_Leaf T.a_Group true) [] E0 (tVar 0) tNil) (tMeth T.a_Group "names" (spNames T.a_Leaf T.a_Group false) [] E0 (tVar 0) tNil)) [some v, some u, some (.int j), some (.int c), none, none, none, none] H1 (RL (t.names.map fun x => RV (.str x))) := x_ofL (rd_names (Evl.ev_var rfl) (ht.mono e1))
  refine sq_asg <| (x_lcM (xs := t.names) (Ra := fun x => RV (.str x)) (Rb := fun x => RV (.int (wf x))) (fun _ _ => mon_RV) (fun _ _ => mon_RV) xn (by omega) (fun x => rfl) (fun x hm z H2 e2 rz => ?_)).run fun a1 H2 e2 r2 => ?_
  · rw [show z = _ from rz]
    refine x_evV fun H3 e3 Q3 q3 => ?_
    have hu3 := (hu.mono e1).mono (e2.trans e3)
    have hu3' := hu3
    obtain ⟨p, dx, d, kvs, rfl, h1, _⟩ := hu3'
    exact ⟨_, rfl, _, rfl, p, dx, _, rfl, h1, _, x, wf, xs, rfl, hu3, (hx x hm).1, (hx x hm).2, fun H4 e4 => q3 H4 e4⟩
  obtain ⟨wl, rfl, hwl⟩ := RL_map r2
  have s2 := e1.trans e2
  refine Evl.q_asg (v := .int ((t.names.filter fun x => decide (wf x < c)).length : Nat)) ?_ fun H3 e3 => ?_
  · exact Evl.ev_is (Evl.ev_lenN (el_lcF (xs := t.names) (g := fun x => V.int (wf x)) (f := fun x => V.int (wf x)) (p := fun x => decide (wf x < c)) (Evl.ev_var rfl) (SqL.of hwl) (by omega) (fun x => rfl) (fun x H4 e4 hm => Evl.et_test (Evl.ev_op (Evl.ev_var rfl) (Evl.ev_var rfl) Evl.rv_I0)) (fun x H4 e4 hm hp => Evl.ev_var rfl))) (by rw [List.length_map])
  refine un_ret <| (x_tup (Rs := [RV (.int (((t.names.filter fun x => decide (wf x < c)).length : Nat) + 1 : Int)), RV (.int ((t.names.filter fun x => decide (wf x ≤ c)).length : Nat))]) (MonA.cons mon_RV (MonA.cons mon_RV MonA.nil)) (x_cons mon_RV (x_evV (Evl.ev_op (Evl.ev_var rfl) Evl.ev_c Evl.rv_I0)) (x_cons mon_RV (x_evV ?_) x_nil)) (Nat.le_of_ble_eq_true rfl)).run fun v' H' e r => q v' H' (s2.trans (e3.trans e)) r
  intro H4 e4 Q4 q4
  have hw4 : H4 wl = some (.lst ((t.names.map wf).map V.int)) := by rw [List.map_map]; exact e4 _ _ (e3 _ _ hwl)
  refine ⟨_, rfl, _, rfl, .inl ⟨rfl, _, SqL.of hw4⟩, _, rfl, wl, t.names.map wf, c, rfl, rfl, hw4, _, _, rfl, rfl, ?_⟩
  have := lesser_count wf c t.names
  dsimp only
  rw [show (((t.names.filter fun x => decide (wf x < c)).length : Nat) : Int) + (((t.names.map wf).count c : Nat) : Int) = ((t.names.filter fun x => decide (wf x ≤ c)).length : Nat) by omega]
  exact q4 H4 (Ex.refl _)
end
end Rk
set_option Elab.async false
set_option linter.all false
set_option maxRecDepth 100000
set_option maxHeartbeats 4000000
/-! o[k] = v of an instance whose class has its own def for it -/
namespace RkO
open PySem PySem.Spec PyProof.Rows L2
variable {X : Cx} {CX : CXT} {k : Nat} {C f : Addr} {fd : FuncData} {ps : List Str} {sp : Sp} {E : XK}
/-- the value first, then the object, then the subscript -/
def sPutO (C : Addr) (sp : Sp) (E : XK) (td ty tv : TE) : TS := fun D σ H => tv σ H fun v H1 => td σ H1 fun x H2 => ty σ H2 fun y H3 => ∃ o dx fs, x = .ref o ∧ H3 o = some (.ins C dx fs) ∧ sp [.ref o, y, v] H3 (fun _ H4 => D.nx σ H4) E
theorem ps_putO {o i value : Expr} {pos pos' : Pos} {td ty tv : TE} (hq : PySem.W.noSeq X.K C = true) (hm : Meth X.K C "__setitem__" f) (F : FnOk X.prog X.w X.K X.mg X.base CX k f fd ps sp) (hr : Room k X.A) (hb : Binds X.K fd ps []) (hx : Passes CX X E)
    (ho : PE X o td) (hi : PE X i ty) (hv : PE X value tv) (hs : swapsWith value (some (.Subscript o i pos')) pos.line X.env = pure false) : PS X (.Assign [.Subscript o i pos'] value pos) (sPutO C sp E td ty tv) := by
  refine ⟨fun pins s σ H D I h => ?_⟩
  refine wpAny_Assign_Subscript (thn (hv.run pins s σ H _ I h) fun r s1 ⟨v, H1, I1, rv, q1⟩ => thn (ho.run pins s1 σ H1 _ I1 q1) fun u s2 ⟨x, H2, I2, rx, q2⟩ => thn (hi.run pins s2 σ H2 _ I2 q2) fun iv s3 ⟨y, H3, I3, ry, a, dx, fs, ex, ha, q3⟩ => ?_) hs
  subst ex
  obtain rfl : u = Value.ref a := rx
  obtain ⟨mA, O, _⟩ := ins_get I3.hok ha
  obtain ⟨od, J, _⟩ := O.look
  obtain ⟨m, hF⟩ := I3.fr
  refine PySem.W.ksp_setItem hF I3.ok.mod.kin J hq hm.at_ hm.fn ?_
  exact thn (run_here (A := X.A) (us := [.ref a, iv, r]) (vs := [.ref a, y, v]) F hr rfl hb hx I3 (.cons rfl (.cons ry (.cons rv .nil))) q3) fun w s4 ⟨z, H4, I4, _, q4⟩ => ⟨σ, H4, I4, q4⟩
end RkO
set_option Elab.async false
set_option linter.all false
set_option maxRecDepth 100000
set_option maxHeartbeats 4000000
namespace Rk
open PySem PySem.Spec PyProof.Rows L2 RkO Rx
open Evl (Ev EvT EvA EvL EvU EvO Ex RC RCL SpV SpL)
theorem putK_keys {kvs : List (Key × V)} {k : Key} {v : V} (h : k ∈ kvs.map (·.1)) : (putK kvs k v).map (·.1) = kvs.map (·.1) := by
  obtain ⟨p, hp, rfl⟩ := List.mem_map.mp h
  unfold putK
  rw [if_pos (List.any_eq_true.mpr ⟨p, hp, by simp⟩), List.map_map]
  refine List.map_congr_left fun q _ => ?_
  show (if q.1 = p.1 then (q.1, v) else q).1 = q.1
  split <;> rfl
section
variable {P : Program} {w : World} {K : PySem.W.Frag} {mg : Str → Option Value} {base : Heap}
def spLotSet (cT : Addr) : Sp := fun vs H Q _ => ∃ (p dx d : Addr) (kvs : List (Key × V)) (x : Str) (z : Int), vs = [.ref p, .str x, .int z] ∧ H p = some (.ins cT dx (putF "_worths" (.ref d) [])) ∧ H d = some (.dK kvs) ∧ kvs.length ≤ 60 ∧ nameOk x = true ∧ ∀ H1, Same H H1 → Q .non (upd H1 d (.dK (putK kvs (.inr x) (.int z))))
theorem ok_Lot_setitem (T : Txt K mg) : FnOk P w K mg base CX0 3 T.f_Lot_setitem T.d_Lot_setitem ["self", "name", "worth"] (spLotSet T.a_Lot) := by
  have G_is_name := ok_is_name (P := P) (w := w) (base := base) T
  have G_is_whole := ok_is_whole (P := P) (w := w) (base := base) T
  refine T.F_Lot_setitem.ok sc_Lot_setitem (fun vs H Q E h => ?_) (fun cdv A outer s H vs Q E hr h => ?_)
  · obtain ⟨_, _, _, _, _, _, rfl, _⟩ := h
    rfl
  obtain ⟨p, dx, d, kvs, x, z, rfl, h1, h2, hz, hn, q⟩ := h
  refine ⟨_, (pss_cons (ps_if (pt_not (pt_val (pe_call G_is_name (hr.mono (by omega)) rfl T.m_is_name T.F_is_name.kp T.b_is_name .nil pass0 (pa_cons (pv 1) pa_nil)))) (pss_one ps_never) pss_nil)
  (pss_cons (ps_if (pt_not (pt_val (pe_call G_is_whole (hr.mono (by omega)) rfl T.m_is_whole T.F_is_whole.kp T.b_is_whole .nil pass0 (pa_cons (pv 2) pa_nil)))) (pss_one ps_never) pss_nil)
  (pss_one (ps_dput (hu_of hr) (pe_fld (pv 0) rfl) (pv 1) (pv 2) rfl)))), ?_⟩
  have hlen := (name_letters hn).2.1
  refine un_seq <| un_ifS ⟨_, rfl, _, rfl, .inl ⟨x, rfl, by omega, fun H1 e1 => ⟨_, rfl, ifNot hn (nxt ?_)⟩⟩⟩
  dsimp only
  refine un_seq <| un_ifS ⟨_, rfl, _, _, true, false, rfl, .base (.int z), (show PySem.W.kitOne _ (.type "int") (.type "int") = some true by rfl), fun _ => kit_ty (by decide +kernel), _, rfl, iteF (nxt ?_)⟩
  exact ⟨_, rfl, _, rfl, p, T.a_Lot, dx, _, _, rfl, e1 _ _ h1, T.c_Lot, T.n_Lot_worths, wo_at, _, rfl, d, _, rfl, DPut.k (k := (Sum.inr x : Key)) (e1 _ _ h2) (Evl.sz_lt (by omega)), q H1 e1⟩
end
end Rk
set_option Elab.async false
set_option linter.all false
set_option maxRecDepth 100000
set_option maxHeartbeats 4000000
/-! exceptions of own classes: promises for one or the other, methods in a try, what a new exception leaves; lists of the same items -/
namespace Rx
open PySem PySem.Spec PyProof.Rows L2 RkO
section
variable {P : Program} {w : World} {K : PySem.W.Frag} {mg : Str → Option Value} {base : Heap} {k : Nat} {f : Addr} {fd : FuncData} {ps : List Str} {sp sp1 sp2 : Sp} {CX : CXT}
theorem fn_lift (F : FnOk P w K mg base CX0 k f fd ps sp) : FnOk P w K mg base CX k f fd ps sp :=
  ⟨F.len, fun A outer s H args us vs Q E hr he hb hv hs => codeAny_mono (F.run A outer s H args us vs Q E hr he hb hv hs) fun r s' h => by
    cases r with
    | error e => exact False.elim h
    | ok fl =>
      cases fl with
      | ret u => exact h
      | next => exact h
      | brk => exact h
      | cont => exact h⟩
def spOr (sp1 sp2 : Sp) : Sp := fun vs H Q E => sp1 vs H Q E ∨ sp2 vs H Q E
theorem fn_or (F1 : FnOk P w K mg base CX k f fd ps sp1) (F2 : FnOk P w K mg base CX k f fd ps sp2) : FnOk P w K mg base CX k f fd ps (spOr sp1 sp2) :=
  ⟨fun vs H Q E h => h.elim (F1.len vs H Q E) (F2.len vs H Q E), fun A outer s H args us vs Q E hr he hb hv hs => hs.elim (F1.run A outer s H args us vs Q E hr he hb hv) (F2.run A outer s H args us vs Q E hr he hb hv)⟩
end
section
variable {X : Cx} {CX : CXT} {k : Nat} {f C : Addr} {fd : FuncData} {ps : List Str} {sp : Sp} {dvs : List V} {ds : List Value} {E : L2.St → XK} {m : Str} {pos apos : Pos} {e o : Expr} {es : List Expr} {ta : TE} {t : TA}
def tMethSd (C : Addr) (m : Str) (sp : Sp) (dvs : List V) (E : L2.St → XK) (ta : TE) (t : TA) : TE := fun σ H Q => ta σ H fun x H1 => ∃ a dx fs, x = .ref a ∧ H1 a = some (.ins C dx fs) ∧ fs.lookup m = none ∧
  t σ H1 fun vs H2 => sp (x :: (vs ++ dvs)) H2 Q (E σ)
theorem run_fnE {pins : List (Addr × Obj)} {σ : L2.St} {H : Hp} {s : Shared} {Q : VK} {us : List Value} {vs : List V} (F : FnOk X.prog X.w X.K X.mg X.base CX k f fd ps sp) (hr : Room k X.A) (hb : Binds X.K fd ps ds) (hd : Vals dvs ds) (hx : PassesAt CX X σ (E σ))
    (I : Inv X pins σ H s) (r : Vals vs us) (h : sp (vs ++ dvs) H Q (E σ)) : wpAny (model X.prog X.w) X.A (call (.ref f) us) (EP X pins σ Q) X.xe s := by
  have r2 : Vals (vs ++ dvs) (us ++ ds) := r.append hd
  have hl : (us ++ ds).length = ps.length := by rw [← r2.length]; exact F.len _ _ _ _ h
  refine wpAny_call (codeAny_mono (F.run X.A X.stack s H ⟨us, []⟩ (us ++ ds) (vs ++ dvs) Q (E σ) hr I.env0 (hb s us I.kIn hl) r2 h) fun r s' hq => ?_)
  cases r with
  | error e => exact hx pins H s e s' I hq
  | ok fl =>
    cases fl with
    | ret u => exact I.after hq
    | next => exact False.elim hq
    | brk => exact False.elim hq
    | cont => exact False.elim hq
/-- o.m(e, ..) in a try: what is raised is wished for at the caller's slots -/
theorem pe_methSd {pl : Sem Bool} (he : PE X o ta) (c : Cls X.K C) (hm : Meth X.K C m f) (F : FnOk X.prog X.w X.K X.mg X.base CX k f fd ps sp) (hr : Room k X.A) (hb : Binds X.K fd ps ds) (hd : Vals dvs ds) (hx : ∀ σ, PassesAt CX X σ (E σ)) (ha : PA X (e :: es) t)
    (hst : starEach (e :: es) X.env = (false, eval e X.env) :: starEach es X.env := by rfl) (hpl : (backTo pos (starEach es X.env)).any (·.1) = false := by rfl)
    (ht : eval (.Call (.Attribute o m apos) (e :: es) [] pos) X.env = (do
      let ov ← eval o X.env
      standAt apos.atName
      let (f, first) ← holding [ov] (getMethod ov m pl)
      callWith pos f first (backTo pos (starEach (e :: es) X.env)) (backToKw pos (keywordEach [] X.env))) := by rfl) :
    PE X (.Call (.Attribute o m apos) (e :: es) [] pos) (tMethSd C m sp dvs E ta t) := by
  refine ⟨fun pins s σ H Q I h => ?_⟩
  refine PySem.W.methodCall_KW (pl := pl) (thn (he.run pins s σ H _ I h) fun u s1 ⟨x, H1, I1, rx, a, dx, fs, ex, ea, l, q⟩ => ?_) ht
  subst ex
  obtain rfl : u = Value.ref a := rx
  refine getmeth_ok I1 ea c hm l ?_
  refine PySem.W.callWith_K (first := [.ref a]) (h₀ := X.base) I.ok.mod.kin hm.kp (thn (ha.run pos pins s1 σ H1 _ I1 q) fun us s2 ⟨vs, H2, I2, r, q2⟩ => ⟨I2.kIn, ?_⟩) hst hpl
  exact run_fnE (us := .ref a :: us) (vs := .ref a :: vs) F hr hb hd (hx σ) I2 (.cons rfl r) q2
end
/-! ### the own exception's __init__: self.f = value -/
def spExc (C : Addr) (f : Str) : Sp := fun vs H Q _ => ∃ (a : Addr) (v : V), vs = [.ref a, v] ∧ H a = some (exo a C none) ∧ ∀ dx, H dx = none → dx ≠ a → Q .non (upd (upd H dx (exd dx [(f, v)])) a (exo a C (some dx)))
theorem exc_heap {H : Hp} {a d C : Addr} {o : HO} {fs : List (Str × V)} (ha : H a = none) (hd : d ≠ a) : upd (del (upd (upd (upd H a o) d (exd d fs)) a (exo a C (some d))) a) d (.xd fs) = upd H d (.xd fs) := by
  funext b
  by_cases h1 : b = d
  · rw [h1, upd_same, upd_same]
  · rw [upd_ne h1, upd_ne h1]
    by_cases h2 : b = a
    · rw [h2, del_same, ha]
    · rw [del_ne h2, upd_ne h2, upd_ne h1, upd_ne h2]
/-- the end of C(e), its argument read -/
theorem exc_new {C : Addr} {f : Str} {v : V} {H : Hp} {Q : XK} (q : ∀ d, H d = none → Q (.ref C) (some d) (upd H d (.xd [(f, v)]))) : [v].length ≤ 1000 ∧ ∀ a, H a = none → spExc C f (.ref a :: ([v] ++ [])) (upd H a (exo a C none))
    (fun u H2 => u = .non ∧ ∃ (d : Addr) (fs : List (Str × V)), H2 a = some (exo a C (some d)) ∧ H2 d = some (exd d fs) ∧ H d = none ∧ Q (.ref C) (some d) (upd (del H2 a) d (.xd fs))) (fun _ _ _ => False) :=
  ⟨Nat.le_of_ble_eq_true rfl, fun a ha => ⟨a, v, rfl, upd_same, fun dx hn hd => by
    rw [upd_ne hd] at hn
    refine ⟨rfl, dx, _, upd_same, by rw [upd_ne hd, upd_same], hn, ?_⟩
    rw [exc_heap ha hd]
    exact q dx hn⟩⟩
theorem un_mk {C : Addr} {sp : Sp} {te : TE} {σ : L2.St} {H : Hp} {Q : XK} (h : te σ H fun v H1 => [v].length ≤ 1000 ∧ ∀ a, H1 a = none → sp (.ref a :: ([v] ++ [])) (upd H1 a (exo a C none))
    (fun u H2 => u = .non ∧ ∃ (d : Addr) (fs : List (Str × V)), H2 a = some (exo a C (some d)) ∧ H2 d = some (exd d fs) ∧ H1 d = none ∧ Q (.ref C) (some d) (upd (del H2 a) d (.xd fs))) (fun _ _ _ => False)) : tMkO C sp [] (tCons te tNil) σ H Q := h
section
variable {X : Cx}
/-- two lists of the same items: != is false -/
def rNeS (K : PySem.W.Frag) : R2 := fun x y H Q => ∃ a b xs, x = .ref a ∧ y = .ref b ∧ SqL K H a xs ∧ SqL K H b xs ∧ (∀ v ∈ xs, flatB v = true ∨ ∃ p, v = .ref p) ∧ Q (.bl false) H
theorem vals_same {A : Around} {s : Shared} : ∀ {xs : List V} {us ws : List Value}, (∀ v ∈ xs, flatB v = true ∨ ∃ p, v = .ref p) → Vals xs us → Vals xs ws → ∀ j (h1 : j < us.length) (h2 : j < ws.length), SeqAt.EqAt A s us[j] ws[j] true
  | [], us, ws, _, r1, r2 => by
    cases r1
    intro j h1 _
    exact absurd h1 (Nat.not_lt_zero j)
  | v :: xs, us, ws, h, r1, r2 => by
    cases r1 with
    | cons a1 b1 =>
      cases r2 with
      | cons a2 b2 =>
        intro j h1 h2
        cases j with
        | zero =>
          rcases h v List.mem_cons_self with f | ⟨p, rfl⟩
          · exact eqAt_same a1 a2 f
          · cases a1
            cases a2
            exact SeqAt.EqAt.same _
        | succ j => exact vals_same (fun u hu => h u (List.mem_cons_of_mem _ hu)) b1 b2 j (Nat.lt_of_succ_lt_succ h1) (Nat.lt_of_succ_lt_succ h2)
theorem op_neS (hu : X.A.units < cLine) : OpR X (compareOp .NotEq) (rNeS X.K) := by
  intro pins s σ H x y v u Q I rx ry h
  obtain ⟨a, b, xs, rfl, rfl, ha, hb, hi, q⟩ := h
  cases rx
  cases ry
  obtain ⟨us, r1, p1, _⟩ := I.list ha
  obtain ⟨ws, r2, p2, _⟩ := I.list hb
  have hsz : us.toArray.size = ws.toArray.size := by
    rw [List.size_toArray, List.size_toArray, ← r1.length, ← r2.length]
  refine SeqAt.RcNeAt.lists (e := fun _ => true) p1.isList p2.isList hsz hu (fun j h1 h2 => ?_) X.prog X.w X.xe _ ?_
  · have k := vals_same (A := X.A.in1) (s := s) hi r1 r2 j (by simpa using h1) (by simpa using h2)
    simpa using k
  · rw [show ((List.range us.toArray.size).all fun _ => true) = true from List.all_eq_true.mpr fun _ _ => rfl]
    exact ⟨.bl false, H, I, rfl, q⟩
end
end Rx
set_option Elab.async false
set_option linter.all false
set_option maxRecDepth 100000
set_option maxHeartbeats 4000000
namespace Rk
open PySem PySem.Spec PyProof.Rows L2 RkO Rx
open Evl (Ev EvT EvA EvL EvU EvO Ex RC RCL SpV SpL)
theorem valV_mem : ∀ {kvs : List (Key × V)}, (kvs.map (·.1)).Nodup → ∀ p ∈ kvs, valV kvs p.1 = some p.2
  | [], _, p, h => absurd h List.not_mem_nil
  | q :: kvs, nd, p, h => by
    obtain ⟨n1, n2⟩ := List.nodup_cons.mp (show (q.1 :: kvs.map (·.1)).Nodup from nd)
    rcases List.mem_cons.mp h with rfl | h
    · exact valV_pos rfl
    · rw [valV_neg fun z => n1 (List.mem_map.mpr ⟨p, h, z.symm⟩)]
      exact valV_mem n2 p h
theorem valV_out {kvs : List (Key × V)} {ks : List Str} {x : Str} (hk : kvs.map (·.1) = ks.map Sum.inr) (hx : x ∉ ks) : valV kvs (.inr x) = none := by
  cases hv : valV kvs (Sum.inr x : Key) with
  | none => rfl
  | some v =>
    have := valV_in hv
    rw [hk] at this
    obtain ⟨y, hy, e⟩ := List.mem_map.mp this
    exact absurd (Sum.inr.inj e ▸ hy) hx
section
variable {P : Program} {w : World} {K : PySem.W.Frag} {mg : Str → Option Value} {base : Heap}
/-! ### name in lot, of a name -/
def spLotHasK (cT : Addr) : Sp := fun vs H Q _ => ∃ (v : V) (x : Str) (wf : Str → Int) (ks : List Str), vs = [v, .str x] ∧ LotK cT H v wf ks ∧ nameOk x = true ∧ ∀ H', Same H H' → Q (.bl (decide (x ∈ ks))) H'
theorem ok_Lot_containsK (T : Txt K mg) : FnOk P w K mg base CX0 2 T.f_Lot_contains T.d_Lot_contains ["self", "name"] (spLotHasK T.a_Lot) := by
  have G_is_name := ok_is_name (P := P) (w := w) (base := base) T
  refine T.F_Lot_contains.ok sc_Lot_contains (fun vs H Q E h => ?_) (fun cdv A outer s H vs Q E hr h => ?_)
  · obtain ⟨_, _, _, _, rfl, _⟩ := h
    rfl
  obtain ⟨v, x, wf, ks, rfl, ⟨p, dx, d, kvs, rfl, h1, h2, h3, h4⟩, hn, q⟩ := h
  refine ⟨_, (pss_one (ps_ret (pe_and (pe_call G_is_name (hr.mono (by omega)) rfl T.m_is_name T.F_is_name.kp T.b_is_name .nil pass0 (pa_cons (pv 1) pa_nil)) (pe_one (pe_cmp (pc_din (hu_of hr) (pv 1) (pe_fld (pv 0) rfl))))))), ?_⟩
  have hlen := (name_letters hn).2.1
  refine un_ret ⟨_, rfl, _, rfl, .inl ⟨x, rfl, by omega, fun H1 e1 => ⟨_, rfl, ?_⟩⟩⟩
  rw [hn]
  refine iteT ⟨_, rfl, _, rfl, p, T.a_Lot, dx, _, _, rfl, e1 _ _ h1, T.c_Lot, T.n_Lot_worths, wo_at, d, _, rfl, DGet.k (k := (Sum.inr x : Key)) (e1 _ _ h2), ?_⟩
  have e : (valV kvs (Sum.inr x : Key)).isSome = decide (x ∈ ks) := by
    by_cases c : x ∈ ks
    · rw [h4 x c, decide_eq_true c]
      rfl
    · rw [valV_out h3 c, decide_eq_false c]
      rfl
  rw [e]
  exact q H1 e1
/-! ### Lacking -/
theorem ok_Lacking_init (T : Txt K mg) : FnOk P w K mg base CX0 1 T.f_Lacking_init T.d_Lacking_init ["self", "which"] (spExc T.a_Lacking "which") := by
  refine T.F_Lacking_init.ok sc_Lacking_init (fun vs H Q E h => ?_) (fun cdv A outer s H vs Q E hr h => ?_)
  · obtain ⟨_, _, rfl, _⟩ := h
    rfl
  obtain ⟨a, v, rfl, ha, q⟩ := h
  refine ⟨_, (pss_one (ps_ost (pv 0) (pv 1))), ?_⟩
  exact ⟨_, rfl, _, rfl, a, T.a_Lacking, rfl, T.Ex_Lacking, T.n_Lacking_which, .inl ⟨ha, fun dx hn hd => q dx hn hd⟩⟩
/-- a tree and a lot that lacks x first -/
def Lacks (cL cG cT : Addr) (H : Hp) (v u : V) (t : Tr) (x : Str) : Prop := ∃ (wf : Str → Int) (ks as bs : List Str), TAt cL cG H v t ∧ LotK cT H u wf ks ∧ t.names = as ++ x :: bs ∧ (∀ y ∈ as, y ∈ ks) ∧ x ∉ ks ∧ (∀ y ∈ t.names, nameOk y = true) ∧ t.names.length ≤ 60
theorem Lacks.mono {cL cG cT : Addr} {H H' : Hp} {v u : V} {t : Tr} {x : Str} (h : Lacks cL cG cT H v u t x) (e : Same H H') : Lacks cL cG cT H' v u t x := by
  obtain ⟨wf, ks, as, bs, h1, h2, h3⟩ := h
  exact ⟨wf, ks, as, bs, h1.mono e, h2.mono e, h3⟩
def LacksOut (cI : Addr) (H : Hp) (x : Str) (E : XK) : Prop := ∀ H' d, Same H H' → H' d = none → E (.ref cI) (some d) (upd H' d (.xd [("which", .str x)]))
theorem LacksOut.mono {cI : Addr} {H H1 : Hp} {x : Str} {E : XK} (h : LacksOut cI H x E) (e : Same H H1) : LacksOut cI H1 x E := fun H' d s n => h H' d (e.trans s) n
def spFullBad (cL cG cT cI : Addr) : Sp := fun vs H _ E => ∃ (v u : V) (t : Tr) (x : Str), vs = [v, u] ∧ Lacks cL cG cT H v u t x ∧ LacksOut cI H x E
theorem ok_check_full_bad (T : Txt K mg) : FnOk P w K mg base (L2.CX P w) 4 T.f_check_full T.d_check_full ["tree", "lot"] (spFullBad T.a_Leaf T.a_Group T.a_Lot T.a_Lacking) := by
  obtain ⟨ds, hds, bI⟩ := T.F_Lacking_init.binds1 (ps := ["self", "which"]) 2 1 (List.cons_ne_nil _ _) rfl fun _ _ _ _ _ _ _ us its hl hi => match us, hl, its, hi with | [_, _], _, [_], _ => ⟨_, rfl, rfl⟩
  cases hds
  have GH := ok_Lot_containsK (P := P) (w := w) (base := base) T
  refine T.F_check_full.okX sc_check_full (fun vs H Q E h => ?_) (fun cdv A outer s H vs Q E hr h => ?_)
  · obtain ⟨_, _, _, _, rfl, _⟩ := h
    rfl
  obtain ⟨v, u, t, x, rfl, ⟨wf, ks, as, bs, ht, hu, hx, has, hxk, hn, hz⟩, q⟩ := h
  refine ⟨_, (pss_one (ps_for PassesOwn.leaving rfl (pi_list (pe_names (T := T) rfl (pv 0) (ok_Leaf_names T) (ok_Group_names T) (hr.mono (by omega)))) (pg_name (i := 2) sc_check_full.nd rfl (.inl rfl))
    (pss_one (ps_if (pt_cmpR (op_notInO T.M_Lot_contains GH (hr.mono (by omega)) T.b_Lot_contains pass0) (pv 2) (pv 1) (by rfl)) (pss_one (ps_raise rfl (takes_of rfl rfl rfl rfl) (pmk_oex T.Ex_Lacking T.at_Lacking T.tf_Lacking (ok_Lacking_init T) (hr.mono (by omega)) bI .nil pass0 rfl T.m_Lacking (pa_cons (pv 2) pa_nil)))) pss_nil)))), ?_⟩
  refine Evl.s_forNL (rd_names (Evl.ev_var rfl) ht) (fun p i σ' H' => i ≤ as.length ∧ H' p = some (.lst (t.names.map V.str)) ∧ Same H H' ∧ ∃ nm, σ' = [some v, some u, nm]) (fun p H1 np e1 h1 => ⟨Nat.zero_le _, h1, e1, _, rfl⟩) (fun p i σ' H' _ h => SqL.of h.2.1) (fun p i y σ' H' hy h => ?_) (fun p σ' H' h => ?_)
  · obtain ⟨hi, hp, e1, nm, rfl⟩ := h
    rw [List.getElem?_map] at hy
    obtain ⟨z, hzi, rfl⟩ := Option.map_eq_some_iff.mp hy
    have hzn := hn z (List.mem_of_getElem? hzi)
    have hu1 := hu.mono e1
    have hu2 := hu1
    obtain ⟨a, dx, d, kvs, rfl, h1, h2, h3, h4⟩ := hu2
    unfold gName
    refine un_ifS ?_
    refine un_test ?_
    refine ⟨_, rfl, _, rfl, a, dx, _, rfl, h1, _, z, wf, ks, rfl, hu1, hzn, fun H2 e2 => ⟨_, rfl, _, rfl, ?_⟩⟩
    rw [hx] at hzi
    by_cases c : i < as.length
    · rw [List.getElem?_append_left c] at hzi
      rw [decide_eq_true (has z (List.mem_of_getElem? hzi))]
      exact iteF (nxt ⟨c, e2 _ _ hp, e1.trans e2, _, rfl⟩)
    · have ei : i = as.length := by omega
      rw [ei, List.getElem?_append_right (Nat.le_refl _), Nat.sub_self] at hzi
      cases hzi
      rw [decide_eq_false hxk]
      exact iteT (un_mk (un_var rfl (exc_new fun d hd => q H2 d (e1.trans e2) hd)))
  · have := h.1
    rw [List.length_map, hx, List.length_append, List.length_cons] at this
    omega
def spEndsBad (cL cG cT cI : Addr) : Sp := fun vs H _ E => ∃ (v u : V) (t : Tr) (x : Str), vs = [v, u] ∧ Lacks cL cG cT H v u t x ∧ LacksOut cI H x E
theorem ok_ends_of_bad (T : Txt K mg) : FnOk P w K mg base (L2.CX P w) 5 T.f_ends_of T.d_ends_of ["tree", "lot"] (spEndsBad T.a_Leaf T.a_Group T.a_Lot T.a_Lacking) := by
  have G_check_kinds := ok_check_kinds (P := P) (w := w) (base := base) T
  refine T.F_ends_of.okX sc_ends_of (fun vs H Q E h => ?_) (fun cdv A outer s H vs Q E hr h => ?_)
  · obtain ⟨_, _, _, _, rfl, _⟩ := h
    rfl
  obtain ⟨v, u, t, x, rfl, hL, q⟩ := h
  refine ⟨_, (pss_cons (ps_expr (pe_call G_check_kinds (hr.mono (by omega)) rfl T.m_check_kinds T.F_check_kinds.kp T.b_check_kinds .nil pass0 (pa_cons (pv 0) (pa_cons (pv 1) pa_nil))))
  (pss_cons (ps_expr (pe_call (E := E) (ok_check_full_bad T) (hr.mono (by omega)) rfl T.m_check_full T.F_check_full.kp T.b_check_full .nil (passes_call (takes_of rfl rfl rfl rfl) (fun _ _ _ _ e => e)) (pa_cons (pv 0) (pa_cons (pv 1) pa_nil))))
  (pss_one ps_never))), ?_⟩
  have hL2 := hL
  obtain ⟨wf, ks, as, bs, ht, hu, _⟩ := hL2
  refine un_seq ⟨_, rfl, _, rfl, v, u, t, wf, [], rfl, ht, hu.at_ (fun x h => absurd h List.not_mem_nil), fun H1 e1 => ?_⟩
  exact un_seq ⟨_, rfl, _, rfl, v, u, t, x, rfl, hL.mono e1, q.mono e1⟩
theorem ok_outs_of_bad (T : Txt K mg) : FnOk P w K mg base (L2.CX P w) 5 T.f_outs_of T.d_outs_of ["tree", "lot"] (spEndsBad T.a_Leaf T.a_Group T.a_Lot T.a_Lacking) := by
  have G_check_kinds := ok_check_kinds (P := P) (w := w) (base := base) T
  refine T.F_outs_of.okX sc_outs_of (fun vs H Q E h => ?_) (fun cdv A outer s H vs Q E hr h => ?_)
  · obtain ⟨_, _, _, _, rfl, _⟩ := h
    rfl
  obtain ⟨v, u, t, x, rfl, hL, q⟩ := h
  refine ⟨_, (pss_cons (ps_expr (pe_call G_check_kinds (hr.mono (by omega)) rfl T.m_check_kinds T.F_check_kinds.kp T.b_check_kinds .nil pass0 (pa_cons (pv 0) (pa_cons (pv 1) pa_nil))))
  (pss_cons (ps_expr (pe_call (E := E) (ok_check_full_bad T) (hr.mono (by omega)) rfl T.m_check_full T.F_check_full.kp T.b_check_full .nil (passes_call (takes_of rfl rfl rfl rfl) (fun _ _ _ _ e => e)) (pa_cons (pv 0) (pa_cons (pv 1) pa_nil))))
  (pss_one ps_never))), ?_⟩
  have hL2 := hL
  obtain ⟨wf, ks, as, bs, ht, hu, _⟩ := hL2
  refine un_seq ⟨_, rfl, _, rfl, v, u, t, wf, [], rfl, ht, hu.at_ (fun x h => absurd h List.not_mem_nil), fun H1 e1 => ?_⟩
  exact un_seq ⟨_, rfl, _, rfl, v, u, t, x, rfl, hL.mono e1, q.mono e1⟩
def spEndBad (cL cG cT cI : Addr) : Sp := fun vs H _ E => ∃ (v u : V) (t : Tr) (x : Str) (j : Int), vs = [v, u, .int j] ∧ 1 ≤ j ∧ j ≤ (t.width : Int) ∧ Lacks cL cG cT H v u t x ∧ LacksOut cI H x E
theorem ok_end_of_bad (T : Txt K mg) : FnOk P w K mg base (L2.CX P w) 5 T.f_end_of T.d_end_of ["tree", "lot", "j"] (spEndBad T.a_Leaf T.a_Group T.a_Lot T.a_Lacking) := by
  have G_check_kinds := ok_check_kinds (P := P) (w := w) (base := base) T
  have G_is_end := ok_is_end (P := P) (w := w) (base := base) T
  refine T.F_end_of.ok sc_end_of (fun vs H Q E h => ?_) (fun cdv A outer s H vs Q E hr h => ?_)
  · obtain ⟨_, _, _, _, _, rfl, _⟩ := h
    rfl
  obtain ⟨v, u, t, x, j, rfl, lo, hi, hL, q⟩ := h
  refine ⟨_, (pss_cons (ps_expr (pe_call G_check_kinds (hr.mono (by omega)) rfl T.m_check_kinds T.F_check_kinds.kp T.b_check_kinds .nil pass0 (pa_cons (pv 0) (pa_cons (pv 1) pa_nil))))
  (pss_cons (ps_if (pt_not (pt_val (pe_call G_is_end (hr.mono (by omega)) rfl T.m_is_end T.F_is_end.kp T.b_is_end .nil pass0 (pa_cons (pv 0) (pa_cons (pv 2) pa_nil))))) (pss_one ps_never) pss_nil)
  (pss_cons (ps_expr (pe_call (E := E) (ok_check_full_bad T) (hr.mono (by omega)) rfl T.m_check_full T.F_check_full.kp T.b_check_full .nil (passes_call (takes_of rfl rfl rfl rfl) (fun _ _ _ _ e => e)) (pa_cons (pv 0) (pa_cons (pv 1) pa_nil))))
  (pss_one ps_never)))), ?_⟩
  have hL2 := hL
  obtain ⟨wf, ks, as, bs, ht, hu, _⟩ := hL2
  refine un_seq ⟨_, rfl, _, rfl, v, u, t, wf, [], rfl, ht, hu.at_ (fun x h => absurd h List.not_mem_nil), fun H1 e1 => ?_⟩
  dsimp only
  refine un_seq <| un_ifS ⟨_, rfl, _, rfl, v, t, j, rfl, ht.mono e1, fun H2 e2 => ⟨_, rfl, ?_⟩⟩
  rw [decide_eq_true lo, decide_eq_true hi]
  refine iteF (nxt ?_)
  have e12 := Same.trans e1 e2
  exact un_seq ⟨_, rfl, _, rfl, v, u, t, x, rfl, hL.mono e12, q.mono e12⟩
theorem ok_rank_in_bad (T : Txt K mg) : FnOk P w K mg base (L2.CX P w) 6 T.f_rank_in T.d_rank_in ["tree", "lot", "j"] (spEndBad T.a_Leaf T.a_Group T.a_Lot T.a_Lacking) := by
  obtain ⟨ds1, hd1, bA_end_of⟩ := T.F_end_of.binds1 (ps := ["tree", "lot", "j"]) 3 1 (List.cons_ne_nil _ _) rfl fun _ _ _ _ _ _ _ us its hl hi => match us, hl, its, hi with | [_, _, _], _, [_], _ => ⟨_, rfl, rfl⟩
  cases hd1
  refine T.F_rank_in.ok sc_rank_in (fun vs H Q E h => ?_) (fun cdv A outer s H vs Q E hr h => ?_)
  · obtain ⟨_, _, _, _, _, rfl, _⟩ := h
    rfl
  obtain ⟨v, u, t, x, j, rfl, lo, hi, hL, q⟩ := h
  refine ⟨_, (pss_cons (ps_set (i := 3) sc_rank_in.nd rfl (Or.inr rfl) (pe_call (E := E) (ok_end_of_bad T) (hr.mono (by omega)) rfl T.m_end_of T.F_end_of.kp bA_end_of .nil (passes_call (takes_of rfl rfl rfl rfl) (fun _ _ _ _ e => e)) (pa_cons (pv 0) (pa_cons (pv 1) (pa_cons (pv 2) pa_nil)))))
  (pss_cons ps_never
  (pss_cons ps_never
  (pss_one ps_never)))), ?_⟩
  exact un_seq <| un_asg ⟨_, rfl, _, rfl, _, rfl, v, u, t, x, j, rfl, lo, hi, hL, q⟩
/-! ### two equal lots -/
def spLotEq (cT : Addr) : Sp := fun vs H Q _ => ∃ (v u : V) (wf : Str → Int) (ks ls : List Str), vs = [v, u] ∧ LotK cT H v wf ks ∧ LotK cT H u wf ls ∧ ks.Nodup ∧ ks.Perm ls ∧ Q (.bl true) H
theorem ok_Lot_eq (T : Txt K mg) : FnOk P w K mg base CX0 1 T.f_Lot_eq T.d_Lot_eq ["self", "other"] (spLotEq T.a_Lot) := by
  refine T.F_Lot_eq.ok sc_Lot_eq (fun vs H Q E h => ?_) (fun cdv A outer s H vs Q E hr h => ?_)
  · obtain ⟨_, _, _, _, _, rfl, _⟩ := h
    rfl
  obtain ⟨v, u, wf, ks, ls, rfl, ⟨p, dx, d, kvs, rfl, h1, h2, h3, h4⟩, ⟨p2, dx2, d2, kvs2, rfl, k1, k2, k3, k4⟩, nd, pm, q⟩ := h
  refine ⟨_, (pss_one (ps_ret (pe_and (pe_callB call_isi (by rfl) T.m_isinstance (by decide +kernel) (pa_cons (pv 1) (pa_cons (pe_glob (v := .ref T.a_Lot) rfl T.m_Lot rfl) pa_nil))) (pe_one (pe_cmpR (op_eq_dictA (Nat.lt_of_le_of_lt (Nat.le_add_right _ 64) hr.units)) (pe_fld (pv 0) rfl) (pe_fld (pv 1) rfl) (nomark _)))))), ?_⟩
  have ndk : (kvs.map (·.1)).Nodup := by
    rw [h3]
    exact List.Pairwise.map _ (fun a b hab z => hab (Sum.inr.inj z)) nd
  refine un_ret ⟨_, rfl, _, _, _, _, _, rfl, .own _, .base (.ins k1 T.c_Lot T.ca_Lot T.gc T.tc T.mo_Lot), kit_self, _, rfl, ?_⟩
  refine iteT ⟨_, rfl, p, T.a_Lot, dx, _, _, rfl, h1, T.c_Lot, T.n_Lot_worths, wo_at, _, rfl, p2, T.a_Lot, dx2, _, _, rfl, k1, T.c_Lot, T.n_Lot_worths, wo_at, d, d2, kvs, kvs2, rfl, rfl, h2, k2, ?_, fun kv hkv => ?_, q⟩
  · have e1 := congrArg List.length h3
    have e2 := congrArg List.length k3
    rw [List.length_map, List.length_map] at e1 e2
    rw [e1, e2, pm.length_eq]
  · have hv := valV_mem ndk kv hkv
    have hm : kv.1 ∈ kvs.map (·.1) := List.mem_map.mpr ⟨kv, hkv, rfl⟩
    rw [h3] at hm
    obtain ⟨x, hx, ex⟩ := List.mem_map.mp hm
    rw [← ex, h4 x hx] at hv
    have e2 := Option.some.inj hv
    rw [← ex, k4 x (pm.mem_iff.mp hx), ← e2]
    exact ⟨rfl, rfl⟩
/-! ### drop -/
def spLotDrop (cT : Addr) : Sp := fun vs H Q _ => ∃ (p dx d : Addr) (kvs : List (Key × V)) (x : Str), vs = [.ref p, .str x] ∧ H p = some (.ins cT dx (putF "_worths" (.ref d) [])) ∧ H d = some (.dK kvs) ∧ (valV kvs (.inr x)).isSome = true ∧ nameOk x = true ∧ ∀ H1, Same H H1 → Q .non (upd H1 d (.dK (dropK kvs (.inr x))))
theorem ok_Lot_drop (T : Txt K mg) : FnOk P w K mg base CX0 2 T.f_Lot_drop T.d_Lot_drop ["self", "name"] (spLotDrop T.a_Lot) := by
  have G_is_name := ok_is_name (P := P) (w := w) (base := base) T
  refine T.F_Lot_drop.ok sc_Lot_drop (fun vs H Q E h => ?_) (fun cdv A outer s H vs Q E hr h => ?_)
  · obtain ⟨_, _, _, _, _, rfl, _⟩ := h
    rfl
  obtain ⟨p, dx, d, kvs, x, rfl, h1, h2, hv, hn, q⟩ := h
  refine ⟨_, (pss_cons (ps_if (pt_not (pt_val (pe_call G_is_name (hr.mono (by omega)) rfl T.m_is_name T.F_is_name.kp T.b_is_name .nil pass0 (pa_cons (pv 1) pa_nil)))) (pss_one ps_never) pss_nil)
  (pss_cons (ps_if (pt_cmp (pc_dnotin (hu_of hr) (pv 1) (pe_fld (pv 0) rfl))) (pss_one ps_never) pss_nil)
  (pss_one (ps_ddel (pe_fld (pv 0) rfl) (pv 1))))), ?_⟩
  have hlen := (name_letters hn).2.1
  refine un_seq <| un_ifS ⟨_, rfl, _, rfl, .inl ⟨x, rfl, by omega, fun H1 e1 => ⟨_, rfl, ifNot hn (nxt ?_)⟩⟩⟩
  dsimp only
  refine un_seq <| un_ifS ⟨_, rfl, _, rfl, p, T.a_Lot, dx, _, _, rfl, e1 _ _ h1, T.c_Lot, T.n_Lot_worths, wo_at, d, _, rfl, DGet.k (k := (Sum.inr x : Key)) (e1 _ _ h2), _, rfl, ?_⟩
  rw [hv]
  refine iteF (nxt ?_)
  exact ⟨_, rfl, p, T.a_Lot, dx, _, _, rfl, e1 _ _ h1, T.c_Lot, T.n_Lot_worths, wo_at, _, rfl, d, kvs, .inr x, rfl, e1 _ _ h2, rfl, hv, q H1 e1⟩
end
end Rk
set_option Elab.async false
set_option linter.all false
set_option maxRecDepth 100000
set_option maxHeartbeats 4000000
namespace Rk
open PySem PySem.Spec PyProof.Rows L2 RkO Rx
open Evl (Ev EvT EvA EvL EvU EvO Ex RC RCL SpV SpL)
/-- a dict in which the names xs have their worths -/
def WG (H : Hp) (d : Addr) (wf : Str → Int) (xs : List Str) : Prop := ∃ kvs : List (Key × V), H d = some (.dK kvs) ∧ ∀ x ∈ xs, valV kvs (.inr x) = some (.int (wf x))
theorem WG.mono {H H' : Hp} {d : Addr} {wf : Str → Int} {xs : List Str} (h : WG H d wf xs) (e : Same H H') : WG H' d wf xs := by
  obtain ⟨kvs, h1, h2⟩ := h
  exact ⟨kvs, e _ _ h1, h2⟩
theorem WG.sub {H : Hp} {d : Addr} {wf : Str → Int} {xs ys : List Str} (h : WG H d wf xs) (hs : ∀ y ∈ ys, y ∈ xs) : WG H d wf ys := by
  obtain ⟨kvs, h1, h2⟩ := h
  exact ⟨kvs, h1, fun y hy => h2 y (hs y hy)⟩
theorem WG.get {H : Hp} {d : Addr} {wf : Str → Int} {xs : List Str} {x : Str} (h : WG H d wf xs) (hx : x ∈ xs) : DGet H d (.str x) (some (.int (wf x))) := by
  obtain ⟨kvs, h1, h3⟩ := h
  have := DGet.k (k := (Sum.inr x : Key)) h1
  rwa [h3 x hx] at this
theorem WD.wg {H : Hp} {d : Addr} {wf : Str → Int} {xs : List Str} (h : WD H d wf xs) : WG H d wf xs := by
  obtain ⟨kvs, h1, _, h3⟩ := h
  exact ⟨kvs, h1, h3⟩
theorem endsL_app (wf : Str → Int) : ∀ ps qs : List Tr, endsL wf (ps ++ qs) = endsL wf ps ++ endsL wf qs
  | [], qs => rfl
  | p :: ps, qs => by
    show p.ends wf ++ endsL wf (ps ++ qs) = (p.ends wf ++ endsL wf ps) ++ endsL wf qs
    rw [endsL_app wf ps qs, List.append_assoc]
theorem endsL_take (wf : Str → Int) (ps : List Tr) (i : Nat) : (endsL wf (ps.take i)).length ≤ (endsL wf ps).length := by
  conv => rhs; rw [← List.take_append_drop i ps, endsL_app, List.length_append]
  omega
theorem endsL_one (wf : Str → Int) (t : Tr) : endsL wf [t] = t.ends wf := List.append_nil _
section
variable {P : Program} {w : World} {K : PySem.W.Frag} {mg : Str → Option Value} {base : Heap}
def spLEnds (n : Nat) : Sp := fun vs H Q _ => ∃ (v : V) (d : Addr) (t : Tr) (wf : Str → Int), vs = [v, .ref d] ∧ t.depth < n ∧ LAt H v t ∧ Ok t ∧ t.names.length ≤ 60 ∧ WG H d wf t.names ∧ ∀ l H', Same H H' → H l = none → H' l = some (.lst ((t.ends wf).map V.int)) → Q (.ref l) H'
theorem ok_law_ends (T : Txt K mg) : ∀ n : Nat, FnOk P w K mg base CX0 (n + 1) T.f_law_ends T.d_law_ends ["tree", "worths"] (spLEnds n)
  | 0 => fn_no fun vs H Q E h => by
    obtain ⟨_, _, _, _, _, hd, _⟩ := h
    exact absurd hd (Nat.not_lt_zero _)
  | n + 1 => by
    have G_law_ends := ok_law_ends T n
    refine T.F_law_ends.ok sc_law_ends (fun vs H Q E h => ?_) (fun cdv A outer s H vs Q E hr h => ?_)
    · obtain ⟨_, _, _, _, rfl, _⟩ := h
      rfl
    obtain ⟨v, d, t, wf, rfl, hd, ht, hok, hz, hW, q⟩ := h
    have hu := hu_of hr
    refine ⟨_, (pss_cons (ps_if (pt_cmpR op_eq (pe_ix ix_tup (pv 0) pe_int (fun _ _ => rfl)) pe_str (nomark _)) (pss_one (ps_ret (pe_lst (pa_cons (by exact (pe_dget (hu_of hr) (pv 1) (pe_ix ix_tup (pv 0) pe_int (fun _ _ => rfl)) (fun _ _ => rfl))) pa_nil)))) pss_nil)
  (pss_cons (ps_set (i := 2) sc_law_ends.nd rfl (Or.inr rfl) (pe_lst pa_nil))
  (pss_cons (ps_for PassesOwn.never rfl (pi_list (pe_ix ix_tup (pv 0) pe_int (fun _ _ => rfl))) (pg_name (i := 3) sc_law_ends.nd rfl (.inl rfl))
    (pss_one (ps_set (i := 2) sc_law_ends.nd rfl (Or.inr rfl) (pe_op op_cat (pv 2) (pe_call G_law_ends (hr.mono (by omega)) rfl T.m_law_ends T.F_law_ends.kp T.b_law_ends .nil pass0 (pa_cons (pv 3) (pa_cons (pv 1) pa_nil)))))))
  (pss_cons (ps_set (i := 2) sc_law_ends.nd rfl (Or.inr rfl) (pe_callB cr_sorted (by rfl) T.m_sorted (by decide +kernel) (pa_cons (pv 2) pa_nil)))
  (pss_one (ps_ret (pe_lc (own := [("rank", 4)]) rfl sc_law_ends.nd  (pi_list (pe_ix ix_tup (pv 0) pe_int (fun _ _ => rfl))) (blkOk_by (own := [("rank", 4)]) (N := ["tree", "worths", "taken", "part", "rank"]) (sc := defScope s_law_ends) (by decide +kernel)) (fun _ _ _ _ _ => (pg_name (i := 4) sc_law_ends.nd rfl (.inl rfl))) (fun _ _ _ _ _ => pts_nil) (fun _ _ _ _ _ => (pe_ix (ixR_K (K := K) (r := rIxL) rfl ix_list) (pv 2) (pe_op op_sub (pv 4) pe_int) (fun _ _ => rfl)))))))))), ?_⟩
    cases ht with
    | @leaf p x h =>
      refine un_seq <| un_ifS <| un_test ⟨_, rfl, _, _, _, _, rfl, rfl, Evl.st_of h, atI_nat (j := 0) rfl, rfl, _, rfl, ?_⟩
      rw [decide_eq_true rfl]
      refine iteT (un_ret <| un_cons ?_)
      refine ⟨_, rfl, _, rfl, _, _, _, _, rfl, rfl, Evl.st_of h, atI_nat (j := 1) rfl, d, _, rfl, hW.get (List.mem_singleton.mpr rfl), ?_⟩
      exact ⟨Evl.sz_of (Nat.le_of_ble_eq_true rfl), fun l nl => q l _ (same_new nl _) nl upd_same⟩
    | @grp p lr lp rs ps us h1 h2 h3 hvl hf =>
      have hF : LF H us ps := ⟨hvl, hf⟩
      have oks : ∀ t ∈ ps, Ok t := by
        cases hok with
        | grp h1 _ _ _ h5 h6 => exact h1
      have hb : ∀ r ∈ rs, 1 ≤ r ∧ r ≤ (intakeL ps : Int) := by
        cases hok with
        | grp h1 _ _ _ h5 h6 => exact h6
      have hd : depthL ps + 1 < n + 1 := hd
      have hl : (namesL ps).length ≤ 60 := hz
      have hrl : rs.length ≤ 60 := Nat.le_trans hok.width_le hz
      have hpl := parts_le oks
      have hin := intake_le oks
      have eN : (endsL wf ps).length = intakeL ps := endsL_len wf ps
      refine un_seq <| un_ifS <| un_test ⟨_, rfl, _, _, _, _, rfl, rfl, Evl.st_of h1, atI_nat (j := 0) rfl, rfl, _, rfl, ?_⟩
      rw [decide_eq_false (by decide +kernel)]
      refine iteF (nxt ?_)
      dsimp only
      have it : ∀ (σ : L2.St) (k : Nat) (z : V) H1, σ[0]? = some (some (.ref p)) → Ex H H1 → [V.str "group", .ref lr, .ref lp][k]? = some z → Ev (tOp (rIxT K) (tVar 0) (tC (.int (k : Int)))) σ H1 z := fun σ k z H1 h0 e hk H2 e3 Q q => ⟨_, h0, p, _, _, _, rfl, rfl, Evl.st_of (e3 _ _ (e _ _ h1)), atI_nat hk, q H2 (Ex.refl H2)⟩
      refine sq_asg ⟨Evl.sz_of (Nat.le_of_ble_eq_true rfl), fun tk ntk => ?_⟩
      have s1 := same_new ntk (.lst [])
      have htk : (upd H tk (.lst [])) tk = some (.lst []) := upd_same
      generalize upd H tk (.lst []) = H1 at s1 htk ⊢
      refine Evl.q_forLn (K := K) (a := lp) (xs := us) (it _ 2 _ H1 rfl s1 rfl) (SqL.of (s1 _ _ h3)) (fun i σ' H' => ∃ (tk : Addr) (x3 : Option V), σ' = [some (.ref p), some (.ref d), some (.ref tk), x3, none] ∧ Ex H1 H' ∧ H' tk = some (.lst ((endsL wf (ps.take i)).map V.int))) (fun H2 e2 => ⟨tk, none, rfl, e2, e2 _ _ htk⟩) (fun i σ' H' _ h => ?_) (fun i y σ' H' hy h => ?_) (fun σ' H' h => ?_)
      · obtain ⟨_, _, _, e, _⟩ := h
        exact SqL.of (e _ _ (s1 _ _ h3))
      · obtain ⟨tk, x3, rfl, e1, htk⟩ := h
        have hi := (List.getElem?_eq_some_iff.mp hy).1
        have hpi : ps[i]? = some ps[i] := List.getElem?_eq_getElem (by omega)
        generalize ps[i] = t at hpi
        have hmem := List.mem_of_getElem? hpi
        have hlt : LAt H y t := hf i y t hy hpi
        have hdp := depth_mem hmem
        refine un_op ⟨_, rfl, _, rfl, _, rfl, y, d, t, wf, rfl, by omega, (hlt.mono s1).mono e1, oks t hmem, Nat.le_trans (names_part hmem) hl, ((hW.mono s1).mono e1).sub fun x hx => names_in hmem hx, fun l H2 s2 nl hl2 => ⟨tk, l, _, _, rfl, rfl, s2 _ _ htk, hl2, ?_, fun b nb => ?_⟩⟩
        · have g1 := endsL_take wf ps (i + 1)
          rw [List.take_add_one, hpi, endsL_app] at g1
          rw [List.length_map, List.length_map]
          rw [List.length_append, show (some t).toList = [t] from rfl, endsL_one] at g1
          exact Evl.sz_of (by omega)
        · refine ⟨b, _, rfl, (e1.trans s2).trans (same_new nb _), ?_⟩
          rw [upd_same, List.take_add_one, hpi, endsL_app, List.map_append, show (some t).toList = [t] from rfl, endsL_one]
      · obtain ⟨tk, x3, rfl, e1, htk⟩ := h
        rw [hvl, List.take_length] at htk
        refine sq_asg ⟨_, rfl, tk, _, rfl, SqL.of htk, by omega, fun ns' z6 perm up n6 => ?_⟩
        have ens : ns' = sortI (endsL wf ps) := PySem.W.ksm_same (perm.trans (sortI_perm _).symm) up (sortI_up _)
        subst ens
        have s6 := same_new n6 (.lst ((sortI (endsL wf ps)).map V.int))
        have h6 : (upd H' z6 (.lst ((sortI (endsL wf ps)).map V.int))) z6 = some (.lst ((sortI (endsL wf ps)).map V.int)) := upd_same
        generalize upd H' z6 (.lst ((sortI (endsL wf ps)).map V.int)) = H6 at s6 h6 ⊢
        have eS : (sortI (endsL wf ps)).length = intakeL ps := by rw [(sortI_perm _).length_eq, eN]
        have s16 := (Same.trans s1 e1).trans s6
        refine Evl.s_retL (xs := rs.map fun r => V.int ((sortI (endsL wf ps)).getD (r - 1).toNat 0)) (el_lcM (K := K) (a := lr) (xs := rs) (g := V.int) (it _ 1 _ H6 rfl s16 rfl) (SqL.of (s16 _ _ h2)) (by omega) (fun x => rfl) (fun r H8 e8 hr => ?_)) fun l H8 nl e8 hl8 => q l H8 (s16.trans e8) (Evl.fresh_back s16 nl) ?_
        · have hr := hb r hr
          intro H9 e9 Q9 q9
          refine ⟨_, rfl, _, rfl, _, _, rfl, rfl, z6, _, r - 1, _, rfl, rfl, SqL.of ((e8.trans e9) _ _ h6), ?_, q9 _ (Ex.refl _)⟩
          rw [show r - 1 = (((r - 1).toNat : Nat) : Int) by omega]
          refine atI_nat ?_
          rw [List.getElem?_map, List.getElem?_eq_getElem (by omega), List.getD_eq_getElem?_getD, List.getElem?_eq_getElem (by omega)]
          simp
        · rw [hl8]
          show _ = some (HO.lst ((rs.map fun r => (sortI (endsL wf ps)).getD (r - 1).toNat 0).map V.int))
          rw [List.map_map]
          rfl
end
end Rk
set_option Elab.async false
set_option linter.all false
set_option maxRecDepth 100000
set_option maxHeartbeats 4000000
namespace Rk
open PySem PySem.Spec PyProof.Rows L2 RkO Rx
open Evl (Ev EvT EvA EvL EvU EvO Ex RC RCL SpV SpL)
theorem nodesL_app : ∀ ps qs : List Tr, nodesL (ps ++ qs) = nodesL ps ++ nodesL qs
  | [], qs => rfl
  | p :: ps, qs => by
    show p.nodes ++ nodesL (ps ++ qs) = (p.nodes ++ nodesL ps) ++ nodesL qs
    rw [nodesL_app ps qs, List.append_assoc]
theorem nodesL_one (t : Tr) : nodesL [t] = t.nodes := List.append_nil _
theorem nodesL_take (ps : List Tr) (i : Nat) : (nodesL (ps.take i)).length ≤ (nodesL ps).length := by
  conv => rhs; rw [← List.take_append_drop i ps, nodesL_app, List.length_append]
  omega
section
variable {P : Program} {w : World} {K : PySem.W.Frag} {mg : Str → Option Value} {base : Heap}
def spLNodes (n : Nat) : Sp := fun vs H Q _ => ∃ (v : V) (t : Tr), vs = [v] ∧ t.depth < n ∧ LAt H v t ∧ t.nodes.length ≤ 1000 ∧ ∀ v' H', Same H H' → RL (t.nodes.map RLt) H' v' → Q v' H'
theorem sp_nodes {n : Nat} {H : Hp} {v : V} {t : Tr} (h : LAt H v t) (hd : t.depth < n) (hl : t.nodes.length ≤ 1000) : SpX (spLNodes n) [v] H (RL (t.nodes.map RLt)) := fun H1 e Q q E => ⟨v, t, rfl, hd, h.mono e, hl, fun v' H' s r => q v' H' s r⟩
theorem mons_RLt {ts : List Tr} : MonA (ts.map RLt) := MonA.map fun _ _ => mon_RLt
theorem ok_law_nodes (T : Txt K mg) : ∀ n : Nat, FnOk P w K mg base CX0 (n + 1) T.f_law_nodes T.d_law_nodes ["tree"] (spLNodes n)
  | 0 => fn_no fun vs H Q E h => by
    obtain ⟨_, _, _, hd, _⟩ := h
    exact absurd hd (Nat.not_lt_zero _)
  | n + 1 => by
    have G_law_nodes := RkO.FnOk.frame (ok_law_nodes T n)
    refine T.F_law_nodes.ok sc_law_nodes (fun vs H Q E h => ?_) (fun cdv A outer s H vs Q E hr h => ?_)
    · obtain ⟨_, _, rfl, _⟩ := h
      rfl
    obtain ⟨v, t, rfl, hd, ht, hl, q⟩ := h
    refine ⟨_, (pss_cons (ps_set (i := 1) sc_law_nodes.nd rfl (Or.inl rfl) (pe_lst (pa_cons (pv 0) pa_nil)))
  (Evl.pss_cut (ps_if (pt_cmpR op_eq (pe_ix ix_tup (pv 0) pe_int (fun _ _ => rfl)) pe_str (nomark _)) (pss_one (ps_for PassesOwn.never rfl (pi_list (pe_ix ix_tup (pv 0) pe_int (fun _ _ => rfl))) (pg_name (i := 2) sc_law_nodes.nd rfl (.inl rfl))
      (pss_one (ps_set (i := 1) sc_law_nodes.nd rfl (Or.inl rfl) (pe_op op_cat (pv 1) (pe_call G_law_nodes (hr.mono (by omega)) rfl T.m_law_nodes T.F_law_nodes.kp T.b_law_nodes .nil pass0 (pa_cons (pv 2) pa_nil))))))) pss_nil)
  (pss_one (ps_ret (pv 1))))), ?_⟩
    have ht0 := ht
    refine sq_asg <| (x_lst (Rs := [RLt t]) (MonA.cons mon_RLt MonA.nil) (x_cons mon_RLt (x_var rfl mon_RLt ht) x_nil) (Nat.le_of_ble_eq_true rfl)).run fun fv H1 e1 r1 => ?_
    refine Evl.q_cut (M := fun σ' H' => ∃ fv x2, σ' = [some v, some fv, x2] ∧ Same H H' ∧ RL (t.nodes.map RLt) H' fv) ?_ ?_
    rotate_left
    · rintro σ' H' ⟨fv, x2, rfl, s, r⟩
      exact un_ret (un_var rfl (q fv H' s r))
    cases ht with
    | @leaf p x h =>
      refine un_ifS ⟨_, rfl, _, _, _, _, rfl, rfl, Evl.st_of (e1 _ _ h), atI_nat (j := 0) rfl, rfl, _, rfl, ?_⟩
      rw [decide_eq_false (by decide +kernel)]
      exact iteF (nxt ⟨fv, _, rfl, e1, r1⟩)
    | @grp p lr lp rs ps us h1 h2 h3 hvl hf =>
      have hd : depthL ps + 1 < n + 1 := hd
      have hl : (nodesL ps).length + 1 ≤ 1000 := hl
      refine un_ifS ⟨_, rfl, _, _, _, _, rfl, rfl, Evl.st_of (e1 _ _ h1), atI_nat (j := 0) rfl, rfl, _, rfl, ?_⟩
      rw [decide_eq_true rfl]
      refine iteT ?_
      have it : ∀ (σ : L2.St) (k : Nat) (z : V) H1, σ[0]? = some (some (.ref p)) → Ex H H1 → [V.str "group", .ref lr, .ref lp][k]? = some z → Ev (tOp (rIxT K) (tVar 0) (tC (.int (k : Int)))) σ H1 z := fun σ k z H1 h0 e hk H2 e3 Q q => ⟨_, h0, p, _, _, _, rfl, rfl, Evl.st_of (e3 _ _ (e _ _ h1)), atI_nat hk, q H2 (Ex.refl H2)⟩
      refine Evl.s_forLn (K := K) (a := lp) (xs := us) (it _ 2 _ H1 rfl e1 rfl) (SqL.of (e1 _ _ h3)) (fun i σ' H' => ∃ fv x2, σ' = [some (.ref p), some fv, x2] ∧ Same H H' ∧ RL ((Tr.grp rs ps :: nodesL (ps.take i)).map RLt) H' fv) (fun H2 e2 => ⟨fv, _, rfl, e1.trans e2, mon_RL mons_RLt _ _ _ r1 e2⟩) (fun i σ' H' _ h => ?_) (fun i y σ' H' hy h => ?_) (fun σ' H' h => ?_)
      · obtain ⟨_, _, _, e, _⟩ := h
        exact SqL.of (e _ _ h3)
      · obtain ⟨fv, x2, rfl, e, r⟩ := h
        have hi := (List.getElem?_eq_some_iff.mp hy).1
        have hpi : ps[i]? = some ps[i] := List.getElem?_eq_getElem (by omega)
        generalize ps[i] = u at hpi
        have hmem := List.mem_of_getElem? hpi
        have hlt : LAt H y u := hf i y u hy hpi
        have hdp := depth_mem hmem
        have hnp := nodes_part hmem
        have htk := nodesL_take ps i
        refine un_asg <| (x_cat (Rs := (Tr.grp rs ps :: nodesL (ps.take i)).map RLt) (Ss := u.nodes.map RLt) mons_RLt mons_RLt (x_var rfl (mon_RL mons_RLt) r) (x_callA (dvs := []) (E := E0) (mon_RL mons_RLt) (Evl.ea_cons (Evl.ev_var rfl) Evl.ea_nil) (sp_nodes (n := n) (hlt.mono e) (by omega) (by omega))) (by rw [List.length_map, List.length_map, List.length_cons]; omega)).run fun v2 H2 e2 r2 => ⟨v2, _, rfl, e.trans e2, ?_⟩
        rw [List.take_add_one, hpi, nodesL_app, show (some u).toList = [u] from rfl, nodesL_one, ← List.cons_append, List.map_append]
        exact r2
      · obtain ⟨fv, x2, rfl, e, r⟩ := h
        rw [hvl, List.take_length] at r
        exact ⟨fv, x2, rfl, e, r⟩
end
end Rk
set_option Elab.async false
set_option linter.all false
set_option maxRecDepth 100000
set_option maxHeartbeats 4000000
namespace Rk
open PySem PySem.Spec PyProof.Rows L2 RkO Rx
open Evl (Ev EvT EvA EvL EvU EvO Ex RC RCL SpV SpL)
section
variable {K : PySem.W.Frag} {σ : L2.St} {H : Hp} {te ta tb tl : TE}
theorem ne_same {d : PyData} (h : EvX te σ H (dR d)) (g : EvX tl σ H (dR d)) (sd : SeqAt.shaped d = true) (hc : d.canLay0 = true) : Ev (tOp (rNeD K) te tl) σ H (.bl false) := ev_op2 (monD _) h g fun x y H1 e1 r1 r2 => rv_is (rv_neD r1 r2 sd sd) (by rw [SeqAt.eqv_refl d hc]; rfl)
theorem eq_same {d : PyData} (h : EvX te σ H (dR d)) (g : EvX tl σ H (dR d)) (sd : SeqAt.shaped d = true) (hc : d.canLay0 = true) : Ev (tOp (rEqD K) te tl) σ H (.bl true) := ev_op2 (monD _) h g fun x y H1 e1 r1 r2 => rv_is (rv_eqD r1 r2 sd sd) (by rw [SeqAt.eqv_refl d hc])
theorem cut_tail (x : V) (r : List V) : cutV (x :: r) (some 1) none = r := by
  unfold cutV
  rw [HT.sIx_none, show HT.sIx (x :: r).length 0 (some 1) = min 1 (x :: r).length from HT.sIx_nat _ _ 1]
  simp
theorem x_tail {R : Rel} {Rs : List Rel} (h : EvX te σ H (RL (R :: Rs))) (m : MonA Rs) : EvX (tSl (rSlL K) te (tPart (tC (.int 1))) tNoPart) σ H (RL Rs) := fun M H1 hm e1 Q q => h M H1 hm e1 _ fun v H2 e2 r => by
  obtain ⟨b, xs, rfl, hb, x, r', rfl, _, hr⟩ := r
  refine ⟨_, rfl, b, _, rfl, SqL.of (hid_le _ _ hb), fun p np => q _ _ (e2.trans (same_new np _)) ⟨p, r', rfl, ?_, hr.mono m (hid_ex (same_new np _))⟩⟩
  rw [Rx.hid_upd (Hides.some (hm.ex e2) np), cut_tail]
  exact upd_same
end
/-! ### lists of lists of ints -/
def dN (L : List (List Int)) : PyData := .list (L.map fun o => .list (o.map PyData.int))
theorem canLay_nest : ∀ L : List (List Int), PyData.canLayAll0 (L.map fun o => .list (o.map PyData.int)) = true
  | [] => rfl
  | o :: L => by
    show (PyData.canLayAll0 (o.map PyData.int) && PyData.canLayAll0 (L.map fun o => .list (o.map PyData.int))) = true
    rw [canLay_ints, canLay_nest L]
    rfl
theorem depth_nest : ∀ L : List (List Int), PyData.depthAll (L.map fun o => .list (o.map PyData.int)) ≤ 1
  | [] => Nat.zero_le _
  | o :: L => by
    show max (PyData.depthAll (o.map PyData.int) + 1) (PyData.depthAll (L.map fun o => .list (o.map PyData.int))) ≤ 1
    rw [depth_ints]
    exact Nat.max_le.mpr ⟨Nat.le_refl _, depth_nest L⟩
theorem shaped_nest (L : List (List Int)) : SeqAt.shaped (dN L) = true := by
  show (PyData.canLayAll0 (L.map fun o => .list (o.map PyData.int)) && decide (PyData.depthAll (L.map fun o => .list (o.map PyData.int)) + 1 ≤ 64)) = true
  have := depth_nest L
  rw [canLay_nest, decide_eq_true (by omega)]
  rfl
def RI (o : List Int) : Rel := dR (.list (o.map PyData.int))
theorem mon_RI {o : List Int} : MonV (RI o) := monD _
theorem go_all {H : Hp} : ∀ {as : List Addr} {os : List (List Int)}, GO H as os → AllR (os.map RI) H (as.map V.ref)
  | [], [], _ => rfl
  | [], _ :: _, h => absurd h.1 (by simp)
  | _ :: _, [], h => absurd h.1 (by simp)
  | a :: as, o :: os, h => ⟨_, _, rfl, dR_ints (h.2 0 a o rfl rfl), go_all ⟨by simpa using h.1, fun i b u e1 e2 => h.2 (i + 1) b u e1 e2⟩⟩
theorem dN_RI (L : List (List Int)) : dR (dN L) = RL (L.map RI) := by
  unfold dN
  rw [dR_list, List.map_map]
  rfl
section
variable {P : Program} {w : World} {K : PySem.W.Frag} {mg : Str → Option Value} {base : Heap}
theorem EndsIn.mono {cL cG cT : Addr} {H H' : Hp} {v u : V} {t : Tr} {wf : Str → Int} {n : Nat} (h : EndsIn cL cG cT H v u t wf n) (e : Same H H') : EndsIn cL cG cT H' v u t wf n := by
  obtain ⟨xs, h1, h2, h3, h4⟩ := h
  exact ⟨xs, h1, h2.mono e, h3.mono e, h4⟩
theorem spx_ends {n : Nat} {H : Hp} {v : V} {d : Addr} {t : Tr} {wf : Str → Int} (h : LAt H v t) (hd : t.depth < n) (hok : Ok t) (hl : t.names.length ≤ 60) (hw : WG H d wf t.names) : SpX (spLEnds n) [v, .ref d] H (RI (t.ends wf)) := fun H1 e Q q E => ⟨v, d, t, wf, rfl, hd, h.mono e, hok, hl, hw.mono e, fun l H' s _ hl => q _ H' s (dR_ints hl)⟩
def spRight (cL cG cT : Addr) (n : Nat) : Sp := fun vs H Q _ => ∃ (mv tv lv : V) (d : Addr) (t : Tr) (wf : Str → Int), vs = [mv, tv, lv, .ref d] ∧ EndsIn cL cG cT H mv lv t wf n ∧ LAt H tv t ∧ WG H d wf t.names ∧ ∀ H', Same H H' → Q (.bl true) H'
theorem ok_law_right (T : Txt K mg) (n : Nat) : FnOk P w K mg base CX0 (n + 8) T.f_law_right T.d_law_right ["made", "tree", "lot", "worths"] (spRight T.a_Leaf T.a_Group T.a_Lot n) := by
  have G_law_ends := RkO.FnOk.frame (ok_law_ends (P := P) (w := w) (base := base) T n)
  have G_law_nodes := RkO.FnOk.frame (ok_law_nodes (P := P) (w := w) (base := base) T n)
  have G_ends_of := ok_ends_of2 (P := P) (w := w) (base := base) T n
  have G_outs_of := ok_outs_of2 (P := P) (w := w) (base := base) T n
  have G_end_of := ok_end_of (P := P) (w := w) (base := base) T n
  obtain ⟨ds1, hd1, bA_end_of⟩ := T.F_end_of.binds1 (ps := ["tree", "lot", "j"]) 3 1 (List.cons_ne_nil _ _) rfl fun _ _ _ _ _ _ _ us its hl hi => match us, hl, its, hi with | [_, _, _], _, [_], _ => ⟨_, rfl, rfl⟩
  cases hd1
  obtain ⟨ds2, hD_end_of, bD_end_of⟩ := T.F_end_of.binds1 (ps := ["tree", "lot", "j"]) 2 0 (List.cons_ne_nil _ _) rfl fun _ _ _ _ _ _ _ us its hl hi => match us, hl, its, hi with | [_, _], _, [_], _ => ⟨_, rfl, rfl⟩
  have hD_end_of : Vals [V.int 1] ds2 := hD_end_of
  refine T.F_law_right.ok sc_law_right (fun vs H Q E h => ?_) (fun cdv A outer s H vs Q E hr h => ?_)
  · obtain ⟨_, _, _, _, _, _, rfl, _⟩ := h
    rfl
  obtain ⟨mv, tv, lv, d, t, wf, rfl, hE, hlt, hW, q⟩ := h
  refine ⟨_, (pss_cons (ps_set (i := 4) sc_law_right.nd rfl (Or.inl rfl) (pe_call G_law_ends (hr.mono (by omega)) rfl T.m_law_ends T.F_law_ends.kp T.b_law_ends .nil pass0 (pa_cons (pv 1) (pa_cons (pv 3) pa_nil))))
  (pss_cons (ps_par (i := 5) (j := 6) rfl sc_law_right.nd rfl rfl (by decide) rfl rfl (pa_cons (pe_call G_ends_of (hr.mono (by omega)) rfl T.m_ends_of T.F_ends_of.kp T.b_ends_of .nil pass0 (pa_cons (pv 0) (pa_cons (pv 2) pa_nil))) (pa_cons (pe_call G_outs_of (hr.mono (by omega)) rfl T.m_outs_of T.F_outs_of.kp T.b_outs_of .nil pass0 (pa_cons (pv 0) (pa_cons (pv 2) pa_nil))) pa_nil)) (by rfl))
  (pss_cons (ps_if (PW.pt (pw_or (pt_not (pt_val (pe_callB call_isi (by rfl) T.m_isinstance (by decide +kernel) (pa_cons (pv 5) (pa_cons (pe_bltn (v := .ty "list") (by rfl) T.m_list (by decide +kernel) rfl) pa_nil))))) (pw_or (pt_cmpR (op_neD hr.units) (pv 5) (pv 4) (nomark _)) (pw_or1 (pt_cmpR (op_neD hr.units) (pv 6) (pe_lc (own := [("node", 7)]) rfl sc_law_right.nd  (pi_list (pe_call G_law_nodes (hr.mono (by omega)) rfl T.m_law_nodes T.F_law_nodes.kp T.b_law_nodes .nil pass0 (pa_cons (pv 1) pa_nil))) (blkOk_by (own := [("node", 7)]) (N := ["made", "tree", "lot", "worths", "due", "told", "outs", "node", "k"]) (sc := defScope s_law_right) (by decide +kernel)) (fun _ _ _ _ _ => (pg_name (i := 7) sc_law_right.nd rfl (.inl rfl))) (fun _ _ _ _ _ => pts_nil) (fun _ _ _ _ _ => (pe_call G_law_ends (hr.mono (by omega)) rfl T.m_law_ends T.F_law_ends.kp T.b_law_ends .nil pass0 (pa_cons (pv 7) (pa_cons (pv 3) pa_nil))))) (nomark _)))))) (pss_one (ps_ret pe_bl)) pss_nil)
  (pss_cons (ps_expr (pe_bm PySem.F.plainAttrs_list PySem.F.slot_list_append PySem.F.type_list_append mt_append (pv 5) (pa_cons pe_int pa_nil)))
  (pss_cons (ps_expr (pe_bm PySem.F.plainAttrs_list PySem.F.slot_list_append PySem.F.type_list_append mt_append (pe_ix ix_list (pv 6) pe_int (fun _ _ => rfl)) (pa_cons pe_int pa_nil)))
  (pss_cons (ps_if (pt_cmpR (op_neD hr.units) (pe_slice sl_list (pv 6) (po_some pe_int) po_none) (pe_lc (own := [("node", 7)]) rfl sc_law_right.nd  (pi_list (pe_slice sl_list (pe_call G_law_nodes (hr.mono (by omega)) rfl T.m_law_nodes T.F_law_nodes.kp T.b_law_nodes .nil pass0 (pa_cons (pv 1) pa_nil)) (po_some pe_int) po_none)) (blkOk_by (own := [("node", 7)]) (N := ["made", "tree", "lot", "worths", "due", "told", "outs", "node", "k"]) (sc := defScope s_law_right) (by decide +kernel)) (fun _ _ _ _ _ => (pg_name (i := 7) sc_law_right.nd rfl (.inl rfl))) (fun _ _ _ _ _ => pts_nil) (fun _ _ _ _ _ => (pe_call G_law_ends (hr.mono (by omega)) rfl T.m_law_ends T.F_law_ends.kp T.b_law_ends .nil pass0 (pa_cons (pv 7) (pa_cons (pv 3) pa_nil))))) (nomark _)) (pss_one (ps_ret pe_bl)) pss_nil)
  (pss_cons (ps_expr (pe_bm0 PySem.F.plainAttrs_list PySem.F.slot_list_reverse PySem.F.type_list_reverse mt_reverse (pv 6)))
  (pss_cons (ps_if (PW.pt (pw_or (pt_cmpR (op_neD hr.units) (pe_call G_ends_of (hr.mono (by omega)) rfl T.m_ends_of T.F_ends_of.kp T.b_ends_of .nil pass0 (pa_cons (pv 0) (pa_cons (pv 2) pa_nil))) (pv 4) (nomark _)) (pw_or (pt_cmpR (op_neD hr.units) (pe_ix ix_list (pe_call G_outs_of (hr.mono (by omega)) rfl T.m_outs_of T.F_outs_of.kp T.b_outs_of .nil pass0 (pa_cons (pv 0) (pa_cons (pv 2) pa_nil))) pe_int (fun _ _ => rfl)) (pv 4) (nomark _)) (pw_or1 (pt_cmpR op_ne (pe_call G_end_of (hr.mono (by omega)) rfl T.m_end_of T.F_end_of.kp bD_end_of hD_end_of pass0 (pa_cons (pv 0) (pa_cons (pv 2) pa_nil))) (pe_ix ix_list (pv 4) pe_int (fun _ _ => rfl)) (nomark _)))))) (pss_one (ps_ret pe_bl)) pss_nil)
  (pss_one (ps_ret (pe_cmpR (op_eqD hr.units) (pe_lc (own := [("k", 8)]) rfl sc_law_right.nd  (pi_range1 rfl T.m_range (pa_cons (pe_callB call_len_seq (by rfl) T.m_len PySem.boot_len (pa_cons (pv 4) pa_nil)) pa_nil)) (blkOk_by (own := [("k", 8)]) (N := ["made", "tree", "lot", "worths", "due", "told", "outs", "node", "k"]) (sc := defScope s_law_right) (by decide +kernel)) (fun _ _ _ _ _ => (pg_name (i := 8) sc_law_right.nd rfl (.inl rfl))) (fun _ _ _ _ _ => pts_nil) (fun _ _ _ _ _ => (pe_call G_end_of (hr.mono (by omega)) rfl T.m_end_of T.F_end_of.kp bA_end_of .nil pass0 (pa_cons (pv 0) (pa_cons (pv 2) (pa_cons (pe_op op_add (pv 8) pe_int) pa_nil)))))) (pv 4) (nomark _)))))))))))), ?_⟩
  have hE0 := hE
  obtain ⟨xs, hdp, hmt, hlot, hok, hxn, hz, hnz⟩ := hE0
  have hel : (t.ends wf).length = t.width := ends_len (wf := wf) t
  have hwl : t.width ≤ 60 := Nat.le_trans hok.width_le hz
  -- due
  refine sq_asg <| (x_callA (dvs := []) (E := E0) mon_RI (Evl.ea_cons (Evl.ev_var rfl) (Evl.ea_cons (Evl.ev_var rfl) Evl.ea_nil)) (spx_ends hlt hdp hok hz hW)).run fun dv H1 e1 r1 => ?_
  obtain ⟨du, rfl, hdu⟩ : ∃ du, dv = .ref du ∧ H1 du = some (.lst ((t.ends wf).map V.int)) := by
    have r2 : dR (.list ((t.ends wf).map PyData.int)) H1 dv := r1
    rw [dR_list, List.map_map] at r2
    exact RL_map r2
  -- told, outs
  refine un_seq <| un_par <| un_cons ⟨_, rfl, _, rfl, mv, lv, t, wf, rfl, hE.mono e1, fun tl H2 ntl s2 htl => ?_⟩
  have e2 := e1.trans s2
  refine un_cons ⟨_, rfl, _, rfl, mv, lv, t, wf, rfl, hE.mono e2, fun ov as H3 s3 ho nd fr frl => ⟨_, _, rfl, ?_⟩⟩
  have e3 := e2.trans s3
  dsimp only
  obtain ⟨l, rfl, hl3, hgo⟩ := ho
  have nl2 := frl l rfl
  obtain ⟨rest, hnod⟩ : ∃ rest, t.nodes = t :: rest := by
    cases t with
    | leaf x => exact ⟨[], rfl⟩
    | grp rs ps => exact ⟨nodesL ps, rfl⟩
  have eouts : t.outs wf = t.ends wf :: rest.map (Tr.ends wf) := by rw [outs_nodes, hnod, List.map_cons]
  rw [eouts] at hgo
  obtain ⟨a0, as', rfl⟩ : ∃ a0 as', as = a0 :: as' := by
    cases as with
    | nil => exact absurd hgo.1 (by simp)
    | cons a0 as' => exact ⟨a0, as', rfl⟩
  obtain ⟨nd1, nd2⟩ := List.nodup_cons.mp nd
  have ha03 : H3 a0 = some (.lst ((t.ends wf).map V.int)) := hgo.2 0 a0 _ rfl rfl
  have hgo' : GO H3 as' (rest.map (Tr.ends wf)) := ⟨by simpa using hgo.1, fun i a o x y => hgo.2 (i + 1) a o x y⟩
  have hdu3 := (s2.trans s3) _ _ hdu
  have htl3 := s3 _ _ htl
  have e0 : (t.ends wf).map V.int ≠ [] := fun z => by
    have h1 : (t.ends wf).length = 0 := by
      have := congrArg List.length z
      rwa [List.length_map] at this
    have : 1 ≤ t.width := by
      cases t with
      | leaf x => exact Nat.le_refl 1
      | grp rs ps =>
        cases hok with
        | grp _ _ _ h4 _ _ => exact List.length_pos_iff.mpr h4
    omega
  have intref : ∀ (ns : List Int) (bs : List Addr) (c : Addr), ns.map V.int ≠ (c :: bs).map V.ref := fun ns bs c z => by
    cases ns with
    | nil => cases z
    | cons n ns => cases z
  have nodE : ∀ (σ : L2.St) H', Same H H' → σ[1]? = some (some tv) → EvX (tCall (spF (spLNodes n)) [] E0 (tCons (tVar 1) tNil)) σ H' (RL (t.nodes.map RLt)) := fun σ H' e h1 => x_callA (dvs := []) (E := E0) (mon_RL mons_RLt) (Evl.ea_cons (Evl.ev_var h1) Evl.ea_nil) (sp_nodes (hlt.mono e) hdp hnz)
  have cmpE : ∀ (σ : L2.St) H' (tl : TE) (ts : List Tr), Same H H' → (∀ x : V, wipe ((wipe σ [7]).set 7 (some x)) [7] = wipe σ [7]) → (∀ x : V, ((wipe σ [7]).set 7 (some x))[7]? = some (some x)) → (∀ x : V, ((wipe σ [7]).set 7 (some x))[3]? = some (some (.ref d))) → (∀ u ∈ ts, u ∈ t.nodes) → ts.length ≤ 40000 → EvX tl σ H' (RL (ts.map RLt)) →
      EvX (tLc (iList K tl) (gName 7) tYes (tCall (spF (spLEnds n)) [] E0 (tCons (tVar 7) (tCons (tVar 3) tNil))) [7]) σ H' (dR (dN (ts.map (Tr.ends wf)))) := fun σ H' tl ts e hw h7 h3 hts hz h => by
    rw [dN_RI, List.map_map]
    refine x_lcM (Ra := RLt) (Rb := fun u => RI (u.ends wf)) (xs := ts) (fun _ _ => mon_RLt) (fun _ _ => mon_RI) h hz hw fun u hu v H4 e4 r4 => ?_
    obtain ⟨g1, g2, g3, g4⟩ := ok_nodes hok u (hts u hu)
    exact x_callA (dvs := []) (E := E0) mon_RI (Evl.ea_cons (Evl.ev_var (h7 v)) (Evl.ea_cons (Evl.ev_var (h3 v)) Evl.ea_nil)) (spx_ends r4 (by omega) g1 (by omega) (((hW.mono e).mono e4).sub g2))
  have dEnds : ∀ {H' : Hp} {a : Addr}, H' a = some (.lst ((t.ends wf).map V.int)) → dR (.list ((t.ends wf).map PyData.int)) H' (.ref a) := fun h => dR_ints h
  have shE := shaped_ints (t.ends wf)
  have caE := canLay_ints (t.ends wf)
  -- the first if
  refine Evl.q_when (b := false) (Evl.et_is (Evl.et_or (a := false) (b := false) (Evl.et_is (Evl.et_not (a := true) (fun H4 e4 Q q => ?_)) rfl) fun _ => Evl.et_or (a := false) (b := false) (Evl.et_test (ne_same (x_var rfl (monD _) (dEnds htl3)) (x_var rfl (monD _) (dEnds hdu3)) shE caE)) fun _ => Evl.et_test (ne_same (d := dN (t.nodes.map (Tr.ends wf))) (x_var rfl (monD _) ?_) (cmpE _ _ _ t.nodes e3 (fun x => rfl) (fun x => rfl) (fun x => rfl) (fun u hu => hu) (by omega) (nodE _ _ e3 rfl)) (shaped_nest _) (canLay_nest _))) rfl) nofun fun _ H4 e4 => ?_
  · exact ⟨_, rfl, _, _, _, _, _, rfl, .ty "list", ty_list (SqL.of (e4 _ _ htl3)), (show PySem.W.kitOne _ (.type "list") (.type "list") = some true by rfl), _, rfl, q H4 (Ex.refl _)⟩
  · rw [dN_RI, hnod, List.map_cons]
    exact ⟨l, _, rfl, hl3, go_all hgo⟩
  have S4 := e3.trans e4
  have htl4 := e4 _ _ htl3
  have hl4 := e4 _ _ hl3
  have ha04 := e4 _ _ ha03
  have hdu4 := e4 _ _ hdu3
  have hgo4 := hgo'.mono e4
  have dutl : du ≠ tl := ne_of_none hdu ntl
  have ltl : l ≠ tl := fun z => by
    rw [z, htl4] at hl4
    exact intref _ _ _ (HO.lst.inj (Option.some.inj hl4))
  have la0 : l ≠ a0 := fun z => by
    rw [z, ha04] at hl4
    exact intref _ _ _ (HO.lst.inj (Option.some.inj hl4))
  have atl : ∀ a ∈ a0 :: as', a ≠ tl := fun a ha z => by
    have := fr a ha
    rw [z, htl] at this
    cases this
  have dua0 : du ≠ a0 := ne_of_none (s2 _ _ hdu) (fr a0 List.mem_cons_self)
  have n0 : ∀ {x : Addr}, H2 x = none → H x = none := fun h => Evl.fresh_back e2 h
  -- told.append(0)
  refine un_seq <| un_drop ⟨_, rfl, .inl ⟨rfl, _, SqL.of htl4⟩, tl, _, _, rfl, rfl, htl4, Evl.sz_lt (by rw [List.length_map]; omega), ?_⟩
  have S5 : Same H (upd H4 tl (.lst ((t.ends wf).map V.int ++ [.int 0]))) := Ex.mut S4 (Evl.fresh_back e1 ntl)
  have k5 : ∀ x o, x ≠ tl → H4 x = some o → (upd H4 tl (.lst ((t.ends wf).map V.int ++ [.int 0]))) x = some o := fun x o nx h => by
    rw [upd_ne nx]
    exact h
  generalize upd H4 tl (.lst ((t.ends wf).map V.int ++ [.int 0])) = H5 at S5 k5 ⊢
  have hl5 := k5 _ _ ltl hl4
  have ha05 := k5 _ _ (atl a0 List.mem_cons_self) ha04
  have hdu5 := k5 _ _ dutl hdu4
  dsimp only
  -- outs[0].append(0)
  refine un_seq <| un_drop ⟨_, rfl, l, _, 0, _, rfl, rfl, SqL.of hl5, atI_nat (j := 0) rfl, .inl ⟨rfl, _, SqL.of ha05⟩, a0, _, _, rfl, rfl, ha05, Evl.sz_lt (by rw [List.length_map]; omega), ?_⟩
  have S6 : Same H (upd H5 a0 (.lst ((t.ends wf).map V.int ++ [.int 0]))) := Ex.mut S5 (n0 (fr a0 List.mem_cons_self))
  have k6 : ∀ x o, x ≠ a0 → H5 x = some o → (upd H5 a0 (.lst ((t.ends wf).map V.int ++ [.int 0]))) x = some o := fun x o nx h => by
    rw [upd_ne nx]
    exact h
  generalize upd H5 a0 (.lst ((t.ends wf).map V.int ++ [.int 0])) = H6 at S6 k6 ⊢
  have hl6 := k6 _ _ la0 hl5
  have hdu6 := k6 _ _ dua0 hdu5
  have hgo6 : GO H6 as' (rest.map (Tr.ends wf)) := ⟨hgo4.1, fun i a o x y => k6 _ _ (fun z => nd1 (by rw [← z]; exact List.mem_of_getElem? x)) (k5 _ _ (atl a (List.mem_cons_of_mem _ (List.mem_of_getElem? x))) (hgo4.2 i a o x y))⟩
  have lrest : rest.length ≤ 1000 := by
    rw [hnod, List.length_cons] at hnz
    omega
  dsimp only
  -- the second if
  refine Evl.q_when (b := false) (Evl.et_test (ne_same (d := dN (rest.map (Tr.ends wf))) ?_ (cmpE [some mv, some tv, some lv, some (.ref d), some (.ref du), some (.ref tl), some (.ref l), none, none] _ _ rest S6 (fun x => rfl) (fun x => rfl) (fun x => rfl) (fun u hu => by rw [hnod]; exact List.mem_cons_of_mem _ hu) (by omega) (x_tail (R := RLt t) (Rs := rest.map RLt) ?_ mons_RLt)) (shaped_nest _) (canLay_nest _))) nofun fun _ H7 e7 => ?_
  · rw [dN_RI]
    have m : MonA (RV (.ref a0) :: (rest.map (Tr.ends wf)).map RI) := MonA.cons mon_RV (MonA.map fun _ _ => mon_RI)
    exact x_tail (R := RV (.ref a0)) (x_var rfl (mon_RL m) ⟨l, _, rfl, hl6, .ref a0, _, rfl, rfl, go_all hgo6⟩) (MonA.map fun _ _ => mon_RI)
  · have := nodE [some mv, some tv, some lv, some (.ref d), some (.ref du), some (.ref tl), some (.ref l), none, none] H6 S6 rfl
    rw [hnod, List.map_cons] at this
    exact this
  have S7 := S6.trans e7
  have hl7 := e7 _ _ hl6
  have hdu7 := e7 _ _ hdu6
  -- outs.reverse()
  refine un_seq <| un_drop ⟨_, rfl, .inl ⟨rfl, _, SqL.of hl7⟩, l, _, rfl, rfl, hl7, ?_⟩
  have S8 : Same H (upd H7 l (.lst ((a0 :: as').map V.ref).reverse)) := Ex.mut S7 (n0 nl2)
  have dul : du ≠ l := ne_of_none (s2 _ _ hdu) nl2
  have hdu8 : (upd H7 l (.lst ((a0 :: as').map V.ref).reverse)) du = some (.lst ((t.ends wf).map V.int)) := by
    rw [upd_ne dul]
    exact hdu7
  generalize upd H7 l (.lst ((a0 :: as').map V.ref).reverse) = H8 at S8 hdu8 ⊢
  dsimp only
  have eoE : ∀ (σ : L2.St) H' (tj : TE) (j : Int), Same H H' → 1 ≤ j → j ≤ (t.width : Int) → σ[0]? = some (some mv) → σ[2]? = some (some lv) → Ev tj σ H' (.int j) → Ev (tCall (spEndOf T.a_Leaf T.a_Group T.a_Lot n) [] E0 (tCons (tVar 0) (tCons (tVar 2) (tCons tj tNil)))) σ H' (.int ((t.ends wf).getD (j - 1).toNat 0)) := fun σ H' tj j e h1 h2 h0 hl hj => Evl.ev_call (Evl.ea_cons (Evl.ev_var h0) (Evl.ea_cons (Evl.ev_var hl) (Evl.ea_cons hj Evl.ea_nil))) fun H9 e9 Q q E => ⟨mv, lv, t, wf, j, rfl, (hE.mono e).mono e9, h1, h2, q⟩
  have w1 : 1 ≤ t.width := by
    rw [← hel]
    exact List.length_pos_iff.mpr fun z => e0 (by rw [z]; rfl)
  have neI : ∀ {σ : L2.St} {H13 : Hp} {te tf : TE} {i : Int}, Ev te σ H13 (.int i) → Ev tf σ H13 (.int i) → Ev (tOp rNe te tf) σ H13 (.bl false) := fun h g => Evl.ev_is (Evl.ev_op h g (Evl.rv_ne rfl)) (by rw [decide_eq_true rfl]; rfl)
  refine Evl.q_when (b := false) (Evl.et_is (Evl.et_or (a := false) (b := false) (Evl.et_test (ne_same (d := .list ((t.ends wf).map PyData.int)) ?_ (x_var rfl (monD _) (dEnds hdu8)) shE caE)) fun _ => Evl.et_or (a := false) (b := false) (Evl.et_test (ne_same (d := .list ((t.ends wf).map PyData.int)) ?_ (x_var rfl (monD _) (dEnds hdu8)) shE caE)) fun _ => Evl.et_test (neI (i := (t.ends wf).getD 0 0) ?_ ?_)) rfl) nofun fun _ H9 e9 => ?_
  · have := x_ofL (f := V.int) (xs := t.ends wf) (Evl.el_call (sp := spEndsOf2 T.a_Leaf T.a_Group T.a_Lot n) (dvs := []) (E := E0) (σ := [some mv, some tv, some lv, some (.ref d), some (.ref du), some (.ref tl), some (.ref l), none, none]) (H := H8) (vs := [mv, lv]) (ta := tCons (tVar 0) (tCons (tVar 2) tNil)) (Evl.ea_cons (Evl.ev_var rfl) (Evl.ea_cons (Evl.ev_var rfl) Evl.ea_nil)) fun H9 e9 Q q E => ⟨mv, lv, t, wf, rfl, (hE.mono S8).mono e9, fun l' H' nl' s hl' => q l' H' nl' s hl'⟩)
    rw [dR_list, List.map_map]
    exact this
  · intro M H9 hm e9 Q q
    refine ⟨_, rfl, _, rfl, mv, lv, t, wf, rfl, (hE.mono S8).mono (e9.trans Rx.hid_le), fun v' as2 H' s o nd2 fr2 _ => ?_⟩
    obtain ⟨l2, rfl, g1, g2⟩ := o
    rw [eouts] at g2
    obtain ⟨b0, bs, rfl⟩ : ∃ b0 bs, as2 = b0 :: bs := by
      cases as2 with
      | nil => exact absurd g2.1 (by simp)
      | cons b0 bs => exact ⟨b0, bs, rfl⟩
    refine ⟨l2, _, 0, _, rfl, rfl, SqL.of g1, atI_nat (j := 0) rfl, q _ H' s (dEnds ?_)⟩
    show (if M b0 then _ else _) = _
    rw [hm.some (fr2 b0 List.mem_cons_self)]
    exact g2.2 0 b0 _ rfl rfl
  · exact Evl.ev_call (Evl.ea_cons (Evl.ev_var rfl) (Evl.ea_cons (Evl.ev_var rfl) Evl.ea_nil)) fun H9 e9 Q q E => ⟨mv, lv, t, wf, 1, rfl, (hE.mono S8).mono e9, Int.le_refl 1, by omega, q⟩
  · exact Evl.ev_op (Evl.ev_var rfl) Evl.ev_c (Evl.rv_ixL (SqL.of hdu8) (atI_nat (j := 0) (by rw [List.getElem?_map, List.getD_eq_getElem?_getD, List.getElem?_eq_getElem (by omega)]; rfl)))
  have S9 := S8.trans e9
  have hdu9 := e9 _ _ hdu8
  -- the last row
  refine un_ret (eq_same (d := .list ((t.ends wf).map PyData.int)) ?_ (x_var rfl (monD _) (dEnds hdu9)) shE caE H9 (Ex.refl _) _ fun H10 e10 => q H10 (S9.trans e10))
  have er : (List.range t.width).map (fun i => (t.ends wf).getD i 0) = t.ends wf := by
    refine List.ext_getElem? fun i => ?_
    rw [List.getElem?_map]
    by_cases c : i < t.width
    · rw [List.getElem?_range c, List.getElem?_eq_getElem (by omega), Option.map_some, List.getD_eq_getElem?_getD, List.getElem?_eq_getElem (by omega)]
      rfl
    · rw [List.getElem?_eq_none (by rw [List.length_range]; omega), List.getElem?_eq_none (by omega)]
      rfl
  have xc := x_lcR1 (Rb := fun i => RV (.int ((t.ends wf).getD i 0))) (j := 8) (n := t.width) (vs := [8]) (p := fun _ => true) (σ := [some mv, some tv, some lv, some (.ref d), some (.ref du), some (.ref tl), some (.ref l), none, none]) (H := H9) (ta := tCons (tCB (Evl.rLenS K) (tCons (tVar 4) tNil)) tNil) (tt := tYes) (te := tCall (spEndOf T.a_Leaf T.a_Group T.a_Lot n) [] E0 (tCons (tVar 0) (tCons (tVar 2) (tCons (tOp (rI0 fun i j => .int (i + j)) (tVar 8) (tC (.int 1))) tNil)))) (fun _ => mon_RV) (Evl.ea_cons (Evl.ev_is (Evl.ev_len (Evl.ev_var rfl) (SqL.of hdu9)) (by rw [List.length_map, hel])) Evl.ea_nil) (by omega) (fun x => rfl) (fun i hi H10 e10 => et_yes) (fun i hi _ H10 e10 => x_evV (Evl.ev_is (eoE _ _ _ ((i : Int) + 1) (S9.trans e10) (by omega) (by omega) rfl rfl (Evl.ev_op (Evl.ev_var rfl) Evl.ev_c Evl.rv_I0)) (by rw [show ((i : Int) + 1 - 1).toNat = i by omega])))
  rw [range_all] at xc
  rw [dR_list, List.map_map]
  have e5 : (List.range t.width).map (fun i => RV (V.int ((t.ends wf).getD i 0))) = (t.ends wf).map (dR ∘ PyData.int) := by
    conv => rhs; rw [← er, List.map_map]
    rfl
  rw [e5] at xc
  exact xc
end
end Rk
set_option Elab.async false
set_option linter.all false
set_option maxRecDepth 100000
set_option maxHeartbeats 4000000
namespace Rk
open PySem PySem.Spec PyProof.Rows L2 RkO Rx
open Evl (Ev EvT EvA EvL EvU EvO Ex RC RCL SpV SpL)
section
variable {P : Program} {w : World} {K : PySem.W.Frag} {mg : Str → Option Value} {base : Heap}
def spLacks (cL cG cT : Addr) : Sp := fun vs H Q _ => ∃ (mv lv : V) (t : Tr) (x : Str), vs = [mv, lv, .str x] ∧ Lacks cL cG cT H mv lv t x ∧ 1 ≤ t.width ∧ ∀ H', Same H H' → Q (.bl true) H'
theorem ok_law_lacks (T : Txt K mg) : FnOk P w K mg base CX0 8 T.f_law_lacks T.d_law_lacks ["made", "lot", "name"] (spLacks T.a_Leaf T.a_Group T.a_Lot) := by
  have GE := ok_ends_of_bad (P := P) (w := w) (base := base) T
  have GO_ := ok_outs_of_bad (P := P) (w := w) (base := base) T
  have GD := ok_end_of_bad (P := P) (w := w) (base := base) T
  have GR := ok_rank_in_bad (P := P) (w := w) (base := base) T
  obtain ⟨ds2, hD_end_of, bD_end_of⟩ := T.F_end_of.binds1 (ps := ["tree", "lot", "j"]) 2 0 (List.cons_ne_nil _ _) rfl fun _ _ _ _ _ _ _ us its hl hi => match us, hl, its, hi with | [_, _], _, [_], _ => ⟨_, rfl, rfl⟩
  have hD_end_of : Vals [V.int 1] ds2 := hD_end_of
  obtain ⟨ds3, hD_rank_in, bD_rank_in⟩ := T.F_rank_in.binds1 (ps := ["tree", "lot", "j"]) 2 0 (List.cons_ne_nil _ _) rfl fun _ _ _ _ _ _ _ us its hl hi => match us, hl, its, hi with | [_, _], _, [_], _ => ⟨_, rfl, rfl⟩
  have hD_rank_in : Vals [V.int 1] ds3 := hD_rank_in
  refine T.F_law_lacks.ok sc_law_lacks (fun vs H Q E h => ?_) (fun cdv A outer s H vs Q E hr h => ?_)
  · obtain ⟨_, _, _, _, rfl, _⟩ := h
    rfl
  obtain ⟨mv, lv, t, x, rfl, hL, w1, q⟩ := h
  refine ⟨_, (pss_cons (ps_for PassesOwn.never rfl (pi_range1 rfl T.m_range (pa_cons pe_int pa_nil)) (pg_name (i := 3) sc_law_lacks.nd rfl (.inl rfl))
    (pss_cons (ps_set (i := 4) sc_law_lacks.nd rfl (Or.inl rfl) pe_non)
    (pss_cons (ps_try_as (i := 5) (tb := fun W => tIfS (tTest (tOp rEq (tVar 3) (tC (.int 0)))) (tDrop (tCallSD (spEndsBad T.a_Leaf T.a_Group T.a_Lot T.a_Lacking) [] (WE W) (tCons (tVar 0) (tCons (tVar 1) tNil)))) (tIfS (tTest (tOp rEq (tVar 3) (tC (.int 1)))) (tDrop (tCallSD (spEndsBad T.a_Leaf T.a_Group T.a_Lot T.a_Lacking) [] (WE W) (tCons (tVar 0) (tCons (tVar 1) tNil)))) (tIfS (tTest (tOp rEq (tVar 3) (tC (.int 2)))) (tDrop (tCallSD (spEndBad T.a_Leaf T.a_Group T.a_Lot T.a_Lacking) [.int 1] (WE W) (tCons (tVar 0) (tCons (tVar 1) tNil)))) (tDrop (tCallSD (spEndBad T.a_Leaf T.a_Group T.a_Lot T.a_Lacking) [.int 1] (WE W) (tCons (tVar 0) (tCons (tVar 1) tNil))))))) (ts := fun a cls d => tAsg (tXf a cls d T.a_Lacking "which" (tVar 5)) (gName 4)) (Wout := fun _ _ _ _ => False) rfl rfl sc_law_lacks.nd rfl rfl ⟨rfl, by decide, Or.inl T.m_Lacking⟩ takes0 (fun W pn xe tk _ => (pss_one (ps_if (pt_cmpR op_eq (pv 3) pe_int (nomark _)) (pss_one (ps_expr (by exact (pe_callSD GE (hr.mono (by omega)) rfl T.m_ends_of T.F_ends_of.kp T.b_ends_of .nil (fun σ => passAt tk σ) (pa_cons (pv 0) (pa_cons (pv 1) pa_nil)))))) (pss_one (ps_if (pt_cmpR op_eq (pv 3) pe_int (nomark _)) (pss_one (ps_expr (by exact (pe_callSD GO_ (hr.mono (by omega)) rfl T.m_outs_of T.F_outs_of.kp T.b_outs_of .nil (fun σ => passAt tk σ) (pa_cons (pv 0) (pa_cons (pv 1) pa_nil)))))) (pss_one (ps_if (pt_cmpR op_eq (pv 3) pe_int (nomark _)) (pss_one (ps_expr (by exact (pe_callSD GD (hr.mono (by omega)) rfl T.m_end_of T.F_end_of.kp bD_end_of hD_end_of (fun σ => passAt tk σ) (pa_cons (pv 0) (pa_cons (pv 1) pa_nil)))))) (pss_one (ps_expr (by exact (pe_callSD GR (hr.mono (by omega)) rfl T.m_rank_in T.F_rank_in.kp bD_rank_in hD_rank_in (fun σ => passAt tk σ) (pa_cons (pv 0) (pa_cons (pv 1) pa_nil))))))))))))) (fun a oe cls d pn hz hf => pss_one (ps_set (i := 4) sc_law_lacks.nd rfl (Or.inl rfl) (by exact (pe_xf T.Xf_Lacking T.n_Lacking_which hz hf (pv 5))))))
    (pss_one (ps_if (pt_cmpR op_ne (pv 4) (pv 2) (nomark _)) (pss_one (ps_ret pe_bl)) pss_nil)))))
  (pss_one (ps_ret pe_bl))), ?_⟩
  have lk : List.lookup ("which" : Str) [(("which" : Str), V.str x)] = some (.str x) := by simp [List.lookup]
  refine Evl.q_forR1 (n := 4) (Evl.ea_cons Evl.ev_c Evl.ea_nil) (by decide) (fun i σ' H' => ∃ x3 x4, σ' = [some mv, some lv, some (.str x), x3, x4, none] ∧ Same H H') (fun H1 e1 => ⟨none, none, rfl, e1⟩) (fun i σ' H1 hi p => ?_) (fun σ' H1 p => ?_)
  rotate_left
  · obtain ⟨_, _, rfl, S⟩ := p
    exact un_ret (q H1 S)
  obtain ⟨x3, x4, rfl, S⟩ := p
  dsimp only [List.set]
  refine sq_asg ?_
  refine un_seq ?_
  dsimp only
  have fin : ∀ (z : V) (H2 : Hp), Same H H2 → tIfS (tTest (tOp rNe (tVar 4) (tVar 2))) (tRet (tC (.bl false))) tNext { nx := fun σ' H' => ∃ x3 x4, σ' = [some mv, some lv, some (.str x), x3, x4, none] ∧ Same H H', rt := Q } [some mv, some lv, some (.str x), some z, some (.str x), none] H2 := fun z H2 s => by
    refine un_ifS ⟨_, rfl, _, rfl, rfl, _, rfl, ?_⟩
    rw [decide_eq_true rfl]
    exact iteF (nxt ⟨_, _, rfl, s⟩)
  have hi4 : i = 0 ∨ i = 1 ∨ i = 2 ∨ i = 3 := by omega
  rcases hi4 with rfl | rfl | rfl | rfl
  · refine un_ifS ⟨_, rfl, rfl, _, rfl, iteT (un_drop ⟨_, rfl, _, rfl, mv, lv, t, x, rfl, hL.mono S, fun H2 d s' nd' => ?_⟩)⟩
    refine ⟨true, T.te_Lacking, fun _ a0 _ => ?_, fun q => Bool.noConfusion q⟩
    refine ⟨_, rfl, rfl, rfl, d, _, .str x, rfl, upd_same, lk, ?_⟩
    exact fin _ _ (S.trans (s'.trans (same_new nd' _)))
  · refine un_ifS ⟨_, rfl, rfl, _, rfl, iteF (un_ifS ⟨_, rfl, rfl, _, rfl, iteT (un_drop ⟨_, rfl, _, rfl, mv, lv, t, x, rfl, hL.mono S, fun H2 d s' nd' => ?_⟩)⟩)⟩
    refine ⟨true, T.te_Lacking, fun _ a0 _ => ?_, fun q => Bool.noConfusion q⟩
    refine ⟨_, rfl, rfl, rfl, d, _, .str x, rfl, upd_same, lk, ?_⟩
    exact fin _ _ (S.trans (s'.trans (same_new nd' _)))
  · refine un_ifS ⟨_, rfl, rfl, _, rfl, iteF (un_ifS ⟨_, rfl, rfl, _, rfl, iteF (un_ifS ⟨_, rfl, rfl, _, rfl, iteT (un_drop ⟨_, rfl, _, rfl, mv, lv, t, x, 1, rfl, Int.le_refl 1, by omega, hL.mono S, fun H2 d s' nd' => ?_⟩)⟩)⟩)⟩
    refine ⟨true, T.te_Lacking, fun _ a0 _ => ?_, fun q => Bool.noConfusion q⟩
    refine ⟨_, rfl, rfl, rfl, d, _, .str x, rfl, upd_same, lk, ?_⟩
    exact fin _ _ (S.trans (s'.trans (same_new nd' _)))
  · refine un_ifS ⟨_, rfl, rfl, _, rfl, iteF (un_ifS ⟨_, rfl, rfl, _, rfl, iteF (un_ifS ⟨_, rfl, rfl, _, rfl, iteF (un_drop ⟨_, rfl, _, rfl, mv, lv, t, x, 1, rfl, Int.le_refl 1, by omega, hL.mono S, fun H2 d s' nd' => ?_⟩)⟩)⟩)⟩
    refine ⟨true, T.te_Lacking, fun _ a0 _ => ?_, fun q => Bool.noConfusion q⟩
    refine ⟨_, rfl, rfl, rfl, d, _, .str x, rfl, upd_same, lk, ?_⟩
    exact fin _ _ (S.trans (s'.trans (same_new nd' _)))
end
end Rk
set_option Elab.async false
set_option linter.all false
set_option maxRecDepth 100000
set_option maxHeartbeats 4000000
namespace Rk
open PySem PySem.Spec PyProof.Rows L2 RkO Rx
open Evl (Ev EvT EvA EvL EvU EvO Ex RC RCL SpV SpL)
def exSp (sp : Addr → Sp) : Sp := fun vs H Q E => ∃ a, sp a vs H Q E
theorem ok_ex {P : Program} {w : World} {K : PySem.W.Frag} {mg : Str → Option Value} {base : Heap} {k : Nat} {f : Addr} {fd : FuncData} {ps : List Str} {sp : Addr → Sp} (F : ∀ a, FnOk P w K mg base CX0 k f fd ps (sp a)) : FnOk P w K mg base CX0 k f fd ps (exSp sp) := by
  refine ⟨fun vs H Q E h => ?_, fun A outer s H args us vs Q E hr he hb hv h => ?_⟩
  · obtain ⟨a, h⟩ := h
    exact (F a).len _ _ _ _ h
  · obtain ⟨a, h⟩ := h
    exact (F a).run A outer s H args us vs Q E hr he hb hv h
def RTe (cL cG : Addr) (t : Tr) : Rel := fun H v => TAt cL cG H v t
theorem mon_RTe {cL cG : Addr} {t : Tr} : MonV (RTe cL cG t) := fun _ _ _ h e => h.mono e
theorem wl_same {a : Addr} {H H1 H2 : Hp} (na : H a = none) (s : Same H H1) (w : Wl a H1 H2) : Same H H2 := fun b o z => w.2 b o (ne_of_none z na) (s b o z)
theorem sp_made {cL cG : Addr} {n : Nat} {H : Hp} {v : V} {t : Tr} (h : LAt H v t) (hok : Ok t) (hd : t.depth < n) (hl : t.names.length ≤ 60) : SpX (spMade cL cG n) [v] H (RTe cL cG t) := fun H1 e Q q E => ⟨v, t, rfl, hd, h.mono e, hok, hl, fun v' H' s r => q v' H' s r⟩
theorem pairs_all : ∀ {L : List (Addr × Str × Int)} {H : Hp}, (∀ r ∈ L, H r.1 = some (.tup [.str r.2.1, .int r.2.2])) → AllR ((L.map fun r => r.2).map RP) H (L.map fun r => V.ref r.1)
  | [], _, _ => rfl
  | r :: L, H, h => ⟨_, _, rfl, ⟨r.1, _, rfl, h r List.mem_cons_self, _, _, rfl, rfl, _, _, rfl, rfl, rfl⟩, pairs_all fun x hx => h x (List.mem_cons_of_mem _ hx)⟩
section
variable {K : PySem.W.Frag} {σ : L2.St} {H : Hp} {te : TE} {tt : TT}
theorem el_lcSF {s : Str} {tl : TE} {j : Nat} {vs : List Nat} (f : Nat → V) (p : Nat → Bool) (h : Ev tl σ H (.str s)) (hz : s.length ≤ 40000) (hw : ∀ x, wipe ((wipe σ vs).set j (some x)) vs = wipe σ vs)
    (ht : ∀ (c : Nat) H1, Ex H H1 → EvT tt ((wipe σ vs).set j (some (.str ⟨#[c]⟩))) H1 (p c))
    (he : ∀ (c : Nat) H1, Ex H H1 → Ev te ((wipe σ vs).set j (some (.str ⟨#[c]⟩))) H1 (f c)) :
    EvL (tLc (iStr tl) (gName j) tt te vs) σ H ((s.cps.toList.filter p).map f) := fun H0 e Q q => h H0 e _ fun H1 e1 => ⟨s, rfl, fun Dl hD =>
  lc_it walk_str (fun i H' => H1 Dl = none ∧ Ex H1 H' ∧ H' Dl = some (.lst (((s.cps.toList.take i).filter p).map f))) ⟨hD, Ex.new hD, upd_same⟩ (fun _ _ _ _ => trivial) (fun i x H' H'' hi q0 y => by
    obtain ⟨rfl, c, hc, rfl⟩ := y
    obtain ⟨p1, p2, p3⟩ := q0
    have g : s.cps.toList[i]? = some c := by rw [Array.getElem?_toList]; exact hc
    have tk : s.cps.toList.take (i + 1) = s.cps.toList.take i ++ [c] := by rw [List.take_add_one, g]; rfl
    refine ⟨hw _, ?_⟩
    refine ht c H1 (e.trans e1) H'' p2 _ fun H3 e3 => ?_
    refine ifB (fun hb => ?_) (fun hb => ?_)
    · refine he c H1 (e.trans e1) H3 (p2.trans e3) _ fun H4 e4 => ⟨_, e4 _ _ (e3 _ _ p3), ?_, p1, Ex.mut ((p2.trans e3).trans e4) p1, ?_⟩
      · rw [List.length_map]
        have := List.length_filter_le p (s.cps.toList.take i)
        rw [List.length_take] at this
        exact Evl.sz_lt (by have : s.length = s.cps.size := rfl; omega)
      · rw [upd_same, tk, List.filter_append, List.map_append, List.filter_cons, if_pos hb]
        rfl
    · refine ⟨p1, p2.trans e3, ?_⟩
      rw [tk, List.filter_append, List.filter_cons, if_neg (by rw [hb]; decide)]
      show H3 Dl = some (.lst (((s.cps.toList.take i).filter p ++ []).map f))
      rw [List.append_nil]
      exact e3 _ _ p3) (fun H' q0 => q Dl H' (Evl.fresh_back e1 q0.1) (e1.trans q0.2.1) (by
    have := q0.2.2
    rwa [show s.cps.size = s.cps.toList.length from rfl, List.take_length] at this))⟩
end
theorem fresh_one {xs : List Str} (hz : xs.length ≤ 14) : ∃ c rest, ((Str.ofString "abcdefghijklmnopqrstuvwxyz").cps.toList.filter fun c => !decide ((⟨#[c]⟩ : Str) ∈ xs)) = c :: rest ∧ (⟨#[c]⟩ : Str) ∉ xs ∧ nameOk ⟨#[c]⟩ = true := by
  cases e : ((Str.ofString "abcdefghijklmnopqrstuvwxyz").cps.toList.filter fun c => !decide ((⟨#[c]⟩ : Str) ∈ xs)) with
  | nil =>
    exfalso
    have h := List.filter_eq_nil_iff.mp e
    have nd : ((Str.ofString "abcdefghijklmnopqrstuvwxyz").cps.toList.map fun c => (⟨#[c]⟩ : Str)).Nodup := by decide +kernel
    have := nodup_len (ys := xs) nd fun x hx => by
      obtain ⟨c, hc, rfl⟩ := List.mem_map.mp hx
      have := h c hc
      simpa using this
    rw [List.length_map] at this
    have l26 : (Str.ofString "abcdefghijklmnopqrstuvwxyz").cps.toList.length = 26 := by decide +kernel
    omega
  | cons c rest =>
    have hm : c ∈ ((Str.ofString "abcdefghijklmnopqrstuvwxyz").cps.toList.filter fun c => !decide ((⟨#[c]⟩ : Str) ∈ xs)) := by
      rw [e]
      exact List.mem_cons_self
    obtain ⟨m1, m2⟩ := List.mem_filter.mp hm
    refine ⟨c, rest, rfl, by simpa using m2, ?_⟩
    have all : ∀ c ∈ (Str.ofString "abcdefghijklmnopqrstuvwxyz").cps.toList, nameOk ⟨#[c]⟩ = true := by decide +kernel
    exact all c m1
theorem not_first {K : PySem.W.Frag} {C : Addr} : PySem.W.notFirst K C (.ref C) = true := by
  unfold PySem.W.notFirst
  rw [beq_self_eq_true, Bool.true_or]
theorem use_ne {cL cG : Addr} {K : PySem.W.Frag} {H : Hp} {Q : VK} {v v2 : V} {t : Tr} {n : Nat} (h1 : TAt cL cG H v t) (h2 : TAt cL cG H v2 t) (hd : t.depth ≤ n) (q : ∀ H2, Same H H2 → Q (.bl false) H2) : r2or (rEqO K cL true (spEq (RTr cL cG n true)) E0) (rEqO K cG true (spEq (RTr cL cG n false)) E0) v v2 H Q := by
  have w1 := h1
  have w2 := h2
  cases h1 with
  | @leaf p dx z g =>
    cases h2 with
    | @leaf p2 dx2 _ g2 => exact .inl ⟨p, dx, _, p2, cL, dx2, _, rfl, rfl, g, g2, not_first, p, p2, rfl, ⟨_, hd, rfl, w1, w2⟩, fun H' e => ⟨true, rfl, q H' e⟩⟩
  | @grp p dx lr lp ln rs ps vs g1 g2 g3 g4 hl hf =>
    cases h2 with
    | @grp p2 dx2 lr2 lp2 ln2 _ _ vs2 k1 k2 k3 k4 kl kf => exact .inr ⟨p, dx, _, p2, cG, dx2, _, rfl, rfl, g1, k1, not_first, p, p2, rfl, ⟨_, hd, rfl, w1, w2⟩, fun H' e => ⟨true, rfl, q H' e⟩⟩
/-- all stays but the well and two dicts -/
def K3 (a d e : Addr) (H H' : Hp) : Prop := Wl a H' H' ∧ ∀ b o, b ≠ a → b ≠ d → b ≠ e → H b = some o → H' b = some o
theorem K3.wl {a d e : Addr} {H H1 H2 : Hp} (x : K3 a d e H H1) (w : Wl a H1 H2) : K3 a d e H H2 := ⟨⟨w.1, fun b o _ h => h⟩, fun b o na nd ne h => w.2 b o na (x.2 b o na nd ne h)⟩
theorem K3.same {a d e : Addr} {H H1 H2 : Hp} (x : K3 a d e H H1) (s : Same H1 H2) : K3 a d e H H2 := x.wl (x.1.same s)
theorem K3.put {a d e z : Addr} {H H1 : Hp} {o : HO} (x : K3 a d e H H1) (n : z ≠ a) (hz : z = d ∨ z = e) : K3 a d e H (upd H1 z o) := by
  refine ⟨⟨?_, fun b o _ h => h⟩, fun b u na nd ne h => ?_⟩
  · obtain ⟨m, h0, h⟩ := x.1.1
    exact ⟨m, h0, by rw [upd_ne n.symm]; exact h⟩
  · rw [upd_ne fun q => by
      rcases hz with rfl | rfl
      · exact nd q
      · exact ne q]
    exact x.2 b u na nd ne h
theorem valV_drop {x y : Str} (h : y ≠ x) : ∀ kvs : List (Key × V), valV (dropK kvs (.inr x)) (.inr y) = valV kvs (.inr y)
  | [] => rfl
  | p :: kvs => by
    have ih := valV_drop h kvs
    show valV ((p :: kvs).filter fun kv => decide (kv.1 ≠ Sum.inr x)) (Sum.inr y) = _
    rw [List.filter_cons]
    by_cases c : p.1 = Sum.inr x
    · rw [if_neg (by simpa using c), valV_neg (p := p) fun z => h (Sum.inr.inj (z.symm.trans c))]
      exact ih
    · rw [if_pos (by simpa using c)]
      by_cases c2 : p.1 = Sum.inr y
      · rw [valV_pos c2, valV_pos c2]
      · rw [valV_neg c2, valV_neg c2]
        exact ih
theorem drop_keys {x : Str} {ks : List Str} {kvs : List (Key × V)} (h : kvs.map (·.1) = ks.map Sum.inr) : (dropK kvs (.inr x)).map (·.1) = (ks.filter fun y => decide (y ≠ x)).map Sum.inr := by
  have e : (dropK kvs (.inr x)).map (·.1) = (kvs.map (·.1)).filter fun k => decide (k ≠ (Sum.inr x : Key)) := by
    show (kvs.filter fun kv => decide (kv.1 ≠ Sum.inr x)).map (·.1) = _
    rw [List.filter_map]
    rfl
  rw [e, h, List.filter_map]
  congr 1
  refine List.filter_congr fun y _ => ?_
  refine decide_eq_decide.mpr ⟨fun g z => g (by rw [z]), fun g z => g (Sum.inr.inj z)⟩
/-- Lot([(fn, 3)] + _law_pairs(worths)) -/
theorem lot_new {cT cG : Addr} {σ : L2.St} {H : Hp} {Q : VK} {fn : Str} {d : Addr} {wf : Str → Int} {xs : List Str} (h5 : σ[5]? = some (some (.str fn))) (h7 : σ[7]? = some (some (.ref d))) (hW : WD H d wf xs) (nd : xs.Nodup) (hz : xs.length ≤ 40) (hn : ∀ x ∈ xs, nameOk x = true) (okc : nameOk fn = true) (nc : fn ∉ xs) (w3 : wf fn = 3)
    (q : ∀ p dx dd kvs ys H', H p = none → H dd = none → dd ≠ p → Same H H' → H' p = some (.ins cT dx (putF "_worths" (.ref dd) [])) → H' dd = some (.dK kvs) → kvs.map (·.1) = (fn :: ys).map Sum.inr → ys.Perm xs → (∀ x ∈ fn :: ys, valV kvs (.inr x) = some (.int (wf x))) → Q (.ref p) H') :
    tMake cT (spLotInit cT) [] E0 (tCons (tOp rCat (tLst (tCons (tTup (tCons (tVar 5) (tCons (tC (.int 3)) tNil))) tNil)) (tCall spLPairs [] E0 (tCons (tVar 7) tNil))) tNil) σ H Q := by
  refine un_cons <| un_op <| (x_lst (Rs := [RP (fn, 3)]) (MonA.cons mon_RP MonA.nil) (x_cons mon_RP (x_tup (MonA.cons mon_RV (MonA.cons mon_RV MonA.nil)) (x_cons mon_RV (x_evV (Evl.ev_var h5)) (x_cons mon_RV (x_evV Evl.ev_c) x_nil)) (Nat.le_of_ble_eq_true rfl)) x_nil) (Nat.le_of_ble_eq_true rfl)).run fun u1 H10 e10 r10 => ?_
  refine ⟨_, h7, d, wf, xs, rfl, hW.mono e10, nd, by omega, fun l L H11 s11 hL perm hval => ?_⟩
  have lenL : L.length ≤ 40 := by
    have := perm.length_eq
    rw [List.length_map] at this
    omega
  obtain ⟨l1, vs1, rfl, hl1, hv1⟩ := r10
  have vl1 := hv1.len
  refine ⟨l1, l, vs1, _, rfl, rfl, s11 _ _ hl1, hL.1, Evl.sz_of (by rw [vl1, List.length_map]; show 1 + _ ≤ _; omega), fun p np => ?_⟩
  have s12 := same_new np (.lst (vs1 ++ L.map fun r => V.ref r.1))
  have e9p := (Same.trans e10 s11).trans s12
  have rl : RL (((fn, (3 : Int)) :: L.map fun r => r.2).map RP) (upd H11 p (.lst (vs1 ++ L.map fun r => V.ref r.1))) (.ref p) := ⟨p, _, rfl, upd_same, (hv1.mono (MonA.cons mon_RP MonA.nil) (Ex.trans s11 s12)).app ((pairs_all hL.2).mono (MonA.map fun _ _ => mon_RP) s12)⟩
  generalize upd H11 p (.lst (vs1 ++ L.map fun r => V.ref r.1)) = H12 at s12 e9p rl ⊢
  have ekeys : ((fn, (3 : Int)) :: L.map fun r => r.2).map Prod.fst = fn :: L.map fun r => r.2.1 := by
    rw [List.map_cons, List.map_map]
    rfl
  have mem : ∀ x, x ∈ (L.map fun r => r.2.1) ↔ x ∈ xs := fun x => perm.mem_iff
  obtain ⟨a, us, ea, ha, hu⟩ := rl
  cases ea
  obtain ⟨L2, rfl, hL2, eL2⟩ := RP_list hu
  have k1 : L2.map (fun r => r.2.1) = fn :: L.map fun r => r.2.1 := by rw [← ekeys, ← eL2, List.map_map]; rfl
  have memL : ∀ r ∈ L2, r.2.1 = fn ∧ r.2.2 = 3 ∨ r.2.1 ∈ xs ∧ r.2.2 = wf r.2.1 := fun r hr => by
    have : r.2 ∈ ((fn, (3 : Int)) :: L.map fun r => r.2) := by rw [← eL2]; exact List.mem_map.mpr ⟨r, hr, rfl⟩
    rcases List.mem_cons.mp this with h | h
    · exact .inl ⟨by rw [h], by rw [h]⟩
    · obtain ⟨r', hr', e⟩ := List.mem_map.mp h
      rw [← e]
      exact .inr ⟨(mem _).mp (List.mem_map.mpr ⟨r', hr', rfl⟩), hval r' hr'⟩
  have ndL : (L2.map fun r => r.2.1).Nodup := by
    rw [k1]
    exact List.nodup_cons.mpr ⟨fun z => nc ((mem fn).mp z), perm.nodup_iff.mpr nd⟩
  intro x0 dx0 nx0 ndx0 ne0
  have ms := made_same (cG := cT) nx0 ndx0
  have l2l : L2.length ≤ 60 := by
    have := congrArg List.length k1
    rw [List.length_map, List.length_cons, List.length_map] at this
    omega
  refine ⟨x0, dx0, p, L2, rfl, upd_same, ⟨ms _ _ ha, fun r hr => ms _ _ (hL2 r hr)⟩, ndL, fun r hr => ?_, l2l, fun dd H13 ndd keep hp hd13 => ⟨rfl, ?_⟩⟩
  · rcases memL r hr with ⟨h, _⟩ | ⟨h, _⟩
    · rw [h]
      exact okc
    · exact hn _ h
  · have s13 : Same H12 H13 := mk_same nx0 ndx0 keep
    have ddx : dd ≠ x0 := fun z => by
      rw [z, upd_same] at ndd
      cases ndd
    refine q x0 dx0 dd _ (L.map fun r => r.2.1) H13 (Evl.fresh_back e9p nx0) (Evl.fresh_back e9p (Evl.fresh_back ms ndd)) ddx (e9p.trans s13) hp hd13 (by rw [merge_keys L2 [] ndL fun r _ => List.not_mem_nil, k1]; rfl) perm fun x hx => ?_
    rw [← k1] at hx
    obtain ⟨r, hr, rfl⟩ := List.mem_map.mp hx
    rw [merge_in L2 [] ndL r hr]
    rcases memL r hr with ⟨h, h2⟩ | ⟨_, h2⟩
    · rw [h2, h, w3]
    · rw [h2]
section
variable {P : Program} {w : World} {K : PySem.W.Frag} {mg : Str → Option Value} {base : Heap}
def spLaw (K : PySem.W.Frag) : Sp := fun vs H Q _ => ∃ (a : Addr) (ns : List Int), vs = [.ref a] ∧ SqL K H a (ns.map V.int) ∧ ns.length ≤ 63 ∧ ∀ H', Q (.bl true) H'
theorem ok_law (T : Txt K mg) : FnOk P w K mg base CX0 18 T.f_law T.d_law ["script"] (spLaw K) := by
  have G_law_well := ok_law_well (P := P) (w := w) (base := base) T
  have G_law_dip := ok_law_dip (P := P) (w := w) (base := base) T
  have G_law_made := RkO.FnOk.frame (ok_law_made (P := P) (w := w) (base := base) T 5)
  have G_Lot_init := ok_Lot_init (P := P) (w := w) (base := base) T
  have G_Lot_setitem := ok_Lot_setitem (P := P) (w := w) (base := base) T
  have G_Lot_eq := ok_Lot_eq (P := P) (w := w) (base := base) T
  have G_Lot_drop := ok_Lot_drop (P := P) (w := w) (base := base) T
  have G_law_pairs := ok_law_pairs (P := P) (w := w) (base := base) T
  have G_law_right := ok_law_right (P := P) (w := w) (base := base) T 5
  have G_law_lacks := ok_law_lacks (P := P) (w := w) (base := base) T
  have GEL := ok_Leaf_eq (P := P) (w := w) (base := base) T 4
  have GEG := ok_Group_eq (P := P) (w := w) (base := base) T 4
  obtain ⟨ds, hds, bA_Lot⟩ := T.F_Lot_init.binds1 (ps := ["self", "pairs"]) 2 1 (List.cons_ne_nil _ _) rfl fun _ _ _ _ _ _ _ us its hl hi => match us, hl, its, hi with | [_, _], _, [_], _ => ⟨_, rfl, rfl⟩
  cases hds
  refine T.F_law.ok sc_law (fun vs H Q E h => ?_) (fun cdv A outer s H vs Q E hr h => ?_)
  · obtain ⟨_, _, rfl, _⟩ := h
    rfl
  obtain ⟨sa, ns, rfl, hs, hns, q⟩ := h
  have hu := hu_of hr
  have G_law_words : FnOk P w K mg base CX0 2 T.f_law_words T.d_law_words ["well", "many"] (exSp spWords) := ok_ex fun a => ok_law_words T a
  have G_law_worths : FnOk P w K mg base CX0 2 T.f_law_worths T.d_law_worths ["well", "names"] (exSp spWorths) := ok_ex fun a => ok_law_worths T a
  have G_law_tree : FnOk P w K mg base CX0 8 T.f_law_tree T.d_law_tree ["well", "names", "depth"] (exSp fun a => spTree a 4) := ok_ex fun a => ok_law_tree T a 4
  refine ⟨_, (pss_cons (ps_set (i := 1) sc_law.nd rfl (Or.inl rfl) (pe_call G_law_well (hr.mono (by omega)) rfl T.m_law_well T.F_law_well.kp T.b_law_well .nil pass0 (pa_cons (pv 0) (pa_cons pe_int pa_nil))))
  (pss_cons (ps_set (i := 2) sc_law.nd rfl (Or.inr rfl) (pe_call G_law_words (hr.mono (by omega)) rfl T.m_law_words T.F_law_words.kp T.b_law_words .nil pass0 (pa_cons (pv 1) (pa_cons pe_int pa_nil))))
  (pss_cons (ps_set (i := 3) sc_law.nd rfl (Or.inl rfl) (pe_call G_law_tree (hr.mono (by omega)) rfl T.m_law_tree T.F_law_tree.kp T.b_law_tree .nil pass0 (pa_cons (pv 1) (pa_cons (pv 2) (pa_cons pe_int pa_nil)))))
  (pss_cons (ps_set (i := 4) sc_law.nd rfl (Or.inl rfl) (pe_call G_law_made (hr.mono (by omega)) rfl T.m_law_made T.F_law_made.kp T.b_law_made .nil pass0 (pa_cons (pv 3) pa_nil)))
  (pss_cons (ps_set (i := 5) sc_law.nd rfl (Or.inl rfl) (pe_ix ix_list (pe_lc (own := [("name", 10)]) rfl sc_law.nd  (pi_str pe_str) (blkOk_by (own := [("name", 10)]) (N := ["script", "well", "names", "tree", "made", "fresh", "at", "worths", "lot", "turn", "name"]) (sc := defScope s_law) (by decide +kernel)) (fun _ _ _ _ _ => (pg_name (i := 10) sc_law.nd rfl (.inl rfl))) (fun _ _ _ _ _ => (pts_one (pt_cmpR (opR_K (K := K) (r := (fun K => rIn K true)) rfl op_notIn_seq) (pv 10) (pv 2) (by rfl)))) (fun _ _ _ _ _ => (pv 10))) pe_int (fun _ _ => rfl)))
  (pss_cons (ps_for PassesOwn.never rfl (pi_range2 rfl T.m_range (pa_cons pe_int (pa_cons pe_int pa_nil))) (pg_name (i := 6) sc_law.nd rfl (.inl rfl))
    (pss_cons (ps_set (i := 1) sc_law.nd rfl (Or.inl rfl) (pe_call G_law_well (hr.mono (by omega)) rfl T.m_law_well T.F_law_well.kp T.b_law_well .nil pass0 (pa_cons (pv 0) (pa_cons (pv 6) pa_nil))))
    (pss_cons (ps_set (i := 7) sc_law.nd rfl (Or.inl rfl) (pe_call G_law_worths (hr.mono (by omega)) rfl T.m_law_worths T.F_law_worths.kp T.b_law_worths .nil pass0 (pa_cons (pv 1) (pa_cons (pv 2) pa_nil))))
    (pss_cons (ps_set (i := 8) sc_law.nd rfl (Or.inl rfl) (pe_make T.M_Lot G_Lot_init (hr.mono (by omega)) rfl T.m_Lot bA_Lot .nil pass0 (pa_cons (pe_op op_cat (pe_lst (pa_cons (pe_tup (pa_cons (pv 5) (pa_cons pe_int pa_nil))) pa_nil)) (pe_call G_law_pairs (hr.mono (by omega)) rfl T.m_law_pairs T.F_law_pairs.kp T.b_law_pairs .nil pass0 (pa_cons (pv 7) pa_nil))) pa_nil)))
    (pss_cons (ps_if (pt_not (pt_val (pe_call G_law_right (hr.mono (by omega)) rfl T.m_law_right T.F_law_right.kp T.b_law_right .nil pass0 (pa_cons (pv 4) (pa_cons (pv 3) (pa_cons (pv 8) (pa_cons (pv 7) pa_nil))))))) (pss_one (ps_ret pe_bl)) pss_nil)
    (pss_cons (ps_for PassesOwn.never rfl (pi_range1 rfl T.m_range (pa_cons pe_int pa_nil)) (pg_name (i := 9) sc_law.nd rfl (.inl rfl))
      (pss_cons (ps_set (i := 10) sc_law.nd rfl (Or.inl rfl) (pe_ix ix_list (pv 2) (pe_call G_law_dip (hr.mono (by omega)) rfl T.m_law_dip T.F_law_dip.kp T.b_law_dip .nil pass0 (pa_cons (pv 1) (pa_cons (pe_callB call_len_seq (by rfl) T.m_len PySem.boot_len (pa_cons (pv 2) pa_nil)) pa_nil))) (fun _ _ => rfl)))
      (pss_cons (ps_dput hu (pv 7) (pv 10) (pe_op op_sub (pe_call G_law_dip (hr.mono (by omega)) rfl T.m_law_dip T.F_law_dip.kp T.b_law_dip .nil pass0 (pa_cons (pv 1) (pa_cons pe_int pa_nil))) pe_int) rfl)
      (pss_cons (ps_putO T.q_Lot T.M_Lot_setitem G_Lot_setitem (hr.mono (by omega)) T.b_Lot_setitem pass0 (pv 8) (pv 10) (pe_dget (hu_of hr) (pv 7) (pv 10) (fun _ _ => rfl)) rfl)
      (pss_one (ps_if (pt_not (pt_val (pe_call G_law_right (hr.mono (by omega)) rfl T.m_law_right T.F_law_right.kp T.b_law_right .nil pass0 (pa_cons (pv 4) (pa_cons (pv 3) (pa_cons (pv 8) (pa_cons (pv 7) pa_nil))))))) (pss_one (ps_ret pe_bl)) pss_nil))))))
    (pss_cons (ps_if (PW.pt (pw_or (pt_cmpR (op_neO T.mo_Lot T.ne_Lot T.M_Lot_eq G_Lot_eq (hr.mono (by omega)) T.b_Lot_eq pass0) (pv 8) (pe_make T.M_Lot G_Lot_init (hr.mono (by omega)) rfl T.m_Lot bA_Lot .nil pass0 (pa_cons (pe_op op_cat (pe_lst (pa_cons (pe_tup (pa_cons (pv 5) (pa_cons pe_int pa_nil))) pa_nil)) (pe_call G_law_pairs (hr.mono (by omega)) rfl T.m_law_pairs T.F_law_pairs.kp T.b_law_pairs .nil pass0 (pa_cons (pv 7) pa_nil))) pa_nil)) (nomark _)) (pw_or1 (pt_cmpR (op_or (op_neO T.mo_Leaf T.ne_Leaf T.M_Leaf_eq GEL (hr.mono (by omega)) T.b_Leaf_eq pass0) (op_neO T.mo_Group T.ne_Group T.M_Group_eq GEG (hr.mono (by omega)) T.b_Group_eq pass0)) (pv 4) (pe_call G_law_made (hr.mono (by omega)) rfl T.m_law_made T.F_law_made.kp T.b_law_made .nil pass0 (pa_cons (pv 3) pa_nil)) (nomark _))))) (pss_one (ps_ret pe_bl)) pss_nil)
    (pss_cons (ps_expr (pe_meth (pv 8) T.c_Lot T.M_Lot_drop G_Lot_drop (hr.mono (by omega)) T.b_Lot_drop .nil pass0 (pa_cons (pe_ix ix_list (pv 2) pe_int (fun _ _ => rfl)) pa_nil)))
    (pss_cons (ps_if (pt_not (pt_val (pe_call G_law_lacks (hr.mono (by omega)) rfl T.m_law_lacks T.F_law_lacks.kp T.b_law_lacks .nil pass0 (pa_cons (pv 4) (pa_cons (pv 8) (pa_cons (pe_ix ix_list (pv 2) pe_int (fun _ _ => rfl)) pa_nil)))))) (pss_one (ps_ret pe_bl)) pss_nil)
    (pss_cons (ps_putO T.q_Lot T.M_Lot_setitem G_Lot_setitem (hr.mono (by omega)) T.b_Lot_setitem pass0 (pv 8) (pe_ix ix_list (pv 2) pe_int (fun _ _ => rfl)) (pe_dget (hu_of hr) (pv 7) (pe_ix ix_list (pv 2) pe_int (fun _ _ => rfl)) (fun _ _ => rfl)) rfl)
    (pss_one (ps_if (pt_not (pt_val (pe_call G_law_right (hr.mono (by omega)) rfl T.m_law_right T.F_law_right.kp T.b_law_right .nil pass0 (pa_cons (pv 4) (pa_cons (pv 3) (pa_cons (pv 8) (pa_cons (pv 7) pa_nil))))))) (pss_one (ps_ret pe_bl)) pss_nil))))))))))))
  (pss_one (ps_ret pe_bl)))))))), ?_⟩
  refine sq_asg ⟨_, rfl, sa, ns, 0, rfl, hs, hns, by decide, by decide, fun a n n0 na => ?_⟩
  have hw1 : Wl a (upd H a (.lst [.int n])) (upd H a (.lst [.int n])) := Wl.refl upd_same n0
  have s01 := same_new na (.lst [.int n])
  generalize upd H a (.lst [.int n]) = H1 at hw1 s01 ⊢
  refine sq_asg ⟨_, rfl, a, 14, rfl, by decide, hw1, fun xs ln H2 nd hn hlen hne nl la hl w2 => ?_⟩
  have hlen : xs.length ≤ 14 := by omega
  refine sq_asg ⟨_, rfl, _, rfl, a, ln, xs, 3, rfl, by decide, by decide, w2.r, la, hl, nd, hn, hne (by decide), by omega, fun tv t H3 hok hnm hdp w3 hlt0 => ?_⟩
  have hlt : LAt H3 tv t := hlt0.mono hid_le
  have hl3 := w3.2 _ _ la hl
  have s03 : Same H H3 := wl_same na s01 (w2.trans w3)
  have hnl : t.names.length ≤ 60 := by rw [hnm]; omega
  have hnod : t.nodes.length ≤ 1000 := by
    have h1 := nodes_len hok
    have h2 : t.names.length * (t.depth + 1) ≤ 60 * 6 := Nat.mul_le_mul hnl (by omega)
    omega
  have w1 : 1 ≤ t.width := by
    cases t with
    | leaf x => exact Nat.le_refl 1
    | grp rs ps =>
      cases hok with
      | grp _ _ _ h4 _ _ => exact List.length_pos_iff.mpr h4
  -- made
  refine sq_asg <| (x_callA (dvs := []) (E := E0) mon_RTe (Evl.ea_cons (Evl.ev_var rfl) Evl.ea_nil) (sp_made (cL := T.a_Leaf) (cG := T.a_Group) (n := 5) hlt hok (by omega) hnl)).run fun mv H4 s4 hm4 => ?_
  have hl4 := s4 _ _ hl3
  have hlt4 := hlt.mono s4
  have hm4 : TAt T.a_Leaf T.a_Group H4 mv t := hm4
  have s04 := s03.trans s4
  -- fresh
  obtain ⟨c, rest, ec, nc, okc⟩ := fresh_one hlen
  generalize hfn : (⟨#[c]⟩ : Str) = fn at nc okc
  have xfr := el_lcSF (σ := [some (.ref sa), some (.ref a), some (.ref ln), some tv, some mv, none, none, none, none, none, none]) (H := H4) (s := Str.ofString "abcdefghijklmnopqrstuvwxyz") (tl := tC (.str (Str.ofString "abcdefghijklmnopqrstuvwxyz"))) (te := tVar 10) (tt := tTest (tOp (rIn K true) (tVar 10) (tVar 2))) (j := 10) (vs := [10]) (fun c => V.str ⟨#[c]⟩) (fun c => !decide ((⟨#[c]⟩ : Str) ∈ xs)) Evl.ev_c (Nat.le_of_ble_eq_true (by decide +kernel)) (fun x => rfl) (fun c H5 e5 => Evl.et_is (Evl.et_test (Evl.ev_op (Evl.ev_var rfl) (Evl.ev_var rfl) (Evl.rv_niL (SqL.of (e5 _ _ hl4)) rfl (flat_strs _)))) (by rw [inV_str])) (fun c H5 e5 => Evl.ev_var rfl)
  refine sq_asg <| un_op <| xfr H4 (Ex.refl _) _ fun fl H5 nf e5 hfl => ⟨fl, _, 0, .str fn, rfl, rfl, SqL.of hfl, atI_nat (j := 0) (by rw [ec, ← hfn]; rfl), ?_⟩
  have s05 := s04.trans e5
  have hln5 := e5 _ _ hl4
  have hlt5 := hlt4.mono e5
  have hm5 := hm4.mono e5
  have hs5 : SqL K H5 sa (ns.map V.int) := Evl.ex_l s05 hs
  dsimp only
  refine Evl.q_forR2 (lo := 1) (n := 5) (Evl.ea_cons Evl.ev_c (Evl.ea_cons Evl.ev_c Evl.ea_nil)) ⟨by decide, by decide, by decide, by decide⟩ (fun i σ' H' => ∃ x1 x6 x7 x8 x9 x10, σ' = [some (.ref sa), x1, some (.ref ln), some tv, some mv, some (.str fn), x6, x7, x8, x9, x10] ∧ Ex H5 H') (fun H7 e7 => ⟨_, none, none, none, none, none, rfl, e7⟩) (fun i σ' H7 hi p => ?_) (fun σ' H7 p => ?_)
  rotate_left
  · obtain ⟨_, _, _, _, _, _, rfl, _⟩ := p
    exact un_ret (q H7)
  obtain ⟨x1, x6, x7, x8, x9, x10, rfl, e7⟩ := p
  refine sq_asg ⟨_, rfl, _, rfl, sa, ns, _, rfl, Evl.ex_l e7 hs5, hns, by omega, by omega, fun a2 n2 n20 na2 => ?_⟩
  have hw8 : Wl a2 (upd H7 a2 (.lst [.int n2])) (upd H7 a2 (.lst [.int n2])) := Wl.refl upd_same n20
  have s78 := same_new na2 (.lst [.int n2])
  generalize upd H7 a2 (.lst [.int n2]) = H8 at hw8 s78 ⊢
  have e58 := e7.trans s78
  have lna : ln ≠ a2 := ne_of_none (e7 _ _ hln5) na2
  refine sq_asg ⟨_, rfl, _, rfl, a2, ln, xs, rfl, hw8, lna, e58 _ _ hln5, nd, by omega, fun wf0 kvs d H9 nd9 da hd hk hv w9 => ?_⟩
  have base : ∀ {H'}, Wl a2 H8 H' → Ex H5 H' := fun {H'} w b o z => w.2 b o (ne_of_none (e7 _ _ z) na2) (e58 _ _ z)
  have e59 := base w9
  generalize hwf : (fun x => if x = fn then 3 else wf0 x) = wf
  have wfn : wf fn = 3 := by rw [← hwf]; exact if_pos rfl
  have hv9 : ∀ x ∈ xs, valV kvs (.inr x) = some (.int (wf x)) := fun x hx => by
    rw [hv x hx, ← hwf]
    show _ = some (V.int (if x = fn then 3 else wf0 x))
    rw [if_neg fun z : x = fn => nc (z ▸ hx)]
  clear hwf hv
  obtain ⟨x6', ex6⟩ : ∃ x6', x6' = some (V.int (1 + (i : Int))) := ⟨_, rfl⟩
  rw [← ex6]
  -- lot
  refine sq_asg <| lot_new (cG := T.a_Group) rfl rfl ⟨kvs, hd, hk, hv9⟩ nd (by omega) hn okc nc wfn fun p dx dd kl ys H10 np9 ndd9 ddp s10 hp hdd hkl pm hvl => ?_
  have W9 : Wl a2 H9 H9 := w9.r
  have pa : p ≠ a2 := W9.ne np9
  have dda : dd ≠ a2 := W9.ne ndd9
  have ddd : d ≠ dd := ne_of_none hd ndd9
  have pd : d ≠ p := ne_of_none hd np9
  have K10 : K3 a2 d dd H10 H10 := ⟨(W9.same s10).r, fun b o _ _ _ h => h⟩
  have baseK : ∀ {H'}, K3 a2 d dd H10 H' → Ex H5 H' := fun {H'} k b o z => k.2 b o (ne_of_none (e7 _ _ z) na2) (ne_of_none (e58 _ _ z) nd9) (ne_of_none (e59 _ _ z) ndd9) (s10 _ _ (e59 _ _ z))
  have pK : ∀ {H'}, K3 a2 d dd H10 H' → H' p = some (.ins T.a_Lot dx (putF "_worths" (.ref dd) [])) := fun {H'} k => k.2 _ _ pa pd.symm ddp.symm hp
  have hd10 := s10 _ _ hd
  have ndys : (fn :: ys).Nodup := List.nodup_cons.mpr ⟨fun z => nc (pm.mem_iff.mp z), pm.nodup_iff.mpr nd⟩
  have xin : ∀ x ∈ xs, x ∈ fn :: ys := fun x hx => List.mem_cons_of_mem _ (pm.mem_iff.mpr hx)
  have lys : ys.length ≤ 14 := by rw [pm.length_eq]; exact hlen
  have endsIn : ∀ {H'} (wf : Str → Int) kv2, K3 a2 d dd H10 H' → H' dd = some (.dK kv2) → (∀ x ∈ xs, valV kv2 (.inr x) = some (.int (wf x))) → EndsIn T.a_Leaf T.a_Group T.a_Lot H' mv (.ref p) t wf 5 := fun {H'} wf kv2 k h2 hv2 => ⟨xs, by omega, hm5.mono (baseK k), ⟨p, dx, dd, kv2, rfl, pK k, h2, hv2⟩, hok, fun x hx => ⟨by rw [← hnm]; exact hx, hok.names_ok x hx⟩, hnl, hnod⟩
  have wgIn : ∀ {H'} (wf : Str → Int) kv1, H' d = some (.dK kv1) → (∀ x ∈ xs, valV kv1 (.inr x) = some (.int (wf x))) → WG H' d wf t.names := fun {H'} wf kv1 h1 hv1 => ⟨kv1, h1, fun x hx => hv1 x (by rw [← hnm]; exact hx)⟩
  -- the first look
  refine un_seq <| un_ifS ⟨_, rfl, _, rfl, _, rfl, _, rfl, mv, tv, .ref p, d, t, wf, rfl, endsIn wf kl K10 hdd (fun x hx => hvl x (xin x hx)), hlt5.mono (baseK K10), wgIn wf kvs hd10 hv9, fun H11 s11 => ⟨_, rfl, iteF (nxt ?_)⟩⟩
  have K11 := K10.same s11
  dsimp only
  -- three changes
  refine Evl.q_forR1 (n := 3) (Evl.ea_cons Evl.ev_c Evl.ea_nil) (by decide) (fun j σ' H' => ∃ (wf : Str → Int) (kv1 kv2 : List (Key × V)) (y9 y10 : Option V), σ' = [some (.ref sa), some (.ref a2), some (.ref ln), some tv, some mv, some (.str fn), x6', some (.ref d), some (.ref p), y9, y10] ∧ K3 a2 d dd H10 H' ∧ H' d = some (.dK kv1) ∧ kv1.map (·.1) = xs.map Sum.inr ∧ (∀ x ∈ xs, valV kv1 (.inr x) = some (.int (wf x))) ∧ H' dd = some (.dK kv2) ∧ kv2.map (·.1) = (fn :: ys).map Sum.inr ∧ (∀ x ∈ fn :: ys, valV kv2 (.inr x) = some (.int (wf x))) ∧ wf fn = 3) (fun H12 e12 => ⟨wf, kvs, kl, _, _, rfl, K11.same e12, e12 _ _ (s11 _ _ hd10), hk, hv9, e12 _ _ (s11 _ _ hdd), hkl, hvl, wfn⟩) (fun j σ' H12 hj h => ?_) (fun σ' H12 h => ?_)
  · obtain ⟨wf, kv1, kv2, y9, y10, rfl, K12, h1, hk1, hv1, h2, hk2, hv2, wfn⟩ := h
    have hln12 := baseK K12 _ _ hln5
    dsimp only [List.set]
    -- name
    refine sq_asg <| un_op ⟨_, rfl, ?_⟩
    refine call_dip (a := a2) (m := (xs.length : Int)) rfl K12.1 (fun R r => ⟨_, rfl, ln, _, rfl, .inl (SqL.of hln12), by rw [List.length_map]; exact r⟩) ⟨by rw [show xs.length = t.names.length by rw [hnm]]; have := hok.one; omega, by omega⟩ fun dg H13 g0 g1 w13 => ?_
    have K13 := K12.wl w13
    obtain ⟨x, hx⟩ : ∃ x, xs[dg.toNat]? = some x := ⟨_, List.getElem?_eq_getElem (by omega)⟩
    have hxm := List.mem_of_getElem? hx
    have hxf : x ≠ fn := fun z => nc (z ▸ hxm)
    refine ⟨ln, _, dg, .str x, rfl, rfl, SqL.of (w13.2 _ _ lna hln12), at_of (j := dg.toNat) (by omega) (by rw [List.getElem?_map, hx]; rfl), ?_⟩
    dsimp only
    -- worths[name]
    refine un_seq ?_
    refine un_op ?_
    refine call_dip (a := a2) (m := 9) rfl K13.1 (fun R r => r) (by decide) fun dg2 H14 g2 g3 w14 => ⟨_, _, rfl, rfl, ?_⟩
    have K14 := K13.wl w14
    have h1' := w14.2 _ _ da (w13.2 _ _ da h1)
    have h2' := w14.2 _ _ dda (w13.2 _ _ dda h2)
    have l1 : kv1.length ≤ 60 := by
      have := congrArg List.length hk1
      rw [List.length_map, List.length_map] at this
      omega
    have l2 : kv2.length ≤ 60 := by
      have := congrArg List.length hk2
      rw [List.length_map, List.length_map, List.length_cons] at this
      omega
    refine ⟨_, rfl, _, rfl, d, _, rfl, DPut.k (k := (Sum.inr x : Key)) h1' (Evl.sz_lt (by omega)), ?_⟩
    have K15 := K14.put (o := .dK (putK kv1 (.inr x) (.int (dg2 - 4)))) da (.inl rfl)
    have h15 : (upd H14 d (.dK (putK kv1 (.inr x) (.int (dg2 - 4))))) d = some (.dK (putK kv1 (.inr x) (.int (dg2 - 4)))) := upd_same
    have h25 : (upd H14 d (.dK (putK kv1 (.inr x) (.int (dg2 - 4))))) dd = some (.dK kv2) := by
      rw [upd_ne ddd.symm]
      exact h2'
    generalize upd H14 d (.dK (putK kv1 (.inr x) (.int (dg2 - 4)))) = H15 at K15 h15 h25 ⊢
    dsimp only
    -- lot[name]
    have dg1 : DGet H15 d (.str x) (some (.int (dg2 - 4))) := by
      have := DGet.k (k := (Sum.inr x : Key)) h15
      rwa [valV_put, if_pos rfl] at this
    refine un_seq ⟨_, rfl, _, rfl, d, _, rfl, dg1, ?_⟩
    refine ⟨_, rfl, _, rfl, p, dx, _, rfl, pK K15, p, dx, dd, kv2, x, dg2 - 4, rfl, pK K15, h25, l2, hn x hxm, fun H16 e16 => ?_⟩
    have K16 := (K15.same e16).put (o := .dK (putK kv2 (.inr x) (.int (dg2 - 4)))) dda (.inr rfl)
    have h16 : (upd H16 dd (.dK (putK kv2 (.inr x) (.int (dg2 - 4))))) d = some (.dK (putK kv1 (.inr x) (.int (dg2 - 4)))) := by
      rw [upd_ne ddd]
      exact e16 _ _ h15
    have h26 : (upd H16 dd (.dK (putK kv2 (.inr x) (.int (dg2 - 4))))) dd = some (.dK (putK kv2 (.inr x) (.int (dg2 - 4)))) := upd_same
    generalize upd H16 dd (.dK (putK kv2 (.inr x) (.int (dg2 - 4)))) = H17 at K16 h16 h26 ⊢
    dsimp only
    have vput : ∀ (kv : List (Key × V)) (y : Str), (y ≠ x → valV kv (.inr y) = some (.int (wf y))) → valV (putK kv (.inr x) (.int (dg2 - 4))) (.inr y) = some (.int (if y = x then dg2 - 4 else wf y)) := fun kv y hy => by
      rw [valV_put]
      by_cases c : y = x
      · rw [c, if_pos rfl, if_pos rfl]
      · rw [if_neg fun z => c (Sum.inr.inj z), if_neg c]
        exact hy c
    have hv1' : ∀ y ∈ xs, valV (putK kv1 (.inr x) (.int (dg2 - 4))) (.inr y) = some (.int (if y = x then dg2 - 4 else wf y)) := fun y hy => vput kv1 y fun _ => hv1 y hy
    have hv2' : ∀ y ∈ fn :: ys, valV (putK kv2 (.inr x) (.int (dg2 - 4))) (.inr y) = some (.int (if y = x then dg2 - 4 else wf y)) := fun y hy => vput kv2 y fun _ => hv2 y hy
    refine un_ifS ⟨_, rfl, _, rfl, _, rfl, _, rfl, mv, tv, .ref p, d, t, fun y => if y = x then dg2 - 4 else wf y, rfl, endsIn _ _ K16 h26 (fun y hy => hv2' y (xin y hy)), hlt5.mono (baseK K16), wgIn _ _ h16 hv1', fun H18 s18 => ⟨_, rfl, iteF (nxt ?_)⟩⟩
    exact ⟨fun y => if y = x then dg2 - 4 else wf y, _, _, _, _, rfl, K16.same s18, s18 _ _ h16, by rw [putK_keys (by rw [hk1]; exact List.mem_map_of_mem hxm), hk1], hv1', s18 _ _ h26, by rw [putK_keys (by rw [hk2]; exact List.mem_map_of_mem (xin x hxm)), hk2], hv2', (if_neg hxf.symm).trans wfn⟩
  obtain ⟨wf, kv1, kv2, y9, y10, rfl, K12, h1, hk1, hv1, h2, hk2, hv2, wfn⟩ := h
  have hln12 := baseK K12 _ _ hln5
  obtain ⟨x0, xr, ex0⟩ : ∃ x0 xr, xs = x0 :: xr := by
    cases e : xs with
    | nil => exact absurd e (hne (by decide))
    | cons x0 xr => exact ⟨x0, xr, rfl⟩
  have x0m : x0 ∈ xs := by rw [ex0]; exact List.mem_cons_self
  have x0f : x0 ≠ fn := fun z => nc (z ▸ x0m)
  have at0 : atI (xs.map V.str) 0 = some (.str x0) := atI_nat (j := 0) (by rw [ex0]; rfl)
  -- lot and made as they should be
  refine un_seq <| un_ifS <| un_or ?_
  refine un_test <| un_op ⟨_, rfl, lot_new (cG := T.a_Group) rfl rfl ⟨kv1, h1, hk1, hv1⟩ nd (by omega) hn okc nc wfn fun p2 dx2 dd2 kl2 ys2 H13 np2 ndd2 ddp2 s13 hp2 hdd2 hkl2 pm2 hvl2 => ?_⟩
  refine ⟨p, dx, _, p2, T.a_Lot, dx2, _, rfl, rfl, s13 _ _ (pK K12), hp2, not_first, .ref p, .ref p2, wf, fn :: ys, fn :: ys2, rfl, ⟨p, dx, dd, kv2, rfl, s13 _ _ (pK K12), s13 _ _ h2, hk2, hv2⟩, ⟨p2, dx2, dd2, kl2, rfl, hp2, hdd2, hkl2, hvl2⟩, ndys, (pm.trans pm2.symm).cons fn, true, rfl, _, rfl, iteF ?_⟩
  have K13 := K12.same s13
  have e513 := baseK K13
  refine un_test <| un_op ⟨_, rfl, (x_callA (dvs := []) (E := E0) mon_RTe (Evl.ea_cons (Evl.ev_var rfl) Evl.ea_nil) (sp_made (cL := T.a_Leaf) (cG := T.a_Group) (n := 5) (hlt5.mono e513) hok (by omega) hnl)).run fun m2 H14 e14 r14 => ?_⟩
  refine use_ne (n := 4) ((hm5.mono e513).mono e14) r14 (by omega) fun H15 s15 => ⟨_, rfl, iteF (nxt ?_)⟩
  have K15 := (K13.same e14).same s15
  have h15 := s15 _ _ (e14 _ _ (s13 _ _ h1))
  have h25 := s15 _ _ (e14 _ _ (s13 _ _ h2))
  have hln15 := baseK K15 _ _ hln5
  dsimp only
  -- lot.drop(names[0])
  have hsome : (valV kv2 (Sum.inr x0 : Key)).isSome = true := by rw [hv2 x0 (xin x0 x0m)]; rfl
  refine un_seq <| un_drop ⟨_, rfl, p, dx, _, rfl, pK K15, wo_no (by decide +kernel), _, rfl, ln, _, _, .str x0, rfl, rfl, SqL.of hln15, at0, p, dx, dd, kv2, x0, rfl, pK K15, h25, hsome, hn x0 x0m, fun H16 s16 => ?_⟩
  have K16 := (K15.same s16).put (o := .dK (dropK kv2 (.inr x0))) dda (.inr rfl)
  have h16 : (upd H16 dd (.dK (dropK kv2 (.inr x0)))) d = some (.dK kv1) := by
    rw [upd_ne ddd]
    exact s16 _ _ h15
  have h26 : (upd H16 dd (.dK (dropK kv2 (.inr x0)))) dd = some (.dK (dropK kv2 (.inr x0))) := upd_same
  generalize upd H16 dd (.dK (dropK kv2 (.inr x0))) = H17 at K16 h16 h26 ⊢
  have hln17 := baseK K16 _ _ hln5
  have hkd := drop_keys (x := x0) hk2
  have hvd : ∀ y, y ≠ x0 → y ∈ fn :: ys → valV (dropK kv2 (.inr x0)) (.inr y) = some (.int (wf y)) := fun y hy hm => by rw [valV_drop hy, hv2 y hm]
  dsimp only
  -- it lacks the first name
  refine un_seq <| un_ifS ⟨_, rfl, _, rfl, _, rfl, ln, _, _, .str x0, rfl, rfl, SqL.of hln17, at0, mv, .ref p, t, x0, rfl, ⟨wf, (fn :: ys).filter fun y => decide (y ≠ x0), [], xr, hm5.mono (baseK K16), ⟨p, dx, dd, _, rfl, pK K16, h26, hkd, fun y hy => ?_⟩, by rw [hnm, ex0]; rfl, (fun y h => absurd h List.not_mem_nil), (fun z => absurd rfl (of_decide_eq_true (List.mem_filter.mp z).2)), hok.names_ok, hnl⟩, w1, fun H18 s18 => ⟨_, rfl, iteF (nxt ?_)⟩⟩
  · obtain ⟨m1, m2⟩ := List.mem_filter.mp hy
    exact hvd y (of_decide_eq_true m2) m1
  have K18 := K16.same s18
  have h18 := s18 _ _ h16
  have h28 := s18 _ _ h26
  have hln18 := baseK K18 _ _ hln5
  have dg1 : DGet H18 d (.str x0) (some (.int (wf x0))) := by
    have := DGet.k (k := (Sum.inr x0 : Key)) h18
    rwa [hv1 x0 x0m] at this
  have l2 : (dropK kv2 (Sum.inr x0 : Key)).length ≤ 60 := by
    have e := congrArg List.length hkd
    rw [List.length_map, List.length_map] at e
    have := List.length_filter_le (fun y => decide (y ≠ x0)) (fn :: ys)
    rw [List.length_cons] at this
    omega
  dsimp only
  -- lot[names[0]] = worths[names[0]]
  refine un_seq ⟨_, rfl, _, rfl, ln, _, _, .str x0, rfl, rfl, SqL.of hln18, at0, d, _, rfl, dg1, ?_⟩
  refine ⟨_, rfl, _, rfl, ln, _, _, .str x0, rfl, rfl, SqL.of hln18, at0, p, dx, _, rfl, pK K18, p, dx, dd, _, x0, wf x0, rfl, pK K18, h28, l2, hn x0 x0m, fun H19 e19 => ?_⟩
  have K19 := (K18.same e19).put (o := .dK (putK (dropK kv2 (.inr x0)) (.inr x0) (.int (wf x0)))) dda (.inr rfl)
  have h19 : (upd H19 dd (.dK (putK (dropK kv2 (.inr x0)) (.inr x0) (.int (wf x0))))) d = some (.dK kv1) := by
    rw [upd_ne ddd]
    exact e19 _ _ h18
  have h29 : (upd H19 dd (.dK (putK (dropK kv2 (.inr x0)) (.inr x0) (.int (wf x0))))) dd = some (.dK (putK (dropK kv2 (.inr x0)) (.inr x0) (.int (wf x0)))) := upd_same
  generalize upd H19 dd (.dK (putK (dropK kv2 (.inr x0)) (.inr x0) (.int (wf x0)))) = H20 at K19 h19 h29 ⊢
  dsimp only
  refine un_ifS ⟨_, rfl, _, rfl, _, rfl, _, rfl, mv, tv, .ref p, d, t, wf, rfl, endsIn wf _ K19 h29 (fun y hy => ?_), hlt5.mono (baseK K19), wgIn wf kv1 h19 hv1, fun H21 s21 => ⟨_, rfl, iteF (nxt ?_)⟩⟩
  · rw [valV_put]
    by_cases c : y = x0
    · rw [c, if_pos rfl]
    · rw [if_neg fun z => c (Sum.inr.inj z)]
      exact hvd y c (xin y hy)
  · exact ⟨_, _, _, _, _, _, rfl, (baseK K19).trans s21⟩
end
end Rk
set_option Elab.async false
set_option linter.all false
set_option maxRecDepth 100000
set_option maxHeartbeats 4000000
namespace Rk
open PySem PySem.Spec PyProof.Rows L2 RkO
section
variable {K : PySem.W.Frag} {h : Heap} {mg : Str → Option Value} {a_RankError a_InvalidName a_InvalidNumber a_InvalidTree a_InvalidLot a_InvalidList a_Unknown a_Lacking a_Tree a_Leaf a_Group a_Lot f_Leaf_init f_Leaf_name p_Leaf_name f_Leaf_width p_Leaf_width f_Leaf_len f_Leaf_contains f_Leaf_eq f_Leaf_names f_Leaf_passes f_Leaf__low_ends f_Group_init f_Group_ranks p_Group_ranks f_Group_parts p_Group_parts f_Group_intake p_Group_intake f_Group_width p_Group_width f_Group_len f_Group_contains f_Group_eq f_Group_getitem f_Group_iter f_Group_names f_Group_passes f_Group__low_ends f_Lot_init tD_Lot_init f_Lot_getitem f_Lot_setitem f_Lot_contains f_Lot_iter f_Lot_len f_Lot_eq f_Lot_drop f_Lot_names f_Lot_pairs xN_Lacking f_Lacking_init tD_Lacking_init f_is_whole f_is_name f_are_names f_are_name_pairs f_is_tree f_is_end f_are_parts f_are_ranks f_intake_of f_names_of f_are_leaves f_is_lot f_ends_of f_end_of tD_end_of f_outs_of f_check_kinds f_check_full f_outs f_rank_in tD_rank_in f_law_well f_law_dip f_law_words f_law_ranks f_law_width f_law_group f_law_tree f_law_nodes f_law_made f_law_ends f_law_worths f_law_pairs f_law_right f_law_lacks f_law : Addr} {kV_Leaf_init dc_Leaf_init pm_Leaf_init cd_Leaf_init ct_Leaf_init oc_Leaf_init kV_Leaf_name dc_Leaf_name pm_Leaf_name cd_Leaf_name ct_Leaf_name oc_Leaf_name kV_Leaf_width dc_Leaf_width pm_Leaf_width cd_Leaf_width ct_Leaf_width oc_Leaf_width kV_Leaf_len dc_Leaf_len pm_Leaf_len cd_Leaf_len ct_Leaf_len oc_Leaf_len kV_Leaf_contains dc_Leaf_contains pm_Leaf_contains cd_Leaf_contains ct_Leaf_contains oc_Leaf_contains kV_Leaf_eq dc_Leaf_eq pm_Leaf_eq cd_Leaf_eq ct_Leaf_eq oc_Leaf_eq kV_Leaf_names dc_Leaf_names pm_Leaf_names cd_Leaf_names ct_Leaf_names oc_Leaf_names kV_Leaf_passes dc_Leaf_passes pm_Leaf_passes cd_Leaf_passes ct_Leaf_passes oc_Leaf_passes kV_Leaf__low_ends dc_Leaf__low_ends pm_Leaf__low_ends cd_Leaf__low_ends ct_Leaf__low_ends oc_Leaf__low_ends kV_Group_init dc_Group_init pm_Group_init cd_Group_init ct_Group_init oc_Group_init kV_Group_ranks dc_Group_ranks pm_Group_ranks cd_Group_ranks ct_Group_ranks oc_Group_ranks kV_Group_parts dc_Group_parts pm_Group_parts cd_Group_parts ct_Group_parts oc_Group_parts kV_Group_intake dc_Group_intake pm_Group_intake cd_Group_intake ct_Group_intake oc_Group_intake kV_Group_width dc_Group_width pm_Group_width cd_Group_width ct_Group_width oc_Group_width kV_Group_len dc_Group_len pm_Group_len cd_Group_len ct_Group_len oc_Group_len kV_Group_contains dc_Group_contains pm_Group_contains cd_Group_contains ct_Group_contains oc_Group_contains kV_Group_eq dc_Group_eq pm_Group_eq cd_Group_eq ct_Group_eq oc_Group_eq kV_Group_getitem dc_Group_getitem pm_Group_getitem cd_Group_getitem ct_Group_getitem oc_Group_getitem kV_Group_iter dc_Group_iter pm_Group_iter cd_Group_iter ct_Group_iter oc_Group_iter kV_Group_names dc_Group_names pm_Group_names cd_Group_names ct_Group_names oc_Group_names kV_Group_passes dc_Group_passes pm_Group_passes cd_Group_passes ct_Group_passes oc_Group_passes kV_Group__low_ends dc_Group__low_ends pm_Group__low_ends cd_Group__low_ends ct_Group__low_ends oc_Group__low_ends kV_Lot_init dc_Lot_init pm_Lot_init cd_Lot_init ct_Lot_init oc_Lot_init oD_Lot_init kV_Lot_getitem dc_Lot_getitem pm_Lot_getitem cd_Lot_getitem ct_Lot_getitem oc_Lot_getitem kV_Lot_setitem dc_Lot_setitem pm_Lot_setitem cd_Lot_setitem ct_Lot_setitem oc_Lot_setitem kV_Lot_contains dc_Lot_contains pm_Lot_contains cd_Lot_contains ct_Lot_contains oc_Lot_contains kV_Lot_iter dc_Lot_iter pm_Lot_iter cd_Lot_iter ct_Lot_iter oc_Lot_iter kV_Lot_len dc_Lot_len pm_Lot_len cd_Lot_len ct_Lot_len oc_Lot_len kV_Lot_eq dc_Lot_eq pm_Lot_eq cd_Lot_eq ct_Lot_eq oc_Lot_eq kV_Lot_drop dc_Lot_drop pm_Lot_drop cd_Lot_drop ct_Lot_drop oc_Lot_drop kV_Lot_names dc_Lot_names pm_Lot_names cd_Lot_names ct_Lot_names oc_Lot_names kV_Lot_pairs dc_Lot_pairs pm_Lot_pairs cd_Lot_pairs ct_Lot_pairs oc_Lot_pairs kV_Lacking_init dc_Lacking_init pm_Lacking_init cd_Lacking_init ct_Lacking_init oc_Lacking_init oD_Lacking_init kV_is_whole dc_is_whole pm_is_whole cd_is_whole ct_is_whole oc_is_whole kV_is_name dc_is_name pm_is_name cd_is_name ct_is_name oc_is_name kV_are_names dc_are_names pm_are_names cd_are_names ct_are_names oc_are_names kV_are_name_pairs dc_are_name_pairs pm_are_name_pairs cd_are_name_pairs ct_are_name_pairs oc_are_name_pairs kV_is_tree dc_is_tree pm_is_tree cd_is_tree ct_is_tree oc_is_tree kV_is_end dc_is_end pm_is_end cd_is_end ct_is_end oc_is_end kV_are_parts dc_are_parts pm_are_parts cd_are_parts ct_are_parts oc_are_parts kV_are_ranks dc_are_ranks pm_are_ranks cd_are_ranks ct_are_ranks oc_are_ranks kV_intake_of dc_intake_of pm_intake_of cd_intake_of ct_intake_of oc_intake_of kV_names_of dc_names_of pm_names_of cd_names_of ct_names_of oc_names_of kV_are_leaves dc_are_leaves pm_are_leaves cd_are_leaves ct_are_leaves oc_are_leaves kV_is_lot dc_is_lot pm_is_lot cd_is_lot ct_is_lot oc_is_lot kV_ends_of dc_ends_of pm_ends_of cd_ends_of ct_ends_of oc_ends_of kV_end_of dc_end_of pm_end_of cd_end_of ct_end_of oc_end_of oD_end_of kV_outs_of dc_outs_of pm_outs_of cd_outs_of ct_outs_of oc_outs_of kV_check_kinds dc_check_kinds pm_check_kinds cd_check_kinds ct_check_kinds oc_check_kinds kV_check_full dc_check_full pm_check_full cd_check_full ct_check_full oc_check_full kV_outs dc_outs pm_outs cd_outs ct_outs oc_outs kV_rank_in dc_rank_in pm_rank_in cd_rank_in ct_rank_in oc_rank_in oD_rank_in kV_law_well dc_law_well pm_law_well cd_law_well ct_law_well oc_law_well kV_law_dip dc_law_dip pm_law_dip cd_law_dip ct_law_dip oc_law_dip kV_law_words dc_law_words pm_law_words cd_law_words ct_law_words oc_law_words kV_law_ranks dc_law_ranks pm_law_ranks cd_law_ranks ct_law_ranks oc_law_ranks kV_law_width dc_law_width pm_law_width cd_law_width ct_law_width oc_law_width kV_law_group dc_law_group pm_law_group cd_law_group ct_law_group oc_law_group kV_law_tree dc_law_tree pm_law_tree cd_law_tree ct_law_tree oc_law_tree kV_law_nodes dc_law_nodes pm_law_nodes cd_law_nodes ct_law_nodes oc_law_nodes kV_law_made dc_law_made pm_law_made cd_law_made ct_law_made oc_law_made kV_law_ends dc_law_ends pm_law_ends cd_law_ends ct_law_ends oc_law_ends kV_law_worths dc_law_worths pm_law_worths cd_law_worths ct_law_worths oc_law_worths kV_law_pairs dc_law_pairs pm_law_pairs cd_law_pairs ct_law_pairs oc_law_pairs kV_law_right dc_law_right pm_law_right cd_law_right ct_law_right oc_law_right kV_law_lacks dc_law_lacks pm_law_lacks cd_law_lacks ct_law_lacks oc_law_lacks kV_law dc_law pm_law cd_law ct_law oc_law : Value} {od_Leaf_init an_Leaf_init od_Leaf_name an_Leaf_name od_Leaf_width an_Leaf_width od_Leaf_len an_Leaf_len od_Leaf_contains an_Leaf_contains od_Leaf_eq an_Leaf_eq od_Leaf_names an_Leaf_names od_Leaf_passes an_Leaf_passes od_Leaf__low_ends an_Leaf__low_ends od_Group_init an_Group_init od_Group_ranks an_Group_ranks od_Group_parts an_Group_parts od_Group_intake an_Group_intake od_Group_width an_Group_width od_Group_len an_Group_len od_Group_contains an_Group_contains od_Group_eq an_Group_eq od_Group_getitem an_Group_getitem od_Group_iter an_Group_iter od_Group_names an_Group_names od_Group_passes an_Group_passes od_Group__low_ends an_Group__low_ends od_Lot_init an_Lot_init eD_Lot_init od_Lot_getitem an_Lot_getitem od_Lot_setitem an_Lot_setitem od_Lot_contains an_Lot_contains od_Lot_iter an_Lot_iter od_Lot_len an_Lot_len od_Lot_eq an_Lot_eq od_Lot_drop an_Lot_drop od_Lot_names an_Lot_names od_Lot_pairs an_Lot_pairs xd_Lacking od_Lacking_init an_Lacking_init eD_Lacking_init od_is_whole an_is_whole od_is_name an_is_name od_are_names an_are_names od_are_name_pairs an_are_name_pairs od_is_tree an_is_tree od_is_end an_is_end od_are_parts an_are_parts od_are_ranks an_are_ranks od_intake_of an_intake_of od_names_of an_names_of od_are_leaves an_are_leaves od_is_lot an_is_lot od_ends_of an_ends_of od_end_of an_end_of eD_end_of od_outs_of an_outs_of od_check_kinds an_check_kinds od_check_full an_check_full od_outs an_outs od_rank_in an_rank_in eD_rank_in od_law_well an_law_well od_law_dip an_law_dip od_law_words an_law_words od_law_ranks an_law_ranks od_law_width an_law_width od_law_group an_law_group od_law_tree an_law_tree od_law_nodes an_law_nodes od_law_made an_law_made od_law_ends an_law_ends od_law_worths an_law_worths od_law_pairs an_law_pairs od_law_right an_law_right od_law_lacks an_law_lacks od_law an_law : Option Addr} {sl_Leaf_init sl_Leaf_name sl_Leaf_width sl_Leaf_len sl_Leaf_contains sl_Leaf_eq sl_Leaf_names sl_Leaf_passes sl_Leaf__low_ends sl_Group_init sl_Group_ranks sl_Group_parts sl_Group_intake sl_Group_width sl_Group_len sl_Group_contains sl_Group_eq sl_Group_getitem sl_Group_iter sl_Group_names sl_Group_passes sl_Group__low_ends sl_Lot_init sD_Lot_init sl_Lot_getitem sl_Lot_setitem sl_Lot_contains sl_Lot_iter sl_Lot_len sl_Lot_eq sl_Lot_drop sl_Lot_names sl_Lot_pairs sl_Lacking_init sD_Lacking_init sl_is_whole sl_is_name sl_are_names sl_are_name_pairs sl_is_tree sl_is_end sl_are_parts sl_are_ranks sl_intake_of sl_names_of sl_are_leaves sl_is_lot sl_ends_of sl_end_of sD_end_of sl_outs_of sl_check_kinds sl_check_full sl_outs sl_rank_in sD_rank_in sl_law_well sl_law_dip sl_law_words sl_law_ranks sl_law_width sl_law_group sl_law_tree sl_law_nodes sl_law_made sl_law_ends sl_law_worths sl_law_pairs sl_law_right sl_law_lacks sl_law : Array (Option Value)} {r_Leaf_name r_Leaf_width r_Group_ranks r_Group_parts r_Group_intake r_Group_width xb_Lacking xu_Lacking : List Value} {nD_Lot_init nD_Lacking_init nD_end_of nD_rank_in : Nat} {xn_Lacking xq_Lacking : Str} {xs_Lacking : List Str} {xa_Lacking : Bool} {xc_Lacking : Option Bool} {x0_Lacking x1_Lacking x2_Lacking x3_Lacking x5_Lacking : Option Value} {kD0_end_of kD0_rank_in : Tok}
theorem all_mk {l : PySem.W.OpenLaw} {w : World} {fa : Addr} (X : K.In h) (G : h.Ns mainGlobals mg) (hfa : mg "law" = some (.ref fa))
    (z_len : PySem.W.nsIn K mainGlobals "len" = some none)
    (z_int : PySem.W.nsIn K mainGlobals "int" = some none)
    (z_range : PySem.W.nsIn K mainGlobals "range" = some none)
    (z_sum : PySem.W.nsIn K mainGlobals "sum" = some none)
    (z_all : PySem.W.nsIn K mainGlobals "all" = some none)
    (z_isinstance : PySem.W.nsIn K mainGlobals "isinstance" = some none)
    (z_sorted : PySem.W.nsIn K mainGlobals "sorted" = some none)
    (z_list : PySem.W.nsIn K mainGlobals "list" = some none)
    (z_tuple : PySem.W.nsIn K mainGlobals "tuple" = some none)
    (z_set : PySem.W.nsIn K mainGlobals "set" = some none)
    (z_zip : PySem.W.nsIn K mainGlobals "zip" = some none)
    (z_bool : PySem.W.nsIn K mainGlobals "bool" = some none)
    (z_str : PySem.W.nsIn K mainGlobals "str" = some none)
    (z_dict : PySem.W.nsIn K mainGlobals "dict" = some none)
    (z_TypeError : PySem.W.nsIn K mainGlobals "TypeError" = some none)
    (z_ValueError : PySem.W.nsIn K mainGlobals "ValueError" = some none)
    (g_RankError : PySem.W.nsIn K mainGlobals "RankError" = some (some (.ref a_RankError)))
    (g_InvalidName : PySem.W.nsIn K mainGlobals "InvalidName" = some (some (.ref a_InvalidName)))
    (g_InvalidNumber : PySem.W.nsIn K mainGlobals "InvalidNumber" = some (some (.ref a_InvalidNumber)))
    (g_InvalidTree : PySem.W.nsIn K mainGlobals "InvalidTree" = some (some (.ref a_InvalidTree)))
    (g_InvalidLot : PySem.W.nsIn K mainGlobals "InvalidLot" = some (some (.ref a_InvalidLot)))
    (g_InvalidList : PySem.W.nsIn K mainGlobals "InvalidList" = some (some (.ref a_InvalidList)))
    (g_Unknown : PySem.W.nsIn K mainGlobals "Unknown" = some (some (.ref a_Unknown)))
    (g_Lacking : PySem.W.nsIn K mainGlobals "Lacking" = some (some (.ref a_Lacking)))
    (g_Tree : PySem.W.nsIn K mainGlobals "Tree" = some (some (.ref a_Tree)))
    (g_Leaf : PySem.W.nsIn K mainGlobals "Leaf" = some (some (.ref a_Leaf)))
    (g_Group : PySem.W.nsIn K mainGlobals "Group" = some (some (.ref a_Group)))
    (g_Lot : PySem.W.nsIn K mainGlobals "Lot" = some (some (.ref a_Lot)))
    (at_Leaf_init : PySem.W.findIn K (.ref a_Leaf) "__init__" = some (some (.ref f_Leaf_init)))
    (i_Leaf_init : PySem.W.isFn K (.ref f_Leaf_init) = true)
    (l_Leaf_init : K.lookup f_Leaf_init = some ⟨oc_Leaf_init, od_Leaf_init, .func (PySem.W.fnOf "__init__" "Leaf.__init__" (defArgs s_Leaf_init) (defBody s_Leaf_init) (defScope s_Leaf_init) .none kV_Leaf_init dc_Leaf_init pm_Leaf_init an_Leaf_init cd_Leaf_init ct_Leaf_init), sl_Leaf_init⟩)
    (c_Leaf_init : PySem.W.codeIn K cd_Leaf_init "Leaf.__init__" = true)
    (k_Leaf_init : PySem.W.keepIn K (.ref f_Leaf_init) = true)
    (at_Leaf_name : PySem.W.findIn K (.ref a_Leaf) "name" = some (some (.ref p_Leaf_name)))
    (gt_Leaf_name : PySem.W.specialIn K (.ref p_Leaf_name) "__get__" = some (some (.builtin "property.__get__")))
    (tk_Leaf_name : PySem.W.takesIn K (.ref p_Leaf_name) = some true)
    (rc_Leaf_name : PySem.W.recIn K p_Leaf_name "property" = some (.ref f_Leaf_name :: r_Leaf_name))
    (l_Leaf_name : K.lookup f_Leaf_name = some ⟨oc_Leaf_name, od_Leaf_name, .func (PySem.W.fnOf "name" "Leaf.name" (defArgs s_Leaf_name) (defBody s_Leaf_name) (defScope s_Leaf_name) .none kV_Leaf_name dc_Leaf_name pm_Leaf_name an_Leaf_name cd_Leaf_name ct_Leaf_name), sl_Leaf_name⟩)
    (c_Leaf_name : PySem.W.codeIn K cd_Leaf_name "Leaf.name" = true)
    (k_Leaf_name : PySem.W.keepIn K (.ref f_Leaf_name) = true)
    (at_Leaf_width : PySem.W.findIn K (.ref a_Leaf) "width" = some (some (.ref p_Leaf_width)))
    (gt_Leaf_width : PySem.W.specialIn K (.ref p_Leaf_width) "__get__" = some (some (.builtin "property.__get__")))
    (tk_Leaf_width : PySem.W.takesIn K (.ref p_Leaf_width) = some true)
    (rc_Leaf_width : PySem.W.recIn K p_Leaf_width "property" = some (.ref f_Leaf_width :: r_Leaf_width))
    (l_Leaf_width : K.lookup f_Leaf_width = some ⟨oc_Leaf_width, od_Leaf_width, .func (PySem.W.fnOf "width" "Leaf.width" (defArgs s_Leaf_width) (defBody s_Leaf_width) (defScope s_Leaf_width) .none kV_Leaf_width dc_Leaf_width pm_Leaf_width an_Leaf_width cd_Leaf_width ct_Leaf_width), sl_Leaf_width⟩)
    (c_Leaf_width : PySem.W.codeIn K cd_Leaf_width "Leaf.width" = true)
    (k_Leaf_width : PySem.W.keepIn K (.ref f_Leaf_width) = true)
    (at_Leaf_len : PySem.W.findIn K (.ref a_Leaf) "__len__" = some (some (.ref f_Leaf_len)))
    (i_Leaf_len : PySem.W.isFn K (.ref f_Leaf_len) = true)
    (l_Leaf_len : K.lookup f_Leaf_len = some ⟨oc_Leaf_len, od_Leaf_len, .func (PySem.W.fnOf "__len__" "Leaf.__len__" (defArgs s_Leaf_len) (defBody s_Leaf_len) (defScope s_Leaf_len) .none kV_Leaf_len dc_Leaf_len pm_Leaf_len an_Leaf_len cd_Leaf_len ct_Leaf_len), sl_Leaf_len⟩)
    (c_Leaf_len : PySem.W.codeIn K cd_Leaf_len "Leaf.__len__" = true)
    (k_Leaf_len : PySem.W.keepIn K (.ref f_Leaf_len) = true)
    (at_Leaf_contains : PySem.W.findIn K (.ref a_Leaf) "__contains__" = some (some (.ref f_Leaf_contains)))
    (i_Leaf_contains : PySem.W.isFn K (.ref f_Leaf_contains) = true)
    (l_Leaf_contains : K.lookup f_Leaf_contains = some ⟨oc_Leaf_contains, od_Leaf_contains, .func (PySem.W.fnOf "__contains__" "Leaf.__contains__" (defArgs s_Leaf_contains) (defBody s_Leaf_contains) (defScope s_Leaf_contains) .none kV_Leaf_contains dc_Leaf_contains pm_Leaf_contains an_Leaf_contains cd_Leaf_contains ct_Leaf_contains), sl_Leaf_contains⟩)
    (c_Leaf_contains : PySem.W.codeIn K cd_Leaf_contains "Leaf.__contains__" = true)
    (k_Leaf_contains : PySem.W.keepIn K (.ref f_Leaf_contains) = true)
    (at_Leaf_eq : PySem.W.findIn K (.ref a_Leaf) "__eq__" = some (some (.ref f_Leaf_eq)))
    (i_Leaf_eq : PySem.W.isFn K (.ref f_Leaf_eq) = true)
    (l_Leaf_eq : K.lookup f_Leaf_eq = some ⟨oc_Leaf_eq, od_Leaf_eq, .func (PySem.W.fnOf "__eq__" "Leaf.__eq__" (defArgs s_Leaf_eq) (defBody s_Leaf_eq) (defScope s_Leaf_eq) .none kV_Leaf_eq dc_Leaf_eq pm_Leaf_eq an_Leaf_eq cd_Leaf_eq ct_Leaf_eq), sl_Leaf_eq⟩)
    (c_Leaf_eq : PySem.W.codeIn K cd_Leaf_eq "Leaf.__eq__" = true)
    (k_Leaf_eq : PySem.W.keepIn K (.ref f_Leaf_eq) = true)
    (at_Leaf_names : PySem.W.findIn K (.ref a_Leaf) "names" = some (some (.ref f_Leaf_names)))
    (i_Leaf_names : PySem.W.isFn K (.ref f_Leaf_names) = true)
    (l_Leaf_names : K.lookup f_Leaf_names = some ⟨oc_Leaf_names, od_Leaf_names, .func (PySem.W.fnOf "names" "Leaf.names" (defArgs s_Leaf_names) (defBody s_Leaf_names) (defScope s_Leaf_names) .none kV_Leaf_names dc_Leaf_names pm_Leaf_names an_Leaf_names cd_Leaf_names ct_Leaf_names), sl_Leaf_names⟩)
    (c_Leaf_names : PySem.W.codeIn K cd_Leaf_names "Leaf.names" = true)
    (k_Leaf_names : PySem.W.keepIn K (.ref f_Leaf_names) = true)
    (at_Leaf_passes : PySem.W.findIn K (.ref a_Leaf) "passes" = some (some (.ref f_Leaf_passes)))
    (i_Leaf_passes : PySem.W.isFn K (.ref f_Leaf_passes) = true)
    (l_Leaf_passes : K.lookup f_Leaf_passes = some ⟨oc_Leaf_passes, od_Leaf_passes, .func (PySem.W.fnOf "passes" "Leaf.passes" (defArgs s_Leaf_passes) (defBody s_Leaf_passes) (defScope s_Leaf_passes) .none kV_Leaf_passes dc_Leaf_passes pm_Leaf_passes an_Leaf_passes cd_Leaf_passes ct_Leaf_passes), sl_Leaf_passes⟩)
    (c_Leaf_passes : PySem.W.codeIn K cd_Leaf_passes "Leaf.passes" = true)
    (k_Leaf_passes : PySem.W.keepIn K (.ref f_Leaf_passes) = true)
    (at_Leaf__low_ends : PySem.W.findIn K (.ref a_Leaf) "_low_ends" = some (some (.ref f_Leaf__low_ends)))
    (i_Leaf__low_ends : PySem.W.isFn K (.ref f_Leaf__low_ends) = true)
    (l_Leaf__low_ends : K.lookup f_Leaf__low_ends = some ⟨oc_Leaf__low_ends, od_Leaf__low_ends, .func (PySem.W.fnOf "_low_ends" "Leaf._low_ends" (defArgs s_Leaf__low_ends) (defBody s_Leaf__low_ends) (defScope s_Leaf__low_ends) .none kV_Leaf__low_ends dc_Leaf__low_ends pm_Leaf__low_ends an_Leaf__low_ends cd_Leaf__low_ends ct_Leaf__low_ends), sl_Leaf__low_ends⟩)
    (c_Leaf__low_ends : PySem.W.codeIn K cd_Leaf__low_ends "Leaf._low_ends" = true)
    (k_Leaf__low_ends : PySem.W.keepIn K (.ref f_Leaf__low_ends) = true)
    (pg_Leaf : PySem.W.plainGet K a_Leaf Str.empty = true)
    (hd_Leaf : PySem.W.hasDictIn K a_Leaf = true)
    (po_Leaf : PySem.W.plainOver K a_Leaf = true)
    (sa_Leaf : PySem.W.findIn K (.ref a_Leaf) "__setattr__" = some (some (.builtin "object.__setattr__")))
    (mk_Leaf : PySem.W.makesIn K a_Leaf = true)
    (kc_Leaf : PySem.W.keepIn K (.ref a_Leaf) = true)
    (ca_Leaf : PySem.W.findIn K (.ref a_Leaf) "__class__" = some (some (.builtin "object.__class__")))
    (mo_Leaf : PySem.W.mroIn K a_Leaf (.type "object") = some true)
    (ne_Leaf : PySem.W.findIn K (.ref a_Leaf) "__ne__" = some (some (.builtin "object.__ne__")))
    (n_Leaf_name : PySem.W.findIn K (.ref a_Leaf) "_name" = some none)
    (at_Group_init : PySem.W.findIn K (.ref a_Group) "__init__" = some (some (.ref f_Group_init)))
    (i_Group_init : PySem.W.isFn K (.ref f_Group_init) = true)
    (l_Group_init : K.lookup f_Group_init = some ⟨oc_Group_init, od_Group_init, .func (PySem.W.fnOf "__init__" "Group.__init__" (defArgs s_Group_init) (defBody s_Group_init) (defScope s_Group_init) .none kV_Group_init dc_Group_init pm_Group_init an_Group_init cd_Group_init ct_Group_init), sl_Group_init⟩)
    (c_Group_init : PySem.W.codeIn K cd_Group_init "Group.__init__" = true)
    (k_Group_init : PySem.W.keepIn K (.ref f_Group_init) = true)
    (at_Group_ranks : PySem.W.findIn K (.ref a_Group) "ranks" = some (some (.ref p_Group_ranks)))
    (gt_Group_ranks : PySem.W.specialIn K (.ref p_Group_ranks) "__get__" = some (some (.builtin "property.__get__")))
    (tk_Group_ranks : PySem.W.takesIn K (.ref p_Group_ranks) = some true)
    (rc_Group_ranks : PySem.W.recIn K p_Group_ranks "property" = some (.ref f_Group_ranks :: r_Group_ranks))
    (l_Group_ranks : K.lookup f_Group_ranks = some ⟨oc_Group_ranks, od_Group_ranks, .func (PySem.W.fnOf "ranks" "Group.ranks" (defArgs s_Group_ranks) (defBody s_Group_ranks) (defScope s_Group_ranks) .none kV_Group_ranks dc_Group_ranks pm_Group_ranks an_Group_ranks cd_Group_ranks ct_Group_ranks), sl_Group_ranks⟩)
    (c_Group_ranks : PySem.W.codeIn K cd_Group_ranks "Group.ranks" = true)
    (k_Group_ranks : PySem.W.keepIn K (.ref f_Group_ranks) = true)
    (at_Group_parts : PySem.W.findIn K (.ref a_Group) "parts" = some (some (.ref p_Group_parts)))
    (gt_Group_parts : PySem.W.specialIn K (.ref p_Group_parts) "__get__" = some (some (.builtin "property.__get__")))
    (tk_Group_parts : PySem.W.takesIn K (.ref p_Group_parts) = some true)
    (rc_Group_parts : PySem.W.recIn K p_Group_parts "property" = some (.ref f_Group_parts :: r_Group_parts))
    (l_Group_parts : K.lookup f_Group_parts = some ⟨oc_Group_parts, od_Group_parts, .func (PySem.W.fnOf "parts" "Group.parts" (defArgs s_Group_parts) (defBody s_Group_parts) (defScope s_Group_parts) .none kV_Group_parts dc_Group_parts pm_Group_parts an_Group_parts cd_Group_parts ct_Group_parts), sl_Group_parts⟩)
    (c_Group_parts : PySem.W.codeIn K cd_Group_parts "Group.parts" = true)
    (k_Group_parts : PySem.W.keepIn K (.ref f_Group_parts) = true)
    (at_Group_intake : PySem.W.findIn K (.ref a_Group) "intake" = some (some (.ref p_Group_intake)))
    (gt_Group_intake : PySem.W.specialIn K (.ref p_Group_intake) "__get__" = some (some (.builtin "property.__get__")))
    (tk_Group_intake : PySem.W.takesIn K (.ref p_Group_intake) = some true)
    (rc_Group_intake : PySem.W.recIn K p_Group_intake "property" = some (.ref f_Group_intake :: r_Group_intake))
    (l_Group_intake : K.lookup f_Group_intake = some ⟨oc_Group_intake, od_Group_intake, .func (PySem.W.fnOf "intake" "Group.intake" (defArgs s_Group_intake) (defBody s_Group_intake) (defScope s_Group_intake) .none kV_Group_intake dc_Group_intake pm_Group_intake an_Group_intake cd_Group_intake ct_Group_intake), sl_Group_intake⟩)
    (c_Group_intake : PySem.W.codeIn K cd_Group_intake "Group.intake" = true)
    (k_Group_intake : PySem.W.keepIn K (.ref f_Group_intake) = true)
    (at_Group_width : PySem.W.findIn K (.ref a_Group) "width" = some (some (.ref p_Group_width)))
    (gt_Group_width : PySem.W.specialIn K (.ref p_Group_width) "__get__" = some (some (.builtin "property.__get__")))
    (tk_Group_width : PySem.W.takesIn K (.ref p_Group_width) = some true)
    (rc_Group_width : PySem.W.recIn K p_Group_width "property" = some (.ref f_Group_width :: r_Group_width))
    (l_Group_width : K.lookup f_Group_width = some ⟨oc_Group_width, od_Group_width, .func (PySem.W.fnOf "width" "Group.width" (defArgs s_Group_width) (defBody s_Group_width) (defScope s_Group_width) .none kV_Group_width dc_Group_width pm_Group_width an_Group_width cd_Group_width ct_Group_width), sl_Group_width⟩)
    (c_Group_width : PySem.W.codeIn K cd_Group_width "Group.width" = true)
    (k_Group_width : PySem.W.keepIn K (.ref f_Group_width) = true)
    (at_Group_len : PySem.W.findIn K (.ref a_Group) "__len__" = some (some (.ref f_Group_len)))
    (i_Group_len : PySem.W.isFn K (.ref f_Group_len) = true)
    (l_Group_len : K.lookup f_Group_len = some ⟨oc_Group_len, od_Group_len, .func (PySem.W.fnOf "__len__" "Group.__len__" (defArgs s_Group_len) (defBody s_Group_len) (defScope s_Group_len) .none kV_Group_len dc_Group_len pm_Group_len an_Group_len cd_Group_len ct_Group_len), sl_Group_len⟩)
    (c_Group_len : PySem.W.codeIn K cd_Group_len "Group.__len__" = true)
    (k_Group_len : PySem.W.keepIn K (.ref f_Group_len) = true)
    (at_Group_contains : PySem.W.findIn K (.ref a_Group) "__contains__" = some (some (.ref f_Group_contains)))
    (i_Group_contains : PySem.W.isFn K (.ref f_Group_contains) = true)
    (l_Group_contains : K.lookup f_Group_contains = some ⟨oc_Group_contains, od_Group_contains, .func (PySem.W.fnOf "__contains__" "Group.__contains__" (defArgs s_Group_contains) (defBody s_Group_contains) (defScope s_Group_contains) .none kV_Group_contains dc_Group_contains pm_Group_contains an_Group_contains cd_Group_contains ct_Group_contains), sl_Group_contains⟩)
    (c_Group_contains : PySem.W.codeIn K cd_Group_contains "Group.__contains__" = true)
    (k_Group_contains : PySem.W.keepIn K (.ref f_Group_contains) = true)
    (at_Group_eq : PySem.W.findIn K (.ref a_Group) "__eq__" = some (some (.ref f_Group_eq)))
    (i_Group_eq : PySem.W.isFn K (.ref f_Group_eq) = true)
    (l_Group_eq : K.lookup f_Group_eq = some ⟨oc_Group_eq, od_Group_eq, .func (PySem.W.fnOf "__eq__" "Group.__eq__" (defArgs s_Group_eq) (defBody s_Group_eq) (defScope s_Group_eq) .none kV_Group_eq dc_Group_eq pm_Group_eq an_Group_eq cd_Group_eq ct_Group_eq), sl_Group_eq⟩)
    (c_Group_eq : PySem.W.codeIn K cd_Group_eq "Group.__eq__" = true)
    (k_Group_eq : PySem.W.keepIn K (.ref f_Group_eq) = true)
    (at_Group_getitem : PySem.W.findIn K (.ref a_Group) "__getitem__" = some (some (.ref f_Group_getitem)))
    (i_Group_getitem : PySem.W.isFn K (.ref f_Group_getitem) = true)
    (l_Group_getitem : K.lookup f_Group_getitem = some ⟨oc_Group_getitem, od_Group_getitem, .func (PySem.W.fnOf "__getitem__" "Group.__getitem__" (defArgs s_Group_getitem) (defBody s_Group_getitem) (defScope s_Group_getitem) .none kV_Group_getitem dc_Group_getitem pm_Group_getitem an_Group_getitem cd_Group_getitem ct_Group_getitem), sl_Group_getitem⟩)
    (c_Group_getitem : PySem.W.codeIn K cd_Group_getitem "Group.__getitem__" = true)
    (k_Group_getitem : PySem.W.keepIn K (.ref f_Group_getitem) = true)
    (at_Group_iter : PySem.W.findIn K (.ref a_Group) "__iter__" = some (some (.ref f_Group_iter)))
    (i_Group_iter : PySem.W.isFn K (.ref f_Group_iter) = true)
    (l_Group_iter : K.lookup f_Group_iter = some ⟨oc_Group_iter, od_Group_iter, .func (PySem.W.fnOf "__iter__" "Group.__iter__" (defArgs s_Group_iter) (defBody s_Group_iter) (defScope s_Group_iter) .none kV_Group_iter dc_Group_iter pm_Group_iter an_Group_iter cd_Group_iter ct_Group_iter), sl_Group_iter⟩)
    (c_Group_iter : PySem.W.codeIn K cd_Group_iter "Group.__iter__" = true)
    (k_Group_iter : PySem.W.keepIn K (.ref f_Group_iter) = true)
    (at_Group_names : PySem.W.findIn K (.ref a_Group) "names" = some (some (.ref f_Group_names)))
    (i_Group_names : PySem.W.isFn K (.ref f_Group_names) = true)
    (l_Group_names : K.lookup f_Group_names = some ⟨oc_Group_names, od_Group_names, .func (PySem.W.fnOf "names" "Group.names" (defArgs s_Group_names) (defBody s_Group_names) (defScope s_Group_names) .none kV_Group_names dc_Group_names pm_Group_names an_Group_names cd_Group_names ct_Group_names), sl_Group_names⟩)
    (c_Group_names : PySem.W.codeIn K cd_Group_names "Group.names" = true)
    (k_Group_names : PySem.W.keepIn K (.ref f_Group_names) = true)
    (at_Group_passes : PySem.W.findIn K (.ref a_Group) "passes" = some (some (.ref f_Group_passes)))
    (i_Group_passes : PySem.W.isFn K (.ref f_Group_passes) = true)
    (l_Group_passes : K.lookup f_Group_passes = some ⟨oc_Group_passes, od_Group_passes, .func (PySem.W.fnOf "passes" "Group.passes" (defArgs s_Group_passes) (defBody s_Group_passes) (defScope s_Group_passes) .none kV_Group_passes dc_Group_passes pm_Group_passes an_Group_passes cd_Group_passes ct_Group_passes), sl_Group_passes⟩)
    (c_Group_passes : PySem.W.codeIn K cd_Group_passes "Group.passes" = true)
    (k_Group_passes : PySem.W.keepIn K (.ref f_Group_passes) = true)
    (at_Group__low_ends : PySem.W.findIn K (.ref a_Group) "_low_ends" = some (some (.ref f_Group__low_ends)))
    (i_Group__low_ends : PySem.W.isFn K (.ref f_Group__low_ends) = true)
    (l_Group__low_ends : K.lookup f_Group__low_ends = some ⟨oc_Group__low_ends, od_Group__low_ends, .func (PySem.W.fnOf "_low_ends" "Group._low_ends" (defArgs s_Group__low_ends) (defBody s_Group__low_ends) (defScope s_Group__low_ends) .none kV_Group__low_ends dc_Group__low_ends pm_Group__low_ends an_Group__low_ends cd_Group__low_ends ct_Group__low_ends), sl_Group__low_ends⟩)
    (c_Group__low_ends : PySem.W.codeIn K cd_Group__low_ends "Group._low_ends" = true)
    (k_Group__low_ends : PySem.W.keepIn K (.ref f_Group__low_ends) = true)
    (pg_Group : PySem.W.plainGet K a_Group Str.empty = true)
    (hd_Group : PySem.W.hasDictIn K a_Group = true)
    (po_Group : PySem.W.plainOver K a_Group = true)
    (sa_Group : PySem.W.findIn K (.ref a_Group) "__setattr__" = some (some (.builtin "object.__setattr__")))
    (mk_Group : PySem.W.makesIn K a_Group = true)
    (kc_Group : PySem.W.keepIn K (.ref a_Group) = true)
    (ca_Group : PySem.W.findIn K (.ref a_Group) "__class__" = some (some (.builtin "object.__class__")))
    (mo_Group : PySem.W.mroIn K a_Group (.type "object") = some true)
    (ne_Group : PySem.W.findIn K (.ref a_Group) "__ne__" = some (some (.builtin "object.__ne__")))
    (n_Group_intake : PySem.W.findIn K (.ref a_Group) "_intake" = some none)
    (n_Group_names : PySem.W.findIn K (.ref a_Group) "_names" = some none)
    (n_Group_parts : PySem.W.findIn K (.ref a_Group) "_parts" = some none)
    (n_Group_ranks : PySem.W.findIn K (.ref a_Group) "_ranks" = some none)
    (at_Lot_init : PySem.W.findIn K (.ref a_Lot) "__init__" = some (some (.ref f_Lot_init)))
    (i_Lot_init : PySem.W.isFn K (.ref f_Lot_init) = true)
    (l_Lot_init : K.lookup f_Lot_init = some ⟨oc_Lot_init, od_Lot_init, .func (PySem.W.fnOf "__init__" "Lot.__init__" (defArgs s_Lot_init) (defBody s_Lot_init) (defScope s_Lot_init) (.ref tD_Lot_init) kV_Lot_init dc_Lot_init pm_Lot_init an_Lot_init cd_Lot_init ct_Lot_init), sl_Lot_init⟩)
    (c_Lot_init : PySem.W.codeIn K cd_Lot_init "Lot.__init__" = true)
    (k_Lot_init : PySem.W.keepIn K (.ref f_Lot_init) = true)
    (dl_Lot_init : K.lookup tD_Lot_init = some ⟨oD_Lot_init, eD_Lot_init, .seq #[.none] nD_Lot_init, sD_Lot_init⟩)
    (at_Lot_getitem : PySem.W.findIn K (.ref a_Lot) "__getitem__" = some (some (.ref f_Lot_getitem)))
    (i_Lot_getitem : PySem.W.isFn K (.ref f_Lot_getitem) = true)
    (l_Lot_getitem : K.lookup f_Lot_getitem = some ⟨oc_Lot_getitem, od_Lot_getitem, .func (PySem.W.fnOf "__getitem__" "Lot.__getitem__" (defArgs s_Lot_getitem) (defBody s_Lot_getitem) (defScope s_Lot_getitem) .none kV_Lot_getitem dc_Lot_getitem pm_Lot_getitem an_Lot_getitem cd_Lot_getitem ct_Lot_getitem), sl_Lot_getitem⟩)
    (c_Lot_getitem : PySem.W.codeIn K cd_Lot_getitem "Lot.__getitem__" = true)
    (k_Lot_getitem : PySem.W.keepIn K (.ref f_Lot_getitem) = true)
    (at_Lot_setitem : PySem.W.findIn K (.ref a_Lot) "__setitem__" = some (some (.ref f_Lot_setitem)))
    (i_Lot_setitem : PySem.W.isFn K (.ref f_Lot_setitem) = true)
    (l_Lot_setitem : K.lookup f_Lot_setitem = some ⟨oc_Lot_setitem, od_Lot_setitem, .func (PySem.W.fnOf "__setitem__" "Lot.__setitem__" (defArgs s_Lot_setitem) (defBody s_Lot_setitem) (defScope s_Lot_setitem) .none kV_Lot_setitem dc_Lot_setitem pm_Lot_setitem an_Lot_setitem cd_Lot_setitem ct_Lot_setitem), sl_Lot_setitem⟩)
    (c_Lot_setitem : PySem.W.codeIn K cd_Lot_setitem "Lot.__setitem__" = true)
    (k_Lot_setitem : PySem.W.keepIn K (.ref f_Lot_setitem) = true)
    (at_Lot_contains : PySem.W.findIn K (.ref a_Lot) "__contains__" = some (some (.ref f_Lot_contains)))
    (i_Lot_contains : PySem.W.isFn K (.ref f_Lot_contains) = true)
    (l_Lot_contains : K.lookup f_Lot_contains = some ⟨oc_Lot_contains, od_Lot_contains, .func (PySem.W.fnOf "__contains__" "Lot.__contains__" (defArgs s_Lot_contains) (defBody s_Lot_contains) (defScope s_Lot_contains) .none kV_Lot_contains dc_Lot_contains pm_Lot_contains an_Lot_contains cd_Lot_contains ct_Lot_contains), sl_Lot_contains⟩)
    (c_Lot_contains : PySem.W.codeIn K cd_Lot_contains "Lot.__contains__" = true)
    (k_Lot_contains : PySem.W.keepIn K (.ref f_Lot_contains) = true)
    (at_Lot_iter : PySem.W.findIn K (.ref a_Lot) "__iter__" = some (some (.ref f_Lot_iter)))
    (i_Lot_iter : PySem.W.isFn K (.ref f_Lot_iter) = true)
    (l_Lot_iter : K.lookup f_Lot_iter = some ⟨oc_Lot_iter, od_Lot_iter, .func (PySem.W.fnOf "__iter__" "Lot.__iter__" (defArgs s_Lot_iter) (defBody s_Lot_iter) (defScope s_Lot_iter) .none kV_Lot_iter dc_Lot_iter pm_Lot_iter an_Lot_iter cd_Lot_iter ct_Lot_iter), sl_Lot_iter⟩)
    (c_Lot_iter : PySem.W.codeIn K cd_Lot_iter "Lot.__iter__" = true)
    (k_Lot_iter : PySem.W.keepIn K (.ref f_Lot_iter) = true)
    (at_Lot_len : PySem.W.findIn K (.ref a_Lot) "__len__" = some (some (.ref f_Lot_len)))
    (i_Lot_len : PySem.W.isFn K (.ref f_Lot_len) = true)
    (l_Lot_len : K.lookup f_Lot_len = some ⟨oc_Lot_len, od_Lot_len, .func (PySem.W.fnOf "__len__" "Lot.__len__" (defArgs s_Lot_len) (defBody s_Lot_len) (defScope s_Lot_len) .none kV_Lot_len dc_Lot_len pm_Lot_len an_Lot_len cd_Lot_len ct_Lot_len), sl_Lot_len⟩)
    (c_Lot_len : PySem.W.codeIn K cd_Lot_len "Lot.__len__" = true)
    (k_Lot_len : PySem.W.keepIn K (.ref f_Lot_len) = true)
    (at_Lot_eq : PySem.W.findIn K (.ref a_Lot) "__eq__" = some (some (.ref f_Lot_eq)))
    (i_Lot_eq : PySem.W.isFn K (.ref f_Lot_eq) = true)
    (l_Lot_eq : K.lookup f_Lot_eq = some ⟨oc_Lot_eq, od_Lot_eq, .func (PySem.W.fnOf "__eq__" "Lot.__eq__" (defArgs s_Lot_eq) (defBody s_Lot_eq) (defScope s_Lot_eq) .none kV_Lot_eq dc_Lot_eq pm_Lot_eq an_Lot_eq cd_Lot_eq ct_Lot_eq), sl_Lot_eq⟩)
    (c_Lot_eq : PySem.W.codeIn K cd_Lot_eq "Lot.__eq__" = true)
    (k_Lot_eq : PySem.W.keepIn K (.ref f_Lot_eq) = true)
    (at_Lot_drop : PySem.W.findIn K (.ref a_Lot) "drop" = some (some (.ref f_Lot_drop)))
    (i_Lot_drop : PySem.W.isFn K (.ref f_Lot_drop) = true)
    (l_Lot_drop : K.lookup f_Lot_drop = some ⟨oc_Lot_drop, od_Lot_drop, .func (PySem.W.fnOf "drop" "Lot.drop" (defArgs s_Lot_drop) (defBody s_Lot_drop) (defScope s_Lot_drop) .none kV_Lot_drop dc_Lot_drop pm_Lot_drop an_Lot_drop cd_Lot_drop ct_Lot_drop), sl_Lot_drop⟩)
    (c_Lot_drop : PySem.W.codeIn K cd_Lot_drop "Lot.drop" = true)
    (k_Lot_drop : PySem.W.keepIn K (.ref f_Lot_drop) = true)
    (at_Lot_names : PySem.W.findIn K (.ref a_Lot) "names" = some (some (.ref f_Lot_names)))
    (i_Lot_names : PySem.W.isFn K (.ref f_Lot_names) = true)
    (l_Lot_names : K.lookup f_Lot_names = some ⟨oc_Lot_names, od_Lot_names, .func (PySem.W.fnOf "names" "Lot.names" (defArgs s_Lot_names) (defBody s_Lot_names) (defScope s_Lot_names) .none kV_Lot_names dc_Lot_names pm_Lot_names an_Lot_names cd_Lot_names ct_Lot_names), sl_Lot_names⟩)
    (c_Lot_names : PySem.W.codeIn K cd_Lot_names "Lot.names" = true)
    (k_Lot_names : PySem.W.keepIn K (.ref f_Lot_names) = true)
    (at_Lot_pairs : PySem.W.findIn K (.ref a_Lot) "pairs" = some (some (.ref f_Lot_pairs)))
    (i_Lot_pairs : PySem.W.isFn K (.ref f_Lot_pairs) = true)
    (l_Lot_pairs : K.lookup f_Lot_pairs = some ⟨oc_Lot_pairs, od_Lot_pairs, .func (PySem.W.fnOf "pairs" "Lot.pairs" (defArgs s_Lot_pairs) (defBody s_Lot_pairs) (defScope s_Lot_pairs) .none kV_Lot_pairs dc_Lot_pairs pm_Lot_pairs an_Lot_pairs cd_Lot_pairs ct_Lot_pairs), sl_Lot_pairs⟩)
    (c_Lot_pairs : PySem.W.codeIn K cd_Lot_pairs "Lot.pairs" = true)
    (k_Lot_pairs : PySem.W.keepIn K (.ref f_Lot_pairs) = true)
    (pg_Lot : PySem.W.plainGet K a_Lot Str.empty = true)
    (hd_Lot : PySem.W.hasDictIn K a_Lot = true)
    (po_Lot : PySem.W.plainOver K a_Lot = true)
    (sa_Lot : PySem.W.findIn K (.ref a_Lot) "__setattr__" = some (some (.builtin "object.__setattr__")))
    (mk_Lot : PySem.W.makesIn K a_Lot = true)
    (kc_Lot : PySem.W.keepIn K (.ref a_Lot) = true)
    (ca_Lot : PySem.W.findIn K (.ref a_Lot) "__class__" = some (some (.builtin "object.__class__")))
    (mo_Lot : PySem.W.mroIn K a_Lot (.type "object") = some true)
    (ne_Lot : PySem.W.findIn K (.ref a_Lot) "__ne__" = some (some (.builtin "object.__ne__")))
    (n_Lot_worths : PySem.W.findIn K (.ref a_Lot) "_worths" = some none)
    (gc : PySem.W.specialIn K (.builtin "object.__class__") "__get__" = some (some (.builtin "getset_descriptor.__get__")))
    (tc : PySem.W.takesIn K (.builtin "object.__class__") = some true)
    (q_Group : PySem.W.noSeq K a_Group = true)
    (q_Lot : PySem.W.noSeq K a_Lot = true)
    (ic_Leaf : PySem.W.isClsIn K a_Leaf = true)
    (it_Leaf : PySem.W.typeIn K (.ref a_Leaf) = some (.type "type"))
    (ic_Group : PySem.W.isClsIn K a_Group = true)
    (it_Group : PySem.W.typeIn K (.ref a_Group) = some (.type "type"))
    (ic_Lot : PySem.W.isClsIn K a_Lot = true)
    (it_Lot : PySem.W.typeIn K (.ref a_Lot) = some (.type "type"))
    (dx_Leaf_Group : a_Leaf ≠ a_Group)
    (is_Leaf_Group : PySem.W.subIn K (.ref a_Leaf) (.ref a_Group) = some false)
    (dx_Leaf_Lot : a_Leaf ≠ a_Lot)
    (is_Leaf_Lot : PySem.W.subIn K (.ref a_Leaf) (.ref a_Lot) = some false)
    (is_Leaf_list : PySem.W.subIn K (.ref a_Leaf) (.type "list") = some false)
    (is_Leaf_int : PySem.W.subIn K (.ref a_Leaf) (.type "int") = some false)
    (is_Leaf_bool : PySem.W.subIn K (.ref a_Leaf) (.type "bool") = some false)
    (is_Leaf_str : PySem.W.subIn K (.ref a_Leaf) (.type "str") = some false)
    (dx_Group_Leaf : a_Group ≠ a_Leaf)
    (is_Group_Leaf : PySem.W.subIn K (.ref a_Group) (.ref a_Leaf) = some false)
    (dx_Group_Lot : a_Group ≠ a_Lot)
    (is_Group_Lot : PySem.W.subIn K (.ref a_Group) (.ref a_Lot) = some false)
    (is_Group_list : PySem.W.subIn K (.ref a_Group) (.type "list") = some false)
    (is_Group_int : PySem.W.subIn K (.ref a_Group) (.type "int") = some false)
    (is_Group_bool : PySem.W.subIn K (.ref a_Group) (.type "bool") = some false)
    (is_Group_str : PySem.W.subIn K (.ref a_Group) (.type "str") = some false)
    (dx_Lot_Leaf : a_Lot ≠ a_Leaf)
    (is_Lot_Leaf : PySem.W.subIn K (.ref a_Lot) (.ref a_Leaf) = some false)
    (dx_Lot_Group : a_Lot ≠ a_Group)
    (is_Lot_Group : PySem.W.subIn K (.ref a_Lot) (.ref a_Group) = some false)
    (is_Lot_list : PySem.W.subIn K (.ref a_Lot) (.type "list") = some false)
    (is_Lot_int : PySem.W.subIn K (.ref a_Lot) (.type "int") = some false)
    (is_Lot_bool : PySem.W.subIn K (.ref a_Lot) (.type "bool") = some false)
    (is_Lot_str : PySem.W.subIn K (.ref a_Lot) (.type "str") = some false)
    (xL_Lacking : K.lookup a_Lacking = some (excClassObj xn_Lacking xq_Lacking a_Lacking xN_Lacking xb_Lacking [.ref a_RankError, .type "ValueError", .type "Exception", .type "BaseException", .type "object"] true xs_Lacking xu_Lacking xa_Lacking xc_Lacking xd_Lacking x0_Lacking x1_Lacking x2_Lacking x3_Lacking x5_Lacking "ValueError.__new__"))
    (sa_Lacking : PySem.W.findIn K (.ref a_Lacking) "__setattr__" = some (some (.builtin "object.__setattr__")))
    (ga_Lacking : PySem.W.findIn K (.ref a_Lacking) "__getattribute__" = some (some (.builtin "BaseException.__getattribute__")))
    (gg_Lacking : PySem.W.findIn K (.ref a_Lacking) "__getattr__" = some none)
    (kc_Lacking : PySem.W.keepIn K (.ref a_Lacking) = true)
    (ex_Lacking : PySem.W.subIn K (.ref a_Lacking) (.type "BaseException") = some true)
    (ty_Lacking : PySem.W.typeIn K (.ref a_Lacking) = some (.type "type"))
    (hd_Lacking : PySem.W.hasDictIn K a_Lacking = true)
    (ic_Lacking : PySem.W.isClsIn K a_Lacking = true)
    (ss_Lacking : PySem.W.subIn K (.ref a_Lacking) (.ref a_Lacking) = some true)
    (at_Lacking_init : PySem.W.findIn K (.ref a_Lacking) "__init__" = some (some (.ref f_Lacking_init)))
    (i_Lacking_init : PySem.W.isFn K (.ref f_Lacking_init) = true)
    (l_Lacking_init : K.lookup f_Lacking_init = some ⟨oc_Lacking_init, od_Lacking_init, .func (PySem.W.fnOf "__init__" "Lacking.__init__" (defArgs s_Lacking_init) (defBody s_Lacking_init) (defScope s_Lacking_init) (.ref tD_Lacking_init) kV_Lacking_init dc_Lacking_init pm_Lacking_init an_Lacking_init cd_Lacking_init ct_Lacking_init), sl_Lacking_init⟩)
    (c_Lacking_init : PySem.W.codeIn K cd_Lacking_init "Lacking.__init__" = true)
    (k_Lacking_init : PySem.W.keepIn K (.ref f_Lacking_init) = true)
    (dl_Lacking_init : K.lookup tD_Lacking_init = some ⟨oD_Lacking_init, eD_Lacking_init, .seq #[.none] nD_Lacking_init, sD_Lacking_init⟩)
    (tf_Lacking : PySem.W.typeIn K (.ref f_Lacking_init) = some (.type "function"))
    (n_Lacking_which : PySem.W.findIn K (.ref a_Lacking) "which" = some none)
    (g_is_whole : PySem.W.nsIn K mainGlobals "is_whole" = some (some (.ref f_is_whole)))
    (l_is_whole : K.lookup f_is_whole = some ⟨oc_is_whole, od_is_whole, .func (PySem.W.fnOf "is_whole" "is_whole" (defArgs s_is_whole) (defBody s_is_whole) (defScope s_is_whole) .none kV_is_whole dc_is_whole pm_is_whole an_is_whole cd_is_whole ct_is_whole), sl_is_whole⟩)
    (c_is_whole : PySem.W.codeIn K cd_is_whole "is_whole" = true)
    (k_is_whole : PySem.W.keepIn K (.ref f_is_whole) = true)
    (g_is_name : PySem.W.nsIn K mainGlobals "is_name" = some (some (.ref f_is_name)))
    (l_is_name : K.lookup f_is_name = some ⟨oc_is_name, od_is_name, .func (PySem.W.fnOf "is_name" "is_name" (defArgs s_is_name) (defBody s_is_name) (defScope s_is_name) .none kV_is_name dc_is_name pm_is_name an_is_name cd_is_name ct_is_name), sl_is_name⟩)
    (c_is_name : PySem.W.codeIn K cd_is_name "is_name" = true)
    (k_is_name : PySem.W.keepIn K (.ref f_is_name) = true)
    (g_are_names : PySem.W.nsIn K mainGlobals "are_names" = some (some (.ref f_are_names)))
    (l_are_names : K.lookup f_are_names = some ⟨oc_are_names, od_are_names, .func (PySem.W.fnOf "are_names" "are_names" (defArgs s_are_names) (defBody s_are_names) (defScope s_are_names) .none kV_are_names dc_are_names pm_are_names an_are_names cd_are_names ct_are_names), sl_are_names⟩)
    (c_are_names : PySem.W.codeIn K cd_are_names "are_names" = true)
    (k_are_names : PySem.W.keepIn K (.ref f_are_names) = true)
    (g_are_name_pairs : PySem.W.nsIn K mainGlobals "are_name_pairs" = some (some (.ref f_are_name_pairs)))
    (l_are_name_pairs : K.lookup f_are_name_pairs = some ⟨oc_are_name_pairs, od_are_name_pairs, .func (PySem.W.fnOf "are_name_pairs" "are_name_pairs" (defArgs s_are_name_pairs) (defBody s_are_name_pairs) (defScope s_are_name_pairs) .none kV_are_name_pairs dc_are_name_pairs pm_are_name_pairs an_are_name_pairs cd_are_name_pairs ct_are_name_pairs), sl_are_name_pairs⟩)
    (c_are_name_pairs : PySem.W.codeIn K cd_are_name_pairs "are_name_pairs" = true)
    (k_are_name_pairs : PySem.W.keepIn K (.ref f_are_name_pairs) = true)
    (g_is_tree : PySem.W.nsIn K mainGlobals "is_tree" = some (some (.ref f_is_tree)))
    (l_is_tree : K.lookup f_is_tree = some ⟨oc_is_tree, od_is_tree, .func (PySem.W.fnOf "is_tree" "is_tree" (defArgs s_is_tree) (defBody s_is_tree) (defScope s_is_tree) .none kV_is_tree dc_is_tree pm_is_tree an_is_tree cd_is_tree ct_is_tree), sl_is_tree⟩)
    (c_is_tree : PySem.W.codeIn K cd_is_tree "is_tree" = true)
    (k_is_tree : PySem.W.keepIn K (.ref f_is_tree) = true)
    (g_is_end : PySem.W.nsIn K mainGlobals "is_end" = some (some (.ref f_is_end)))
    (l_is_end : K.lookup f_is_end = some ⟨oc_is_end, od_is_end, .func (PySem.W.fnOf "is_end" "is_end" (defArgs s_is_end) (defBody s_is_end) (defScope s_is_end) .none kV_is_end dc_is_end pm_is_end an_is_end cd_is_end ct_is_end), sl_is_end⟩)
    (c_is_end : PySem.W.codeIn K cd_is_end "is_end" = true)
    (k_is_end : PySem.W.keepIn K (.ref f_is_end) = true)
    (g_are_parts : PySem.W.nsIn K mainGlobals "_are_parts" = some (some (.ref f_are_parts)))
    (l_are_parts : K.lookup f_are_parts = some ⟨oc_are_parts, od_are_parts, .func (PySem.W.fnOf "_are_parts" "_are_parts" (defArgs s_are_parts) (defBody s_are_parts) (defScope s_are_parts) .none kV_are_parts dc_are_parts pm_are_parts an_are_parts cd_are_parts ct_are_parts), sl_are_parts⟩)
    (c_are_parts : PySem.W.codeIn K cd_are_parts "_are_parts" = true)
    (k_are_parts : PySem.W.keepIn K (.ref f_are_parts) = true)
    (g_are_ranks : PySem.W.nsIn K mainGlobals "_are_ranks" = some (some (.ref f_are_ranks)))
    (l_are_ranks : K.lookup f_are_ranks = some ⟨oc_are_ranks, od_are_ranks, .func (PySem.W.fnOf "_are_ranks" "_are_ranks" (defArgs s_are_ranks) (defBody s_are_ranks) (defScope s_are_ranks) .none kV_are_ranks dc_are_ranks pm_are_ranks an_are_ranks cd_are_ranks ct_are_ranks), sl_are_ranks⟩)
    (c_are_ranks : PySem.W.codeIn K cd_are_ranks "_are_ranks" = true)
    (k_are_ranks : PySem.W.keepIn K (.ref f_are_ranks) = true)
    (g_intake_of : PySem.W.nsIn K mainGlobals "_intake_of" = some (some (.ref f_intake_of)))
    (l_intake_of : K.lookup f_intake_of = some ⟨oc_intake_of, od_intake_of, .func (PySem.W.fnOf "_intake_of" "_intake_of" (defArgs s_intake_of) (defBody s_intake_of) (defScope s_intake_of) .none kV_intake_of dc_intake_of pm_intake_of an_intake_of cd_intake_of ct_intake_of), sl_intake_of⟩)
    (c_intake_of : PySem.W.codeIn K cd_intake_of "_intake_of" = true)
    (k_intake_of : PySem.W.keepIn K (.ref f_intake_of) = true)
    (g_names_of : PySem.W.nsIn K mainGlobals "_names_of" = some (some (.ref f_names_of)))
    (l_names_of : K.lookup f_names_of = some ⟨oc_names_of, od_names_of, .func (PySem.W.fnOf "_names_of" "_names_of" (defArgs s_names_of) (defBody s_names_of) (defScope s_names_of) .none kV_names_of dc_names_of pm_names_of an_names_of cd_names_of ct_names_of), sl_names_of⟩)
    (c_names_of : PySem.W.codeIn K cd_names_of "_names_of" = true)
    (k_names_of : PySem.W.keepIn K (.ref f_names_of) = true)
    (g_are_leaves : PySem.W.nsIn K mainGlobals "_are_leaves" = some (some (.ref f_are_leaves)))
    (l_are_leaves : K.lookup f_are_leaves = some ⟨oc_are_leaves, od_are_leaves, .func (PySem.W.fnOf "_are_leaves" "_are_leaves" (defArgs s_are_leaves) (defBody s_are_leaves) (defScope s_are_leaves) .none kV_are_leaves dc_are_leaves pm_are_leaves an_are_leaves cd_are_leaves ct_are_leaves), sl_are_leaves⟩)
    (c_are_leaves : PySem.W.codeIn K cd_are_leaves "_are_leaves" = true)
    (k_are_leaves : PySem.W.keepIn K (.ref f_are_leaves) = true)
    (g_is_lot : PySem.W.nsIn K mainGlobals "is_lot" = some (some (.ref f_is_lot)))
    (l_is_lot : K.lookup f_is_lot = some ⟨oc_is_lot, od_is_lot, .func (PySem.W.fnOf "is_lot" "is_lot" (defArgs s_is_lot) (defBody s_is_lot) (defScope s_is_lot) .none kV_is_lot dc_is_lot pm_is_lot an_is_lot cd_is_lot ct_is_lot), sl_is_lot⟩)
    (c_is_lot : PySem.W.codeIn K cd_is_lot "is_lot" = true)
    (k_is_lot : PySem.W.keepIn K (.ref f_is_lot) = true)
    (g_ends_of : PySem.W.nsIn K mainGlobals "ends_of" = some (some (.ref f_ends_of)))
    (l_ends_of : K.lookup f_ends_of = some ⟨oc_ends_of, od_ends_of, .func (PySem.W.fnOf "ends_of" "ends_of" (defArgs s_ends_of) (defBody s_ends_of) (defScope s_ends_of) .none kV_ends_of dc_ends_of pm_ends_of an_ends_of cd_ends_of ct_ends_of), sl_ends_of⟩)
    (c_ends_of : PySem.W.codeIn K cd_ends_of "ends_of" = true)
    (k_ends_of : PySem.W.keepIn K (.ref f_ends_of) = true)
    (g_end_of : PySem.W.nsIn K mainGlobals "end_of" = some (some (.ref f_end_of)))
    (l_end_of : K.lookup f_end_of = some ⟨oc_end_of, od_end_of, .func (PySem.W.fnOf "end_of" "end_of" (defArgs s_end_of) (defBody s_end_of) (defScope s_end_of) (.ref tD_end_of) kV_end_of dc_end_of pm_end_of an_end_of cd_end_of ct_end_of), sl_end_of⟩)
    (c_end_of : PySem.W.codeIn K cd_end_of "end_of" = true)
    (k_end_of : PySem.W.keepIn K (.ref f_end_of) = true)
    (dl_end_of : K.lookup tD_end_of = some ⟨oD_end_of, eD_end_of, .seq #[(.int 1 kD0_end_of)] nD_end_of, sD_end_of⟩)
    (g_outs_of : PySem.W.nsIn K mainGlobals "outs_of" = some (some (.ref f_outs_of)))
    (l_outs_of : K.lookup f_outs_of = some ⟨oc_outs_of, od_outs_of, .func (PySem.W.fnOf "outs_of" "outs_of" (defArgs s_outs_of) (defBody s_outs_of) (defScope s_outs_of) .none kV_outs_of dc_outs_of pm_outs_of an_outs_of cd_outs_of ct_outs_of), sl_outs_of⟩)
    (c_outs_of : PySem.W.codeIn K cd_outs_of "outs_of" = true)
    (k_outs_of : PySem.W.keepIn K (.ref f_outs_of) = true)
    (g_check_kinds : PySem.W.nsIn K mainGlobals "check_kinds" = some (some (.ref f_check_kinds)))
    (l_check_kinds : K.lookup f_check_kinds = some ⟨oc_check_kinds, od_check_kinds, .func (PySem.W.fnOf "check_kinds" "check_kinds" (defArgs s_check_kinds) (defBody s_check_kinds) (defScope s_check_kinds) .none kV_check_kinds dc_check_kinds pm_check_kinds an_check_kinds cd_check_kinds ct_check_kinds), sl_check_kinds⟩)
    (c_check_kinds : PySem.W.codeIn K cd_check_kinds "check_kinds" = true)
    (k_check_kinds : PySem.W.keepIn K (.ref f_check_kinds) = true)
    (g_check_full : PySem.W.nsIn K mainGlobals "check_full" = some (some (.ref f_check_full)))
    (l_check_full : K.lookup f_check_full = some ⟨oc_check_full, od_check_full, .func (PySem.W.fnOf "check_full" "check_full" (defArgs s_check_full) (defBody s_check_full) (defScope s_check_full) .none kV_check_full dc_check_full pm_check_full an_check_full cd_check_full ct_check_full), sl_check_full⟩)
    (c_check_full : PySem.W.codeIn K cd_check_full "check_full" = true)
    (k_check_full : PySem.W.keepIn K (.ref f_check_full) = true)
    (g_outs : PySem.W.nsIn K mainGlobals "_outs" = some (some (.ref f_outs)))
    (l_outs : K.lookup f_outs = some ⟨oc_outs, od_outs, .func (PySem.W.fnOf "_outs" "_outs" (defArgs s_outs) (defBody s_outs) (defScope s_outs) .none kV_outs dc_outs pm_outs an_outs cd_outs ct_outs), sl_outs⟩)
    (c_outs : PySem.W.codeIn K cd_outs "_outs" = true)
    (k_outs : PySem.W.keepIn K (.ref f_outs) = true)
    (g_rank_in : PySem.W.nsIn K mainGlobals "rank_in" = some (some (.ref f_rank_in)))
    (l_rank_in : K.lookup f_rank_in = some ⟨oc_rank_in, od_rank_in, .func (PySem.W.fnOf "rank_in" "rank_in" (defArgs s_rank_in) (defBody s_rank_in) (defScope s_rank_in) (.ref tD_rank_in) kV_rank_in dc_rank_in pm_rank_in an_rank_in cd_rank_in ct_rank_in), sl_rank_in⟩)
    (c_rank_in : PySem.W.codeIn K cd_rank_in "rank_in" = true)
    (k_rank_in : PySem.W.keepIn K (.ref f_rank_in) = true)
    (dl_rank_in : K.lookup tD_rank_in = some ⟨oD_rank_in, eD_rank_in, .seq #[(.int 1 kD0_rank_in)] nD_rank_in, sD_rank_in⟩)
    (g_law_well : PySem.W.nsIn K mainGlobals "_law_well" = some (some (.ref f_law_well)))
    (l_law_well : K.lookup f_law_well = some ⟨oc_law_well, od_law_well, .func (PySem.W.fnOf "_law_well" "_law_well" (defArgs s_law_well) (defBody s_law_well) (defScope s_law_well) .none kV_law_well dc_law_well pm_law_well an_law_well cd_law_well ct_law_well), sl_law_well⟩)
    (c_law_well : PySem.W.codeIn K cd_law_well "_law_well" = true)
    (k_law_well : PySem.W.keepIn K (.ref f_law_well) = true)
    (g_law_dip : PySem.W.nsIn K mainGlobals "_law_dip" = some (some (.ref f_law_dip)))
    (l_law_dip : K.lookup f_law_dip = some ⟨oc_law_dip, od_law_dip, .func (PySem.W.fnOf "_law_dip" "_law_dip" (defArgs s_law_dip) (defBody s_law_dip) (defScope s_law_dip) .none kV_law_dip dc_law_dip pm_law_dip an_law_dip cd_law_dip ct_law_dip), sl_law_dip⟩)
    (c_law_dip : PySem.W.codeIn K cd_law_dip "_law_dip" = true)
    (k_law_dip : PySem.W.keepIn K (.ref f_law_dip) = true)
    (g_law_words : PySem.W.nsIn K mainGlobals "_law_words" = some (some (.ref f_law_words)))
    (l_law_words : K.lookup f_law_words = some ⟨oc_law_words, od_law_words, .func (PySem.W.fnOf "_law_words" "_law_words" (defArgs s_law_words) (defBody s_law_words) (defScope s_law_words) .none kV_law_words dc_law_words pm_law_words an_law_words cd_law_words ct_law_words), sl_law_words⟩)
    (c_law_words : PySem.W.codeIn K cd_law_words "_law_words" = true)
    (k_law_words : PySem.W.keepIn K (.ref f_law_words) = true)
    (g_law_ranks : PySem.W.nsIn K mainGlobals "_law_ranks" = some (some (.ref f_law_ranks)))
    (l_law_ranks : K.lookup f_law_ranks = some ⟨oc_law_ranks, od_law_ranks, .func (PySem.W.fnOf "_law_ranks" "_law_ranks" (defArgs s_law_ranks) (defBody s_law_ranks) (defScope s_law_ranks) .none kV_law_ranks dc_law_ranks pm_law_ranks an_law_ranks cd_law_ranks ct_law_ranks), sl_law_ranks⟩)
    (c_law_ranks : PySem.W.codeIn K cd_law_ranks "_law_ranks" = true)
    (k_law_ranks : PySem.W.keepIn K (.ref f_law_ranks) = true)
    (g_law_width : PySem.W.nsIn K mainGlobals "_law_width" = some (some (.ref f_law_width)))
    (l_law_width : K.lookup f_law_width = some ⟨oc_law_width, od_law_width, .func (PySem.W.fnOf "_law_width" "_law_width" (defArgs s_law_width) (defBody s_law_width) (defScope s_law_width) .none kV_law_width dc_law_width pm_law_width an_law_width cd_law_width ct_law_width), sl_law_width⟩)
    (c_law_width : PySem.W.codeIn K cd_law_width "_law_width" = true)
    (k_law_width : PySem.W.keepIn K (.ref f_law_width) = true)
    (g_law_group : PySem.W.nsIn K mainGlobals "_law_group" = some (some (.ref f_law_group)))
    (l_law_group : K.lookup f_law_group = some ⟨oc_law_group, od_law_group, .func (PySem.W.fnOf "_law_group" "_law_group" (defArgs s_law_group) (defBody s_law_group) (defScope s_law_group) .none kV_law_group dc_law_group pm_law_group an_law_group cd_law_group ct_law_group), sl_law_group⟩)
    (c_law_group : PySem.W.codeIn K cd_law_group "_law_group" = true)
    (k_law_group : PySem.W.keepIn K (.ref f_law_group) = true)
    (g_law_tree : PySem.W.nsIn K mainGlobals "_law_tree" = some (some (.ref f_law_tree)))
    (l_law_tree : K.lookup f_law_tree = some ⟨oc_law_tree, od_law_tree, .func (PySem.W.fnOf "_law_tree" "_law_tree" (defArgs s_law_tree) (defBody s_law_tree) (defScope s_law_tree) .none kV_law_tree dc_law_tree pm_law_tree an_law_tree cd_law_tree ct_law_tree), sl_law_tree⟩)
    (c_law_tree : PySem.W.codeIn K cd_law_tree "_law_tree" = true)
    (k_law_tree : PySem.W.keepIn K (.ref f_law_tree) = true)
    (g_law_nodes : PySem.W.nsIn K mainGlobals "_law_nodes" = some (some (.ref f_law_nodes)))
    (l_law_nodes : K.lookup f_law_nodes = some ⟨oc_law_nodes, od_law_nodes, .func (PySem.W.fnOf "_law_nodes" "_law_nodes" (defArgs s_law_nodes) (defBody s_law_nodes) (defScope s_law_nodes) .none kV_law_nodes dc_law_nodes pm_law_nodes an_law_nodes cd_law_nodes ct_law_nodes), sl_law_nodes⟩)
    (c_law_nodes : PySem.W.codeIn K cd_law_nodes "_law_nodes" = true)
    (k_law_nodes : PySem.W.keepIn K (.ref f_law_nodes) = true)
    (g_law_made : PySem.W.nsIn K mainGlobals "_law_made" = some (some (.ref f_law_made)))
    (l_law_made : K.lookup f_law_made = some ⟨oc_law_made, od_law_made, .func (PySem.W.fnOf "_law_made" "_law_made" (defArgs s_law_made) (defBody s_law_made) (defScope s_law_made) .none kV_law_made dc_law_made pm_law_made an_law_made cd_law_made ct_law_made), sl_law_made⟩)
    (c_law_made : PySem.W.codeIn K cd_law_made "_law_made" = true)
    (k_law_made : PySem.W.keepIn K (.ref f_law_made) = true)
    (g_law_ends : PySem.W.nsIn K mainGlobals "_law_ends" = some (some (.ref f_law_ends)))
    (l_law_ends : K.lookup f_law_ends = some ⟨oc_law_ends, od_law_ends, .func (PySem.W.fnOf "_law_ends" "_law_ends" (defArgs s_law_ends) (defBody s_law_ends) (defScope s_law_ends) .none kV_law_ends dc_law_ends pm_law_ends an_law_ends cd_law_ends ct_law_ends), sl_law_ends⟩)
    (c_law_ends : PySem.W.codeIn K cd_law_ends "_law_ends" = true)
    (k_law_ends : PySem.W.keepIn K (.ref f_law_ends) = true)
    (g_law_worths : PySem.W.nsIn K mainGlobals "_law_worths" = some (some (.ref f_law_worths)))
    (l_law_worths : K.lookup f_law_worths = some ⟨oc_law_worths, od_law_worths, .func (PySem.W.fnOf "_law_worths" "_law_worths" (defArgs s_law_worths) (defBody s_law_worths) (defScope s_law_worths) .none kV_law_worths dc_law_worths pm_law_worths an_law_worths cd_law_worths ct_law_worths), sl_law_worths⟩)
    (c_law_worths : PySem.W.codeIn K cd_law_worths "_law_worths" = true)
    (k_law_worths : PySem.W.keepIn K (.ref f_law_worths) = true)
    (g_law_pairs : PySem.W.nsIn K mainGlobals "_law_pairs" = some (some (.ref f_law_pairs)))
    (l_law_pairs : K.lookup f_law_pairs = some ⟨oc_law_pairs, od_law_pairs, .func (PySem.W.fnOf "_law_pairs" "_law_pairs" (defArgs s_law_pairs) (defBody s_law_pairs) (defScope s_law_pairs) .none kV_law_pairs dc_law_pairs pm_law_pairs an_law_pairs cd_law_pairs ct_law_pairs), sl_law_pairs⟩)
    (c_law_pairs : PySem.W.codeIn K cd_law_pairs "_law_pairs" = true)
    (k_law_pairs : PySem.W.keepIn K (.ref f_law_pairs) = true)
    (g_law_right : PySem.W.nsIn K mainGlobals "_law_right" = some (some (.ref f_law_right)))
    (l_law_right : K.lookup f_law_right = some ⟨oc_law_right, od_law_right, .func (PySem.W.fnOf "_law_right" "_law_right" (defArgs s_law_right) (defBody s_law_right) (defScope s_law_right) .none kV_law_right dc_law_right pm_law_right an_law_right cd_law_right ct_law_right), sl_law_right⟩)
    (c_law_right : PySem.W.codeIn K cd_law_right "_law_right" = true)
    (k_law_right : PySem.W.keepIn K (.ref f_law_right) = true)
    (g_law_lacks : PySem.W.nsIn K mainGlobals "_law_lacks" = some (some (.ref f_law_lacks)))
    (l_law_lacks : K.lookup f_law_lacks = some ⟨oc_law_lacks, od_law_lacks, .func (PySem.W.fnOf "_law_lacks" "_law_lacks" (defArgs s_law_lacks) (defBody s_law_lacks) (defScope s_law_lacks) .none kV_law_lacks dc_law_lacks pm_law_lacks an_law_lacks cd_law_lacks ct_law_lacks), sl_law_lacks⟩)
    (c_law_lacks : PySem.W.codeIn K cd_law_lacks "_law_lacks" = true)
    (k_law_lacks : PySem.W.keepIn K (.ref f_law_lacks) = true)
    (g_law : PySem.W.nsIn K mainGlobals "law" = some (some (.ref f_law)))
    (l_law : K.lookup f_law = some ⟨oc_law, od_law, .func (PySem.W.fnOf "law" "law" (defArgs s_law) (defBody s_law) (defScope s_law) .none kV_law dc_law pm_law an_law cd_law ct_law), sl_law⟩)
    (c_law : PySem.W.codeIn K cd_law "law" = true)
    (k_law : PySem.W.keepIn K (.ref f_law) = true)
    : ∃ fd : FuncData, (∀ (s : Shared) (v : Value), BindsTo s fd ⟨[v], []⟩ [("script", v)]) ∧ ∀ base : Heap, K.In base → base.Ns mainGlobals mg → FnOk l.prog w K mg base CX0 18 fa fd ["script"] (spLaw K) := by
  cases hfa.symm.trans (PySem.W.mg_of X G g_law)
  exact ⟨_, fun s v => .of_eq rfl, fun base _ _ => ok_law (Txt.mk_ X G z_len z_int z_range z_sum z_all z_isinstance z_sorted z_list z_tuple z_set z_zip z_bool z_str z_dict z_TypeError z_ValueError g_RankError g_InvalidName g_InvalidNumber g_InvalidTree g_InvalidLot g_InvalidList g_Unknown g_Lacking g_Tree g_Leaf g_Group g_Lot at_Leaf_init i_Leaf_init l_Leaf_init c_Leaf_init k_Leaf_init at_Leaf_name gt_Leaf_name tk_Leaf_name rc_Leaf_name l_Leaf_name c_Leaf_name k_Leaf_name at_Leaf_width gt_Leaf_width tk_Leaf_width rc_Leaf_width l_Leaf_width c_Leaf_width k_Leaf_width at_Leaf_len i_Leaf_len l_Leaf_len c_Leaf_len k_Leaf_len at_Leaf_contains i_Leaf_contains l_Leaf_contains c_Leaf_contains k_Leaf_contains at_Leaf_eq i_Leaf_eq l_Leaf_eq c_Leaf_eq k_Leaf_eq at_Leaf_names i_Leaf_names l_Leaf_names c_Leaf_names k_Leaf_names at_Leaf_passes i_Leaf_passes l_Leaf_passes c_Leaf_passes k_Leaf_passes at_Leaf__low_ends i_Leaf__low_ends l_Leaf__low_ends c_Leaf__low_ends k_Leaf__low_ends pg_Leaf hd_Leaf po_Leaf sa_Leaf mk_Leaf kc_Leaf ca_Leaf mo_Leaf ne_Leaf n_Leaf_name at_Group_init i_Group_init l_Group_init c_Group_init k_Group_init at_Group_ranks gt_Group_ranks tk_Group_ranks rc_Group_ranks l_Group_ranks c_Group_ranks k_Group_ranks at_Group_parts gt_Group_parts tk_Group_parts rc_Group_parts l_Group_parts c_Group_parts k_Group_parts at_Group_intake gt_Group_intake tk_Group_intake rc_Group_intake l_Group_intake c_Group_intake k_Group_intake at_Group_width gt_Group_width tk_Group_width rc_Group_width l_Group_width c_Group_width k_Group_width at_Group_len i_Group_len l_Group_len c_Group_len k_Group_len at_Group_contains i_Group_contains l_Group_contains c_Group_contains k_Group_contains at_Group_eq i_Group_eq l_Group_eq c_Group_eq k_Group_eq at_Group_getitem i_Group_getitem l_Group_getitem c_Group_getitem k_Group_getitem at_Group_iter i_Group_iter l_Group_iter c_Group_iter k_Group_iter at_Group_names i_Group_names l_Group_names c_Group_names k_Group_names at_Group_passes i_Group_passes l_Group_passes c_Group_passes k_Group_passes at_Group__low_ends i_Group__low_ends l_Group__low_ends c_Group__low_ends k_Group__low_ends pg_Group hd_Group po_Group sa_Group mk_Group kc_Group ca_Group mo_Group ne_Group n_Group_intake n_Group_names n_Group_parts n_Group_ranks at_Lot_init i_Lot_init l_Lot_init c_Lot_init k_Lot_init dl_Lot_init at_Lot_getitem i_Lot_getitem l_Lot_getitem c_Lot_getitem k_Lot_getitem at_Lot_setitem i_Lot_setitem l_Lot_setitem c_Lot_setitem k_Lot_setitem at_Lot_contains i_Lot_contains l_Lot_contains c_Lot_contains k_Lot_contains at_Lot_iter i_Lot_iter l_Lot_iter c_Lot_iter k_Lot_iter at_Lot_len i_Lot_len l_Lot_len c_Lot_len k_Lot_len at_Lot_eq i_Lot_eq l_Lot_eq c_Lot_eq k_Lot_eq at_Lot_drop i_Lot_drop l_Lot_drop c_Lot_drop k_Lot_drop at_Lot_names i_Lot_names l_Lot_names c_Lot_names k_Lot_names at_Lot_pairs i_Lot_pairs l_Lot_pairs c_Lot_pairs k_Lot_pairs pg_Lot hd_Lot po_Lot sa_Lot mk_Lot kc_Lot ca_Lot mo_Lot ne_Lot n_Lot_worths gc tc q_Group q_Lot ic_Leaf it_Leaf ic_Group it_Group ic_Lot it_Lot dx_Leaf_Group is_Leaf_Group dx_Leaf_Lot is_Leaf_Lot is_Leaf_list is_Leaf_int is_Leaf_bool is_Leaf_str dx_Group_Leaf is_Group_Leaf dx_Group_Lot is_Group_Lot is_Group_list is_Group_int is_Group_bool is_Group_str dx_Lot_Leaf is_Lot_Leaf dx_Lot_Group is_Lot_Group is_Lot_list is_Lot_int is_Lot_bool is_Lot_str xL_Lacking sa_Lacking ga_Lacking gg_Lacking kc_Lacking ex_Lacking ty_Lacking hd_Lacking ic_Lacking ss_Lacking at_Lacking_init i_Lacking_init l_Lacking_init c_Lacking_init k_Lacking_init dl_Lacking_init tf_Lacking n_Lacking_which g_is_whole l_is_whole c_is_whole k_is_whole g_is_name l_is_name c_is_name k_is_name g_are_names l_are_names c_are_names k_are_names g_are_name_pairs l_are_name_pairs c_are_name_pairs k_are_name_pairs g_is_tree l_is_tree c_is_tree k_is_tree g_is_end l_is_end c_is_end k_is_end g_are_parts l_are_parts c_are_parts k_are_parts g_are_ranks l_are_ranks c_are_ranks k_are_ranks g_intake_of l_intake_of c_intake_of k_intake_of g_names_of l_names_of c_names_of k_names_of g_are_leaves l_are_leaves c_are_leaves k_are_leaves g_is_lot l_is_lot c_is_lot k_is_lot g_ends_of l_ends_of c_ends_of k_ends_of g_end_of l_end_of c_end_of k_end_of dl_end_of g_outs_of l_outs_of c_outs_of k_outs_of g_check_kinds l_check_kinds c_check_kinds k_check_kinds g_check_full l_check_full c_check_full k_check_full g_outs l_outs c_outs k_outs g_rank_in l_rank_in c_rank_in k_rank_in dl_rank_in g_law_well l_law_well c_law_well k_law_well g_law_dip l_law_dip c_law_dip k_law_dip g_law_words l_law_words c_law_words k_law_words g_law_ranks l_law_ranks c_law_ranks k_law_ranks g_law_width l_law_width c_law_width k_law_width g_law_group l_law_group c_law_group k_law_group g_law_tree l_law_tree c_law_tree k_law_tree g_law_nodes l_law_nodes c_law_nodes k_law_nodes g_law_made l_law_made c_law_made k_law_made g_law_ends l_law_ends c_law_ends k_law_ends g_law_worths l_law_worths c_law_worths k_law_worths g_law_pairs l_law_pairs c_law_pairs k_law_pairs g_law_right l_law_right c_law_right k_law_right g_law_lacks l_law_lacks c_law_lacks k_law_lacks g_law l_law c_law k_law)⟩
end
end Rk
open PySem PySem.W PyProof.Rows
set_option maxRecDepth 100000 in
set_option maxHeartbeats 0 in
theorem PySem.Challenge.cw_rankpicks_k13_ends_of_trees_holds : PySem.Challenge.rw_rankpicks_k13_ends_of_trees.Holds := by
  w_on; o_law; k_head; (case hw => w_witness2)
  k_fill
  refine L2.walk_of (l := PySem.Challenge.rw_rankpicks_k13_ends_of_trees) (n := 63) (k := 18) (x := "script") (CX := fun _ => L2.CX0) (sp := fun w => Rk.spLaw _) rfl (by decide) rfl ⟨rfl, by decide, by decide⟩ (fun w h Y => PySem.W.kIn_of Y) ?F (fun _ _ a ns hl _ hS => ⟨a, ns, rfl, hS, hl, fun _ => rfl⟩) fun _ _ _ _ _ z => z
  case F =>
    intro w mg fa h KX G hmg
    refine' Rk.all_mk KX G hmg ?z_len ?z_int ?z_range ?z_sum ?z_all ?z_isinstance ?z_sorted ?z_list ?z_tuple ?z_set ?z_zip ?z_bool ?z_str ?z_dict ?z_TypeError ?z_ValueError ?g_RankError ?g_InvalidName ?g_InvalidNumber ?g_InvalidTree ?g_InvalidLot ?g_InvalidList ?g_Unknown ?g_Lacking ?g_Tree ?g_Leaf ?g_Group ?g_Lot ?at_Leaf_init ?i_Leaf_init ?l_Leaf_init ?c_Leaf_init ?k_Leaf_init ?at_Leaf_name ?gt_Leaf_name ?tk_Leaf_name ?rc_Leaf_name ?l_Leaf_name ?c_Leaf_name ?k_Leaf_name ?at_Leaf_width ?gt_Leaf_width ?tk_Leaf_width ?rc_Leaf_width ?l_Leaf_width ?c_Leaf_width ?k_Leaf_width ?at_Leaf_len ?i_Leaf_len ?l_Leaf_len ?c_Leaf_len ?k_Leaf_len ?at_Leaf_contains ?i_Leaf_contains ?l_Leaf_contains ?c_Leaf_contains ?k_Leaf_contains ?at_Leaf_eq ?i_Leaf_eq ?l_Leaf_eq ?c_Leaf_eq ?k_Leaf_eq ?at_Leaf_names ?i_Leaf_names ?l_Leaf_names ?c_Leaf_names ?k_Leaf_names ?at_Leaf_passes ?i_Leaf_passes ?l_Leaf_passes ?c_Leaf_passes ?k_Leaf_passes ?at_Leaf__low_ends ?i_Leaf__low_ends ?l_Leaf__low_ends ?c_Leaf__low_ends ?k_Leaf__low_ends ?pg_Leaf ?hd_Leaf ?po_Leaf ?sa_Leaf ?mk_Leaf ?kc_Leaf ?ca_Leaf ?mo_Leaf ?ne_Leaf ?n_Leaf_name ?at_Group_init ?i_Group_init ?l_Group_init ?c_Group_init ?k_Group_init ?at_Group_ranks ?gt_Group_ranks ?tk_Group_ranks ?rc_Group_ranks ?l_Group_ranks ?c_Group_ranks ?k_Group_ranks ?at_Group_parts ?gt_Group_parts ?tk_Group_parts ?rc_Group_parts ?l_Group_parts ?c_Group_parts ?k_Group_parts ?at_Group_intake ?gt_Group_intake ?tk_Group_intake ?rc_Group_intake ?l_Group_intake ?c_Group_intake ?k_Group_intake ?at_Group_width ?gt_Group_width ?tk_Group_width ?rc_Group_width ?l_Group_width ?c_Group_width ?k_Group_width ?at_Group_len ?i_Group_len ?l_Group_len ?c_Group_len ?k_Group_len ?at_Group_contains ?i_Group_contains ?l_Group_contains ?c_Group_contains ?k_Group_contains ?at_Group_eq ?i_Group_eq ?l_Group_eq ?c_Group_eq ?k_Group_eq ?at_Group_getitem ?i_Group_getitem ?l_Group_getitem ?c_Group_getitem ?k_Group_getitem ?at_Group_iter ?i_Group_iter ?l_Group_iter ?c_Group_iter ?k_Group_iter ?at_Group_names ?i_Group_names ?l_Group_names ?c_Group_names ?k_Group_names ?at_Group_passes ?i_Group_passes ?l_Group_passes ?c_Group_passes ?k_Group_passes ?at_Group__low_ends ?i_Group__low_ends ?l_Group__low_ends ?c_Group__low_ends ?k_Group__low_ends ?pg_Group ?hd_Group ?po_Group ?sa_Group ?mk_Group ?kc_Group ?ca_Group ?mo_Group ?ne_Group ?n_Group_intake ?n_Group_names ?n_Group_parts ?n_Group_ranks ?at_Lot_init ?i_Lot_init ?l_Lot_init ?c_Lot_init ?k_Lot_init ?dl_Lot_init ?at_Lot_getitem ?i_Lot_getitem ?l_Lot_getitem ?c_Lot_getitem ?k_Lot_getitem ?at_Lot_setitem ?i_Lot_setitem ?l_Lot_setitem ?c_Lot_setitem ?k_Lot_setitem ?at_Lot_contains ?i_Lot_contains ?l_Lot_contains ?c_Lot_contains ?k_Lot_contains ?at_Lot_iter ?i_Lot_iter ?l_Lot_iter ?c_Lot_iter ?k_Lot_iter ?at_Lot_len ?i_Lot_len ?l_Lot_len ?c_Lot_len ?k_Lot_len ?at_Lot_eq ?i_Lot_eq ?l_Lot_eq ?c_Lot_eq ?k_Lot_eq ?at_Lot_drop ?i_Lot_drop ?l_Lot_drop ?c_Lot_drop ?k_Lot_drop ?at_Lot_names ?i_Lot_names ?l_Lot_names ?c_Lot_names ?k_Lot_names ?at_Lot_pairs ?i_Lot_pairs ?l_Lot_pairs ?c_Lot_pairs ?k_Lot_pairs ?pg_Lot ?hd_Lot ?po_Lot ?sa_Lot ?mk_Lot ?kc_Lot ?ca_Lot ?mo_Lot ?ne_Lot ?n_Lot_worths ?gc ?tc ?q_Group ?q_Lot ?ic_Leaf ?it_Leaf ?ic_Group ?it_Group ?ic_Lot ?it_Lot ?dx_Leaf_Group ?is_Leaf_Group ?dx_Leaf_Lot ?is_Leaf_Lot ?is_Leaf_list ?is_Leaf_int ?is_Leaf_bool ?is_Leaf_str ?dx_Group_Leaf ?is_Group_Leaf ?dx_Group_Lot ?is_Group_Lot ?is_Group_list ?is_Group_int ?is_Group_bool ?is_Group_str ?dx_Lot_Leaf ?is_Lot_Leaf ?dx_Lot_Group ?is_Lot_Group ?is_Lot_list ?is_Lot_int ?is_Lot_bool ?is_Lot_str ?xL_Lacking ?sa_Lacking ?ga_Lacking ?gg_Lacking ?kc_Lacking ?ex_Lacking ?ty_Lacking ?hd_Lacking ?ic_Lacking ?ss_Lacking ?at_Lacking_init ?i_Lacking_init ?l_Lacking_init ?c_Lacking_init ?k_Lacking_init ?dl_Lacking_init ?tf_Lacking ?n_Lacking_which ?g_is_whole ?l_is_whole ?c_is_whole ?k_is_whole ?g_is_name ?l_is_name ?c_is_name ?k_is_name ?g_are_names ?l_are_names ?c_are_names ?k_are_names ?g_are_name_pairs ?l_are_name_pairs ?c_are_name_pairs ?k_are_name_pairs ?g_is_tree ?l_is_tree ?c_is_tree ?k_is_tree ?g_is_end ?l_is_end ?c_is_end ?k_is_end ?g_are_parts ?l_are_parts ?c_are_parts ?k_are_parts ?g_are_ranks ?l_are_ranks ?c_are_ranks ?k_are_ranks ?g_intake_of ?l_intake_of ?c_intake_of ?k_intake_of ?g_names_of ?l_names_of ?c_names_of ?k_names_of ?g_are_leaves ?l_are_leaves ?c_are_leaves ?k_are_leaves ?g_is_lot ?l_is_lot ?c_is_lot ?k_is_lot ?g_ends_of ?l_ends_of ?c_ends_of ?k_ends_of ?g_end_of ?l_end_of ?c_end_of ?k_end_of ?dl_end_of ?g_outs_of ?l_outs_of ?c_outs_of ?k_outs_of ?g_check_kinds ?l_check_kinds ?c_check_kinds ?k_check_kinds ?g_check_full ?l_check_full ?c_check_full ?k_check_full ?g_outs ?l_outs ?c_outs ?k_outs ?g_rank_in ?l_rank_in ?c_rank_in ?k_rank_in ?dl_rank_in ?g_law_well ?l_law_well ?c_law_well ?k_law_well ?g_law_dip ?l_law_dip ?c_law_dip ?k_law_dip ?g_law_words ?l_law_words ?c_law_words ?k_law_words ?g_law_ranks ?l_law_ranks ?c_law_ranks ?k_law_ranks ?g_law_width ?l_law_width ?c_law_width ?k_law_width ?g_law_group ?l_law_group ?c_law_group ?k_law_group ?g_law_tree ?l_law_tree ?c_law_tree ?k_law_tree ?g_law_nodes ?l_law_nodes ?c_law_nodes ?k_law_nodes ?g_law_made ?l_law_made ?c_law_made ?k_law_made ?g_law_ends ?l_law_ends ?c_law_ends ?k_law_ends ?g_law_worths ?l_law_worths ?c_law_worths ?k_law_worths ?g_law_pairs ?l_law_pairs ?c_law_pairs ?k_law_pairs ?g_law_right ?l_law_right ?c_law_right ?k_law_right ?g_law_lacks ?l_law_lacks ?c_law_lacks ?k_law_lacks ?g_law ?l_law ?c_law ?k_law
    (case z_len => k_is)
    (case z_int => k_is)
    (case z_range => k_is)
    (case z_sum => k_is)
    (case z_all => k_is)
    (case z_isinstance => k_is)
    (case z_sorted => k_is)
    (case z_list => k_is)
    (case z_tuple => k_is)
    (case z_set => k_is)
    (case z_zip => k_is)
    (case z_bool => k_is)
    (case z_str => k_is)
    (case z_dict => k_is)
    (case z_TypeError => k_is)
    (case z_ValueError => k_is)
    (case g_RankError => k_is)
    (case g_InvalidName => k_is)
    (case g_InvalidNumber => k_is)
    (case g_InvalidTree => k_is)
    (case g_InvalidLot => k_is)
    (case g_InvalidList => k_is)
    (case g_Unknown => k_is)
    (case g_Lacking => k_is)
    (case g_Tree => k_is)
    (case g_Leaf => k_is)
    (case g_Group => k_is)
    (case g_Lot => k_is)
    (case at_Leaf_init => k_is)
    (case i_Leaf_init => k_is)
    (case l_Leaf_init => k_is)
    (case c_Leaf_init => k_is)
    (case k_Leaf_init => k_is)
    (case at_Leaf_name => k_is)
    (case gt_Leaf_name => k_is)
    (case tk_Leaf_name => k_is)
    (case rc_Leaf_name => k_is)
    (case l_Leaf_name => k_is)
    (case c_Leaf_name => k_is)
    (case k_Leaf_name => k_is)
    (case at_Leaf_width => k_is)
    (case gt_Leaf_width => k_is)
    (case tk_Leaf_width => k_is)
    (case rc_Leaf_width => k_is)
    (case l_Leaf_width => k_is)
    (case c_Leaf_width => k_is)
    (case k_Leaf_width => k_is)
    (case at_Leaf_len => k_is)
    (case i_Leaf_len => k_is)
    (case l_Leaf_len => k_is)
    (case c_Leaf_len => k_is)
    (case k_Leaf_len => k_is)
    (case at_Leaf_contains => k_is)
    (case i_Leaf_contains => k_is)
    (case l_Leaf_contains => k_is)
    (case c_Leaf_contains => k_is)
    (case k_Leaf_contains => k_is)
    (case at_Leaf_eq => k_is)
    (case i_Leaf_eq => k_is)
    (case l_Leaf_eq => k_is)
    (case c_Leaf_eq => k_is)
    (case k_Leaf_eq => k_is)
    (case at_Leaf_names => k_is)
    (case i_Leaf_names => k_is)
    (case l_Leaf_names => k_is)
    (case c_Leaf_names => k_is)
    (case k_Leaf_names => k_is)
    (case at_Leaf_passes => k_is)
    (case i_Leaf_passes => k_is)
    (case l_Leaf_passes => k_is)
    (case c_Leaf_passes => k_is)
    (case k_Leaf_passes => k_is)
    (case at_Leaf__low_ends => k_is)
    (case i_Leaf__low_ends => k_is)
    (case l_Leaf__low_ends => k_is)
    (case c_Leaf__low_ends => k_is)
    (case k_Leaf__low_ends => k_is)
    (case pg_Leaf => k_is)
    (case hd_Leaf => k_is)
    (case po_Leaf => k_is)
    (case sa_Leaf => k_is)
    (case mk_Leaf => k_is)
    (case kc_Leaf => k_is)
    (case ca_Leaf => k_is)
    (case mo_Leaf => k_is)
    (case ne_Leaf => k_is)
    (case n_Leaf_name => k_is)
    (case at_Group_init => k_is)
    (case i_Group_init => k_is)
    (case l_Group_init => k_is)
    (case c_Group_init => k_is)
    (case k_Group_init => k_is)
    (case at_Group_ranks => k_is)
    (case gt_Group_ranks => k_is)
    (case tk_Group_ranks => k_is)
    (case rc_Group_ranks => k_is)
    (case l_Group_ranks => k_is)
    (case c_Group_ranks => k_is)
    (case k_Group_ranks => k_is)
    (case at_Group_parts => k_is)
    (case gt_Group_parts => k_is)
    (case tk_Group_parts => k_is)
    (case rc_Group_parts => k_is)
    (case l_Group_parts => k_is)
    (case c_Group_parts => k_is)
    (case k_Group_parts => k_is)
    (case at_Group_intake => k_is)
    (case gt_Group_intake => k_is)
    (case tk_Group_intake => k_is)
    (case rc_Group_intake => k_is)
    (case l_Group_intake => k_is)
    (case c_Group_intake => k_is)
    (case k_Group_intake => k_is)
    (case at_Group_width => k_is)
    (case gt_Group_width => k_is)
    (case tk_Group_width => k_is)
    (case rc_Group_width => k_is)
    (case l_Group_width => k_is)
    (case c_Group_width => k_is)
    (case k_Group_width => k_is)
    (case at_Group_len => k_is)
    (case i_Group_len => k_is)
    (case l_Group_len => k_is)
    (case c_Group_len => k_is)
    (case k_Group_len => k_is)
    (case at_Group_contains => k_is)
    (case i_Group_contains => k_is)
    (case l_Group_contains => k_is)
    (case c_Group_contains => k_is)
    (case k_Group_contains => k_is)
    (case at_Group_eq => k_is)
    (case i_Group_eq => k_is)
    (case l_Group_eq => k_is)
    (case c_Group_eq => k_is)
    (case k_Group_eq => k_is)
    (case at_Group_getitem => k_is)
    (case i_Group_getitem => k_is)
    (case l_Group_getitem => k_is)
    (case c_Group_getitem => k_is)
    (case k_Group_getitem => k_is)
    (case at_Group_iter => k_is)
    (case i_Group_iter => k_is)
    (case l_Group_iter => k_is)
    (case c_Group_iter => k_is)
    (case k_Group_iter => k_is)
    (case at_Group_names => k_is)
    (case i_Group_names => k_is)
    (case l_Group_names => k_is)
    (case c_Group_names => k_is)
    (case k_Group_names => k_is)
    (case at_Group_passes => k_is)
    (case i_Group_passes => k_is)
    (case l_Group_passes => k_is)
    (case c_Group_passes => k_is)
    (case k_Group_passes => k_is)
    (case at_Group__low_ends => k_is)
    (case i_Group__low_ends => k_is)
    (case l_Group__low_ends => k_is)
    (case c_Group__low_ends => k_is)
    (case k_Group__low_ends => k_is)
    (case pg_Group => k_is)
    (case hd_Group => k_is)
    (case po_Group => k_is)
    (case sa_Group => k_is)
    (case mk_Group => k_is)
    (case kc_Group => k_is)
    (case ca_Group => k_is)
    (case mo_Group => k_is)
    (case ne_Group => k_is)
    (case n_Group_intake => k_is)
    (case n_Group_names => k_is)
    (case n_Group_parts => k_is)
    (case n_Group_ranks => k_is)
    (case at_Lot_init => k_is)
    (case i_Lot_init => k_is)
    (case l_Lot_init => k_is)
    (case c_Lot_init => k_is)
    (case k_Lot_init => k_is)
    (case dl_Lot_init => k_is)
    (case at_Lot_getitem => k_is)
    (case i_Lot_getitem => k_is)
    (case l_Lot_getitem => k_is)
    (case c_Lot_getitem => k_is)
    (case k_Lot_getitem => k_is)
    (case at_Lot_setitem => k_is)
    (case i_Lot_setitem => k_is)
    (case l_Lot_setitem => k_is)
    (case c_Lot_setitem => k_is)
    (case k_Lot_setitem => k_is)
    (case at_Lot_contains => k_is)
    (case i_Lot_contains => k_is)
    (case l_Lot_contains => k_is)
    (case c_Lot_contains => k_is)
    (case k_Lot_contains => k_is)
    (case at_Lot_iter => k_is)
    (case i_Lot_iter => k_is)
    (case l_Lot_iter => k_is)
    (case c_Lot_iter => k_is)
    (case k_Lot_iter => k_is)
    (case at_Lot_len => k_is)
    (case i_Lot_len => k_is)
    (case l_Lot_len => k_is)
    (case c_Lot_len => k_is)
    (case k_Lot_len => k_is)
    (case at_Lot_eq => k_is)
    (case i_Lot_eq => k_is)
    (case l_Lot_eq => k_is)
    (case c_Lot_eq => k_is)
    (case k_Lot_eq => k_is)
    (case at_Lot_drop => k_is)
    (case i_Lot_drop => k_is)
    (case l_Lot_drop => k_is)
    (case c_Lot_drop => k_is)
    (case k_Lot_drop => k_is)
    (case at_Lot_names => k_is)
    (case i_Lot_names => k_is)
    (case l_Lot_names => k_is)
    (case c_Lot_names => k_is)
    (case k_Lot_names => k_is)
    (case at_Lot_pairs => k_is)
    (case i_Lot_pairs => k_is)
    (case l_Lot_pairs => k_is)
    (case c_Lot_pairs => k_is)
    (case k_Lot_pairs => k_is)
    (case pg_Lot => k_is)
    (case hd_Lot => k_is)
    (case po_Lot => k_is)
    (case sa_Lot => k_is)
    (case mk_Lot => k_is)
    (case kc_Lot => k_is)
    (case ca_Lot => k_is)
    (case mo_Lot => k_is)
    (case ne_Lot => k_is)
    (case n_Lot_worths => k_is)
    (case gc => k_is)
    (case tc => k_is)
    (case q_Group => k_is)
    (case q_Lot => k_is)
    (case ic_Leaf => k_is)
    (case it_Leaf => k_is)
    (case ic_Group => k_is)
    (case it_Group => k_is)
    (case ic_Lot => k_is)
    (case it_Lot => k_is)
    (case dx_Leaf_Group => decide)
    (case is_Leaf_Group => k_is)
    (case dx_Leaf_Lot => decide)
    (case is_Leaf_Lot => k_is)
    (case is_Leaf_list => k_is)
    (case is_Leaf_int => k_is)
    (case is_Leaf_bool => k_is)
    (case is_Leaf_str => k_is)
    (case dx_Group_Leaf => decide)
    (case is_Group_Leaf => k_is)
    (case dx_Group_Lot => decide)
    (case is_Group_Lot => k_is)
    (case is_Group_list => k_is)
    (case is_Group_int => k_is)
    (case is_Group_bool => k_is)
    (case is_Group_str => k_is)
    (case dx_Lot_Leaf => decide)
    (case is_Lot_Leaf => k_is)
    (case dx_Lot_Group => decide)
    (case is_Lot_Group => k_is)
    (case is_Lot_list => k_is)
    (case is_Lot_int => k_is)
    (case is_Lot_bool => k_is)
    (case is_Lot_str => k_is)
    (case xL_Lacking => k_is)
    (case sa_Lacking => k_is)
    (case ga_Lacking => k_is)
    (case gg_Lacking => k_is)
    (case kc_Lacking => k_is)
    (case ex_Lacking => k_is)
    (case ty_Lacking => k_is)
    (case hd_Lacking => k_is)
    (case ic_Lacking => k_is)
    (case ss_Lacking => k_is)
    (case at_Lacking_init => k_is)
    (case i_Lacking_init => k_is)
    (case l_Lacking_init => k_is)
    (case c_Lacking_init => k_is)
    (case k_Lacking_init => k_is)
    (case dl_Lacking_init => k_is)
    (case tf_Lacking => k_is)
    (case n_Lacking_which => k_is)
    (case g_is_whole => k_is)
    (case l_is_whole => k_is)
    (case c_is_whole => k_is)
    (case k_is_whole => k_is)
    (case g_is_name => k_is)
    (case l_is_name => k_is)
    (case c_is_name => k_is)
    (case k_is_name => k_is)
    (case g_are_names => k_is)
    (case l_are_names => k_is)
    (case c_are_names => k_is)
    (case k_are_names => k_is)
    (case g_are_name_pairs => k_is)
    (case l_are_name_pairs => k_is)
    (case c_are_name_pairs => k_is)
    (case k_are_name_pairs => k_is)
    (case g_is_tree => k_is)
    (case l_is_tree => k_is)
    (case c_is_tree => k_is)
    (case k_is_tree => k_is)
    (case g_is_end => k_is)
    (case l_is_end => k_is)
    (case c_is_end => k_is)
    (case k_is_end => k_is)
    (case g_are_parts => k_is)
    (case l_are_parts => k_is)
    (case c_are_parts => k_is)
    (case k_are_parts => k_is)
    (case g_are_ranks => k_is)
    (case l_are_ranks => k_is)
    (case c_are_ranks => k_is)
    (case k_are_ranks => k_is)
    (case g_intake_of => k_is)
    (case l_intake_of => k_is)
    (case c_intake_of => k_is)
    (case k_intake_of => k_is)
    (case g_names_of => k_is)
    (case l_names_of => k_is)
    (case c_names_of => k_is)
    (case k_names_of => k_is)
    (case g_are_leaves => k_is)
    (case l_are_leaves => k_is)
    (case c_are_leaves => k_is)
    (case k_are_leaves => k_is)
    (case g_is_lot => k_is)
    (case l_is_lot => k_is)
    (case c_is_lot => k_is)
    (case k_is_lot => k_is)
    (case g_ends_of => k_is)
    (case l_ends_of => k_is)
    (case c_ends_of => k_is)
    (case k_ends_of => k_is)
    (case g_end_of => k_is)
    (case l_end_of => k_is)
    (case c_end_of => k_is)
    (case k_end_of => k_is)
    (case dl_end_of => k_is)
    (case g_outs_of => k_is)
    (case l_outs_of => k_is)
    (case c_outs_of => k_is)
    (case k_outs_of => k_is)
    (case g_check_kinds => k_is)
    (case l_check_kinds => k_is)
    (case c_check_kinds => k_is)
    (case k_check_kinds => k_is)
    (case g_check_full => k_is)
    (case l_check_full => k_is)
    (case c_check_full => k_is)
    (case k_check_full => k_is)
    (case g_outs => k_is)
    (case l_outs => k_is)
    (case c_outs => k_is)
    (case k_outs => k_is)
    (case g_rank_in => k_is)
    (case l_rank_in => k_is)
    (case c_rank_in => k_is)
    (case k_rank_in => k_is)
    (case dl_rank_in => k_is)
    (case g_law_well => k_is)
    (case l_law_well => k_is)
    (case c_law_well => k_is)
    (case k_law_well => k_is)
    (case g_law_dip => k_is)
    (case l_law_dip => k_is)
    (case c_law_dip => k_is)
    (case k_law_dip => k_is)
    (case g_law_words => k_is)
    (case l_law_words => k_is)
    (case c_law_words => k_is)
    (case k_law_words => k_is)
    (case g_law_ranks => k_is)
    (case l_law_ranks => k_is)
    (case c_law_ranks => k_is)
    (case k_law_ranks => k_is)
    (case g_law_width => k_is)
    (case l_law_width => k_is)
    (case c_law_width => k_is)
    (case k_law_width => k_is)
    (case g_law_group => k_is)
    (case l_law_group => k_is)
    (case c_law_group => k_is)
    (case k_law_group => k_is)
    (case g_law_tree => k_is)
    (case l_law_tree => k_is)
    (case c_law_tree => k_is)
    (case k_law_tree => k_is)
    (case g_law_nodes => k_is)
    (case l_law_nodes => k_is)
    (case c_law_nodes => k_is)
    (case k_law_nodes => k_is)
    (case g_law_made => k_is)
    (case l_law_made => k_is)
    (case c_law_made => k_is)
    (case k_law_made => k_is)
    (case g_law_ends => k_is)
    (case l_law_ends => k_is)
    (case c_law_ends => k_is)
    (case k_law_ends => k_is)
    (case g_law_worths => k_is)
    (case l_law_worths => k_is)
    (case c_law_worths => k_is)
    (case k_law_worths => k_is)
    (case g_law_pairs => k_is)
    (case l_law_pairs => k_is)
    (case c_law_pairs => k_is)
    (case k_law_pairs => k_is)
    (case g_law_right => k_is)
    (case l_law_right => k_is)
    (case c_law_right => k_is)
    (case k_law_right => k_is)
    (case g_law_lacks => k_is)
    (case l_law_lacks => k_is)
    (case c_law_lacks => k_is)
    (case k_law_lacks => k_is)
    (case g_law => k_is)
    (case l_law => k_is)
    (case c_law => k_is)
    (case k_law => k_is)
