import PyProof.Rows.All
import Wide.All
import OpenK.AllK
import Wide.FinOn
import HandS.Base
import HandS.Call
import HandS.List
import HandS.Comp
import HandS.Ends
import HandS.Dict
import HandS.Iter
import HandS.Text
import HandS.Words
import HandS.WordsList
import HandS.WordsDict
import HandS.OwnEq
import HandS.IsInst
import HandS.Style
import HandS.Wide
import HandS.Zip
import HandS.Strs
import HandS.Evl
import HandS.Defaults
import HandS.Exc
import HandS.ExcInit
import HandS.ExcField
import HandS.TryOnly
import HandS.WordsExc
import HandS.CallSlots
import HandS.ExcOwn
import HandS.Property
import HandS.Walk
import HandS.More
import HandS.DeepEq
import HandS.TryMany
import KE.GoesEnum
import KE.GoesEnumKw
import HandS.SortKw
import KE.KMinKey
import KE.DataMinKey
import HandS.SetFor
import OpenK.KLine
import KE.KOpsOwn
import HandS.Deep
import HandS.Rev
import HandS.DictComp
import HandS.DictEq
import KE.DataMinMax
import PyProof.StrOps2
import HandS.SortRule
import HandS.Small
import PySem.Challenge.RW_rankpicks_k60_towers
set_option Elab.async false
set_option linter.all false
set_option maxRecDepth 100000
set_option maxHeartbeats 4000000
namespace RkO
open PySem PySem.Spec PyProof.Rows L2
variable {X : Cx} {CX : CXT} {k : Nat} {C f : Addr} {fd : FuncData} {ps : List Str} {sp : Sp} {E : XK}
/-- the own def is run with us -/
theorem run_here {A : Around} {pins : List (Addr × Obj)} {σ : L2.St} {H : Hp} {s : Shared} {Q : VK} {us : List Value} {vs : List V} (F : FnOk X.prog X.w X.K X.mg X.base CX k f fd ps sp) (hr : Room k A) (hfr : A.frames = X.A.frames) (hb : Binds X.K fd ps [])
    (hx : Passes CX X E) (I : Inv X pins σ H s) (r : Vals vs us) (h : sp vs H Q E) : wpAny (model X.prog X.w) A (call (.ref f) us) (EP X pins σ Q) X.xe s := by
  have hl : us.length = ps.length := by rw [← r.length]; exact F.len _ _ _ _ h
  have e0 : Env0 X.prog X.w X.K X.mg X.base A X.stack s H := by
    have e := I.env0
    exact ⟨by rw [hfr]; exact e.frames, e.mod, e.bs, e.bsz, e.funs, e.frf, e.hok, e.bare⟩
  refine wpAny_call (codeAny_mono (F.run A X.stack s H ⟨us, []⟩ us vs Q E hr e0 (by
    have := hb s us I.kIn (by simpa using hl)
    simpa using this) r h) fun r s' hq => ?_)
  cases r with
  | error e => exact hx pins σ H s e s' I hq
  | ok fl =>
    cases fl with
    | ret u => exact I.after hq
    | next => exact False.elim hq
    | brk => exact False.elim hq
    | cont => exact False.elim hq
/-- len(o) -/
def rLenO (C : Addr) (sp : Sp) (E : XK) : List V → Hp → VK → Prop := fun xs H Q => ∃ a dx fs, xs = [V.ref a] ∧ H a = some (.ins C dx fs) ∧ sp [.ref a] H (fun z H' => ∃ i : Int, z = .int i ∧ 0 ≤ i ∧ i < 2 ^ 63 ∧ Q z H') E
theorem call_lenO (hm : Meth X.K C "__len__" f) (F : FnOk X.prog X.w X.K X.mg X.base CX k f fd ps sp) (hr : Room (k + 1) X.A) (hb : Binds X.K fd ps []) (hx : Passes CX X E) : CallR X (.builtin "len") (rLenO C sp E) := by
  intro pins s σ H xs us Q I r h
  obtain ⟨a, dx, fs, rfl, ha, q⟩ := h
  obtain ⟨u, rfl, ru⟩ := r.one
  cases (show u = Value.ref a from ru)
  obtain ⟨mA, O, _⟩ := ins_get I.hok ha
  obtain ⟨od, J, _⟩ := O.look
  obtain ⟨m, hF⟩ := I.fr
  refine PySem.W.len_K hF I.ok.mod.kin J hm.at_ hm.fn (wpAny_mono (run_here (A := X.A.in1) (us := [.ref a]) (vs := [.ref a]) F hr.in1 rfl hb hx I (.cons rfl .nil) q) (fun v s' z => ?_) fun _ _ e => e)
  obtain ⟨z, H', I', rz, i, rfl, h0, h1, q⟩ := z
  obtain ⟨t, rfl⟩ := (show ∃ t, v = Value.int i t from rz)
  exact ⟨⟨h0, h1⟩, .int i, H', I'.tok _, ⟨_, rfl⟩, q⟩
/-- o == p, o != p, both instances, by o's own == -/
def rEqO (K : PySem.W.Frag) (C : Addr) (neg : Bool) (sp : Sp) (E : XK) : R2 := fun x y H Q => ∃ a dx fs b C' dy gs, x = .ref a ∧ y = .ref b ∧ H a = some (.ins C dx fs) ∧ H b = some (.ins C' dy gs) ∧ PySem.W.notFirst K C (.ref C') = true ∧
  sp [x, y] H (fun z H' => ∃ b, z = .bl b ∧ Q (.bl (if neg then !b else b)) H') E
theorem op_eqO (hm : Meth X.K C "__eq__" f) (F : FnOk X.prog X.w X.K X.mg X.base CX k f fd ps sp) (hr : Room k X.A) (hb : Binds X.K fd ps []) (hx : Passes CX X E) : OpR X (compareOp .Eq) (rEqO X.K C false sp E) := by
  intro pins s σ H x y v u Q I rx ry h
  obtain ⟨a, dx, fs, b, C', dy, gs, rfl, rfl, ha, hb', hn, q⟩ := h
  cases (show v = Value.ref a from rx)
  cases (show u = Value.ref b from ry)
  obtain ⟨mA, O, _⟩ := ins_get I.hok ha
  obtain ⟨od, J, _⟩ := O.look
  obtain ⟨mB, O', _⟩ := ins_get I.hok hb'
  obtain ⟨od', J', _⟩ := O'.look
  obtain ⟨m, hF⟩ := I.fr
  show wpAny _ _ (richCompare .Eq (.ref a) (.ref b)) _ _ _
  refine PySem.W.cmp_K (op := .Eq) (tb := .ref C') hr.units0 hF I.ok.mod.kin J J'.type hn hm.at_ hm.fn ?_
  refine wpAny_mono (run_here (us := [.ref a, .ref b]) (vs := [.ref a, .ref b]) F hr rfl hb hx I (.cons rfl (.cons rfl .nil)) q) (fun w s' z => ?_) fun _ _ x => x
  obtain ⟨z', H', I', rz, r, rfl, qz⟩ := z
  cases (show w = Value.bool r from rz)
  exact ⟨.bl r, H', I', rfl, qz⟩
/-- an operator by one of two rules -/
def r2or (r r' : R2) : R2 := fun x y H Q => r x y H Q ∨ r' x y H Q
theorem op_or {g : Value → Value → Sem Value} {r r' : R2} (h : OpR X g r) (h' : OpR X g r') : OpR X g (r2or r r') := fun pins s σ H x y v u Q I rx ry q =>
  q.elim (fun q => h pins s σ H x y v u Q I rx ry q) (fun q => h' pins s σ H x y v u Q I rx ry q)
end RkO
namespace RkO
open PySem PySem.Spec PyProof.Rows L2
end RkO
set_option Elab.async false
set_option linter.all false
set_option maxRecDepth 100000
set_option maxHeartbeats 4000000
namespace Rk
open PySem PySem.Spec PyProof.Rows L2
theorem lenK1 {α : Type} {us : List α} (h : us.length = 1) : ∃ a0, us = [a0] := List.length_eq_one_iff.mp h
theorem lenK2 {α : Type} {us : List α} (h : us.length = 2) : ∃ a0 a1, us = [a0, a1] := by
  cases us with
  | nil => cases h
  | cons a r => obtain ⟨a1, rfl⟩ := lenK1 (us := r) (Nat.succ.inj h); exact ⟨a, a1, rfl⟩
theorem kit_type {K : PySem.W.Frag} {A : Addr} {b : String} (m : PySem.W.kitMeta b = true) (h : PySem.W.subIn K (.ref A) (.type b) = some false) : PySem.W.kitOne K (.ref A) (.type b) = some false := by
  unfold PySem.W.kitOne
  rw [if_neg (by intro z; cases eq_of_beq z)]
  show (if PySem.W.kitMeta b = true then _ else _) = _
  rw [if_pos m]
  exact h
theorem kit_ref {K : PySem.W.Frag} {A B : Addr} (n : A ≠ B) (c : PySem.W.isClsIn K B = true) (t : PySem.W.typeIn K (.ref B) = some (.type "type")) (h : PySem.W.subIn K (.ref A) (.ref B) = some false) : PySem.W.kitOne K (.ref A) (.ref B) = some false := by
  unfold PySem.W.kitOne
  rw [if_neg (by intro z; exact n (Value.ref.inj (eq_of_beq z)))]
  show (if ((PySem.W.clsIn K B).isSome && PySem.W.typeIn K (.ref B) == some (.type "type")) = true then _ else _) = _
  rw [if_pos (by rw [t]; exact Bool.and_eq_true_iff.mpr ⟨c, beq_self_eq_true _⟩)]
  exact h
theorem exm_self {K : PySem.W.Frag} {S : Addr} (h1 : PySem.W.subIn K (.ref S) (.type "BaseException") = some true) (h2 : PySem.W.isClsIn K S = true) (h3 : PySem.W.typeIn K (.ref S) = some (.type "type")) (h4 : PySem.W.subIn K (.ref S) (.ref S) = some true) : PySem.W.exmOne K (.ref S) (.ref S) = some true := by
  have h2' : (PySem.W.clsIn K S).isSome = true := h2
  show (if (PySem.W.subIn K (.ref S) (.type "BaseException") == some true) = true then (if ((PySem.W.clsIn K S).isSome && PySem.W.typeIn K (.ref S) == some (.type "type")) = true then PySem.W.subIn K (.ref S) (.ref S) else none) else none) = some true
  rw [if_pos (by rw [h1]; rfl), if_pos (by rw [h2', h3]; rfl)]
  exact h4
theorem kit_bref {K : PySem.W.Frag} {b : String} {B : Addr} (c : PySem.W.isClsIn K B = true) (t : PySem.W.typeIn K (.ref B) = some (.type "type")) (h : PySem.W.subIn K (.type b) (.ref B) = some false) : PySem.W.kitOne K (.type b) (.ref B) = some false := by
  unfold PySem.W.kitOne
  rw [if_neg (by intro z; cases eq_of_beq z)]
  show (if ((PySem.W.clsIn K B).isSome && PySem.W.typeIn K (.ref B) == some (.type "type")) = true then _ else _) = _
  rw [if_pos (by rw [t]; exact Bool.and_eq_true_iff.mpr ⟨c, beq_self_eq_true _⟩)]
  exact h
def top (i : Nat) : Stmt := PySem.Challenge.pw_rankpicks_k60_towers.main.body.getD i (.Pass ⟨0, 0, 0, 0⟩)
abbrev s_is_whole : Stmt := top 2
theorem sc_is_whole : FnScope ["value"] ["value"] (defScope s_is_whole) := ⟨rfl, rfl, rfl, by decide +kernel, rfl, by decide +kernel, by decide +kernel⟩
abbrev s_is_name : Stmt := top 3
theorem sc_is_name : FnScope ["value", "letter"] ["value"] (defScope s_is_name) := ⟨rfl, rfl, rfl, by decide +kernel, rfl, by decide +kernel, by decide +kernel⟩
abbrev s_InvalidLevels_init : Stmt := inClass (top 7) 0
theorem sc_InvalidLevels_init : FnScope ["self", "value"] ["self", "value"] (defScope s_InvalidLevels_init) := ⟨rfl, rfl, rfl, by decide +kernel, rfl, by decide +kernel, by decide +kernel⟩
abbrev s_Leaf_init : Stmt := inClass (top 10) 0
theorem sc_Leaf_init : FnScope ["self", "name"] ["self", "name"] (defScope s_Leaf_init) := ⟨rfl, rfl, rfl, by decide +kernel, rfl, by decide +kernel, by decide +kernel⟩
abbrev s_Leaf_len : Stmt := inClass (top 10) 3
theorem sc_Leaf_len : FnScope ["self"] ["self"] (defScope s_Leaf_len) := ⟨rfl, rfl, rfl, by decide +kernel, rfl, by decide +kernel, by decide +kernel⟩
abbrev s_Leaf_eq : Stmt := inClass (top 10) 5
theorem sc_Leaf_eq : FnScope ["self", "other"] ["self", "other"] (defScope s_Leaf_eq) := ⟨rfl, rfl, rfl, by decide +kernel, rfl, by decide +kernel, by decide +kernel⟩
abbrev s_Tower_init : Stmt := inClass (top 12) 0
theorem sc_Tower_init : FnScope ["self", "levels"] ["self", "levels"] (defScope s_Tower_init) := ⟨rfl, rfl, rfl, by decide +kernel, rfl, by decide +kernel, by decide +kernel⟩
abbrev s_Tower_levels : Stmt := inClass (top 12) 1
theorem sc_Tower_levels : FnScope ["self"] ["self"] (defScope s_Tower_levels) := ⟨rfl, rfl, rfl, by decide +kernel, rfl, by decide +kernel, by decide +kernel⟩
abbrev s_Tower_size : Stmt := inClass (top 12) 2
theorem sc_Tower_size : FnScope ["self", "count", "rank"] ["self"] (defScope s_Tower_size) := ⟨rfl, rfl, rfl, by decide +kernel, rfl, by decide +kernel, by decide +kernel⟩
abbrev s_Tower_least : Stmt := inClass (top 12) 3
theorem sc_Tower_least : FnScope ["self", "count", "rank"] ["self"] (defScope s_Tower_least) := ⟨rfl, rfl, rfl, by decide +kernel, rfl, by decide +kernel, by decide +kernel⟩
abbrev s_Tower_greatest : Stmt := inClass (top 12) 4
theorem sc_Tower_greatest : FnScope ["self", "count", "rank"] ["self"] (defScope s_Tower_greatest) := ⟨rfl, rfl, rfl, by decide +kernel, rfl, by decide +kernel, by decide +kernel⟩
abbrev s_Tower_eq : Stmt := inClass (top 12) 5
theorem sc_Tower_eq : FnScope ["self", "other"] ["self", "other"] (defScope s_Tower_eq) := ⟨rfl, rfl, rfl, by decide +kernel, rfl, by decide +kernel, by decide +kernel⟩
abbrev s_Tower_mul : Stmt := inClass (top 12) 6
theorem sc_Tower_mul : FnScope ["self", "other"] ["self", "other"] (defScope s_Tower_mul) := ⟨rfl, rfl, rfl, by decide +kernel, rfl, by decide +kernel, by decide +kernel⟩
abbrev s_Tower_mirror : Stmt := inClass (top 12) 7
theorem sc_Tower_mirror : FnScope ["self", "count", "rank"] ["self"] (defScope s_Tower_mirror) := ⟨rfl, rfl, rfl, by decide +kernel, rfl, by decide +kernel, by decide +kernel⟩
abbrev s_are_levels : Stmt := top 13
theorem sc_are_levels : FnScope ["value", "item"] ["value"] (defScope s_are_levels) := ⟨rfl, rfl, rfl, by decide +kernel, rfl, by decide +kernel, by decide +kernel⟩
abbrev s_is_level : Stmt := top 14
theorem sc_is_level : FnScope ["value", "count", "rank"] ["value"] (defScope s_is_level) := ⟨rfl, rfl, rfl, by decide +kernel, rfl, by decide +kernel, by decide +kernel⟩
abbrev s_product : Stmt := top 15
theorem sc_product : FnScope ["numbers", "total", "number"] ["numbers"] (defScope s_product) := ⟨rfl, rfl, rfl, by decide +kernel, rfl, by decide +kernel, by decide +kernel⟩
abbrev s_law_purse : Stmt := top 17
theorem sc_law_purse : FnScope ["script", "at", "cell"] ["script", "at"] (defScope s_law_purse) := ⟨rfl, rfl, rfl, by decide +kernel, rfl, by decide +kernel, by decide +kernel⟩
abbrev s_law_draw : Stmt := top 18
theorem sc_law_draw : FnScope ["purse", "many", "digit", "number"] ["purse", "many"] (defScope s_law_draw) := ⟨rfl, rfl, rfl, by decide +kernel, rfl, by decide +kernel, by decide +kernel⟩
abbrev s_law_levels : Stmt := top 19
theorem sc_law_levels : FnScope ["purse", "found", "turn", "most", "count", "rank"] ["purse"] (defScope s_law_levels) := ⟨rfl, rfl, rfl, by decide +kernel, rfl, by decide +kernel, by decide +kernel⟩
abbrev s_law_product : Stmt := top 20
theorem sc_law_product : FnScope ["rows", "found", "number"] ["rows"] (defScope s_law_product) := ⟨rfl, rfl, rfl, by decide +kernel, rfl, by decide +kernel, by decide +kernel⟩
abbrev s_law_right : Stmt := top 21
theorem sc_law_right : FnScope ["tower", "levels", "size", "other", "told", "count", "rank"] ["tower", "levels"] (defScope s_law_right) := ⟨rfl, rfl, rfl, by decide +kernel, rfl, by decide +kernel, by decide +kernel⟩
abbrev s_law_refused : Stmt := top 22
theorem sc_law_refused : FnScope ["value", "given", "found", "e"] ["value"] (defScope s_law_refused) := ⟨rfl, rfl, rfl, by decide +kernel, rfl, by decide +kernel, by decide +kernel⟩
abbrev s_law_bad : Stmt := top 23
theorem sc_law_bad : FnScope ["levels", "count", "rank", "odd", "bad", "one"] ["levels"] (defScope s_law_bad) := ⟨rfl, rfl, rfl, by decide +kernel, rfl, by decide +kernel, by decide +kernel⟩
abbrev s_law : Stmt := top 24
theorem sc_law : FnScope ["script", "before", "at", "purse", "levels", "handed", "tower", "mirrored", "count", "rank", "value"] ["script"] (defScope s_law) := ⟨rfl, rfl, rfl, by decide +kernel, rfl, by decide +kernel, by decide +kernel⟩
set_option genInjectivity false in
set_option genSizeOfSpec false in
set_option genSizeOf false in
structure Txt (K : PySem.W.Frag) (mg : Str → Option Value) where
  m_len : mg "len" = none
  m_int : mg "int" = none
  m_range : mg "range" = none
  m_sum : mg "sum" = none
  m_all : mg "all" = none
  m_isinstance : mg "isinstance" = none
  m_list : mg "list" = none
  m_tuple : mg "tuple" = none
  m_bool : mg "bool" = none
  m_str : mg "str" = none
  m_min : mg "min" = none
  m_TypeError : mg "TypeError" = none
  m_ValueError : mg "ValueError" = none
  a_RankError : Addr
  m_RankError : mg "RankError" = some (.ref a_RankError)
  a_InvalidName : Addr
  m_InvalidName : mg "InvalidName" = some (.ref a_InvalidName)
  a_InvalidLevels : Addr
  m_InvalidLevels : mg "InvalidLevels" = some (.ref a_InvalidLevels)
  a_Tree : Addr
  m_Tree : mg "Tree" = some (.ref a_Tree)
  a_Leaf : Addr
  m_Leaf : mg "Leaf" = some (.ref a_Leaf)
  a_Tower : Addr
  m_Tower : mg "Tower" = some (.ref a_Tower)
  f_Leaf_init : Addr
  d_Leaf_init : FuncData
  F_Leaf_init : Fun K "__init__" "Leaf.__init__" s_Leaf_init f_Leaf_init d_Leaf_init
  b_Leaf_init : Binds K d_Leaf_init ["self", "name"] []
  M_Leaf_init : Meth K a_Leaf "__init__" f_Leaf_init
  f_Leaf_len : Addr
  d_Leaf_len : FuncData
  F_Leaf_len : Fun K "__len__" "Leaf.__len__" s_Leaf_len f_Leaf_len d_Leaf_len
  b_Leaf_len : Binds K d_Leaf_len ["self"] []
  M_Leaf_len : Meth K a_Leaf "__len__" f_Leaf_len
  f_Leaf_eq : Addr
  d_Leaf_eq : FuncData
  F_Leaf_eq : Fun K "__eq__" "Leaf.__eq__" s_Leaf_eq f_Leaf_eq d_Leaf_eq
  b_Leaf_eq : Binds K d_Leaf_eq ["self", "other"] []
  M_Leaf_eq : Meth K a_Leaf "__eq__" f_Leaf_eq
  c_Leaf : Cls K a_Leaf
  M_Leaf : Mk K a_Leaf f_Leaf_init
  ca_Leaf : PySem.W.findIn K (.ref a_Leaf) "__class__" = some (some (.builtin "object.__class__"))
  mo_Leaf : PySem.W.mroIn K a_Leaf (.type "object") = some true
  ne_Leaf : PySem.W.findIn K (.ref a_Leaf) "__ne__" = some (some (.builtin "object.__ne__"))
  n_Leaf_name : NoAttr K a_Leaf "_name"
  f_Tower_init : Addr
  d_Tower_init : FuncData
  F_Tower_init : Fun K "__init__" "Tower.__init__" s_Tower_init f_Tower_init d_Tower_init
  b_Tower_init : Binds K d_Tower_init ["self", "levels"] []
  M_Tower_init : Meth K a_Tower "__init__" f_Tower_init
  f_Tower_levels : Addr
  d_Tower_levels : FuncData
  p_Tower_levels : Addr
  P_Tower_levels : PropOf K a_Tower "levels" p_Tower_levels f_Tower_levels
  F_Tower_levels : Fun K "levels" "Tower.levels" s_Tower_levels f_Tower_levels d_Tower_levels
  b_Tower_levels : Binds K d_Tower_levels ["self"] []
  f_Tower_size : Addr
  d_Tower_size : FuncData
  p_Tower_size : Addr
  P_Tower_size : PropOf K a_Tower "size" p_Tower_size f_Tower_size
  F_Tower_size : Fun K "size" "Tower.size" s_Tower_size f_Tower_size d_Tower_size
  b_Tower_size : Binds K d_Tower_size ["self"] []
  f_Tower_least : Addr
  d_Tower_least : FuncData
  p_Tower_least : Addr
  P_Tower_least : PropOf K a_Tower "least" p_Tower_least f_Tower_least
  F_Tower_least : Fun K "least" "Tower.least" s_Tower_least f_Tower_least d_Tower_least
  b_Tower_least : Binds K d_Tower_least ["self"] []
  f_Tower_greatest : Addr
  d_Tower_greatest : FuncData
  p_Tower_greatest : Addr
  P_Tower_greatest : PropOf K a_Tower "greatest" p_Tower_greatest f_Tower_greatest
  F_Tower_greatest : Fun K "greatest" "Tower.greatest" s_Tower_greatest f_Tower_greatest d_Tower_greatest
  b_Tower_greatest : Binds K d_Tower_greatest ["self"] []
  f_Tower_eq : Addr
  d_Tower_eq : FuncData
  F_Tower_eq : Fun K "__eq__" "Tower.__eq__" s_Tower_eq f_Tower_eq d_Tower_eq
  b_Tower_eq : Binds K d_Tower_eq ["self", "other"] []
  M_Tower_eq : Meth K a_Tower "__eq__" f_Tower_eq
  f_Tower_mul : Addr
  d_Tower_mul : FuncData
  F_Tower_mul : Fun K "__mul__" "Tower.__mul__" s_Tower_mul f_Tower_mul d_Tower_mul
  b_Tower_mul : Binds K d_Tower_mul ["self", "other"] []
  M_Tower_mul : Meth K a_Tower "__mul__" f_Tower_mul
  f_Tower_mirror : Addr
  d_Tower_mirror : FuncData
  F_Tower_mirror : Fun K "mirror" "Tower.mirror" s_Tower_mirror f_Tower_mirror d_Tower_mirror
  b_Tower_mirror : Binds K d_Tower_mirror ["self"] []
  M_Tower_mirror : Meth K a_Tower "mirror" f_Tower_mirror
  c_Tower : Cls K a_Tower
  M_Tower : Mk K a_Tower f_Tower_init
  ca_Tower : PySem.W.findIn K (.ref a_Tower) "__class__" = some (some (.builtin "object.__class__"))
  mo_Tower : PySem.W.mroIn K a_Tower (.type "object") = some true
  ne_Tower : PySem.W.findIn K (.ref a_Tower) "__ne__" = some (some (.builtin "object.__ne__"))
  n_Tower_levels : NoAttr K a_Tower "_levels"
  gc : PySem.W.specialIn K (.builtin "object.__class__") "__get__" = some (some (.builtin "getset_descriptor.__get__"))
  tc : PySem.W.takesIn K (.builtin "object.__class__") = some true
  sf_Tower : PySem.W.selfFirst K a_Tower = true
  dx_Leaf_Tower : a_Leaf ≠ a_Tower
  sb_Leaf_Tower : PySem.W.subIn K (.ref a_Leaf) (.ref a_Tower) = some false
  is_Leaf_Tower : PySem.W.kitOne K (.ref a_Leaf) (.ref a_Tower) = some false
  is_Leaf_list : PySem.W.kitOne K (.ref a_Leaf) (.type "list") = some false
  is_Leaf_int : PySem.W.kitOne K (.ref a_Leaf) (.type "int") = some false
  is_Leaf_bool : PySem.W.kitOne K (.ref a_Leaf) (.type "bool") = some false
  is_Leaf_str : PySem.W.kitOne K (.ref a_Leaf) (.type "str") = some false
  is_Leaf_tuple : PySem.W.kitOne K (.ref a_Leaf) (.type "tuple") = some false
  ib_NoneType_Leaf : PySem.W.kitOne K (.type "NoneType") (.ref a_Leaf) = some false
  ib_int_Leaf : PySem.W.kitOne K (.type "int") (.ref a_Leaf) = some false
  ib_bool_Leaf : PySem.W.kitOne K (.type "bool") (.ref a_Leaf) = some false
  ib_str_Leaf : PySem.W.kitOne K (.type "str") (.ref a_Leaf) = some false
  ib_list_Leaf : PySem.W.kitOne K (.type "list") (.ref a_Leaf) = some false
  ib_tuple_Leaf : PySem.W.kitOne K (.type "tuple") (.ref a_Leaf) = some false
  ib_dict_Leaf : PySem.W.kitOne K (.type "dict") (.ref a_Leaf) = some false
  dx_Tower_Leaf : a_Tower ≠ a_Leaf
  sb_Tower_Leaf : PySem.W.subIn K (.ref a_Tower) (.ref a_Leaf) = some false
  is_Tower_Leaf : PySem.W.kitOne K (.ref a_Tower) (.ref a_Leaf) = some false
  is_Tower_list : PySem.W.kitOne K (.ref a_Tower) (.type "list") = some false
  is_Tower_int : PySem.W.kitOne K (.ref a_Tower) (.type "int") = some false
  is_Tower_bool : PySem.W.kitOne K (.ref a_Tower) (.type "bool") = some false
  is_Tower_str : PySem.W.kitOne K (.ref a_Tower) (.type "str") = some false
  is_Tower_tuple : PySem.W.kitOne K (.ref a_Tower) (.type "tuple") = some false
  ib_NoneType_Tower : PySem.W.kitOne K (.type "NoneType") (.ref a_Tower) = some false
  ib_int_Tower : PySem.W.kitOne K (.type "int") (.ref a_Tower) = some false
  ib_bool_Tower : PySem.W.kitOne K (.type "bool") (.ref a_Tower) = some false
  ib_str_Tower : PySem.W.kitOne K (.type "str") (.ref a_Tower) = some false
  ib_list_Tower : PySem.W.kitOne K (.type "list") (.ref a_Tower) = some false
  ib_tuple_Tower : PySem.W.kitOne K (.type "tuple") (.ref a_Tower) = some false
  ib_dict_Tower : PySem.W.kitOne K (.type "dict") (.ref a_Tower) = some false
  f_InvalidLevels_init : Addr
  d_InvalidLevels_init : FuncData
  F_InvalidLevels_init : FunD K "__init__" "InvalidLevels.__init__" (defArgs s_InvalidLevels_init) (defBody s_InvalidLevels_init) (defScope s_InvalidLevels_init) [.non] [] f_InvalidLevels_init d_InvalidLevels_init
  M_InvalidLevels_init : Meth K a_InvalidLevels "__init__" f_InvalidLevels_init
  tf_InvalidLevels : PySem.W.typeIn K (.ref f_InvalidLevels_init) = some (.type "function")
  at_InvalidLevels : PySem.W.findIn K (.ref a_InvalidLevels) "__init__" = some (some (.ref f_InvalidLevels_init))
  Ex_InvalidLevels : OexC K a_InvalidLevels
  Xf_InvalidLevels : XfC K a_InvalidLevels
  te_InvalidLevels : PySem.W.exmOne K (.ref a_InvalidLevels) (.ref a_InvalidLevels) = some true
  n_InvalidLevels_value : PySem.W.findIn K (.ref a_InvalidLevels) "value" = some none
  f_is_whole : Addr
  d_is_whole : FuncData
  m_is_whole : mg "is_whole" = some (.ref f_is_whole)
  F_is_whole : Fun K "is_whole" "is_whole" s_is_whole f_is_whole d_is_whole
  b_is_whole : Binds K d_is_whole ["value"] []
  f_is_name : Addr
  d_is_name : FuncData
  m_is_name : mg "is_name" = some (.ref f_is_name)
  F_is_name : Fun K "is_name" "is_name" s_is_name f_is_name d_is_name
  b_is_name : Binds K d_is_name ["value"] []
  f_are_levels : Addr
  d_are_levels : FuncData
  m_are_levels : mg "_are_levels" = some (.ref f_are_levels)
  F_are_levels : Fun K "_are_levels" "_are_levels" s_are_levels f_are_levels d_are_levels
  b_are_levels : Binds K d_are_levels ["value"] []
  f_is_level : Addr
  d_is_level : FuncData
  m_is_level : mg "_is_level" = some (.ref f_is_level)
  F_is_level : Fun K "_is_level" "_is_level" s_is_level f_is_level d_is_level
  b_is_level : Binds K d_is_level ["value"] []
  f_product : Addr
  d_product : FuncData
  m_product : mg "_product" = some (.ref f_product)
  F_product : Fun K "_product" "_product" s_product f_product d_product
  b_product : Binds K d_product ["numbers"] []
  f_law_purse : Addr
  d_law_purse : FuncData
  m_law_purse : mg "_law_purse" = some (.ref f_law_purse)
  F_law_purse : Fun K "_law_purse" "_law_purse" s_law_purse f_law_purse d_law_purse
  b_law_purse : Binds K d_law_purse ["script", "at"] []
  f_law_draw : Addr
  d_law_draw : FuncData
  m_law_draw : mg "_law_draw" = some (.ref f_law_draw)
  F_law_draw : Fun K "_law_draw" "_law_draw" s_law_draw f_law_draw d_law_draw
  b_law_draw : Binds K d_law_draw ["purse", "many"] []
  f_law_levels : Addr
  d_law_levels : FuncData
  m_law_levels : mg "_law_levels" = some (.ref f_law_levels)
  F_law_levels : Fun K "_law_levels" "_law_levels" s_law_levels f_law_levels d_law_levels
  b_law_levels : Binds K d_law_levels ["purse"] []
  f_law_product : Addr
  d_law_product : FuncData
  m_law_product : mg "_law_product" = some (.ref f_law_product)
  F_law_product : Fun K "_law_product" "_law_product" s_law_product f_law_product d_law_product
  b_law_product : Binds K d_law_product ["rows"] []
  f_law_right : Addr
  d_law_right : FuncData
  m_law_right : mg "_law_right" = some (.ref f_law_right)
  F_law_right : Fun K "_law_right" "_law_right" s_law_right f_law_right d_law_right
  b_law_right : Binds K d_law_right ["tower", "levels"] []
  f_law_refused : Addr
  d_law_refused : FuncData
  m_law_refused : mg "_law_refused" = some (.ref f_law_refused)
  F_law_refused : Fun K "_law_refused" "_law_refused" s_law_refused f_law_refused d_law_refused
  b_law_refused : Binds K d_law_refused ["value"] []
  f_law_bad : Addr
  d_law_bad : FuncData
  m_law_bad : mg "_law_bad" = some (.ref f_law_bad)
  F_law_bad : Fun K "_law_bad" "_law_bad" s_law_bad f_law_bad d_law_bad
  b_law_bad : Binds K d_law_bad ["levels"] []
  f_law : Addr
  d_law : FuncData
  m_law : mg "law" = some (.ref f_law)
  F_law : Fun K "law" "law" s_law f_law d_law
  b_law : Binds K d_law ["script"] []
section
variable {K : PySem.W.Frag} {h : Heap} {mg : Str → Option Value} {a_RankError a_InvalidName a_InvalidLevels a_Tree a_Leaf a_Tower f_Leaf_init f_Leaf_len f_Leaf_eq f_Tower_init f_Tower_levels p_Tower_levels f_Tower_size p_Tower_size f_Tower_least p_Tower_least f_Tower_greatest p_Tower_greatest f_Tower_eq f_Tower_mul f_Tower_mirror xN_InvalidLevels f_InvalidLevels_init tD_InvalidLevels_init f_is_whole f_is_name f_are_levels f_is_level f_product f_law_purse f_law_draw f_law_levels f_law_product f_law_right f_law_refused f_law_bad f_law : Addr} {kV_Leaf_init dc_Leaf_init pm_Leaf_init cd_Leaf_init ct_Leaf_init oc_Leaf_init kV_Leaf_len dc_Leaf_len pm_Leaf_len cd_Leaf_len ct_Leaf_len oc_Leaf_len kV_Leaf_eq dc_Leaf_eq pm_Leaf_eq cd_Leaf_eq ct_Leaf_eq oc_Leaf_eq kV_Tower_init dc_Tower_init pm_Tower_init cd_Tower_init ct_Tower_init oc_Tower_init kV_Tower_levels dc_Tower_levels pm_Tower_levels cd_Tower_levels ct_Tower_levels oc_Tower_levels kV_Tower_size dc_Tower_size pm_Tower_size cd_Tower_size ct_Tower_size oc_Tower_size kV_Tower_least dc_Tower_least pm_Tower_least cd_Tower_least ct_Tower_least oc_Tower_least kV_Tower_greatest dc_Tower_greatest pm_Tower_greatest cd_Tower_greatest ct_Tower_greatest oc_Tower_greatest kV_Tower_eq dc_Tower_eq pm_Tower_eq cd_Tower_eq ct_Tower_eq oc_Tower_eq kV_Tower_mul dc_Tower_mul pm_Tower_mul cd_Tower_mul ct_Tower_mul oc_Tower_mul kV_Tower_mirror dc_Tower_mirror pm_Tower_mirror cd_Tower_mirror ct_Tower_mirror oc_Tower_mirror kV_InvalidLevels_init dc_InvalidLevels_init pm_InvalidLevels_init cd_InvalidLevels_init ct_InvalidLevels_init oc_InvalidLevels_init oD_InvalidLevels_init kV_is_whole dc_is_whole pm_is_whole cd_is_whole ct_is_whole oc_is_whole kV_is_name dc_is_name pm_is_name cd_is_name ct_is_name oc_is_name kV_are_levels dc_are_levels pm_are_levels cd_are_levels ct_are_levels oc_are_levels kV_is_level dc_is_level pm_is_level cd_is_level ct_is_level oc_is_level kV_product dc_product pm_product cd_product ct_product oc_product kV_law_purse dc_law_purse pm_law_purse cd_law_purse ct_law_purse oc_law_purse kV_law_draw dc_law_draw pm_law_draw cd_law_draw ct_law_draw oc_law_draw kV_law_levels dc_law_levels pm_law_levels cd_law_levels ct_law_levels oc_law_levels kV_law_product dc_law_product pm_law_product cd_law_product ct_law_product oc_law_product kV_law_right dc_law_right pm_law_right cd_law_right ct_law_right oc_law_right kV_law_refused dc_law_refused pm_law_refused cd_law_refused ct_law_refused oc_law_refused kV_law_bad dc_law_bad pm_law_bad cd_law_bad ct_law_bad oc_law_bad kV_law dc_law pm_law cd_law ct_law oc_law : Value} {od_Leaf_init an_Leaf_init od_Leaf_len an_Leaf_len od_Leaf_eq an_Leaf_eq od_Tower_init an_Tower_init od_Tower_levels an_Tower_levels od_Tower_size an_Tower_size od_Tower_least an_Tower_least od_Tower_greatest an_Tower_greatest od_Tower_eq an_Tower_eq od_Tower_mul an_Tower_mul od_Tower_mirror an_Tower_mirror xd_InvalidLevels od_InvalidLevels_init an_InvalidLevels_init eD_InvalidLevels_init od_is_whole an_is_whole od_is_name an_is_name od_are_levels an_are_levels od_is_level an_is_level od_product an_product od_law_purse an_law_purse od_law_draw an_law_draw od_law_levels an_law_levels od_law_product an_law_product od_law_right an_law_right od_law_refused an_law_refused od_law_bad an_law_bad od_law an_law : Option Addr} {sl_Leaf_init sl_Leaf_len sl_Leaf_eq sl_Tower_init sl_Tower_levels sl_Tower_size sl_Tower_least sl_Tower_greatest sl_Tower_eq sl_Tower_mul sl_Tower_mirror sl_InvalidLevels_init sD_InvalidLevels_init sl_is_whole sl_is_name sl_are_levels sl_is_level sl_product sl_law_purse sl_law_draw sl_law_levels sl_law_product sl_law_right sl_law_refused sl_law_bad sl_law : Array (Option Value)} {r_Tower_levels r_Tower_size r_Tower_least r_Tower_greatest xb_InvalidLevels xu_InvalidLevels : List Value} {xn_InvalidLevels xq_InvalidLevels : Str} {xs_InvalidLevels : List Str} {xa_InvalidLevels : Bool} {xc_InvalidLevels : Option Bool} {x0_InvalidLevels x1_InvalidLevels x2_InvalidLevels x3_InvalidLevels x5_InvalidLevels : Option Value} {nD_InvalidLevels_init : Nat}
def Txt.mk_ (X : K.In h) (G : h.Ns mainGlobals mg)
    (z_len : PySem.W.nsIn K mainGlobals "len" = some none)
    (z_int : PySem.W.nsIn K mainGlobals "int" = some none)
    (z_range : PySem.W.nsIn K mainGlobals "range" = some none)
    (z_sum : PySem.W.nsIn K mainGlobals "sum" = some none)
    (z_all : PySem.W.nsIn K mainGlobals "all" = some none)
    (z_isinstance : PySem.W.nsIn K mainGlobals "isinstance" = some none)
    (z_list : PySem.W.nsIn K mainGlobals "list" = some none)
    (z_tuple : PySem.W.nsIn K mainGlobals "tuple" = some none)
    (z_bool : PySem.W.nsIn K mainGlobals "bool" = some none)
    (z_str : PySem.W.nsIn K mainGlobals "str" = some none)
    (z_min : PySem.W.nsIn K mainGlobals "min" = some none)
    (z_TypeError : PySem.W.nsIn K mainGlobals "TypeError" = some none)
    (z_ValueError : PySem.W.nsIn K mainGlobals "ValueError" = some none)
    (g_RankError : PySem.W.nsIn K mainGlobals "RankError" = some (some (.ref a_RankError)))
    (g_InvalidName : PySem.W.nsIn K mainGlobals "InvalidName" = some (some (.ref a_InvalidName)))
    (g_InvalidLevels : PySem.W.nsIn K mainGlobals "InvalidLevels" = some (some (.ref a_InvalidLevels)))
    (g_Tree : PySem.W.nsIn K mainGlobals "Tree" = some (some (.ref a_Tree)))
    (g_Leaf : PySem.W.nsIn K mainGlobals "Leaf" = some (some (.ref a_Leaf)))
    (g_Tower : PySem.W.nsIn K mainGlobals "Tower" = some (some (.ref a_Tower)))
    (at_Leaf_init : PySem.W.findIn K (.ref a_Leaf) "__init__" = some (some (.ref f_Leaf_init)))
    (i_Leaf_init : PySem.W.isFn K (.ref f_Leaf_init) = true)
    (l_Leaf_init : K.lookup f_Leaf_init = some ⟨oc_Leaf_init, od_Leaf_init, .func (PySem.W.fnOf "__init__" "Leaf.__init__" (defArgs s_Leaf_init) (defBody s_Leaf_init) (defScope s_Leaf_init) .none kV_Leaf_init dc_Leaf_init pm_Leaf_init an_Leaf_init cd_Leaf_init ct_Leaf_init), sl_Leaf_init⟩)
    (c_Leaf_init : PySem.W.codeIn K cd_Leaf_init "Leaf.__init__" = true)
    (k_Leaf_init : PySem.W.keepIn K (.ref f_Leaf_init) = true)
    (at_Leaf_len : PySem.W.findIn K (.ref a_Leaf) "__len__" = some (some (.ref f_Leaf_len)))
    (i_Leaf_len : PySem.W.isFn K (.ref f_Leaf_len) = true)
    (l_Leaf_len : K.lookup f_Leaf_len = some ⟨oc_Leaf_len, od_Leaf_len, .func (PySem.W.fnOf "__len__" "Leaf.__len__" (defArgs s_Leaf_len) (defBody s_Leaf_len) (defScope s_Leaf_len) .none kV_Leaf_len dc_Leaf_len pm_Leaf_len an_Leaf_len cd_Leaf_len ct_Leaf_len), sl_Leaf_len⟩)
    (c_Leaf_len : PySem.W.codeIn K cd_Leaf_len "Leaf.__len__" = true)
    (k_Leaf_len : PySem.W.keepIn K (.ref f_Leaf_len) = true)
    (at_Leaf_eq : PySem.W.findIn K (.ref a_Leaf) "__eq__" = some (some (.ref f_Leaf_eq)))
    (i_Leaf_eq : PySem.W.isFn K (.ref f_Leaf_eq) = true)
    (l_Leaf_eq : K.lookup f_Leaf_eq = some ⟨oc_Leaf_eq, od_Leaf_eq, .func (PySem.W.fnOf "__eq__" "Leaf.__eq__" (defArgs s_Leaf_eq) (defBody s_Leaf_eq) (defScope s_Leaf_eq) .none kV_Leaf_eq dc_Leaf_eq pm_Leaf_eq an_Leaf_eq cd_Leaf_eq ct_Leaf_eq), sl_Leaf_eq⟩)
    (c_Leaf_eq : PySem.W.codeIn K cd_Leaf_eq "Leaf.__eq__" = true)
    (k_Leaf_eq : PySem.W.keepIn K (.ref f_Leaf_eq) = true)
    (pg_Leaf : PySem.W.plainGet K a_Leaf Str.empty = true)
    (hd_Leaf : PySem.W.hasDictIn K a_Leaf = true)
    (po_Leaf : PySem.W.plainOver K a_Leaf = true)
    (sa_Leaf : PySem.W.findIn K (.ref a_Leaf) "__setattr__" = some (some (.builtin "object.__setattr__")))
    (mk_Leaf : PySem.W.makesIn K a_Leaf = true)
    (kc_Leaf : PySem.W.keepIn K (.ref a_Leaf) = true)
    (ca_Leaf : PySem.W.findIn K (.ref a_Leaf) "__class__" = some (some (.builtin "object.__class__")))
    (mo_Leaf : PySem.W.mroIn K a_Leaf (.type "object") = some true)
    (ne_Leaf : PySem.W.findIn K (.ref a_Leaf) "__ne__" = some (some (.builtin "object.__ne__")))
    (n_Leaf_name : PySem.W.findIn K (.ref a_Leaf) "_name" = some none)
    (at_Tower_init : PySem.W.findIn K (.ref a_Tower) "__init__" = some (some (.ref f_Tower_init)))
    (i_Tower_init : PySem.W.isFn K (.ref f_Tower_init) = true)
    (l_Tower_init : K.lookup f_Tower_init = some ⟨oc_Tower_init, od_Tower_init, .func (PySem.W.fnOf "__init__" "Tower.__init__" (defArgs s_Tower_init) (defBody s_Tower_init) (defScope s_Tower_init) .none kV_Tower_init dc_Tower_init pm_Tower_init an_Tower_init cd_Tower_init ct_Tower_init), sl_Tower_init⟩)
    (c_Tower_init : PySem.W.codeIn K cd_Tower_init "Tower.__init__" = true)
    (k_Tower_init : PySem.W.keepIn K (.ref f_Tower_init) = true)
    (at_Tower_levels : PySem.W.findIn K (.ref a_Tower) "levels" = some (some (.ref p_Tower_levels)))
    (gt_Tower_levels : PySem.W.specialIn K (.ref p_Tower_levels) "__get__" = some (some (.builtin "property.__get__")))
    (tk_Tower_levels : PySem.W.takesIn K (.ref p_Tower_levels) = some true)
    (rc_Tower_levels : PySem.W.recIn K p_Tower_levels "property" = some (.ref f_Tower_levels :: r_Tower_levels))
    (l_Tower_levels : K.lookup f_Tower_levels = some ⟨oc_Tower_levels, od_Tower_levels, .func (PySem.W.fnOf "levels" "Tower.levels" (defArgs s_Tower_levels) (defBody s_Tower_levels) (defScope s_Tower_levels) .none kV_Tower_levels dc_Tower_levels pm_Tower_levels an_Tower_levels cd_Tower_levels ct_Tower_levels), sl_Tower_levels⟩)
    (c_Tower_levels : PySem.W.codeIn K cd_Tower_levels "Tower.levels" = true)
    (k_Tower_levels : PySem.W.keepIn K (.ref f_Tower_levels) = true)
    (at_Tower_size : PySem.W.findIn K (.ref a_Tower) "size" = some (some (.ref p_Tower_size)))
    (gt_Tower_size : PySem.W.specialIn K (.ref p_Tower_size) "__get__" = some (some (.builtin "property.__get__")))
    (tk_Tower_size : PySem.W.takesIn K (.ref p_Tower_size) = some true)
    (rc_Tower_size : PySem.W.recIn K p_Tower_size "property" = some (.ref f_Tower_size :: r_Tower_size))
    (l_Tower_size : K.lookup f_Tower_size = some ⟨oc_Tower_size, od_Tower_size, .func (PySem.W.fnOf "size" "Tower.size" (defArgs s_Tower_size) (defBody s_Tower_size) (defScope s_Tower_size) .none kV_Tower_size dc_Tower_size pm_Tower_size an_Tower_size cd_Tower_size ct_Tower_size), sl_Tower_size⟩)
    (c_Tower_size : PySem.W.codeIn K cd_Tower_size "Tower.size" = true)
    (k_Tower_size : PySem.W.keepIn K (.ref f_Tower_size) = true)
    (at_Tower_least : PySem.W.findIn K (.ref a_Tower) "least" = some (some (.ref p_Tower_least)))
    (gt_Tower_least : PySem.W.specialIn K (.ref p_Tower_least) "__get__" = some (some (.builtin "property.__get__")))
    (tk_Tower_least : PySem.W.takesIn K (.ref p_Tower_least) = some true)
    (rc_Tower_least : PySem.W.recIn K p_Tower_least "property" = some (.ref f_Tower_least :: r_Tower_least))
    (l_Tower_least : K.lookup f_Tower_least = some ⟨oc_Tower_least, od_Tower_least, .func (PySem.W.fnOf "least" "Tower.least" (defArgs s_Tower_least) (defBody s_Tower_least) (defScope s_Tower_least) .none kV_Tower_least dc_Tower_least pm_Tower_least an_Tower_least cd_Tower_least ct_Tower_least), sl_Tower_least⟩)
    (c_Tower_least : PySem.W.codeIn K cd_Tower_least "Tower.least" = true)
    (k_Tower_least : PySem.W.keepIn K (.ref f_Tower_least) = true)
    (at_Tower_greatest : PySem.W.findIn K (.ref a_Tower) "greatest" = some (some (.ref p_Tower_greatest)))
    (gt_Tower_greatest : PySem.W.specialIn K (.ref p_Tower_greatest) "__get__" = some (some (.builtin "property.__get__")))
    (tk_Tower_greatest : PySem.W.takesIn K (.ref p_Tower_greatest) = some true)
    (rc_Tower_greatest : PySem.W.recIn K p_Tower_greatest "property" = some (.ref f_Tower_greatest :: r_Tower_greatest))
    (l_Tower_greatest : K.lookup f_Tower_greatest = some ⟨oc_Tower_greatest, od_Tower_greatest, .func (PySem.W.fnOf "greatest" "Tower.greatest" (defArgs s_Tower_greatest) (defBody s_Tower_greatest) (defScope s_Tower_greatest) .none kV_Tower_greatest dc_Tower_greatest pm_Tower_greatest an_Tower_greatest cd_Tower_greatest ct_Tower_greatest), sl_Tower_greatest⟩)
    (c_Tower_greatest : PySem.W.codeIn K cd_Tower_greatest "Tower.greatest" = true)
    (k_Tower_greatest : PySem.W.keepIn K (.ref f_Tower_greatest) = true)
    (at_Tower_eq : PySem.W.findIn K (.ref a_Tower) "__eq__" = some (some (.ref f_Tower_eq)))
    (i_Tower_eq : PySem.W.isFn K (.ref f_Tower_eq) = true)
    (l_Tower_eq : K.lookup f_Tower_eq = some ⟨oc_Tower_eq, od_Tower_eq, .func (PySem.W.fnOf "__eq__" "Tower.__eq__" (defArgs s_Tower_eq) (defBody s_Tower_eq) (defScope s_Tower_eq) .none kV_Tower_eq dc_Tower_eq pm_Tower_eq an_Tower_eq cd_Tower_eq ct_Tower_eq), sl_Tower_eq⟩)
    (c_Tower_eq : PySem.W.codeIn K cd_Tower_eq "Tower.__eq__" = true)
    (k_Tower_eq : PySem.W.keepIn K (.ref f_Tower_eq) = true)
    (at_Tower_mul : PySem.W.findIn K (.ref a_Tower) "__mul__" = some (some (.ref f_Tower_mul)))
    (i_Tower_mul : PySem.W.isFn K (.ref f_Tower_mul) = true)
    (l_Tower_mul : K.lookup f_Tower_mul = some ⟨oc_Tower_mul, od_Tower_mul, .func (PySem.W.fnOf "__mul__" "Tower.__mul__" (defArgs s_Tower_mul) (defBody s_Tower_mul) (defScope s_Tower_mul) .none kV_Tower_mul dc_Tower_mul pm_Tower_mul an_Tower_mul cd_Tower_mul ct_Tower_mul), sl_Tower_mul⟩)
    (c_Tower_mul : PySem.W.codeIn K cd_Tower_mul "Tower.__mul__" = true)
    (k_Tower_mul : PySem.W.keepIn K (.ref f_Tower_mul) = true)
    (at_Tower_mirror : PySem.W.findIn K (.ref a_Tower) "mirror" = some (some (.ref f_Tower_mirror)))
    (i_Tower_mirror : PySem.W.isFn K (.ref f_Tower_mirror) = true)
    (l_Tower_mirror : K.lookup f_Tower_mirror = some ⟨oc_Tower_mirror, od_Tower_mirror, .func (PySem.W.fnOf "mirror" "Tower.mirror" (defArgs s_Tower_mirror) (defBody s_Tower_mirror) (defScope s_Tower_mirror) .none kV_Tower_mirror dc_Tower_mirror pm_Tower_mirror an_Tower_mirror cd_Tower_mirror ct_Tower_mirror), sl_Tower_mirror⟩)
    (c_Tower_mirror : PySem.W.codeIn K cd_Tower_mirror "Tower.mirror" = true)
    (k_Tower_mirror : PySem.W.keepIn K (.ref f_Tower_mirror) = true)
    (pg_Tower : PySem.W.plainGet K a_Tower Str.empty = true)
    (hd_Tower : PySem.W.hasDictIn K a_Tower = true)
    (po_Tower : PySem.W.plainOver K a_Tower = true)
    (sa_Tower : PySem.W.findIn K (.ref a_Tower) "__setattr__" = some (some (.builtin "object.__setattr__")))
    (mk_Tower : PySem.W.makesIn K a_Tower = true)
    (kc_Tower : PySem.W.keepIn K (.ref a_Tower) = true)
    (ca_Tower : PySem.W.findIn K (.ref a_Tower) "__class__" = some (some (.builtin "object.__class__")))
    (mo_Tower : PySem.W.mroIn K a_Tower (.type "object") = some true)
    (ne_Tower : PySem.W.findIn K (.ref a_Tower) "__ne__" = some (some (.builtin "object.__ne__")))
    (n_Tower_levels : PySem.W.findIn K (.ref a_Tower) "_levels" = some none)
    (gc : PySem.W.specialIn K (.builtin "object.__class__") "__get__" = some (some (.builtin "getset_descriptor.__get__")))
    (tc : PySem.W.takesIn K (.builtin "object.__class__") = some true)
    (sf_Tower : PySem.W.selfFirst K a_Tower = true)
    (ic_Leaf : PySem.W.isClsIn K a_Leaf = true)
    (it_Leaf : PySem.W.typeIn K (.ref a_Leaf) = some (.type "type"))
    (ic_Tower : PySem.W.isClsIn K a_Tower = true)
    (it_Tower : PySem.W.typeIn K (.ref a_Tower) = some (.type "type"))
    (dx_Leaf_Tower : a_Leaf ≠ a_Tower)
    (is_Leaf_Tower : PySem.W.subIn K (.ref a_Leaf) (.ref a_Tower) = some false)
    (is_Leaf_list : PySem.W.subIn K (.ref a_Leaf) (.type "list") = some false)
    (is_Leaf_int : PySem.W.subIn K (.ref a_Leaf) (.type "int") = some false)
    (is_Leaf_bool : PySem.W.subIn K (.ref a_Leaf) (.type "bool") = some false)
    (is_Leaf_str : PySem.W.subIn K (.ref a_Leaf) (.type "str") = some false)
    (is_Leaf_tuple : PySem.W.subIn K (.ref a_Leaf) (.type "tuple") = some false)
    (dx_Tower_Leaf : a_Tower ≠ a_Leaf)
    (is_Tower_Leaf : PySem.W.subIn K (.ref a_Tower) (.ref a_Leaf) = some false)
    (is_Tower_list : PySem.W.subIn K (.ref a_Tower) (.type "list") = some false)
    (is_Tower_int : PySem.W.subIn K (.ref a_Tower) (.type "int") = some false)
    (is_Tower_bool : PySem.W.subIn K (.ref a_Tower) (.type "bool") = some false)
    (is_Tower_str : PySem.W.subIn K (.ref a_Tower) (.type "str") = some false)
    (is_Tower_tuple : PySem.W.subIn K (.ref a_Tower) (.type "tuple") = some false)
    (xL_InvalidLevels : K.lookup a_InvalidLevels = some (excClassObj xn_InvalidLevels xq_InvalidLevels a_InvalidLevels xN_InvalidLevels xb_InvalidLevels [.ref a_RankError, .type "ValueError", .type "Exception", .type "BaseException", .type "object"] true xs_InvalidLevels xu_InvalidLevels xa_InvalidLevels xc_InvalidLevels xd_InvalidLevels x0_InvalidLevels x1_InvalidLevels x2_InvalidLevels x3_InvalidLevels x5_InvalidLevels "ValueError.__new__"))
    (sa_InvalidLevels : PySem.W.findIn K (.ref a_InvalidLevels) "__setattr__" = some (some (.builtin "object.__setattr__")))
    (ga_InvalidLevels : PySem.W.findIn K (.ref a_InvalidLevels) "__getattribute__" = some (some (.builtin "BaseException.__getattribute__")))
    (gg_InvalidLevels : PySem.W.findIn K (.ref a_InvalidLevels) "__getattr__" = some none)
    (kc_InvalidLevels : PySem.W.keepIn K (.ref a_InvalidLevels) = true)
    (ex_InvalidLevels : PySem.W.subIn K (.ref a_InvalidLevels) (.type "BaseException") = some true)
    (ty_InvalidLevels : PySem.W.typeIn K (.ref a_InvalidLevels) = some (.type "type"))
    (hd_InvalidLevels : PySem.W.hasDictIn K a_InvalidLevels = true)
    (ic_InvalidLevels : PySem.W.isClsIn K a_InvalidLevels = true)
    (ss_InvalidLevels : PySem.W.subIn K (.ref a_InvalidLevels) (.ref a_InvalidLevels) = some true)
    (at_InvalidLevels_init : PySem.W.findIn K (.ref a_InvalidLevels) "__init__" = some (some (.ref f_InvalidLevels_init)))
    (i_InvalidLevels_init : PySem.W.isFn K (.ref f_InvalidLevels_init) = true)
    (l_InvalidLevels_init : K.lookup f_InvalidLevels_init = some ⟨oc_InvalidLevels_init, od_InvalidLevels_init, .func (PySem.W.fnOf "__init__" "InvalidLevels.__init__" (defArgs s_InvalidLevels_init) (defBody s_InvalidLevels_init) (defScope s_InvalidLevels_init) (.ref tD_InvalidLevels_init) kV_InvalidLevels_init dc_InvalidLevels_init pm_InvalidLevels_init an_InvalidLevels_init cd_InvalidLevels_init ct_InvalidLevels_init), sl_InvalidLevels_init⟩)
    (c_InvalidLevels_init : PySem.W.codeIn K cd_InvalidLevels_init "InvalidLevels.__init__" = true)
    (k_InvalidLevels_init : PySem.W.keepIn K (.ref f_InvalidLevels_init) = true)
    (dl_InvalidLevels_init : K.lookup tD_InvalidLevels_init = some ⟨oD_InvalidLevels_init, eD_InvalidLevels_init, .seq #[.none] nD_InvalidLevels_init, sD_InvalidLevels_init⟩)
    (tf_InvalidLevels : PySem.W.typeIn K (.ref f_InvalidLevels_init) = some (.type "function"))
    (n_InvalidLevels_value : PySem.W.findIn K (.ref a_InvalidLevels) "value" = some none)
    (g_is_whole : PySem.W.nsIn K mainGlobals "is_whole" = some (some (.ref f_is_whole)))
    (l_is_whole : K.lookup f_is_whole = some ⟨oc_is_whole, od_is_whole, .func (PySem.W.fnOf "is_whole" "is_whole" (defArgs s_is_whole) (defBody s_is_whole) (defScope s_is_whole) .none kV_is_whole dc_is_whole pm_is_whole an_is_whole cd_is_whole ct_is_whole), sl_is_whole⟩)
    (c_is_whole : PySem.W.codeIn K cd_is_whole "is_whole" = true)
    (k_is_whole : PySem.W.keepIn K (.ref f_is_whole) = true)
    (g_is_name : PySem.W.nsIn K mainGlobals "is_name" = some (some (.ref f_is_name)))
    (l_is_name : K.lookup f_is_name = some ⟨oc_is_name, od_is_name, .func (PySem.W.fnOf "is_name" "is_name" (defArgs s_is_name) (defBody s_is_name) (defScope s_is_name) .none kV_is_name dc_is_name pm_is_name an_is_name cd_is_name ct_is_name), sl_is_name⟩)
    (c_is_name : PySem.W.codeIn K cd_is_name "is_name" = true)
    (k_is_name : PySem.W.keepIn K (.ref f_is_name) = true)
    (g_are_levels : PySem.W.nsIn K mainGlobals "_are_levels" = some (some (.ref f_are_levels)))
    (l_are_levels : K.lookup f_are_levels = some ⟨oc_are_levels, od_are_levels, .func (PySem.W.fnOf "_are_levels" "_are_levels" (defArgs s_are_levels) (defBody s_are_levels) (defScope s_are_levels) .none kV_are_levels dc_are_levels pm_are_levels an_are_levels cd_are_levels ct_are_levels), sl_are_levels⟩)
    (c_are_levels : PySem.W.codeIn K cd_are_levels "_are_levels" = true)
    (k_are_levels : PySem.W.keepIn K (.ref f_are_levels) = true)
    (g_is_level : PySem.W.nsIn K mainGlobals "_is_level" = some (some (.ref f_is_level)))
    (l_is_level : K.lookup f_is_level = some ⟨oc_is_level, od_is_level, .func (PySem.W.fnOf "_is_level" "_is_level" (defArgs s_is_level) (defBody s_is_level) (defScope s_is_level) .none kV_is_level dc_is_level pm_is_level an_is_level cd_is_level ct_is_level), sl_is_level⟩)
    (c_is_level : PySem.W.codeIn K cd_is_level "_is_level" = true)
    (k_is_level : PySem.W.keepIn K (.ref f_is_level) = true)
    (g_product : PySem.W.nsIn K mainGlobals "_product" = some (some (.ref f_product)))
    (l_product : K.lookup f_product = some ⟨oc_product, od_product, .func (PySem.W.fnOf "_product" "_product" (defArgs s_product) (defBody s_product) (defScope s_product) .none kV_product dc_product pm_product an_product cd_product ct_product), sl_product⟩)
    (c_product : PySem.W.codeIn K cd_product "_product" = true)
    (k_product : PySem.W.keepIn K (.ref f_product) = true)
    (g_law_purse : PySem.W.nsIn K mainGlobals "_law_purse" = some (some (.ref f_law_purse)))
    (l_law_purse : K.lookup f_law_purse = some ⟨oc_law_purse, od_law_purse, .func (PySem.W.fnOf "_law_purse" "_law_purse" (defArgs s_law_purse) (defBody s_law_purse) (defScope s_law_purse) .none kV_law_purse dc_law_purse pm_law_purse an_law_purse cd_law_purse ct_law_purse), sl_law_purse⟩)
    (c_law_purse : PySem.W.codeIn K cd_law_purse "_law_purse" = true)
    (k_law_purse : PySem.W.keepIn K (.ref f_law_purse) = true)
    (g_law_draw : PySem.W.nsIn K mainGlobals "_law_draw" = some (some (.ref f_law_draw)))
    (l_law_draw : K.lookup f_law_draw = some ⟨oc_law_draw, od_law_draw, .func (PySem.W.fnOf "_law_draw" "_law_draw" (defArgs s_law_draw) (defBody s_law_draw) (defScope s_law_draw) .none kV_law_draw dc_law_draw pm_law_draw an_law_draw cd_law_draw ct_law_draw), sl_law_draw⟩)
    (c_law_draw : PySem.W.codeIn K cd_law_draw "_law_draw" = true)
    (k_law_draw : PySem.W.keepIn K (.ref f_law_draw) = true)
    (g_law_levels : PySem.W.nsIn K mainGlobals "_law_levels" = some (some (.ref f_law_levels)))
    (l_law_levels : K.lookup f_law_levels = some ⟨oc_law_levels, od_law_levels, .func (PySem.W.fnOf "_law_levels" "_law_levels" (defArgs s_law_levels) (defBody s_law_levels) (defScope s_law_levels) .none kV_law_levels dc_law_levels pm_law_levels an_law_levels cd_law_levels ct_law_levels), sl_law_levels⟩)
    (c_law_levels : PySem.W.codeIn K cd_law_levels "_law_levels" = true)
    (k_law_levels : PySem.W.keepIn K (.ref f_law_levels) = true)
    (g_law_product : PySem.W.nsIn K mainGlobals "_law_product" = some (some (.ref f_law_product)))
    (l_law_product : K.lookup f_law_product = some ⟨oc_law_product, od_law_product, .func (PySem.W.fnOf "_law_product" "_law_product" (defArgs s_law_product) (defBody s_law_product) (defScope s_law_product) .none kV_law_product dc_law_product pm_law_product an_law_product cd_law_product ct_law_product), sl_law_product⟩)
    (c_law_product : PySem.W.codeIn K cd_law_product "_law_product" = true)
    (k_law_product : PySem.W.keepIn K (.ref f_law_product) = true)
    (g_law_right : PySem.W.nsIn K mainGlobals "_law_right" = some (some (.ref f_law_right)))
    (l_law_right : K.lookup f_law_right = some ⟨oc_law_right, od_law_right, .func (PySem.W.fnOf "_law_right" "_law_right" (defArgs s_law_right) (defBody s_law_right) (defScope s_law_right) .none kV_law_right dc_law_right pm_law_right an_law_right cd_law_right ct_law_right), sl_law_right⟩)
    (c_law_right : PySem.W.codeIn K cd_law_right "_law_right" = true)
    (k_law_right : PySem.W.keepIn K (.ref f_law_right) = true)
    (g_law_refused : PySem.W.nsIn K mainGlobals "_law_refused" = some (some (.ref f_law_refused)))
    (l_law_refused : K.lookup f_law_refused = some ⟨oc_law_refused, od_law_refused, .func (PySem.W.fnOf "_law_refused" "_law_refused" (defArgs s_law_refused) (defBody s_law_refused) (defScope s_law_refused) .none kV_law_refused dc_law_refused pm_law_refused an_law_refused cd_law_refused ct_law_refused), sl_law_refused⟩)
    (c_law_refused : PySem.W.codeIn K cd_law_refused "_law_refused" = true)
    (k_law_refused : PySem.W.keepIn K (.ref f_law_refused) = true)
    (g_law_bad : PySem.W.nsIn K mainGlobals "_law_bad" = some (some (.ref f_law_bad)))
    (l_law_bad : K.lookup f_law_bad = some ⟨oc_law_bad, od_law_bad, .func (PySem.W.fnOf "_law_bad" "_law_bad" (defArgs s_law_bad) (defBody s_law_bad) (defScope s_law_bad) .none kV_law_bad dc_law_bad pm_law_bad an_law_bad cd_law_bad ct_law_bad), sl_law_bad⟩)
    (c_law_bad : PySem.W.codeIn K cd_law_bad "_law_bad" = true)
    (k_law_bad : PySem.W.keepIn K (.ref f_law_bad) = true)
    (g_law : PySem.W.nsIn K mainGlobals "law" = some (some (.ref f_law)))
    (l_law : K.lookup f_law = some ⟨oc_law, od_law, .func (PySem.W.fnOf "law" "law" (defArgs s_law) (defBody s_law) (defScope s_law) .none kV_law dc_law pm_law an_law cd_law ct_law), sl_law⟩)
    (c_law : PySem.W.codeIn K cd_law "law" = true)
    (k_law : PySem.W.keepIn K (.ref f_law) = true)
    : Txt K mg where
  m_len := PySem.W.mg_none_of X G z_len
  m_int := PySem.W.mg_none_of X G z_int
  m_range := PySem.W.mg_none_of X G z_range
  m_sum := PySem.W.mg_none_of X G z_sum
  m_all := PySem.W.mg_none_of X G z_all
  m_isinstance := PySem.W.mg_none_of X G z_isinstance
  m_list := PySem.W.mg_none_of X G z_list
  m_tuple := PySem.W.mg_none_of X G z_tuple
  m_bool := PySem.W.mg_none_of X G z_bool
  m_str := PySem.W.mg_none_of X G z_str
  m_min := PySem.W.mg_none_of X G z_min
  m_TypeError := PySem.W.mg_none_of X G z_TypeError
  m_ValueError := PySem.W.mg_none_of X G z_ValueError
  a_RankError := a_RankError
  m_RankError := PySem.W.mg_of X G g_RankError
  a_InvalidName := a_InvalidName
  m_InvalidName := PySem.W.mg_of X G g_InvalidName
  a_InvalidLevels := a_InvalidLevels
  m_InvalidLevels := PySem.W.mg_of X G g_InvalidLevels
  a_Tree := a_Tree
  m_Tree := PySem.W.mg_of X G g_Tree
  a_Leaf := a_Leaf
  m_Leaf := PySem.W.mg_of X G g_Leaf
  a_Tower := a_Tower
  m_Tower := PySem.W.mg_of X G g_Tower
  f_Leaf_init := f_Leaf_init
  d_Leaf_init := PySem.W.fnOf "__init__" "Leaf.__init__" (defArgs s_Leaf_init) (defBody s_Leaf_init) (defScope s_Leaf_init) .none kV_Leaf_init dc_Leaf_init pm_Leaf_init an_Leaf_init cd_Leaf_init ct_Leaf_init
  F_Leaf_init := fun_mk l_Leaf_init c_Leaf_init k_Leaf_init
  b_Leaf_init := (fun_mk (st := s_Leaf_init) l_Leaf_init c_Leaf_init k_Leaf_init).binds (ps := ["self", "name"]) fun _ _ _ _ _ _ us hl => by obtain ⟨_, _, rfl⟩ := lenK2 hl; rfl
  M_Leaf_init := ⟨at_Leaf_init, i_Leaf_init, k_Leaf_init⟩
  f_Leaf_len := f_Leaf_len
  d_Leaf_len := PySem.W.fnOf "__len__" "Leaf.__len__" (defArgs s_Leaf_len) (defBody s_Leaf_len) (defScope s_Leaf_len) .none kV_Leaf_len dc_Leaf_len pm_Leaf_len an_Leaf_len cd_Leaf_len ct_Leaf_len
  F_Leaf_len := fun_mk l_Leaf_len c_Leaf_len k_Leaf_len
  b_Leaf_len := (fun_mk (st := s_Leaf_len) l_Leaf_len c_Leaf_len k_Leaf_len).binds (ps := ["self"]) fun _ _ _ _ _ _ us hl => by obtain ⟨_, rfl⟩ := lenK1 hl; rfl
  M_Leaf_len := ⟨at_Leaf_len, i_Leaf_len, k_Leaf_len⟩
  f_Leaf_eq := f_Leaf_eq
  d_Leaf_eq := PySem.W.fnOf "__eq__" "Leaf.__eq__" (defArgs s_Leaf_eq) (defBody s_Leaf_eq) (defScope s_Leaf_eq) .none kV_Leaf_eq dc_Leaf_eq pm_Leaf_eq an_Leaf_eq cd_Leaf_eq ct_Leaf_eq
  F_Leaf_eq := fun_mk l_Leaf_eq c_Leaf_eq k_Leaf_eq
  b_Leaf_eq := (fun_mk (st := s_Leaf_eq) l_Leaf_eq c_Leaf_eq k_Leaf_eq).binds (ps := ["self", "other"]) fun _ _ _ _ _ _ us hl => by obtain ⟨_, _, rfl⟩ := lenK2 hl; rfl
  M_Leaf_eq := ⟨at_Leaf_eq, i_Leaf_eq, k_Leaf_eq⟩
  c_Leaf := ⟨pg_Leaf, hd_Leaf, po_Leaf, sa_Leaf⟩
  M_Leaf := ⟨mk_Leaf, at_Leaf_init, i_Leaf_init, kc_Leaf⟩
  ca_Leaf := ca_Leaf
  mo_Leaf := mo_Leaf
  ne_Leaf := ne_Leaf
  n_Leaf_name := n_Leaf_name
  f_Tower_init := f_Tower_init
  d_Tower_init := PySem.W.fnOf "__init__" "Tower.__init__" (defArgs s_Tower_init) (defBody s_Tower_init) (defScope s_Tower_init) .none kV_Tower_init dc_Tower_init pm_Tower_init an_Tower_init cd_Tower_init ct_Tower_init
  F_Tower_init := fun_mk l_Tower_init c_Tower_init k_Tower_init
  b_Tower_init := (fun_mk (st := s_Tower_init) l_Tower_init c_Tower_init k_Tower_init).binds (ps := ["self", "levels"]) fun _ _ _ _ _ _ us hl => by obtain ⟨_, _, rfl⟩ := lenK2 hl; rfl
  M_Tower_init := ⟨at_Tower_init, i_Tower_init, k_Tower_init⟩
  f_Tower_levels := f_Tower_levels
  d_Tower_levels := PySem.W.fnOf "levels" "Tower.levels" (defArgs s_Tower_levels) (defBody s_Tower_levels) (defScope s_Tower_levels) .none kV_Tower_levels dc_Tower_levels pm_Tower_levels an_Tower_levels cd_Tower_levels ct_Tower_levels
  p_Tower_levels := p_Tower_levels
  P_Tower_levels := ⟨at_Tower_levels, gt_Tower_levels, tk_Tower_levels, ⟨_, rc_Tower_levels⟩⟩
  F_Tower_levels := fun_mk l_Tower_levels c_Tower_levels k_Tower_levels
  b_Tower_levels := (fun_mk (st := s_Tower_levels) l_Tower_levels c_Tower_levels k_Tower_levels).binds (ps := ["self"]) fun _ _ _ _ _ _ us hl => by obtain ⟨_, rfl⟩ := lenK1 hl; rfl
  f_Tower_size := f_Tower_size
  d_Tower_size := PySem.W.fnOf "size" "Tower.size" (defArgs s_Tower_size) (defBody s_Tower_size) (defScope s_Tower_size) .none kV_Tower_size dc_Tower_size pm_Tower_size an_Tower_size cd_Tower_size ct_Tower_size
  p_Tower_size := p_Tower_size
  P_Tower_size := ⟨at_Tower_size, gt_Tower_size, tk_Tower_size, ⟨_, rc_Tower_size⟩⟩
  F_Tower_size := fun_mk l_Tower_size c_Tower_size k_Tower_size
  b_Tower_size := (fun_mk (st := s_Tower_size) l_Tower_size c_Tower_size k_Tower_size).binds (ps := ["self"]) fun _ _ _ _ _ _ us hl => by obtain ⟨_, rfl⟩ := lenK1 hl; rfl
  f_Tower_least := f_Tower_least
  d_Tower_least := PySem.W.fnOf "least" "Tower.least" (defArgs s_Tower_least) (defBody s_Tower_least) (defScope s_Tower_least) .none kV_Tower_least dc_Tower_least pm_Tower_least an_Tower_least cd_Tower_least ct_Tower_least
  p_Tower_least := p_Tower_least
  P_Tower_least := ⟨at_Tower_least, gt_Tower_least, tk_Tower_least, ⟨_, rc_Tower_least⟩⟩
  F_Tower_least := fun_mk l_Tower_least c_Tower_least k_Tower_least
  b_Tower_least := (fun_mk (st := s_Tower_least) l_Tower_least c_Tower_least k_Tower_least).binds (ps := ["self"]) fun _ _ _ _ _ _ us hl => by obtain ⟨_, rfl⟩ := lenK1 hl; rfl
  f_Tower_greatest := f_Tower_greatest
  d_Tower_greatest := PySem.W.fnOf "greatest" "Tower.greatest" (defArgs s_Tower_greatest) (defBody s_Tower_greatest) (defScope s_Tower_greatest) .none kV_Tower_greatest dc_Tower_greatest pm_Tower_greatest an_Tower_greatest cd_Tower_greatest ct_Tower_greatest
  p_Tower_greatest := p_Tower_greatest
  P_Tower_greatest := ⟨at_Tower_greatest, gt_Tower_greatest, tk_Tower_greatest, ⟨_, rc_Tower_greatest⟩⟩
  F_Tower_greatest := fun_mk l_Tower_greatest c_Tower_greatest k_Tower_greatest
  b_Tower_greatest := (fun_mk (st := s_Tower_greatest) l_Tower_greatest c_Tower_greatest k_Tower_greatest).binds (ps := ["self"]) fun _ _ _ _ _ _ us hl => by obtain ⟨_, rfl⟩ := lenK1 hl; rfl
  f_Tower_eq := f_Tower_eq
  d_Tower_eq := PySem.W.fnOf "__eq__" "Tower.__eq__" (defArgs s_Tower_eq) (defBody s_Tower_eq) (defScope s_Tower_eq) .none kV_Tower_eq dc_Tower_eq pm_Tower_eq an_Tower_eq cd_Tower_eq ct_Tower_eq
  F_Tower_eq := fun_mk l_Tower_eq c_Tower_eq k_Tower_eq
  b_Tower_eq := (fun_mk (st := s_Tower_eq) l_Tower_eq c_Tower_eq k_Tower_eq).binds (ps := ["self", "other"]) fun _ _ _ _ _ _ us hl => by obtain ⟨_, _, rfl⟩ := lenK2 hl; rfl
  M_Tower_eq := ⟨at_Tower_eq, i_Tower_eq, k_Tower_eq⟩
  f_Tower_mul := f_Tower_mul
  d_Tower_mul := PySem.W.fnOf "__mul__" "Tower.__mul__" (defArgs s_Tower_mul) (defBody s_Tower_mul) (defScope s_Tower_mul) .none kV_Tower_mul dc_Tower_mul pm_Tower_mul an_Tower_mul cd_Tower_mul ct_Tower_mul
  F_Tower_mul := fun_mk l_Tower_mul c_Tower_mul k_Tower_mul
  b_Tower_mul := (fun_mk (st := s_Tower_mul) l_Tower_mul c_Tower_mul k_Tower_mul).binds (ps := ["self", "other"]) fun _ _ _ _ _ _ us hl => by obtain ⟨_, _, rfl⟩ := lenK2 hl; rfl
  M_Tower_mul := ⟨at_Tower_mul, i_Tower_mul, k_Tower_mul⟩
  f_Tower_mirror := f_Tower_mirror
  d_Tower_mirror := PySem.W.fnOf "mirror" "Tower.mirror" (defArgs s_Tower_mirror) (defBody s_Tower_mirror) (defScope s_Tower_mirror) .none kV_Tower_mirror dc_Tower_mirror pm_Tower_mirror an_Tower_mirror cd_Tower_mirror ct_Tower_mirror
  F_Tower_mirror := fun_mk l_Tower_mirror c_Tower_mirror k_Tower_mirror
  b_Tower_mirror := (fun_mk (st := s_Tower_mirror) l_Tower_mirror c_Tower_mirror k_Tower_mirror).binds (ps := ["self"]) fun _ _ _ _ _ _ us hl => by obtain ⟨_, rfl⟩ := lenK1 hl; rfl
  M_Tower_mirror := ⟨at_Tower_mirror, i_Tower_mirror, k_Tower_mirror⟩
  c_Tower := ⟨pg_Tower, hd_Tower, po_Tower, sa_Tower⟩
  M_Tower := ⟨mk_Tower, at_Tower_init, i_Tower_init, kc_Tower⟩
  ca_Tower := ca_Tower
  mo_Tower := mo_Tower
  ne_Tower := ne_Tower
  n_Tower_levels := n_Tower_levels
  gc := gc
  tc := tc
  sf_Tower := sf_Tower
  dx_Leaf_Tower := dx_Leaf_Tower
  sb_Leaf_Tower := is_Leaf_Tower
  is_Leaf_Tower := kit_ref dx_Leaf_Tower ic_Tower it_Tower is_Leaf_Tower
  is_Leaf_list := kit_type (by decide +kernel) is_Leaf_list
  is_Leaf_int := kit_type (by decide +kernel) is_Leaf_int
  is_Leaf_bool := kit_type (by decide +kernel) is_Leaf_bool
  is_Leaf_str := kit_type (by decide +kernel) is_Leaf_str
  is_Leaf_tuple := kit_type (by decide +kernel) is_Leaf_tuple
  ib_NoneType_Leaf := kit_bref ic_Leaf it_Leaf (by rfl)
  ib_int_Leaf := kit_bref ic_Leaf it_Leaf (by rfl)
  ib_bool_Leaf := kit_bref ic_Leaf it_Leaf (by rfl)
  ib_str_Leaf := kit_bref ic_Leaf it_Leaf (by rfl)
  ib_list_Leaf := kit_bref ic_Leaf it_Leaf (by rfl)
  ib_tuple_Leaf := kit_bref ic_Leaf it_Leaf (by rfl)
  ib_dict_Leaf := kit_bref ic_Leaf it_Leaf (by rfl)
  dx_Tower_Leaf := dx_Tower_Leaf
  sb_Tower_Leaf := is_Tower_Leaf
  is_Tower_Leaf := kit_ref dx_Tower_Leaf ic_Leaf it_Leaf is_Tower_Leaf
  is_Tower_list := kit_type (by decide +kernel) is_Tower_list
  is_Tower_int := kit_type (by decide +kernel) is_Tower_int
  is_Tower_bool := kit_type (by decide +kernel) is_Tower_bool
  is_Tower_str := kit_type (by decide +kernel) is_Tower_str
  is_Tower_tuple := kit_type (by decide +kernel) is_Tower_tuple
  ib_NoneType_Tower := kit_bref ic_Tower it_Tower (by rfl)
  ib_int_Tower := kit_bref ic_Tower it_Tower (by rfl)
  ib_bool_Tower := kit_bref ic_Tower it_Tower (by rfl)
  ib_str_Tower := kit_bref ic_Tower it_Tower (by rfl)
  ib_list_Tower := kit_bref ic_Tower it_Tower (by rfl)
  ib_tuple_Tower := kit_bref ic_Tower it_Tower (by rfl)
  ib_dict_Tower := kit_bref ic_Tower it_Tower (by rfl)
  f_InvalidLevels_init := f_InvalidLevels_init
  d_InvalidLevels_init := PySem.W.fnOf "__init__" "InvalidLevels.__init__" (defArgs s_InvalidLevels_init) (defBody s_InvalidLevels_init) (defScope s_InvalidLevels_init) (.ref tD_InvalidLevels_init) kV_InvalidLevels_init dc_InvalidLevels_init pm_InvalidLevels_init an_InvalidLevels_init cd_InvalidLevels_init ct_InvalidLevels_init
  F_InvalidLevels_init := ⟨⟨_, _, _, _, _, _, _, _, _, _, rfl, l_InvalidLevels_init, c_InvalidLevels_init, .inr ⟨List.cons_ne_nil _ _, tD_InvalidLevels_init, _, [.none], nD_InvalidLevels_init, rfl, dl_InvalidLevels_init, rfl, (.cons rfl .nil)⟩, .inl rfl⟩, k_InvalidLevels_init⟩
  M_InvalidLevels_init := ⟨at_InvalidLevels_init, i_InvalidLevels_init, k_InvalidLevels_init⟩
  tf_InvalidLevels := tf_InvalidLevels
  at_InvalidLevels := at_InvalidLevels_init
  Ex_InvalidLevels := ⟨⟨_, _, _, _, _, _, _, _, _, _, _, _, _, _, _, xL_InvalidLevels, (show PySem.HandSPX.refsVE [.type "ValueError", .type "Exception", .type "BaseException", .type "object"] = true from by decide +kernel)⟩, sa_InvalidLevels, ex_InvalidLevels, ty_InvalidLevels, kc_InvalidLevels⟩
  Xf_InvalidLevels := ⟨ga_InvalidLevels, gg_InvalidLevels, ex_InvalidLevels, hd_InvalidLevels⟩
  te_InvalidLevels := exm_self ex_InvalidLevels ic_InvalidLevels ty_InvalidLevels ss_InvalidLevels
  n_InvalidLevels_value := n_InvalidLevels_value
  f_is_whole := f_is_whole
  d_is_whole := PySem.W.fnOf "is_whole" "is_whole" (defArgs s_is_whole) (defBody s_is_whole) (defScope s_is_whole) .none kV_is_whole dc_is_whole pm_is_whole an_is_whole cd_is_whole ct_is_whole
  m_is_whole := PySem.W.mg_of X G g_is_whole
  F_is_whole := fun_mk l_is_whole c_is_whole k_is_whole
  b_is_whole := (fun_mk (st := s_is_whole) l_is_whole c_is_whole k_is_whole).binds (ps := ["value"]) fun _ _ _ _ _ _ us hl => by obtain ⟨_, rfl⟩ := lenK1 hl; rfl
  f_is_name := f_is_name
  d_is_name := PySem.W.fnOf "is_name" "is_name" (defArgs s_is_name) (defBody s_is_name) (defScope s_is_name) .none kV_is_name dc_is_name pm_is_name an_is_name cd_is_name ct_is_name
  m_is_name := PySem.W.mg_of X G g_is_name
  F_is_name := fun_mk l_is_name c_is_name k_is_name
  b_is_name := (fun_mk (st := s_is_name) l_is_name c_is_name k_is_name).binds (ps := ["value"]) fun _ _ _ _ _ _ us hl => by obtain ⟨_, rfl⟩ := lenK1 hl; rfl
  f_are_levels := f_are_levels
  d_are_levels := PySem.W.fnOf "_are_levels" "_are_levels" (defArgs s_are_levels) (defBody s_are_levels) (defScope s_are_levels) .none kV_are_levels dc_are_levels pm_are_levels an_are_levels cd_are_levels ct_are_levels
  m_are_levels := PySem.W.mg_of X G g_are_levels
  F_are_levels := fun_mk l_are_levels c_are_levels k_are_levels
  b_are_levels := (fun_mk (st := s_are_levels) l_are_levels c_are_levels k_are_levels).binds (ps := ["value"]) fun _ _ _ _ _ _ us hl => by obtain ⟨_, rfl⟩ := lenK1 hl; rfl
  f_is_level := f_is_level
  d_is_level := PySem.W.fnOf "_is_level" "_is_level" (defArgs s_is_level) (defBody s_is_level) (defScope s_is_level) .none kV_is_level dc_is_level pm_is_level an_is_level cd_is_level ct_is_level
  m_is_level := PySem.W.mg_of X G g_is_level
  F_is_level := fun_mk l_is_level c_is_level k_is_level
  b_is_level := (fun_mk (st := s_is_level) l_is_level c_is_level k_is_level).binds (ps := ["value"]) fun _ _ _ _ _ _ us hl => by obtain ⟨_, rfl⟩ := lenK1 hl; rfl
  f_product := f_product
  d_product := PySem.W.fnOf "_product" "_product" (defArgs s_product) (defBody s_product) (defScope s_product) .none kV_product dc_product pm_product an_product cd_product ct_product
  m_product := PySem.W.mg_of X G g_product
  F_product := fun_mk l_product c_product k_product
  b_product := (fun_mk (st := s_product) l_product c_product k_product).binds (ps := ["numbers"]) fun _ _ _ _ _ _ us hl => by obtain ⟨_, rfl⟩ := lenK1 hl; rfl
  f_law_purse := f_law_purse
  d_law_purse := PySem.W.fnOf "_law_purse" "_law_purse" (defArgs s_law_purse) (defBody s_law_purse) (defScope s_law_purse) .none kV_law_purse dc_law_purse pm_law_purse an_law_purse cd_law_purse ct_law_purse
  m_law_purse := PySem.W.mg_of X G g_law_purse
  F_law_purse := fun_mk l_law_purse c_law_purse k_law_purse
  b_law_purse := (fun_mk (st := s_law_purse) l_law_purse c_law_purse k_law_purse).binds (ps := ["script", "at"]) fun _ _ _ _ _ _ us hl => by obtain ⟨_, _, rfl⟩ := lenK2 hl; rfl
  f_law_draw := f_law_draw
  d_law_draw := PySem.W.fnOf "_law_draw" "_law_draw" (defArgs s_law_draw) (defBody s_law_draw) (defScope s_law_draw) .none kV_law_draw dc_law_draw pm_law_draw an_law_draw cd_law_draw ct_law_draw
  m_law_draw := PySem.W.mg_of X G g_law_draw
  F_law_draw := fun_mk l_law_draw c_law_draw k_law_draw
  b_law_draw := (fun_mk (st := s_law_draw) l_law_draw c_law_draw k_law_draw).binds (ps := ["purse", "many"]) fun _ _ _ _ _ _ us hl => by obtain ⟨_, _, rfl⟩ := lenK2 hl; rfl
  f_law_levels := f_law_levels
  d_law_levels := PySem.W.fnOf "_law_levels" "_law_levels" (defArgs s_law_levels) (defBody s_law_levels) (defScope s_law_levels) .none kV_law_levels dc_law_levels pm_law_levels an_law_levels cd_law_levels ct_law_levels
  m_law_levels := PySem.W.mg_of X G g_law_levels
  F_law_levels := fun_mk l_law_levels c_law_levels k_law_levels
  b_law_levels := (fun_mk (st := s_law_levels) l_law_levels c_law_levels k_law_levels).binds (ps := ["purse"]) fun _ _ _ _ _ _ us hl => by obtain ⟨_, rfl⟩ := lenK1 hl; rfl
  f_law_product := f_law_product
  d_law_product := PySem.W.fnOf "_law_product" "_law_product" (defArgs s_law_product) (defBody s_law_product) (defScope s_law_product) .none kV_law_product dc_law_product pm_law_product an_law_product cd_law_product ct_law_product
  m_law_product := PySem.W.mg_of X G g_law_product
  F_law_product := fun_mk l_law_product c_law_product k_law_product
  b_law_product := (fun_mk (st := s_law_product) l_law_product c_law_product k_law_product).binds (ps := ["rows"]) fun _ _ _ _ _ _ us hl => by obtain ⟨_, rfl⟩ := lenK1 hl; rfl
  f_law_right := f_law_right
  d_law_right := PySem.W.fnOf "_law_right" "_law_right" (defArgs s_law_right) (defBody s_law_right) (defScope s_law_right) .none kV_law_right dc_law_right pm_law_right an_law_right cd_law_right ct_law_right
  m_law_right := PySem.W.mg_of X G g_law_right
  F_law_right := fun_mk l_law_right c_law_right k_law_right
  b_law_right := (fun_mk (st := s_law_right) l_law_right c_law_right k_law_right).binds (ps := ["tower", "levels"]) fun _ _ _ _ _ _ us hl => by obtain ⟨_, _, rfl⟩ := lenK2 hl; rfl
  f_law_refused := f_law_refused
  d_law_refused := PySem.W.fnOf "_law_refused" "_law_refused" (defArgs s_law_refused) (defBody s_law_refused) (defScope s_law_refused) .none kV_law_refused dc_law_refused pm_law_refused an_law_refused cd_law_refused ct_law_refused
  m_law_refused := PySem.W.mg_of X G g_law_refused
  F_law_refused := fun_mk l_law_refused c_law_refused k_law_refused
  b_law_refused := (fun_mk (st := s_law_refused) l_law_refused c_law_refused k_law_refused).binds (ps := ["value"]) fun _ _ _ _ _ _ us hl => by obtain ⟨_, rfl⟩ := lenK1 hl; rfl
  f_law_bad := f_law_bad
  d_law_bad := PySem.W.fnOf "_law_bad" "_law_bad" (defArgs s_law_bad) (defBody s_law_bad) (defScope s_law_bad) .none kV_law_bad dc_law_bad pm_law_bad an_law_bad cd_law_bad ct_law_bad
  m_law_bad := PySem.W.mg_of X G g_law_bad
  F_law_bad := fun_mk l_law_bad c_law_bad k_law_bad
  b_law_bad := (fun_mk (st := s_law_bad) l_law_bad c_law_bad k_law_bad).binds (ps := ["levels"]) fun _ _ _ _ _ _ us hl => by obtain ⟨_, rfl⟩ := lenK1 hl; rfl
  f_law := f_law
  d_law := PySem.W.fnOf "law" "law" (defArgs s_law) (defBody s_law) (defScope s_law) .none kV_law dc_law pm_law an_law cd_law ct_law
  m_law := PySem.W.mg_of X G g_law
  F_law := fun_mk l_law c_law k_law
  b_law := (fun_mk (st := s_law) l_law c_law k_law).binds (ps := ["script"]) fun _ _ _ _ _ _ us hl => by obtain ⟨_, rfl⟩ := lenK1 hl; rfl
end
end Rk
set_option Elab.async false
set_option linter.all false
set_option maxRecDepth 100000
set_option maxHeartbeats 4000000
namespace RkO
open PySem PySem.Spec PyProof.Rows L2
end RkO
set_option Elab.async false
set_option linter.all false
set_option maxRecDepth 100000
set_option maxHeartbeats 4000000
namespace RkO
open PySem PySem.Spec PyProof.Rows L2
/-- H without what M names -/
def hid (M : Addr → Bool) (H : Hp) : Hp := fun b => if M b = true then none else H b
/-- H' with what M names as in H -/
def put (M : Addr → Bool) (H H' : Hp) : Hp := fun b => if M b = true then H b else H' b
theorem hid_t {M : Addr → Bool} {H : Hp} {b : Addr} (h : M b = true) : hid M H b = none := if_pos h
theorem hid_f {M : Addr → Bool} {H : Hp} {b : Addr} (h : M b = false) : hid M H b = H b := if_neg (by rw [h]; decide)
theorem put_t {M : Addr → Bool} {H H' : Hp} {b : Addr} (h : M b = true) : put M H H' b = H b := if_pos h
theorem put_f {M : Addr → Bool} {H H' : Hp} {b : Addr} (h : M b = false) : put M H H' b = H' b := if_neg (by rw [h]; decide)
def Hides (M : Addr → Bool) (H : Hp) : Prop := ∀ b, M b = true → (∃ xs, H b = some (.lst xs)) ∨ ∃ kvs, H b = some (.dK kvs)
def spF (sp : Sp) : Sp := fun vs H Q E => ∃ M : Addr → Bool, Hides M H ∧ sp vs (hid M H) (fun v H' => (∀ b, M b = true → H' b = none) → Q v (put M H H')) E
theorem FnOk.frame {P : Program} {w : World} {K : PySem.W.Frag} {mg : Str → Option Value} {base : Heap} {k : Nat} {f : Addr} {fd : FuncData} {ps : List Str} {sp : Sp} (F : FnOk P w K mg base CX0 k f fd ps sp) : FnOk P w K mg base CX0 k f fd ps (spF sp) := by
  refine ⟨fun vs H Q E h => ?_, fun A outer s H args us vs Q E hr he hb hv h => ?_⟩
  · obtain ⟨M, _, h⟩ := h
    exact F.len _ _ _ _ h
  obtain ⟨M, hM, h⟩ := h
  have nM : ∀ {b : Addr} {o : HO}, H b = some o → (∀ xs, o ≠ .lst xs) → (∀ kvs, o ≠ .dK kvs) → M b = false := fun {b o} e n1 n2 => by
    cases hb : M b with
    | false => rfl
    | true =>
      rcases hM b hb with ⟨xs, z⟩ | ⟨kvs, z⟩
      · rw [z] at e
        exact absurd (Option.some.inj e).symm (n1 xs)
      · rw [z] at e
        exact absurd (Option.some.inj e).symm (n2 kvs)
  have sub : ∀ {b : Addr} {o : HO}, H b = some o → (∀ xs, o ≠ .lst xs) → (∀ kvs, o ≠ .dK kvs) → hid M H b = some o := fun {b o} e n1 n2 => (hid_f (nM e n1 n2)).trans e
  have non : ∀ {b : Addr}, H b = none → hid M H b = none := fun {b} e => by
    cases hb : M b with
    | true => exact hid_t hb
    | false => exact (hid_f hb).trans e
  have he2 : Env0 P w K mg base A outer s (hid M H) := ⟨he.frames, he.mod, fun b o q => ⟨(he.bs b o q).1, non (he.bs b o q).2⟩, he.bsz, he.funs, fun b q => non (he.frf b q), fun b o q => by
    have hb : M b = false := by
      cases hb : M b with
      | false => rfl
      | true =>
        rw [hid_t hb] at q
        cases q
    rw [hid_f hb] at q
    exact (he.hok b o q).stay (fun _ _ _ z => z) (fun c z => sub z nofun nofun) fun c xs z => sub z nofun nofun, he.bare⟩
  refine codeAny_mono (F.run A outer s (hid M H) args us vs _ E hr he2 hb hv h) fun r s' q => ?_
  cases r with
  | error e => exact q
  | ok fl =>
    cases fl with
    | next => exact q
    | brk => exact q
    | cont => exact q
    | ret u =>
      obtain ⟨v, H', hos, hbr, un, hok, rv, q⟩ := q
      have gone : ∀ b, M b = true → H' b = none := fun b hb => by
        have ⟨o, ho⟩ : ∃ o, s.heap.get? b = some o := by
          rcases hM b hb with ⟨xs, z⟩ | ⟨kvs, z⟩
          · obtain ⟨_, its, n, _, e⟩ := he.hok b _ z
            exact ⟨_, e⟩
          · obtain ⟨_, _, vs, _, o, es, ep, e, _⟩ := he.hok b _ z
            exact ⟨_, e⟩
        exact un.free b o ho (hid_t hb) (by simp)
      have nofr : ∀ b, M b = true → b ∉ frs outer := fun b hb z => by
        have e := he.frf b z
        rcases hM b hb with ⟨xs, y⟩ | ⟨kvs, y⟩ <;> (rw [e] at y; cases y)
      have kept : ∀ b o, M b = true → s.heap.get? b = some o → s'.heap.get? b = some o := fun b o hb ho => un.keep b o ho (hid_t hb) (nofr b hb) (by simp)
      have at_ : ∀ {b : Addr} {o : HO}, H' b = some o → put M H H' b = some o := fun {b o} e => by
        cases hb : M b with
        | true =>
          rw [gone b hb] at e
          cases e
        | false => exact (put_f hb).trans e
      refine ⟨v, put M H H', hos, hbr, ⟨fun b o z n hf hx => un.keep b o z (non n) hf hx, fun b o z n hf hx => un.slot b o z (non n) hf hx, fun b o z n hx => ?_, fun b o z hx => un.there b o z hx, fun b xs z => at_ (un.tups b xs (sub z nofun nofun)), fun b o u z => at_ (un.frzs b o u (sub z nofun nofun)), fun b ps z => ?_⟩, fun b o z => ?_, rv, q gone⟩
      · have hb : M b = false := by
          cases hb : M b with
          | false => rfl
          | true => rcases hM b hb with ⟨xs, y⟩ | ⟨kvs, y⟩ <;> (rw [n] at y; cases y)
        rw [put_f hb]
        exact un.free b o z (non n) hx
      · obtain ⟨more, e⟩ := un.tbls b ps (sub z nofun nofun)
        exact ⟨more, at_ e⟩
      · cases hb : M b with
        | true =>
          rw [put_t hb] at z
          rcases hM b hb with ⟨xs, y⟩ | ⟨kvs, y⟩
          · have e0 : o = .lst xs := Option.some.inj (z.symm.trans y)
            subst e0
            obtain ⟨zl, its, n, r, e⟩ := he.hok b _ y
            exact ⟨zl, its, n, r, kept b _ hb e⟩
          · have e0 : o = .dK kvs := Option.some.inj (z.symm.trans y)
            subst e0
            obtain ⟨zl, ne, vs, r, ob, es, ep, e, c⟩ := he.hok b _ y
            exact ⟨zl, ne, vs, r, ob, es, ep, kept b _ hb e, c⟩
        | false =>
          rw [put_f hb] at z
          exact (hok b o z).stay (fun _ _ _ y => y) (fun c y => at_ y) fun c xs y => at_ y
end RkO
set_option Elab.async false
set_option linter.all false
set_option maxRecDepth 100000
set_option maxHeartbeats 4000000
namespace Rx
open PySem PySem.Spec PyProof.Rows L2 RkO
open Evl (Ev EvT EvA EvL EvU EvO Ex)
abbrev Rel := Hp → V → Prop
def MonV (R : Rel) : Prop := ∀ (H H' : Hp) (v : V), R H v → Ex H H' → R H' v
def RV (u : V) : Rel := fun _ v => v = u
def AllR : List Rel → Hp → List V → Prop
  | [], _, xs => xs = []
  | R :: Rs, H, xs => ∃ x r, xs = x :: r ∧ R H x ∧ AllR Rs H r
def MonA (Rs : List Rel) : Prop := ∀ R ∈ Rs, MonV R
theorem AllR.mono : ∀ {Rs : List Rel} {H H' : Hp} {xs : List V}, MonA Rs → AllR Rs H xs → Ex H H' → AllR Rs H' xs
  | [], _, _, _, _, h, _ => h
  | R :: Rs, H, H', xs, m, h, e => by
    obtain ⟨x, r, rfl, h1, h2⟩ := h
    exact ⟨x, r, rfl, m R (List.mem_cons_self ..) _ _ _ h1 e, AllR.mono (fun S hS => m S (List.mem_cons_of_mem _ hS)) h2 e⟩
theorem AllR.len : ∀ {Rs : List Rel} {H : Hp} {xs : List V}, AllR Rs H xs → xs.length = Rs.length
  | [], _, _, h => by rw [show _ = [] from h]; rfl
  | R :: Rs, H, xs, h => by
    obtain ⟨x, r, rfl, _, h2⟩ := h
    rw [List.length_cons, List.length_cons, AllR.len h2]
theorem AllR.get : ∀ {Rs : List Rel} {H : Hp} {xs : List V}, AllR Rs H xs → ∀ {i : Nat} {R : Rel}, Rs[i]? = some R → ∃ x, xs[i]? = some x ∧ R H x
  | [], _, _, h, i, R, e => by simp at e
  | S :: Rs, H, xs, h, 0, R, e => by
    obtain ⟨x, r, rfl, h1, h2⟩ := h
    cases e
    exact ⟨x, rfl, h1⟩
  | S :: Rs, H, xs, h, i + 1, R, e => by
    obtain ⟨x, r, rfl, h1, h2⟩ := h
    exact AllR.get h2 (i := i) e
theorem AllR.app : ∀ {Rs Ss : List Rel} {H : Hp} {xs ys : List V}, AllR Rs H xs → AllR Ss H ys → AllR (Rs ++ Ss) H (xs ++ ys)
  | [], Ss, H, xs, ys, h, g => by
    rw [show xs = [] from h]
    exact g
  | R :: Rs, Ss, H, xs, ys, h, g => by
    obtain ⟨x, r, rfl, h1, h2⟩ := h
    exact ⟨x, r ++ ys, rfl, h1, AllR.app h2 g⟩
theorem AllR.one {R : Rel} {H : Hp} {x : V} (h : R H x) : AllR [R] H [x] := ⟨x, [], rfl, h, rfl⟩
theorem MonA.nil : MonA [] := fun _ h => by simp at h
theorem MonA.cons {R : Rel} {Rs : List Rel} (h : MonV R) (g : MonA Rs) : MonA (R :: Rs) := fun S hS => by
  rcases List.mem_cons.mp hS with rfl | hS
  · exact h
  · exact g S hS
theorem MonA.app {Rs Ss : List Rel} (h : MonA Rs) (g : MonA Ss) : MonA (Rs ++ Ss) := fun S hS => by
  rcases List.mem_append.mp hS with hS | hS
  · exact h S hS
  · exact g S hS
theorem MonA.map {α : Type} {f : α → Rel} {as : List α} (h : ∀ a ∈ as, MonV (f a)) : MonA (as.map f) := fun S hS => by
  obtain ⟨a, ha, rfl⟩ := List.mem_map.mp hS
  exact h a ha
theorem hid_ex {M : Addr → Bool} {H H' : Hp} (e : Ex H H') : Ex (hid M H) (hid M H') := fun b o z => by
  cases hb : M b with
  | true => rw [hid_t hb] at z; cases z
  | false => rw [hid_f hb] at z; rw [hid_f hb]; exact e b o z
theorem _root_.RkO.Hides.ex {M : Addr → Bool} {H H' : Hp} (h : Hides M H) (e : Ex H H') : Hides M H' := fun b hb => (h b hb).elim (fun ⟨xs, z⟩ => .inl ⟨xs, e _ _ z⟩) fun ⟨kvs, z⟩ => .inr ⟨kvs, e _ _ z⟩
theorem _root_.RkO.Hides.some {M : Addr → Bool} {H : Hp} (h : Hides M H) {b : Addr} (n : H b = none) : M b = false := by
  cases hb : M b with
  | false => rfl
  | true => rcases h b hb with ⟨_, z⟩ | ⟨_, z⟩ <;> (rw [n] at z; cases z)
def no : Addr → Bool := fun _ => false
theorem hides_no {H : Hp} : Hides no H := fun _ h => by cases h
theorem hid_no {H : Hp} : hid no H = H := by
  funext b
  exact hid_f rfl
def EvX (te : TE) (σ : L2.St) (H : Hp) (R : Rel) : Prop := ∀ (M : Addr → Bool) H1, Hides M H1 → Ex H (hid M H1) → ∀ Q : VK, (∀ v H2, Ex H1 H2 → R (hid M H2) v → Q v H2) → te σ H1 Q
section
variable {K : PySem.W.Frag} {σ : L2.St} {H H' : Hp} {ta tb te tl ti tx : TE} {t tt : TT} {as : TA} {x y z v : V} {r : R2} {R S : Rel} {Rs Ss : List Rel}
theorem EvX.mono (e : Ex H H') (h : EvX te σ H R) : EvX te σ H' R := fun M H1 hm e1 Q q => h M H1 hm (e.trans e1) Q q
theorem EvX.imp (h : EvX te σ H R) (f : ∀ H1 v, Ex H H1 → R H1 v → S H1 v) : EvX te σ H S := fun M H1 hm e1 Q q => h M H1 hm e1 Q fun v H2 e2 r => q v H2 e2 (f _ _ (e1.trans (hid_ex e2)) r)
theorem EvX.run (h : EvX te σ H R) {Q : VK} (q : ∀ v H2, Ex H H2 → R H2 v → Q v H2) : te σ H Q := h no H hides_no (by rw [hid_no]; exact Ex.refl H) Q fun v H2 e r => q v H2 e (by rw [hid_no] at r; exact r)
end
theorem un_var {v : V} {i : Nat} {σ : L2.St} {H : Hp} {Q : VK} (h0 : σ[i]? = some (some v)) (h : Q v H) : tVar i σ H Q := ⟨v, h0, h⟩
theorem un_drop {te : TE} {D : Ends} {σ : L2.St} {H : Hp} (h : te σ H fun _ H1 => D.nx σ H1) : tDrop te D σ H := h
theorem AllR.take {Rs : List Rel} {H : Hp} : ∀ {xs : List V} (k : Nat), AllR Rs H xs → AllR (Rs.take k) H (xs.take k) := by
  induction Rs with
  | nil =>
    intro xs k h
    rw [show xs = [] from h]
    simp
    rfl
  | cons R Rs ih =>
    intro xs k h
    obtain ⟨x, r, rfl, h1, h2⟩ := h
    cases k with
    | zero => rfl
    | succ k => exact ⟨x, r.take k, rfl, h1, ih k h2⟩
section
variable {X : Cx} {K : PySem.W.Frag}
theorem callR_K {f : Value} {r : PySem.W.Frag → List V → Hp → VK → Prop} (hK : X.K = K) (h : CallR X f (r X.K)) : CallR X f (r K) := by
  subst hK
  exact h
end
end Rx
set_option Elab.async false
set_option linter.all false
set_option maxRecDepth 100000
set_option maxHeartbeats 4000000
namespace Rx
open PySem PySem.Spec PyProof.Rows L2 RkO
section
variable {X : Cx} {CX : CXT} {k : Nat} {f C : Addr} {fd : FuncData} {ps : List Str} {sp : Sp} {dvs : List V} {ds : List Value} {E : L2.St → XK} {m : Str} {pos apos : Pos} {e o : Expr} {es : List Expr} {ta : TE} {t : TA}
def tMethSd (C : Addr) (m : Str) (sp : Sp) (dvs : List V) (E : L2.St → XK) (ta : TE) (t : TA) : TE := fun σ H Q => ta σ H fun x H1 => ∃ a dx fs, x = .ref a ∧ H1 a = some (.ins C dx fs) ∧ fs.lookup m = none ∧
  t σ H1 fun vs H2 => sp (x :: (vs ++ dvs)) H2 Q (E σ)
theorem run_fnE {pins : List (Addr × Obj)} {σ : L2.St} {H : Hp} {s : Shared} {Q : VK} {us : List Value} {vs : List V} (F : FnOk X.prog X.w X.K X.mg X.base CX k f fd ps sp) (hr : Room k X.A) (hb : Binds X.K fd ps ds) (hd : Vals dvs ds) (hx : PassesAt CX X σ (E σ))
    (I : Inv X pins σ H s) (r : Vals vs us) (h : sp (vs ++ dvs) H Q (E σ)) : wpAny (model X.prog X.w) X.A (call (.ref f) us) (EP X pins σ Q) X.xe s := by
  have r2 : Vals (vs ++ dvs) (us ++ ds) := r.append hd
  have hl : (us ++ ds).length = ps.length := by rw [← r2.length]; exact F.len _ _ _ _ h
  refine wpAny_call (codeAny_mono (F.run X.A X.stack s H ⟨us, []⟩ (us ++ ds) (vs ++ dvs) Q (E σ) hr I.env0 (hb s us I.kIn hl) r2 h) fun r s' hq => ?_)
  cases r with
  | error e => exact hx pins H s e s' I hq
  | ok fl =>
    cases fl with
    | ret u => exact I.after hq
    | next => exact False.elim hq
    | brk => exact False.elim hq
    | cont => exact False.elim hq
end
def spExc (C : Addr) (f : Str) : Sp := fun vs H Q _ => ∃ (a : Addr) (v : V), vs = [.ref a, v] ∧ H a = some (exo a C none) ∧ ∀ dx, H dx = none → dx ≠ a → Q .non (upd (upd H dx (exd dx [(f, v)])) a (exo a C (some dx)))
theorem exc_heap {H : Hp} {a d C : Addr} {o : HO} {fs : List (Str × V)} (ha : H a = none) (hd : d ≠ a) : upd (del (upd (upd (upd H a o) d (exd d fs)) a (exo a C (some d))) a) d (.xd fs) = upd H d (.xd fs) := by
  funext b
  by_cases h1 : b = d
  · rw [h1, upd_same, upd_same]
  · rw [upd_ne h1, upd_ne h1]
    by_cases h2 : b = a
    · rw [h2, del_same, ha]
    · rw [del_ne h2, upd_ne h2, upd_ne h1, upd_ne h2]
/-- the end of C(e), its argument read -/
theorem exc_new {C : Addr} {f : Str} {v : V} {H : Hp} {Q : XK} (q : ∀ d, H d = none → Q (.ref C) (some d) (upd H d (.xd [(f, v)]))) : [v].length ≤ 1000 ∧ ∀ a, H a = none → spExc C f (.ref a :: ([v] ++ [])) (upd H a (exo a C none))
    (fun u H2 => u = .non ∧ ∃ (d : Addr) (fs : List (Str × V)), H2 a = some (exo a C (some d)) ∧ H2 d = some (exd d fs) ∧ H d = none ∧ Q (.ref C) (some d) (upd (del H2 a) d (.xd fs))) (fun _ _ _ => False) :=
  ⟨Nat.le_of_ble_eq_true rfl, fun a ha => ⟨a, v, rfl, upd_same, fun dx hn hd => by
    rw [upd_ne hd] at hn
    refine ⟨rfl, dx, _, upd_same, by rw [upd_ne hd, upd_same], hn, ?_⟩
    rw [exc_heap ha hd]
    exact q dx hn⟩⟩
theorem un_mk {C : Addr} {sp : Sp} {te : TE} {σ : L2.St} {H : Hp} {Q : XK} (h : te σ H fun v H1 => [v].length ≤ 1000 ∧ ∀ a, H1 a = none → sp (.ref a :: ([v] ++ [])) (upd H1 a (exo a C none))
    (fun u H2 => u = .non ∧ ∃ (d : Addr) (fs : List (Str × V)), H2 a = some (exo a C (some d)) ∧ H2 d = some (exd d fs) ∧ H1 d = none ∧ Q (.ref C) (some d) (upd (del H2 a) d (.xd fs))) (fun _ _ _ => False)) : tMkO C sp [] (tCons te tNil) σ H Q := h
end Rx
set_option Elab.async false
set_option linter.all false
set_option maxRecDepth 100000
set_option maxHeartbeats 4000000
namespace Rx
open PySem PySem.Spec PyProof.Rows L2
end Rx
set_option Elab.async false
set_option linter.all false
set_option maxRecDepth 100000
set_option maxHeartbeats 4000000
namespace L2
open PySem PySem.Spec PyProof.Rows HT
end L2
set_option Elab.async false
set_option linter.all false
set_option maxRecDepth 100000
set_option maxHeartbeats 4000000
namespace L2
open PySem PySem.Spec PyProof.Rows
end L2
set_option Elab.async false
set_option linter.all false
set_option maxRecDepth 100000
set_option maxHeartbeats 4000000
namespace L2
open PySem PySem.Spec PyProof.Rows
end L2
set_option Elab.async false
set_option linter.all false
set_option maxRecDepth 100000
set_option maxHeartbeats 6400000
namespace RkT
open PySem PySem.Spec PyProof.Rows
section
variable {κ : Type} [DecidableEq κ] [BEq κ] [LawfulBEq κ]
/-- how many different ones stand among the first i -/
def diffs (x : Nat → κ) : Nat → Nat
  | 0 => 0
  | i + 1 => if ((List.range i).any fun j => x j == x i) then diffs x i else diffs x i + 1
theorem diffs_le (x : Nat → κ) : ∀ i, diffs x i ≤ i
  | 0 => Nat.le_refl _
  | i + 1 => by
    have := diffs_le x i
    unfold diffs
    split <;> omega
variable {prog : Program} {w : World} {knd : KeyKind prog w κ}
def mem (x : Nat → κ) (i : Nat) : κ → Bool := fun k => (List.range i).any fun j => x j == k
def e0 (led : Bool) : Obj := { cls := .type "set", dict := none, data := .set #[] 0 (.fresh 0 0 led) }
variable {A : Around}
/-- the loop that fills the set -/
theorem fills {R : Result → Shared → Prop} {I : Addr} {fp wr : List Addr} {G : Array GenState → Array GenState → Prop} {n : Nat} {Py : Nat → Value → Prop} {St : Nat → Shared → Prop}
    (W : WalksS prog w A.in1 I fp wr G n Py St) (S : Addr) (out : S ∉ fp) (x : Nat → κ) (small : n + 1 < scanBound) (val : ∀ i v, Py i v → knd.is (x i) v = true ∧ v.scannable = true) :
    ∀ (m i : Nat) (s : Shared), n - i = m → i ≤ n → St i s → s.heap.SetOf knd S (mem x i) (diffs x i) →
      (∀ s', Moved (S :: wr) G s s' → s'.heap.SetOf knd S (mem x n) (diffs x n) → R (.ok (.ret .none)) s') → codeAny (model prog w) A (.builtin "set.update.loop" ⟨[.ref S, .ref I], []⟩) R s := by
  have outw : S ∉ wr := fun h => out (W.sub _ h)
  have up : ∀ b ∈ wr, b ∈ S :: wr := fun b hb => .tail _ hb
  intro m
  induction m with
  | zero =>
    intro i s hm hi hst hS hR
    obtain rfl : i = n := by omega
    refine codeAny_builtin F.entry_set_update_loop ?_
    rw [Around.under_plainId F.plain_set_update_loop _]
    show wpAny (model prog w) A.in1 (pyNext (.ref I) >>= _) _ _ s
    refine wpAny_bind (W.done s _ _ hst fun s' mv => ?_)
    show wpAny (model prog w) A.in1 (ret Value.none) _ _ s'
    refine wpAny_pure (hR s' (mv.mono up) ?_)
    obtain ⟨o, es, ep, t, ho, more⟩ := hS
    exact ⟨o, es, ep, t, mv.heap S o outw ho, more⟩
  | succ m ih =>
    intro i s hm hi hst hS hR
    have hlt : i < n := by omega
    refine codeAny_builtin F.entry_set_update_loop ?_
    rw [Around.under_plainId F.plain_set_update_loop _]
    show wpAny (model prog w) A.in1 (pyNext (.ref I) >>= _) _ _ s
    refine wpAny_bind (W.item i s _ _ hlt hst fun v s' pv st' mv => ?_)
    obtain ⟨hk, hsc⟩ := val i v pv
    have there : s'.heap.SetOf knd S (mem x i) (diffs x i) := by
      obtain ⟨o, es, ep, t, ho, more⟩ := hS
      exact ⟨o, es, ep, t, mv.heap S o outw ho, more⟩
    show wpAny (model prog w) A.in1 (holding [v] (setAdd S v) >>= _) _ _ s'
    refine wpAny_bind (wpAny_holding ?_)
    unfold setAdd
    refine wpAny_holding (wpAny_bind (knd.pyHash (k := x i) hk ?_))
    have room := diffs_le x i
    refine wpAny_setAddHashed_of (knd := knd) (s := { s' with toks := s'.toks + 1 }) hk hsc there (by omega) fun h' sb now => ?_
    have next : h'.SetOf knd S (mem x (i + 1)) (diffs x (i + 1)) := by
      refine SetOf_congr now (fun k => ?_) (by show (if mem x i (x i) = true then _ else _) = _; rfl)
      show (mem x i k || decide (k = x i)) = mem x (i + 1) k
      unfold mem
      rw [List.range_succ, List.any_append, List.any_cons, List.any_nil, Bool.or_false]
      congr 1
      by_cases e : k = x i
      · subst e; simp
      · rw [decide_eq_false e]
        exact (beq_eq_false_iff_ne.mpr fun z => e z.symm).symm
    have off : ∀ b ∈ fp, b ≠ S := fun b hb z => out (z ▸ hb)
    refine wpAny_pure ⟨plainId_quiet F.plain_set_update_loop _, ih (i + 1) _ (by omega) hlt (W.frame _ s' _ _ st' (Nat.le_succ _) fun b hb o e => (sb.2 b (off b hb)).trans e) next fun s'' mv' done => ?_⟩
    refine hR s'' (Moved.trans W.gtrans ((mv.mono up).then_heap (Nat.le_succ _) fun b o hb e => ?_) mv') done
    exact (sb.2 b fun z => hb (z ▸ List.mem_cons_self)).trans e
/-- set(l), l a list of n keys -/
theorem make {E : Value → Shared → Prop} {s : Shared} {l : Addr} {items : Array Value} {x : Nat → κ} {Q : Value → Shared → Prop} (calm : A.handled = none) (hl : s.heap.IsList l items) (small : items.size + 1 < scanBound)
    (val : ∀ (i : Nat) (v : Value), items[i]? = some v → knd.is (x i) v = true ∧ v.scannable = true) (fresh0 : ∀ led, (e0 led).SetObjOf knd (fun _ => false) 0)
    (h : ∀ (h' : Heap) (tk : Nat), h'.SetOf knd s.heap.objs.size (mem x items.size) (diffs x items.size) → (∀ b o, b < s.heap.objs.size → s.heap.get? b = some o → h'.get? b = some o) → Q (.ref s.heap.objs.size) { s with heap := h', toks := tk }) :
    wpAny (model prog w) A (call (.type "set") [.ref l]) Q E s := by
  have ⟨cc, tl, bases⟩ := PySem.F.called_set.mro
  have q1 := PySem.F.called_set.made
  have q2 := PySem.F.called_set.sub
  have q3 := PySem.F.called_set.notType
  have q4 := PySem.F.called_set.canCreate
  have q5 := PySem.F.typeCall_set_1 (.ref l)
  refine wpAny_call (codeAny_of_tree ?_)
  show wpAny (model prog w) _ (callAny (.type "set") _) _ _ s
  refine wpAny_pure ⟨Code.quiet_builtin _ (by decide +kernel), codeAny_builtin PySem.F.entry_type_call (by
    rw [Around.under_plain (weight_type_call_type "set" [.ref l] []) rfl]
    repeat (any_goals (first | assumption | wp_step))
    refine codeAny_mono (code_set_new_1 (.ref l) (E := E) (Q₁ := fun a s₁ => ∃ led : Bool, a = .ref s.heap.objs.size ∧ s₁ = { s with heap := s.heap.push (e0 led) }) fun led => ⟨led, rfl, rfl⟩) fun r s₁ hr => ?_
    rcases r with e | fl
    · exact hr
    obtain ⟨v0, rfl⟩ : ∃ v0, fl = .ret v0 := by
      cases fl with
      | ret v => exact ⟨v, rfl⟩
      | _ => exact hr.elim
    obtain ⟨led, rfl, rfl⟩ := hr
    have at0 : (s.heap.push (e0 led)).get? s.heap.objs.size = some (e0 led) := Heap.get?_push_size _ rfl
    have ty : Shared.TypeIs { s with heap := s.heap.push (e0 led) } (.ref s.heap.objs.size) "set" := ⟨_, at0, rfl⟩
    have i1 := PySem.F.called_set.init.lookup
    have i2 := PySem.F.called_set.init.bind (.ref s.heap.objs.size)
    repeat (any_goals (first | assumption | wp_step))
    refine codeAny_mono (codeAny_call_builtin (R := wants (fun r s₂ => r = .none ∧ ∃ h' tk, s₂ = { s with heap := h', toks := tk } ∧ h'.SetOf knd s.heap.objs.size (mem x items.size) (diffs x items.size) ∧ ∀ b o, b < s.heap.objs.size → s.heap.get? b = some o → h'.get? b = some o) E)
      PySem.F.called_set.init.plain PySem.F.entry_set_init (check_set_init_1 ty ?_)) fun r₂ s₂ hr₂ => ?_
    · obtain ⟨⟨oc, od, odt, osl⟩, hol, hcl, nl, hdl⟩ := hl
      simp only at hcl hdl
      subst hcl hdl
      have at1 : (s.heap.push (e0 led)).get? l = some ⟨.type "list", od, .seq items nl, osl⟩ := Heap.get?_push_of_some _ hol
      have t1 := PySem.F.sub_list_set
      have t2 := PySem.F.sub_list_frozenset
      have t3 : (Value.type "list" == Value.type "dict") = false := by decide
      have isl : (s.heap.push (e0 led)).IsList l items := ⟨_, at1, rfl, nl, rfl⟩
      unfold Builtin.«set.__init__» noKeywords Builtin.Frozenset.updateFrom
      generalize hPI : pyIter = PI
      wp_walk
      subst hPI
      refine wpAny_pyIter_list isl (wpAny_bind (wpAny_runValue ?_))
      have l0 : l < s.heap.objs.size := Heap.lt_size hol
      have sz : (s.heap.push (e0 led)).objs.size = s.heap.objs.size + 1 := Heap.size_push ..
      have l1 : l ≠ (s.heap.push (e0 led)).objs.size := by rw [sz]; exact Nat.ne_of_lt (Nat.lt_succ_of_lt l0)
      have out : s.heap.objs.size ∉ [(s.heap.push (e0 led)).objs.size, l] := by
        rw [sz]
        simp only [List.mem_cons, List.not_mem_nil, or_false, not_or]
        exact ⟨Nat.ne_of_lt (Nat.lt_succ_self _), Nat.ne_of_gt l0⟩
      refine fills ((Walks.list (by simp [calm]) _ l l1 items).toS) s.heap.objs.size out x small val (items.size - 0) 0 _ (by omega) (Nat.zero_le _) ⟨⟨_, Heap.get?_push_size _ rfl, rfl, rfl⟩, isl.push _⟩ ?start ?fin
      case start =>
        refine SetOf_congr ((fresh0 led).setOf (Heap.get?_push_of_some _ at0) (by unfold scanBound; omega)) (fun _ => rfl) rfl
      case fin =>
        rintro ⟨h', g', d', tk', os'⟩ mv full
        obtain rfl : g' = s.gens := mv.gens
        obtain rfl : d' = s.drawn := mv.drawn
        obtain rfl : os' = s.os := mv.os
        show wpAny _ _ _ _ _ _
        refine wpAny_pure ?_
        show wpAny _ _ (ret Value.none) _ _ _
        refine wpAny_pure ⟨rfl, h', tk', rfl, full, fun b o hb e => mv.heap b o ?_ (Heap.get?_push_of_some _ (Heap.get?_push_of_some _ e))⟩
        rw [sz]
        simp only [List.mem_cons, List.not_mem_nil, or_false, not_or]
        exact ⟨Nat.ne_of_lt hb, Nat.ne_of_lt (Nat.lt_succ_of_lt hb)⟩
    · rcases r₂ with e | fl₂
      · exact hr₂
      obtain ⟨v0, rfl⟩ : ∃ v0, fl₂ = .ret v0 := by
        cases fl₂ with
        | ret v => exact ⟨v, rfl⟩
        | _ => exact hr₂.elim
      obtain ⟨rfl, h', tk, rfl, full, kept⟩ := hr₂
      repeat (any_goals (first | assumption | wp_step))
      exact h _ _ full kept)⟩
end
end RkT
namespace RkO
open PySem PySem.Spec PyProof.Rows L2
end RkO
set_option Elab.async false
set_option linter.all false
set_option maxRecDepth 100000
set_option maxHeartbeats 4000000
set_option Elab.async false
set_option linter.all false
set_option maxRecDepth 100000
set_option maxHeartbeats 4000000
namespace RkO
open PySem PySem.Spec PyProof.Rows L2
end RkO
set_option Elab.async false
set_option linter.all false
set_option maxRecDepth 100000
set_option maxHeartbeats 4000000
namespace RkO
open PySem PySem.Spec PyProof.Rows L2
end RkO
set_option Elab.async false
set_option linter.all false
set_option maxRecDepth 100000
set_option maxHeartbeats 4000000
namespace RkO
open PySem PySem.Spec PyProof.Rows L2
end RkO
set_option Elab.async false
set_option linter.all false
set_option maxRecDepth 100000
namespace Rx
open PySem PySem.Spec PyProof.Rows
end Rx
namespace L2
open PySem PySem.Spec PyProof.Rows
end L2
set_option Elab.async false
set_option linter.all false
set_option maxRecDepth 100000
set_option maxHeartbeats 4000000
namespace Rx
open PySem PySem.Spec PyProof.Rows L2 RkO
open Evl (Ev EvT EvA EvL EvU EvO Ex)
end Rx
set_option Elab.async false
set_option linter.all false
set_option maxRecDepth 100000
set_option maxHeartbeats 4000000
namespace Fv
open PySem PySem.Spec PyProof.Rows L2 RkO
open Classical
inductive D where
  | non | bl (b : Bool) | int (i : Int) | str (s : Str)
  | scr (ns : List Int)
  | lst (xs : List D) | tup (xs : List D)
  | dic (kvs : List (Key × D)) | dit (kvs : List (List Key × D))
  | obj (C : Addr) (n : Option Nat) (fs : List (Str × D))
inductive O where
  | dp (d : D)
  | lst (xs : List O)
  | dic (kvs : List (Key × O)) | dit (kvs : List (List Key × O))
  | obj (C : Addr) (n : Option Nat) (fs : List (Str × O))
noncomputable def hidP (M : Addr → Prop) (H : Hp) : Hp := fun b => if M b then none else H b
theorem hidP_t {M : Addr → Prop} {H : Hp} {b : Addr} (h : M b) : hidP M H b = none := if_pos h
theorem hidP_f {M : Addr → Prop} {H : Hp} {b : Addr} (h : ¬ M b) : hidP M H b = H b := if_neg h
theorem hidP_some {M : Addr → Prop} {H : Hp} {b : Addr} {o : HO} (h : hidP M H b = some o) : ¬ M b ∧ H b = some o := by
  by_cases m : M b
  · rw [hidP_t m] at h; cases h
  · exact ⟨m, by rw [hidP_f m] at h; exact h⟩
theorem hidP_le {M : Addr → Prop} {H : Hp} : Same (hidP M H) H := fun _ _ h => (hidP_some h).2
theorem hidP_sub {M M' : Addr → Prop} {H : Hp} (h : ∀ a, M' a → M a) : Same (hidP M H) (hidP M' H) := fun b o q => by
  obtain ⟨n, q⟩ := hidP_some q
  rw [hidP_f fun z => n (h b z)]
  exact q
theorem hidP_same {M M' : Addr → Prop} {H H' : Hp} (h : ∀ a, M' a → M a ∨ H a = none) (e : Same H H') : Same (hidP M H) (hidP M' H') := fun b o q => by
  obtain ⟨n, q⟩ := hidP_some q
  rw [hidP_f fun z => (h b z).elim n fun z => by rw [z] at q; cases q]
  exact e b o q
section
variable (K : PySem.W.Frag) (ι : List Addr)
mutual
def R : D → Hp → V → Prop
  | .non => fun _ v => v = .non
  | .bl b => fun _ v => v = .bl b
  | .int i => fun _ v => v = .int i
  | .str s => fun _ v => v = .str s
  | .scr ns => fun H v => ∃ a, v = .ref a ∧ SqL K H a (ns.map V.int)
  | .lst ds => fun H v => ∃ a xs, v = .ref a ∧ H a = some (.lst xs) ∧ Rs ds H xs
  | .tup ds => fun H v => ∃ a xs, v = .ref a ∧ H a = some (.tup xs) ∧ Rs ds H xs
  | .dic kvs => fun H v => ∃ a xs, v = .ref a ∧ H a = some (.dK xs) ∧ Rk kvs H xs
  | .dit kvs => fun H v => ∃ a xs, v = .ref a ∧ H a = some (.dT xs) ∧ Rt kvs H xs
  | .obj C n fs => fun H v => ∃ a dx xs, v = .ref a ∧ H a = some (.ins C dx xs) ∧ (∀ m, n = some m → ι[m]? = some a) ∧ Rf fs H xs
def Rs : List D → Hp → List V → Prop
  | [] => fun _ xs => xs = []
  | d :: ds => fun H xs => ∃ x r, xs = x :: r ∧ R d H x ∧ Rs ds H r
def Rk : List (Key × D) → Hp → List (Key × V) → Prop
  | [] => fun _ xs => xs = []
  | (k, d) :: ds => fun H xs => ∃ x r, xs = (k, x) :: r ∧ R d H x ∧ Rk ds H r
def Rt : List (List Key × D) → Hp → List (List Key × V) → Prop
  | [] => fun _ xs => xs = []
  | (k, d) :: ds => fun H xs => ∃ x r, xs = (k, x) :: r ∧ R d H x ∧ Rt ds H r
def Rf : List (Str × D) → Hp → List (Str × V) → Prop
  | [] => fun _ xs => xs = []
  | (k, d) :: ds => fun H xs => ∃ x r, xs = (k, x) :: r ∧ R d H x ∧ Rf ds H r
end
end
/-- one list of ids goes on from the other -/
def Goes (ι ι' : List Addr) : Prop := ∀ (m : Nat) (a : Addr), ι[m]? = some a → ι'[m]? = some a
theorem Goes.refl (ι : List Addr) : Goes ι ι := fun _ _ h => h
theorem Goes.trans {a b c : List Addr} (h : Goes a b) (g : Goes b c) : Goes a c := fun m x q => g m x (h m x q)
theorem Goes.app (ι t : List Addr) : Goes ι (ι ++ t) := fun m a h => by
  rw [List.getElem?_append_left (List.getElem?_eq_some_iff.mp h).1]
  exact h
section
variable {K : PySem.W.Frag} {ι ι' : List Addr}
mutual
theorem R.mono : ∀ (d : D) {H H' : Hp} {v : V}, R K ι d H v → Goes ι ι' → Same H H' → R K ι' d H' v
  | .non, _, _, _, h, _, _ => h
  | .bl _, _, _, _, h, _, _ => h
  | .int _, _, _, _, h, _, _ => h
  | .str _, _, _, _, h, _, _ => h
  | .scr ns, _, _, _, h, g, e => by
    obtain ⟨a, rfl, h1⟩ := h
    exact ⟨a, rfl, e.seq h1⟩
  | .lst ds, _, _, _, h, g, e => by
    obtain ⟨a, xs, rfl, h1, h2⟩ := h
    exact ⟨a, xs, rfl, e _ _ h1, Rs.mono ds h2 g e⟩
  | .tup ds, _, _, _, h, g, e => by
    obtain ⟨a, xs, rfl, h1, h2⟩ := h
    exact ⟨a, xs, rfl, e _ _ h1, Rs.mono ds h2 g e⟩
  | .dic kvs, _, _, _, h, g, e => by
    obtain ⟨a, xs, rfl, h1, h2⟩ := h
    exact ⟨a, xs, rfl, e _ _ h1, Rk.mono kvs h2 g e⟩
  | .dit kvs, _, _, _, h, g, e => by
    obtain ⟨a, xs, rfl, h1, h2⟩ := h
    exact ⟨a, xs, rfl, e _ _ h1, Rt.mono kvs h2 g e⟩
  | .obj C n fs, _, _, _, h, g, e => by
    obtain ⟨a, dx, xs, rfl, h1, h2, h3⟩ := h
    exact ⟨a, dx, xs, rfl, e _ _ h1, fun m q => g m a (h2 m q), Rf.mono fs h3 g e⟩
theorem Rs.mono : ∀ (ds : List D) {H H' : Hp} {xs : List V}, Rs K ι ds H xs → Goes ι ι' → Same H H' → Rs K ι' ds H' xs
  | [], _, _, _, h, _, _ => h
  | d :: ds, _, _, _, h, g, e => by
    obtain ⟨x, r, rfl, h1, h2⟩ := h
    exact ⟨x, r, rfl, R.mono d h1 g e, Rs.mono ds h2 g e⟩
theorem Rk.mono : ∀ (ds : List (Key × D)) {H H' : Hp} {xs : List (Key × V)}, Rk K ι ds H xs → Goes ι ι' → Same H H' → Rk K ι' ds H' xs
  | [], _, _, _, h, _, _ => h
  | (k, d) :: ds, _, _, _, h, g, e => by
    obtain ⟨x, r, rfl, h1, h2⟩ := h
    exact ⟨x, r, rfl, R.mono d h1 g e, Rk.mono ds h2 g e⟩
theorem Rt.mono : ∀ (ds : List (List Key × D)) {H H' : Hp} {xs : List (List Key × V)}, Rt K ι ds H xs → Goes ι ι' → Same H H' → Rt K ι' ds H' xs
  | [], _, _, _, h, _, _ => h
  | (k, d) :: ds, _, _, _, h, g, e => by
    obtain ⟨x, r, rfl, h1, h2⟩ := h
    exact ⟨x, r, rfl, R.mono d h1 g e, Rt.mono ds h2 g e⟩
theorem Rf.mono : ∀ (ds : List (Str × D)) {H H' : Hp} {xs : List (Str × V)}, Rf K ι ds H xs → Goes ι ι' → Same H H' → Rf K ι' ds H' xs
  | [], _, _, _, h, _, _ => h
  | (k, d) :: ds, _, _, _, h, g, e => by
    obtain ⟨x, r, rfl, h1, h2⟩ := h
    exact ⟨x, r, rfl, R.mono d h1 g e, Rf.mono ds h2 g e⟩
end
end
mutual
def O.toD : O → D
  | .dp d => d
  | .lst xs => .lst (toDs xs)
  | .dic kvs => .dic (toDk kvs)
  | .dit kvs => .dit (toDt kvs)
  | .obj C n fs => .obj C n (toDf fs)
def toDs : List O → List D
  | [] => []
  | o :: os => o.toD :: toDs os
def toDk : List (Key × O) → List (Key × D)
  | [] => []
  | (k, o) :: os => (k, o.toD) :: toDk os
def toDt : List (List Key × O) → List (List Key × D)
  | [] => []
  | (k, o) :: os => (k, o.toD) :: toDt os
def toDf : List (Str × O) → List (Str × D)
  | [] => []
  | (k, o) :: os => (k, o.toD) :: toDf os
end
section
variable (K : PySem.W.Frag) (ι : List Addr) (M : Addr → Prop)
mutual
def RO : O → List Addr → Hp → V → Prop
  | .dp d => fun fp H v => fp = [] ∧ R K ι d (hidP M H) v
  | .lst os => fun fp H v => ∃ a r xs, fp = a :: r ∧ v = .ref a ∧ H a = some (.lst xs) ∧ ROs os r H xs
  | .dic kvs => fun fp H v => ∃ a r xs, fp = a :: r ∧ v = .ref a ∧ H a = some (.dK xs) ∧ ROk kvs r H xs
  | .dit kvs => fun fp H v => ∃ a r xs, fp = a :: r ∧ v = .ref a ∧ H a = some (.dT xs) ∧ ROt kvs r H xs
  | .obj C n fs => fun fp H v => ∃ a r dx xs, fp = a :: r ∧ v = .ref a ∧ H a = some (.ins C dx xs) ∧ (∀ m, n = some m → ι[m]? = some a) ∧ ROf fs r H xs
def ROs : List O → List Addr → Hp → List V → Prop
  | [] => fun fp _ xs => fp = [] ∧ xs = []
  | o :: os => fun fp H xs => ∃ f1 f2 x r, fp = f1 ++ f2 ∧ xs = x :: r ∧ RO o f1 H x ∧ ROs os f2 H r
def ROk : List (Key × O) → List Addr → Hp → List (Key × V) → Prop
  | [] => fun fp _ xs => fp = [] ∧ xs = []
  | (k, o) :: os => fun fp H xs => ∃ f1 f2 x r, fp = f1 ++ f2 ∧ xs = (k, x) :: r ∧ RO o f1 H x ∧ ROk os f2 H r
def ROt : List (List Key × O) → List Addr → Hp → List (List Key × V) → Prop
  | [] => fun fp _ xs => fp = [] ∧ xs = []
  | (k, o) :: os => fun fp H xs => ∃ f1 f2 x r, fp = f1 ++ f2 ∧ xs = (k, x) :: r ∧ RO o f1 H x ∧ ROt os f2 H r
def ROf : List (Str × O) → List Addr → Hp → List (Str × V) → Prop
  | [] => fun fp _ xs => fp = [] ∧ xs = []
  | (k, o) :: os => fun fp H xs => ∃ f1 f2 x r, fp = f1 ++ f2 ∧ xs = (k, x) :: r ∧ RO o f1 H x ∧ ROf os f2 H r
end
end
section
variable {K : PySem.W.Frag} {ι ι' : List Addr} {M M' : Addr → Prop}
mutual
theorem RO.stay : ∀ (o : O) {fp : List Addr} {H H' : Hp} {v : V}, RO K ι M o fp H v → Goes ι ι' → (∀ a ∈ fp, H' a = H a) → Same (hidP M H) (hidP M' H') → RO K ι' M' o fp H' v
  | .dp d, _, _, _, _, h, g, _, e => ⟨h.1, R.mono d h.2 g e⟩
  | .lst os, _, _, _, _, h, g, k, e => by
    obtain ⟨a, r, xs, rfl, rfl, h1, h2⟩ := h
    exact ⟨a, r, xs, rfl, rfl, (k a List.mem_cons_self).trans h1, ROs.stay os h2 g (fun b hb => k b (List.mem_cons_of_mem _ hb)) e⟩
  | .dic os, _, _, _, _, h, g, k, e => by
    obtain ⟨a, r, xs, rfl, rfl, h1, h2⟩ := h
    exact ⟨a, r, xs, rfl, rfl, (k a List.mem_cons_self).trans h1, ROk.stay os h2 g (fun b hb => k b (List.mem_cons_of_mem _ hb)) e⟩
  | .dit os, _, _, _, _, h, g, k, e => by
    obtain ⟨a, r, xs, rfl, rfl, h1, h2⟩ := h
    exact ⟨a, r, xs, rfl, rfl, (k a List.mem_cons_self).trans h1, ROt.stay os h2 g (fun b hb => k b (List.mem_cons_of_mem _ hb)) e⟩
  | .obj C n os, _, _, _, _, h, g, k, e => by
    obtain ⟨a, r, dx, xs, rfl, rfl, h1, hn, h2⟩ := h
    exact ⟨a, r, dx, xs, rfl, rfl, (k a List.mem_cons_self).trans h1, fun m q => g m a (hn m q), ROf.stay os h2 g (fun b hb => k b (List.mem_cons_of_mem _ hb)) e⟩
theorem ROs.stay : ∀ (os : List O) {fp : List Addr} {H H' : Hp} {xs : List V}, ROs K ι M os fp H xs → Goes ι ι' → (∀ a ∈ fp, H' a = H a) → Same (hidP M H) (hidP M' H') → ROs K ι' M' os fp H' xs
  | [], _, _, _, _, h, _, _, _ => h
  | o :: os, _, _, _, _, h, g, k, e => by
    obtain ⟨f1, f2, x, r, rfl, rfl, h1, h2⟩ := h
    exact ⟨f1, f2, x, r, rfl, rfl, RO.stay o h1 g (fun a ha => k a (List.mem_append_left _ ha)) e, ROs.stay os h2 g (fun a ha => k a (List.mem_append_right _ ha)) e⟩
theorem ROk.stay : ∀ (os : List (Key × O)) {fp : List Addr} {H H' : Hp} {xs : List (Key × V)}, ROk K ι M os fp H xs → Goes ι ι' → (∀ a ∈ fp, H' a = H a) → Same (hidP M H) (hidP M' H') → ROk K ι' M' os fp H' xs
  | [], _, _, _, _, h, _, _, _ => h
  | (k0, o) :: os, _, _, _, _, h, g, k, e => by
    obtain ⟨f1, f2, x, r, rfl, rfl, h1, h2⟩ := h
    exact ⟨f1, f2, x, r, rfl, rfl, RO.stay o h1 g (fun a ha => k a (List.mem_append_left _ ha)) e, ROk.stay os h2 g (fun a ha => k a (List.mem_append_right _ ha)) e⟩
theorem ROt.stay : ∀ (os : List (List Key × O)) {fp : List Addr} {H H' : Hp} {xs : List (List Key × V)}, ROt K ι M os fp H xs → Goes ι ι' → (∀ a ∈ fp, H' a = H a) → Same (hidP M H) (hidP M' H') → ROt K ι' M' os fp H' xs
  | [], _, _, _, _, h, _, _, _ => h
  | (k0, o) :: os, _, _, _, _, h, g, k, e => by
    obtain ⟨f1, f2, x, r, rfl, rfl, h1, h2⟩ := h
    exact ⟨f1, f2, x, r, rfl, rfl, RO.stay o h1 g (fun a ha => k a (List.mem_append_left _ ha)) e, ROt.stay os h2 g (fun a ha => k a (List.mem_append_right _ ha)) e⟩
theorem ROf.stay : ∀ (os : List (Str × O)) {fp : List Addr} {H H' : Hp} {xs : List (Str × V)}, ROf K ι M os fp H xs → Goes ι ι' → (∀ a ∈ fp, H' a = H a) → Same (hidP M H) (hidP M' H') → ROf K ι' M' os fp H' xs
  | [], _, _, _, _, h, _, _, _ => h
  | (k0, o) :: os, _, _, _, _, h, g, k, e => by
    obtain ⟨f1, f2, x, r, rfl, rfl, h1, h2⟩ := h
    exact ⟨f1, f2, x, r, rfl, rfl, RO.stay o h1 g (fun a ha => k a (List.mem_append_left _ ha)) e, ROf.stay os h2 g (fun a ha => k a (List.mem_append_right _ ha)) e⟩
end
mutual
theorem RO.give : ∀ (o : O) {fp : List Addr} {H H' : Hp} {v : V}, RO K ι M o fp H v → (∀ a ∈ fp, H' a = H a) → Same (hidP M H) H' → R K ι o.toD H' v
  | .dp d, _, _, _, _, h, _, e => R.mono d h.2 (Goes.refl _) e
  | .lst os, _, _, _, _, h, k, e => by
    obtain ⟨a, r, xs, rfl, rfl, h1, h2⟩ := h
    exact ⟨a, xs, rfl, (k a List.mem_cons_self).trans h1, ROs.give os h2 (fun b hb => k b (List.mem_cons_of_mem _ hb)) e⟩
  | .dic os, _, _, _, _, h, k, e => by
    obtain ⟨a, r, xs, rfl, rfl, h1, h2⟩ := h
    exact ⟨a, xs, rfl, (k a List.mem_cons_self).trans h1, ROk.give os h2 (fun b hb => k b (List.mem_cons_of_mem _ hb)) e⟩
  | .dit os, _, _, _, _, h, k, e => by
    obtain ⟨a, r, xs, rfl, rfl, h1, h2⟩ := h
    exact ⟨a, xs, rfl, (k a List.mem_cons_self).trans h1, ROt.give os h2 (fun b hb => k b (List.mem_cons_of_mem _ hb)) e⟩
  | .obj C n os, _, _, _, _, h, k, e => by
    obtain ⟨a, r, dx, xs, rfl, rfl, h1, hn, h2⟩ := h
    exact ⟨a, dx, xs, rfl, (k a List.mem_cons_self).trans h1, hn, ROf.give os h2 (fun b hb => k b (List.mem_cons_of_mem _ hb)) e⟩
theorem ROs.give : ∀ (os : List O) {fp : List Addr} {H H' : Hp} {xs : List V}, ROs K ι M os fp H xs → (∀ a ∈ fp, H' a = H a) → Same (hidP M H) H' → Rs K ι (toDs os) H' xs
  | [], _, _, _, _, h, _, _ => h.2
  | o :: os, _, _, _, _, h, k, e => by
    obtain ⟨f1, f2, x, r, rfl, rfl, h1, h2⟩ := h
    exact ⟨x, r, rfl, RO.give o h1 (fun a ha => k a (List.mem_append_left _ ha)) e, ROs.give os h2 (fun a ha => k a (List.mem_append_right _ ha)) e⟩
theorem ROk.give : ∀ (os : List (Key × O)) {fp : List Addr} {H H' : Hp} {xs : List (Key × V)}, ROk K ι M os fp H xs → (∀ a ∈ fp, H' a = H a) → Same (hidP M H) H' → Rk K ι (toDk os) H' xs
  | [], _, _, _, _, h, _, _ => h.2
  | (k0, o) :: os, _, _, _, _, h, k, e => by
    obtain ⟨f1, f2, x, r, rfl, rfl, h1, h2⟩ := h
    exact ⟨x, r, rfl, RO.give o h1 (fun a ha => k a (List.mem_append_left _ ha)) e, ROk.give os h2 (fun a ha => k a (List.mem_append_right _ ha)) e⟩
theorem ROt.give : ∀ (os : List (List Key × O)) {fp : List Addr} {H H' : Hp} {xs : List (List Key × V)}, ROt K ι M os fp H xs → (∀ a ∈ fp, H' a = H a) → Same (hidP M H) H' → Rt K ι (toDt os) H' xs
  | [], _, _, _, _, h, _, _ => h.2
  | (k0, o) :: os, _, _, _, _, h, k, e => by
    obtain ⟨f1, f2, x, r, rfl, rfl, h1, h2⟩ := h
    exact ⟨x, r, rfl, RO.give o h1 (fun a ha => k a (List.mem_append_left _ ha)) e, ROt.give os h2 (fun a ha => k a (List.mem_append_right _ ha)) e⟩
theorem ROf.give : ∀ (os : List (Str × O)) {fp : List Addr} {H H' : Hp} {xs : List (Str × V)}, ROf K ι M os fp H xs → (∀ a ∈ fp, H' a = H a) → Same (hidP M H) H' → Rf K ι (toDf os) H' xs
  | [], _, _, _, _, h, _, _ => h.2
  | (k0, o) :: os, _, _, _, _, h, k, e => by
    obtain ⟨f1, f2, x, r, rfl, rfl, h1, h2⟩ := h
    exact ⟨x, r, rfl, RO.give o h1 (fun a ha => k a (List.mem_append_left _ ha)) e, ROf.give os h2 (fun a ha => k a (List.mem_append_right _ ha)) e⟩
end
end
end Fv
set_option Elab.async false
set_option linter.all false
set_option maxRecDepth 100000
set_option maxHeartbeats 4000000
namespace Fv
open PySem PySem.Spec PyProof.Rows L2 RkO
open Classical
/-- un: not set; ow: held here alone; bo: lent to be read; mu: lent to be changed -/
inductive Slot where
  | un | ow (o : O) | bo (o : O) | mu (o : O)
def Slot.o? : Slot → Option O
  | .un => none
  | .ow o => some o
  | .bo o => some o
  | .mu o => some o
/-- n: ids handed out; t: changes of what is held -/
structure ES where
  ss : List Slot
  n : Nat
  t : Nat
inductive Stp where
  | fld (f : Str) | idx (k : Nat)
inductive RV where
  | va (o : O) | pl (i : Nat) (p : List Stp)
inductive Out (α : Type) where
  | ok (a : α) (st : ES) | ex (C : Addr) (f : Str) (d : D) (st : ES) | no
def Out.bind {α β : Type} (x : Out α) (f : α → ES → Out β) : Out β := match x with
  | .ok a st => f a st
  | .ex C g d st => .ex C g d st
  | .no => .no
@[simp] theorem bind_ok {α β : Type} (a : α) (st : ES) (f : α → ES → Out β) : (Out.ok a st).bind f = f a st := rfl
@[simp] theorem bind_ex {α β : Type} (C : Addr) (g : Str) (d : D) (st : ES) (f : α → ES → Out β) : (Out.ex C g d st).bind f = .ex C g d st := rfl
@[simp] theorem bind_no {α β : Type} (f : α → ES → Out β) : (Out.no : Out α).bind f = .no := rfl
abbrev Den := ES → Out RV
@[simp] def O.at : O → Stp → Option O
  | .lst os, .idx k => os[k]?
  | .obj _ _ fs, .fld f => fs.lookup f
  | _, _ => none
@[simp] def O.get : O → List Stp → Option O
  | o, [] => some o
  | o, s :: p => match o.at s with
    | some o' => o'.get p
    | none => none
def setF {α : Type} (f : Str) (x : α) : List (Str × α) → List (Str × α)
  | [] => []
  | (g, y) :: r => if g = f then (g, x) :: r else (g, y) :: setF f x r
@[simp] def O.put1 : O → Stp → O → O
  | .lst os, .idx k, o => .lst (os.set k o)
  | .obj C n fs, .fld f, o => .obj C n (setF f o fs)
  | o, _, _ => o
@[simp] def O.put : O → List Stp → O → O
  | _, [], o2 => o2
  | o, s :: p, o2 => match o.at s with
    | some o' => o.put1 s (o'.put p o2)
    | none => o
def Reach (H : Hp) : List Stp → V → V → Prop
  | [], u, v => u = v
  | .idx k :: p, u, v => ∃ a xs w, u = .ref a ∧ H a = some (.lst xs) ∧ xs[k]? = some w ∧ Reach H p w v
  | .fld f :: p, u, v => ∃ a C dx fs w, u = .ref a ∧ H a = some (.ins C dx fs) ∧ fs.lookup f = some w ∧ Reach H p w v
section
variable {K : PySem.W.Frag} {ι ι' : List Addr} {M M' : Addr → Prop}
theorem ROs.at {H : Hp} : ∀ {os : List O} {f : List Addr} {xs : List V} {k : Nat} {o : O}, ROs K ι M os f H xs → os[k]? = some o →
    ∃ f1 fk f2 x, f = f1 ++ (fk ++ f2) ∧ xs[k]? = some x ∧ RO K ι M o fk H x ∧
      ∀ {ι' : List Addr} {M' : Addr → Prop} {H' : Hp} {o' : O} {fk' : List Addr} {x' : V}, RO K ι' M' o' fk' H' x' → Goes ι ι' → (∀ a ∈ f1 ++ f2, H' a = H a) → Same (hidP M H) (hidP M' H') → ROs K ι' M' (os.set k o') (f1 ++ (fk' ++ f2)) H' (xs.set k x')
  | [], _, _, k, _, _, e => by simp at e
  | o0 :: os, f, xs, 0, o, h, e => by
    cases e
    obtain ⟨g1, g2, x, r, rfl, rfl, h1, h2⟩ := h
    refine ⟨[], g1, g2, x, rfl, rfl, h1, fun {ι' M' H' o' fk' x'} h1' g k e => ?_⟩
    exact ⟨fk', g2, x', r, rfl, rfl, h1', h2.stay _ g (fun a ha => k a ha) e⟩
  | o0 :: os, f, xs, k + 1, o, h, e => by
    obtain ⟨g1, g2, x, r, rfl, rfl, h1, h2⟩ := h
    obtain ⟨f1, fk, f2, y, rfl, hy, hk, put⟩ := ROs.at h2 (k := k) e
    refine ⟨g1 ++ f1, fk, f2, y, by simp [List.append_assoc], hy, hk, fun {ι' M' H' o' fk' x'} h1' g k' e => ?_⟩
    refine ⟨g1, f1 ++ (fk' ++ f2), x, r.set k x', by simp [List.append_assoc], rfl, RO.stay _ h1 g (fun a ha => k' a (by simp [ha])) e, put h1' g (fun a ha => k' a ?_) e⟩
    rcases List.mem_append.mp ha with z | z <;> simp [z]
theorem ROf.at {H : Hp} {n : Str} : ∀ {os : List (Str × O)} {f : List Addr} {xs : List (Str × V)} {o : O}, ROf K ι M os f H xs → os.lookup n = some o →
    ∃ f1 fk f2 x, f = f1 ++ (fk ++ f2) ∧ xs.lookup n = some x ∧ RO K ι M o fk H x ∧
      ∀ {ι' : List Addr} {M' : Addr → Prop} {H' : Hp} {o' : O} {fk' : List Addr} {x' : V}, RO K ι' M' o' fk' H' x' → Goes ι ι' → (∀ a ∈ f1 ++ f2, H' a = H a) → Same (hidP M H) (hidP M' H') → ROf K ι' M' (setF n o' os) (f1 ++ (fk' ++ f2)) H' (setF n x' xs)
  | [], _, _, _, _, e => by simp at e
  | (m, o0) :: os, f, xs, o, h, e => by
    obtain ⟨g1, g2, x, r, rfl, rfl, h1, h2⟩ := h
    by_cases hm : m = n
    · subst hm
      rw [List.lookup_cons_self] at e
      cases e
      refine ⟨[], g1, g2, x, rfl, List.lookup_cons_self, h1, fun {ι' M' H' o' fk' x'} h1' g k e => ?_⟩
      simp only [setF, if_pos]
      exact ⟨fk', g2, x', r, rfl, rfl, h1', h2.stay _ g (fun a ha => k a ha) e⟩
    · have hb : (n == m) = false := by simpa using fun z => hm z.symm
      rw [List.lookup_cons, hb] at e
      obtain ⟨f1, fk, f2, y, rfl, hy, hk, put⟩ := ROf.at h2 e
      refine ⟨g1 ++ f1, fk, f2, y, by simp [List.append_assoc], by rw [List.lookup_cons, hb]; exact hy, hk, fun {ι' M' H' o' fk' x'} h1' g k' e => ?_⟩
      simp only [setF, if_neg hm]
      refine ⟨g1, f1 ++ (fk' ++ f2), x, setF n x' r, by simp [List.append_assoc], rfl, RO.stay _ h1 g (fun a ha => k' a (by simp [ha])) e, put h1' g (fun a ha => k' a ?_) e⟩
      rcases List.mem_append.mp ha with z | z <;> simp [z]
theorem set_same {α : Type} : ∀ {xs : List α} {k : Nat} {x : α}, xs[k]? = some x → xs.set k x = xs
  | [], _, _, h => by simp at h
  | y :: xs, 0, x, h => by cases h; rfl
  | y :: xs, k + 1, x, h => by rw [List.set_cons_succ, set_same (by simpa using h)]
theorem setF_same {α : Type} {n : Str} {x : α} : ∀ {xs : List (Str × α)}, xs.lookup n = some x → setF n x xs = xs
  | [], h => by simp at h
  | (m, y) :: r, h => by
    by_cases hm : m = n
    · subst hm
      rw [List.lookup_cons_self] at h
      cases h
      simp [setF]
    · have hb : (n == m) = false := by simpa using fun z => hm z.symm
      rw [List.lookup_cons, hb] at h
      simp only [setF, if_neg hm]
      rw [setF_same h]
/-- what stands at a place, and what becomes of the whole when it changes -/
theorem RO.lens {H : Hp} {v : V} : ∀ {p : List Stp} {o o1 : O} {f : List Addr} {u : V}, RO K ι M o f H u → o.get p = some o1 → Reach H p u v → f.Nodup →
    ∃ f1, (∀ a ∈ f1, a ∈ f) ∧ f1.Nodup ∧ RO K ι M o1 f1 H v ∧
      ∀ {ι' : List Addr} {M' : Addr → Prop} {H' : Hp} {o2 : O} {f2 : List Addr}, RO K ι' M' o2 f2 H' v → Goes ι ι' → (∀ a ∈ f, a ∉ f1 → H' a = H a) → Same (hidP M H) (hidP M' H') → f2.Nodup → (∀ a ∈ f2, a ∈ f → a ∈ f1) →
        ∃ f', RO K ι' M' (o.put p o2) f' H' u ∧ f'.Nodup ∧ ∀ a, a ∈ f' ↔ (a ∈ f ∧ a ∉ f1) ∨ a ∈ f2
  | [], o, o1, f, u, h, e, r, nd => by
    cases e
    cases (show u = v from r)
    exact ⟨f, fun _ h => h, nd, h, fun {ι' M' H' o2 f2} h2 _ _ _ nd2 _ => ⟨f2, h2, nd2, fun a => ⟨fun z => .inr z, fun z => z.elim (fun z => absurd z.1 z.2) id⟩⟩⟩
  | .idx k :: p, o, o1, f, u, h, e, r, nd => by
    obtain ⟨a0, xs0, w, rfl, hx0, hw, r⟩ := r
    cases o with
    | lst os =>
      obtain ⟨a, q, xs, rfl, e1, hx, hs⟩ := h
      cases e1
      rw [hx] at hx0
      cases hx0
      cases ek : os[k]? with
      | none =>
        simp only [O.get, O.at, ek] at e
        cases e
      | some ok =>
        simp only [O.get, O.at, ek] at e
        obtain ⟨q1, qk, q2, x, rfl, hxk, hk, put⟩ := hs.at ek
        rw [hw] at hxk
        cases hxk
        have nd0 := List.nodup_cons.mp nd
        have nq := List.nodup_append.mp nd0.2
        have nq2 := List.nodup_append.mp nq.2.1
        obtain ⟨f1, sub, nd1, h1, back⟩ := RO.lens hk e r nq2.1
        refine ⟨f1, fun b hb => by simp [sub b hb], nd1, h1, fun {ι' M' H' o2 f2} h2 g ke sm nd2 fr => ?_⟩
        have oth : ∀ b, b = a0 ∨ b ∈ q1 ∨ b ∈ q2 → b ∉ qk := fun b hb z => by
          rcases hb with rfl | hb | hb
          · exact nd0.1 (by simp [z])
          · exact nq.2.2 b hb b (by simp [z]) rfl
          · exact nq2.2.2 b z b hb rfl
        obtain ⟨f', h', ndf, mem⟩ := back h2 g (fun b hb hn => ke b (by simp [hb]) hn) sm nd2 (fun b hb hq => fr b hb (by simp [hq]))
        have stayk : ∀ b, b = a0 ∨ b ∈ q1 ∨ b ∈ q2 → H' b = H b := fun b hb => ke b (by rcases hb with rfl | hb | hb <;> simp [*]) fun z => oth b hb (sub b z)
        have noF : ∀ b, b = a0 ∨ b ∈ q1 ∨ b ∈ q2 → b ∉ f' := fun b hb z => by
          rcases (mem b).mp z with z | z
          · exact oth b hb z.1
          · exact oth b hb (sub b (fr b z (by rcases hb with rfl | hb | hb <;> simp [*])))
        have hs' := put h' g (fun b hb => stayk b (.inr (List.mem_append.mp hb))) sm
        rw [set_same hw] at hs'
        refine ⟨a0 :: (q1 ++ (f' ++ q2)), ?_, ?_, fun b => ?_⟩
        · simp only [O.put, O.at, ek, O.put1]
          exact ⟨a0, _, _, rfl, rfl, (stayk a0 (.inl rfl)).trans hx, hs'⟩
        · refine List.nodup_cons.mpr ⟨fun z => ?_, List.nodup_append.mpr ⟨nq.1, List.nodup_append.mpr ⟨ndf, nq2.2.1, fun x hx y hy e => ?_⟩, fun x hx y hy e => ?_⟩⟩
          · rcases List.mem_append.mp z with z | z
            · exact nd0.1 (by simp [z])
            · rcases List.mem_append.mp z with z | z
              · exact noF a0 (.inl rfl) z
              · exact nd0.1 (by simp [z])
          · subst e
            exact noF x (.inr (.inr hy)) hx
          · subst e
            rcases List.mem_append.mp hy with z | z
            · exact noF x (.inr (.inl hx)) z
            · exact nq.2.2 x hx x (by simp [z]) rfl
        · constructor
          · intro z
            rcases List.mem_cons.mp z with rfl | z
            · exact .inl ⟨by simp, fun y => oth b (.inl rfl) (sub b y)⟩
            · rcases List.mem_append.mp z with z | z
              · exact .inl ⟨by simp [z], fun y => oth b (.inr (.inl z)) (sub b y)⟩
              · rcases List.mem_append.mp z with z | z
                · rcases (mem b).mp z with z | z
                  · exact .inl ⟨by simp [z.1], z.2⟩
                  · exact .inr z
                · exact .inl ⟨by simp [z], fun y => oth b (.inr (.inr z)) (sub b y)⟩
          · rintro (⟨z, n⟩ | z)
            · simp only [List.mem_cons, List.mem_append] at z ⊢
              rcases z with z | z | z | z
              · exact .inl z
              · exact .inr (.inl z)
              · exact .inr (.inr (.inl ((mem b).mpr (.inl ⟨z, n⟩))))
              · exact .inr (.inr (.inr z))
            · simp only [List.mem_cons, List.mem_append]
              exact .inr (.inr (.inl ((mem b).mpr (.inr z))))
    | _ => simp only [O.get, O.at] at e; cases e
  | .fld n :: p, o, o1, f, u, h, e, r, nd => by
    obtain ⟨a0, C0, dx0, xs0, w, rfl, hx0, hw, r⟩ := r
    cases o with
    | obj C m os =>
      obtain ⟨a, q, dx, xs, rfl, e1, hx, hm, hs⟩ := h
      cases e1
      rw [hx] at hx0
      cases hx0
      cases ek : os.lookup n with
      | none =>
        simp only [O.get, O.at, ek] at e
        cases e
      | some ok =>
        simp only [O.get, O.at, ek] at e
        obtain ⟨q1, qk, q2, x, rfl, hxk, hk, put⟩ := hs.at ek
        rw [hw] at hxk
        cases hxk
        have nd0 := List.nodup_cons.mp nd
        have nq := List.nodup_append.mp nd0.2
        have nq2 := List.nodup_append.mp nq.2.1
        obtain ⟨f1, sub, nd1, h1, back⟩ := RO.lens hk e r nq2.1
        refine ⟨f1, fun b hb => by simp [sub b hb], nd1, h1, fun {ι' M' H' o2 f2} h2 g ke sm nd2 fr => ?_⟩
        have oth : ∀ b, b = a0 ∨ b ∈ q1 ∨ b ∈ q2 → b ∉ qk := fun b hb z => by
          rcases hb with rfl | hb | hb
          · exact nd0.1 (by simp [z])
          · exact nq.2.2 b hb b (by simp [z]) rfl
          · exact nq2.2.2 b z b hb rfl
        obtain ⟨f', h', ndf, mem⟩ := back h2 g (fun b hb hn => ke b (by simp [hb]) hn) sm nd2 (fun b hb hq => fr b hb (by simp [hq]))
        have stayk : ∀ b, b = a0 ∨ b ∈ q1 ∨ b ∈ q2 → H' b = H b := fun b hb => ke b (by rcases hb with rfl | hb | hb <;> simp [*]) fun z => oth b hb (sub b z)
        have noF : ∀ b, b = a0 ∨ b ∈ q1 ∨ b ∈ q2 → b ∉ f' := fun b hb z => by
          rcases (mem b).mp z with z | z
          · exact oth b hb z.1
          · exact oth b hb (sub b (fr b z (by rcases hb with rfl | hb | hb <;> simp [*])))
        have hs' := put h' g (fun b hb => stayk b (.inr (List.mem_append.mp hb))) sm
        rw [setF_same hw] at hs'
        refine ⟨a0 :: (q1 ++ (f' ++ q2)), ?_, ?_, fun b => ?_⟩
        · simp only [O.put, O.at, ek, O.put1]
          exact ⟨a0, _, _, _, rfl, rfl, (stayk a0 (.inl rfl)).trans hx, fun m' q => g _ _ (hm m' q), hs'⟩
        · refine List.nodup_cons.mpr ⟨fun z => ?_, List.nodup_append.mpr ⟨nq.1, List.nodup_append.mpr ⟨ndf, nq2.2.1, fun x hx y hy e => ?_⟩, fun x hx y hy e => ?_⟩⟩
          · rcases List.mem_append.mp z with z | z
            · exact nd0.1 (by simp [z])
            · rcases List.mem_append.mp z with z | z
              · exact noF a0 (.inl rfl) z
              · exact nd0.1 (by simp [z])
          · subst e
            exact noF x (.inr (.inr hy)) hx
          · subst e
            rcases List.mem_append.mp hy with z | z
            · exact noF x (.inr (.inl hx)) z
            · exact nq.2.2 x hx x (by simp [z]) rfl
        · constructor
          · intro z
            rcases List.mem_cons.mp z with rfl | z
            · exact .inl ⟨by simp, fun y => oth b (.inl rfl) (sub b y)⟩
            · rcases List.mem_append.mp z with z | z
              · exact .inl ⟨by simp [z], fun y => oth b (.inr (.inl z)) (sub b y)⟩
              · rcases List.mem_append.mp z with z | z
                · rcases (mem b).mp z with z | z
                  · exact .inl ⟨by simp [z.1], z.2⟩
                  · exact .inr z
                · exact .inl ⟨by simp [z], fun y => oth b (.inr (.inr z)) (sub b y)⟩
          · rintro (⟨z, n⟩ | z)
            · simp only [List.mem_cons, List.mem_append] at z ⊢
              rcases z with z | z | z | z
              · exact .inl z
              · exact .inr (.inl z)
              · exact .inr (.inr (.inl ((mem b).mpr (.inl ⟨z, n⟩))))
              · exact .inr (.inr (.inr z))
            · simp only [List.mem_cons, List.mem_append]
              exact .inr (.inr (.inl ((mem b).mpr (.inr z))))
    | _ => simp only [O.get, O.at] at e; cases e
theorem Reach.stay {H H' : Hp} {v : V} : ∀ {p : List Stp} {o o1 : O} {f : List Addr} {u : V}, RO K ι M o f H u → o.get p = some o1 → Reach H p u v → (∀ a ∈ f, H' a = H a) → Reach H' p u v
  | [], _, _, _, _, _, _, r, _ => r
  | .idx k :: p, o, o1, f, u, h, e, r, ke => by
    obtain ⟨a0, xs0, w, rfl, hx0, hw, r⟩ := r
    cases o with
    | lst os =>
      obtain ⟨a, q, xs, rfl, e1, hx, hs⟩ := h
      cases e1
      rw [hx] at hx0
      cases hx0
      cases ek : os[k]? with
      | none =>
        simp only [O.get, O.at, ek] at e
        cases e
      | some ok =>
        simp only [O.get, O.at, ek] at e
        obtain ⟨q1, qk, q2, x, rfl, hxk, hk, put⟩ := hs.at ek
        rw [hw] at hxk
        cases hxk
        exact ⟨a0, _, w, rfl, (ke a0 (by simp)).trans hx, hw, Reach.stay hk e r fun b hb => ke b (by simp [hb])⟩
    | _ => simp only [O.get, O.at] at e; cases e
  | .fld n :: p, o, o1, f, u, h, e, r, ke => by
    obtain ⟨a0, C0, dx0, xs0, w, rfl, hx0, hw, r⟩ := r
    cases o with
    | obj C m os =>
      obtain ⟨a, q, dx, xs, rfl, e1, hx, hm, hs⟩ := h
      cases e1
      rw [hx] at hx0
      cases hx0
      cases ek : os.lookup n with
      | none =>
        simp only [O.get, O.at, ek] at e
        cases e
      | some ok =>
        simp only [O.get, O.at, ek] at e
        obtain ⟨q1, qk, q2, x, rfl, hxk, hk, put⟩ := hs.at ek
        rw [hw] at hxk
        cases hxk
        exact ⟨a0, _, _, _, w, rfl, (ke a0 (by simp)).trans hx, hw, Reach.stay hk e r fun b hb => ke b (by simp [hb])⟩
    | _ => simp only [O.get, O.at] at e; cases e
end
end Fv
set_option Elab.async false
set_option linter.all false
set_option maxRecDepth 100000
set_option maxHeartbeats 4000000
namespace Fv
open PySem PySem.Spec PyProof.Rows L2 RkO
open Classical
def Un2 (B : Addr → Prop) (F : List Addr) : Addr → Prop := fun a => B a ∨ a ∈ F
def All (B : Addr → Prop) (fp : Nat → List Addr) : Addr → Prop := fun a => B a ∨ ∃ i, a ∈ fp i
/-- what a frame keeps: the written part, what was lent to it, where its lent changing things lie -/
structure FC where
  K : PySem.W.Frag
  L : Addr → Prop
  μ : Nat → V
def SlotR (c : FC) (ι : List Addr) (A : Addr → Prop) (m : V) (x : Option (Option V)) (s : Slot) (f : List Addr) (H : Hp) : Prop := match s with
  | .un => f = []
  | .ow o => ∃ v, x = some (some v) ∧ RO c.K ι A o f H v
  | .bo o => f = [] ∧ ∃ v fb, x = some (some v) ∧ (∀ a ∈ fb, c.L a) ∧ fb.Nodup ∧ RO c.K ι A o fb H v
  | .mu o => x = some (some m) ∧ RO c.K ι A o f H m
structure RelS (c : FC) (ι : List Addr) (B : Addr → Prop) (st : ES) (σ : L2.St) (H : Hp) (fp : Nat → List Addr) : Prop where
  len : st.ss.length = σ.length
  cnt : ι.length = st.n
  nd : ∀ i, (fp i).Nodup
  dj : ∀ i j a, a ∈ fp i → a ∈ fp j → i = j
  db : ∀ i a, a ∈ fp i → ¬ B a
  lb : ∀ a, c.L a → B a
  bl : ∀ a, B a → ∃ o, H a = some o
  sl : ∀ i s, st.ss[i]? = some s → SlotR c ι (All B fp) (c.μ i) σ[i]? s (fp i) H
  out : ∀ i, st.ss[i]? = none → fp i = []
section
variable {K : PySem.W.Frag} {ι ι' : List Addr} {M M' : Addr → Prop}
mutual
theorem RO.live : ∀ (o : O) {fp : List Addr} {H : Hp} {v : V}, RO K ι M o fp H v → ∀ a ∈ fp, ∃ u, H a = some u
  | .dp d, _, _, _, h, a, ha => by rw [h.1] at ha; cases ha
  | .lst os, _, _, _, h, b, hb => by
    obtain ⟨a, r, xs, rfl, rfl, h1, h2⟩ := h
    rcases List.mem_cons.mp hb with rfl | hb
    · exact ⟨_, h1⟩
    · exact ROs.live os h2 b hb
  | .dic os, _, _, _, h, b, hb => by
    obtain ⟨a, r, xs, rfl, rfl, h1, h2⟩ := h
    rcases List.mem_cons.mp hb with rfl | hb
    · exact ⟨_, h1⟩
    · exact ROk.live os h2 b hb
  | .dit os, _, _, _, h, b, hb => by
    obtain ⟨a, r, xs, rfl, rfl, h1, h2⟩ := h
    rcases List.mem_cons.mp hb with rfl | hb
    · exact ⟨_, h1⟩
    · exact ROt.live os h2 b hb
  | .obj C n os, _, _, _, h, b, hb => by
    obtain ⟨a, r, dx, xs, rfl, rfl, h1, hn, h2⟩ := h
    rcases List.mem_cons.mp hb with rfl | hb
    · exact ⟨_, h1⟩
    · exact ROf.live os h2 b hb
theorem ROs.live : ∀ (os : List O) {fp : List Addr} {H : Hp} {xs : List V}, ROs K ι M os fp H xs → ∀ a ∈ fp, ∃ u, H a = some u
  | [], _, _, _, h, b, hb => by rw [h.1] at hb; cases hb
  | o :: os, _, _, _, h, b, hb => by
    obtain ⟨f1, f2, x, r, rfl, rfl, h1, h2⟩ := h
    exact (List.mem_append.mp hb).elim (RO.live o h1 b) (ROs.live os h2 b)
theorem ROk.live : ∀ (os : List (Key × O)) {fp : List Addr} {H : Hp} {xs : List (Key × V)}, ROk K ι M os fp H xs → ∀ a ∈ fp, ∃ u, H a = some u
  | [], _, _, _, h, b, hb => by rw [h.1] at hb; cases hb
  | (k0, o) :: os, _, _, _, h, b, hb => by
    obtain ⟨f1, f2, x, r, rfl, rfl, h1, h2⟩ := h
    exact (List.mem_append.mp hb).elim (RO.live o h1 b) (ROk.live os h2 b)
theorem ROt.live : ∀ (os : List (List Key × O)) {fp : List Addr} {H : Hp} {xs : List (List Key × V)}, ROt K ι M os fp H xs → ∀ a ∈ fp, ∃ u, H a = some u
  | [], _, _, _, h, b, hb => by rw [h.1] at hb; cases hb
  | (k0, o) :: os, _, _, _, h, b, hb => by
    obtain ⟨f1, f2, x, r, rfl, rfl, h1, h2⟩ := h
    exact (List.mem_append.mp hb).elim (RO.live o h1 b) (ROt.live os h2 b)
theorem ROf.live : ∀ (os : List (Str × O)) {fp : List Addr} {H : Hp} {xs : List (Str × V)}, ROf K ι M os fp H xs → ∀ a ∈ fp, ∃ u, H a = some u
  | [], _, _, _, h, b, hb => by rw [h.1] at hb; cases hb
  | (k0, o) :: os, _, _, _, h, b, hb => by
    obtain ⟨f1, f2, x, r, rfl, rfl, h1, h2⟩ := h
    exact (List.mem_append.mp hb).elim (RO.live o h1 b) (ROf.live os h2 b)
end
end
section
variable {c : FC} {ι ι' ι1 : List Addr} {B B' : Addr → Prop} {st st' st1 st2 : ES} {σ : L2.St} {H H' H1 : Hp} {fp fp' fp1 : Nat → List Addr}
theorem SlotR.stay {A A' : Addr → Prop} {m : V} {x : Option (Option V)} {s : Slot} {f : List Addr} (h : SlotR c ι A m x s f H) (g : Goes ι ι') (k : ∀ a ∈ f, H' a = H a) (kl : ∀ a, c.L a → H' a = H a) (e : Same (hidP A H) (hidP A' H')) : SlotR c ι' A' m x s f H' := by
  cases s with
  | un => exact h
  | ow o =>
    obtain ⟨v, h1, h2⟩ := h
    exact ⟨v, h1, h2.stay _ g k e⟩
  | bo o =>
    obtain ⟨h0, v, fb, h1, h2, hn, h3⟩ := h
    exact ⟨h0, v, fb, h1, h2, hn, h3.stay _ g (fun a ha => kl a (h2 a ha)) e⟩
  | mu o => exact ⟨h.1, h.2.stay _ g k e⟩
/-- the state as it is, in another heap -/
theorem RelS.stay (r : RelS c ι B st σ H fp) (hl : ∀ a, c.L a → B' a) (hd : ∀ i a, a ∈ fp i → ¬ B' a) (hb : ∀ a, B' a → ∃ o, H' a = some o) (g : Goes ι ι') (cn : ι'.length = st.n)
    (k : ∀ i, ∀ a ∈ fp i, H' a = H a) (kl : ∀ a, c.L a → H' a = H a) (e : Same (hidP (All B fp) H) (hidP (All B' fp) H')) : RelS c ι' B' st σ H' fp :=
  ⟨r.len, cn, r.nd, r.dj, hd, hl, hb, fun i s q => (r.sl i s q).stay g (k i) kl e, r.out⟩
theorem RelS.fpl (r : RelS c ι B st σ H fp) {i : Nat} {a : Addr} (h : a ∈ fp i) : ∃ o, H a = some o := by
  cases q : st.ss[i]? with
  | none => rw [r.out i q] at h; cases h
  | some s =>
    have z := r.sl i s q
    cases s with
    | un => rw [show fp i = [] from z] at h; cases h
    | ow o => obtain ⟨v, _, z⟩ := z; exact z.live _ a h
    | bo o => rw [z.1] at h; cases h
    | mu o => exact z.2.live _ a h
theorem RelS.alive (r : RelS c ι B st σ H fp) {a : Addr} (h : All B fp a) : ∃ o, H a = some o := h.elim (r.bl a) fun ⟨i, h⟩ => r.fpl h
/-- less is hidden -/
theorem RelS.less (r : RelS c ι B st σ H fp) (h : ∀ a, B' a → B a) (hl : ∀ a, c.L a → B' a) : RelS c ι B' st σ H fp :=
  r.stay hl (fun i a q z => r.db i a q (h a z)) (fun a z => r.bl a (h a z)) (Goes.refl _) r.cnt (fun _ _ _ => rfl) (fun _ _ => rfl) (hidP_sub fun a z => z.elim (fun z => .inl (h a z)) .inr)
def RVR (c : FC) (ι : List Addr) (A : Addr → Prop) (st : ES) (σ : L2.St) (rv : RV) (F : List Addr) (H : Hp) (v : V) : Prop := match rv with
  | .va o => RO c.K ι A o F H v
  | .pl i p => F = [] ∧ ∃ u, σ[i]? = some (some u) ∧ Reach H p u v ∧ (p ≠ [] → ∃ s o o1, st.ss[i]? = some s ∧ s.o? = some o ∧ o.get p = some o1)
def RVRs (c : FC) (ι : List Addr) (A : Addr → Prop) (st : ES) (σ : L2.St) : List RV → List Addr → Hp → List V → Prop
  | [], F, _, vs => F = [] ∧ vs = []
  | rv :: rvs, F, H, vs => ∃ F1 F2 v r, F = F1 ++ F2 ∧ vs = v :: r ∧ RVR c ι A st σ rv F1 H v ∧ RVRs c ι A st σ rvs F2 H r
/-- behind an expression, in which the state st0 became st' -/
structure Post (c : FC) (B : Addr → Prop) (fp : Nat → List Addr) (H : Hp) (ι : List Addr) (st0 : ES) (σ : L2.St) (st' : ES) (F : List Addr) (ι' : List Addr) (fp' : Nat → List Addr) (H' : Hp) : Prop where
  fn : F.Nodup
  fb : ∀ a ∈ F, ¬ B a
  rel : RelS c ι' (Un2 B F) st' σ H' fp'
  go : Goes ι ι'
  kb : ∀ a, B a → H' a = H a
  sm : Same (hidP (All B fp) H) (hidP (All (Un2 B F) fp') H')
  still : st'.t = st0.t → st'.ss = st0.ss ∧ fp' = fp ∧ ∀ i, ∀ a ∈ fp i, H' a = H a
  up : st0.t ≤ st'.t
/-- an exception is on its way: of the class C, its one field g -/
structure PostX (c : FC) (B : Addr → Prop) (fp : Nat → List Addr) (H : Hp) (ι : List Addr) (σ : L2.St) (g : Str) (d : D) (st' : ES) (dx : Addr) (ι' : List Addr) (fp' : Nat → List Addr) (H' : Hp) : Prop where
  rel : RelS c ι' B st' σ H' fp'
  go : Goes ι ι'
  kb : ∀ a, B a → H' a = H a
  sm : Same (hidP (All B fp) H) (hidP (All B fp') H')
  xd : ∃ u, H' dx = some (.xd [(g, u)]) ∧ R c.K ι' d (hidP (All B fp') H') u
  nx : ¬ All B fp' dx
def GoE (c : FC) (W : WX) (B : Addr → Prop) (fp : Nat → List Addr) (H : Hp) (ι : List Addr) (st0 : ES) (σ : L2.St) (out : Out RV) (Q : VK) : Prop := match out with
  | .ok rv st' => ∀ v H' F ι' fp', Post c B fp H ι st0 σ st' F ι' fp' H' → RVR c ι' (All (Un2 B F) fp') st' σ rv F H' v → Q v H'
  | .ex C g d st' => ∀ dx H' ι' fp', PostX c B fp H ι σ g d st' dx ι' fp' H' → W (.ref C) (some dx) σ H'
  | .no => False
def GoA (c : FC) (W : WX) (B : Addr → Prop) (fp : Nat → List Addr) (H : Hp) (ι : List Addr) (st0 : ES) (σ : L2.St) (out : Out (List RV)) (Q : List V → Hp → Prop) : Prop := match out with
  | .ok rvs st' => ∀ vs H' F ι' fp', Post c B fp H ι st0 σ st' F ι' fp' H' → RVRs c ι' (All (Un2 B F) fp') st' σ rvs F H' vs → Q vs H'
  | .ex C g d st' => ∀ dx H' ι' fp', PostX c B fp H ι σ g d st' dx ι' fp' H' → W (.ref C) (some dx) σ H'
  | .no => False
def GoT (c : FC) (W : WX) (B : Addr → Prop) (fp : Nat → List Addr) (H : Hp) (ι : List Addr) (st0 : ES) (σ : L2.St) (out : Out Bool) (Q : Bool → Hp → Prop) : Prop := match out with
  | .ok b st' => ∀ H' ι' fp', Post c B fp H ι st0 σ st' [] ι' fp' H' → Q b H'
  | .ex C g d st' => ∀ dx H' ι' fp', PostX c B fp H ι σ g d st' dx ι' fp' H' → W (.ref C) (some dx) σ H'
  | .no => False
def RefE (c : FC) (W : WX) (t : TE) (f : Den) : Prop := ∀ B ι st σ H fp, RelS c ι B st σ H fp → ∀ Q, GoE c W B fp H ι st σ (f st) Q → t σ H Q
def RefA (c : FC) (W : WX) (t : TA) (f : ES → Out (List RV)) : Prop := ∀ B ι st σ H fp, RelS c ι B st σ H fp → ∀ Q, GoA c W B fp H ι st σ (f st) Q → t σ H Q
def RefT (c : FC) (W : WX) (t : TT) (f : ES → Out Bool) : Prop := ∀ B ι st σ H fp, RelS c ι B st σ H fp → ∀ Q, GoT c W B fp H ι st σ (f st) Q → t σ H Q
theorem un2_nil {F : List Addr} (h : F = []) : Un2 B F = B := by
  subst h
  funext a
  exact propext ⟨fun z => z.elim id (fun z => nomatch z), fun z => Or.inl z⟩
theorem un2_app {F G : List Addr} : Un2 (Un2 B F) G = Un2 B (F ++ G) := by
  funext a
  refine propext ⟨fun z => ?_, fun z => ?_⟩
  · rcases z with (z | z) | z
    · exact .inl z
    · exact .inr (List.mem_append_left _ z)
    · exact .inr (List.mem_append_right _ z)
  · rcases z with z | z
    · exact .inl (.inl z)
    · rcases List.mem_append.mp z with z | z
      · exact .inl (.inr z)
      · exact .inr z
theorem Post.refl (r : RelS c ι B st σ H fp) : Post c B fp H ι st σ st [] ι fp H := by
  refine ⟨List.nodup_nil, fun _ h => (nomatch h), ?_, Goes.refl _, fun _ _ => rfl, ?_, fun _ => ⟨rfl, rfl, fun _ _ _ => rfl⟩, Nat.le_refl _⟩
  · rw [un2_nil rfl]
    exact r
  · rw [un2_nil rfl]
    exact Same.refl _
theorem Post.trans {F F1 : List Addr} (p : Post c B fp H ι st σ st1 F ι1 fp1 H1) (q : Post c (Un2 B F) fp1 H1 ι1 st1 σ st' F1 ι' fp' H') : Post c B fp H ι st σ st' (F ++ F1) ι' fp' H' where
  fn := List.nodup_append.mpr ⟨p.fn, q.fn, fun a ha b hb e => by subst e; exact q.fb a hb (.inr ha)⟩
  fb := fun a ha => (List.mem_append.mp ha).elim (p.fb a) fun h z => q.fb a h (.inl z)
  rel := by rw [← un2_app]; exact q.rel
  go := p.go.trans q.go
  kb := fun a h => (q.kb a (.inl h)).trans (p.kb a h)
  sm := by rw [← un2_app]; exact p.sm.trans q.sm
  still := fun e => by
    have h1 := p.up
    have h2 := q.up
    obtain ⟨a1, a2, a3⟩ := p.still (by omega)
    obtain ⟨b1, b2, b3⟩ := q.still (by omega)
    exact ⟨b1.trans a1, b2.trans a2, fun i a h => (b3 i a (by rw [a2]; exact h)).trans (a3 i a h)⟩
  up := Nat.le_trans p.up q.up
/-- what came new is given up -/
theorem Post.drop {F : List Addr} (p : Post c B fp H ι st σ st' F ι' fp' H') (hl : ∀ a, c.L a → B a) : Post c B fp H ι st σ st' [] ι' fp' H' where
  fn := List.nodup_nil
  fb := fun _ h => nomatch h
  rel := by
    rw [un2_nil rfl]
    exact p.rel.less (fun a h => .inl h) hl
  go := p.go
  kb := p.kb
  sm := by
    rw [un2_nil rfl]
    exact p.sm.trans (hidP_sub fun a z => z.elim (fun z => .inl (.inl z)) .inr)
  still := p.still
  up := p.up
theorem Post.thenX {F : List Addr} {g : Str} {d : D} {dx : Addr} (p : Post c B fp H ι st σ st1 F ι1 fp1 H1) (hl : ∀ a, c.L a → B a) (q : PostX c (Un2 B F) fp1 H1 ι1 σ g d st' dx ι' fp' H') : PostX c B fp H ι σ g d st' dx ι' fp' H' where
  rel := q.rel.less (fun a h => .inl h) hl
  go := p.go.trans q.go
  kb := fun a h => (q.kb a (.inl h)).trans (p.kb a h)
  sm := p.sm.trans (q.sm.trans (hidP_sub fun a z => z.elim (fun z => .inl (.inl z)) .inr))
  xd := by
    obtain ⟨u, h1, h2⟩ := q.xd
    exact ⟨u, h1, R.mono _ h2 (Goes.refl _) (hidP_sub fun a z => z.elim (fun z => .inl (.inl z)) .inr)⟩
  nx := fun z => q.nx (z.elim (fun z => .inl (.inl z)) .inr)
def keep (rv : RV) (st1 st2 : ES) : Bool := match rv with
  | .va _ => true
  | .pl _ [] => true
  | .pl _ (_ :: _) => st2.t == st1.t
theorem RVR.stay {rv : RV} {F F0 F1 : List Addr} {v : V} (h : RVR c ι (All (Un2 B F) fp) st σ rv F0 H v) (sub : ∀ a ∈ F0, a ∈ F) (r : RelS c ι (Un2 B F) st σ H fp) (q : Post c (Un2 B F) fp H ι st σ st' F1 ι' fp' H') (k : keep rv st st' = true) : RVR c ι' (All (Un2 B (F ++ F1)) fp') st' σ rv F0 H' v := by
  cases rv with
  | va o =>
    rw [← un2_app]
    exact RO.stay o h q.go (fun a ha => q.kb a (.inr (sub a ha))) q.sm
  | pl i p =>
    obtain ⟨rfl, u, h4, h5, h0⟩ := h
    cases p with
    | nil => exact ⟨rfl, u, h4, h5, fun z => absurd rfl z⟩
    | cons s0 p =>
      have e : st'.t = st.t := eq_of_beq (show (st'.t == st.t) = true from k)
      obtain ⟨e1, e2, e3⟩ := q.still e
      obtain ⟨s, o, o1, h1, h2, h3⟩ := h0 (by simp)
      refine ⟨rfl, u, h4, ?_, fun _ => ⟨s, o, o1, by rw [e1]; exact h1, h2, h3⟩⟩
      have sl := r.sl i s h1
      cases s with
      | un => cases h2
      | ow o' =>
        cases h2
        obtain ⟨v', z1, z2⟩ := sl
        rw [h4] at z1
        cases z1
        exact h5.stay z2 h3 (e3 i)
      | bo o' =>
        cases h2
        obtain ⟨_, v', fb, z1, z2, _, z3⟩ := sl
        rw [h4] at z1
        cases z1
        exact h5.stay z3 h3 fun a ha => q.kb a (r.lb a (z2 a ha))
      | mu o' =>
        cases h2
        obtain ⟨z1, z2⟩ := sl
        rw [h4] at z1
        cases z1
        exact h5.stay z2 h3 (e3 i)
end
end Fv
set_option Elab.async false
set_option linter.all false
set_option maxRecDepth 100000
set_option maxHeartbeats 4000000
namespace Fv
open PySem PySem.Spec PyProof.Rows L2 RkO
open Classical
/-- a value whose own object may be held by somebody, what is in it shared -/
def RW (K : PySem.W.Frag) (ι : List Addr) (A : Addr → Prop) (d : D) (H : Hp) (v : V) : Prop := match d with
  | .scr ns => ∃ a, v = .ref a ∧ SqL K H a (ns.map V.int)
  | .lst ds => ∃ a xs, v = .ref a ∧ H a = some (.lst xs) ∧ Rs K ι ds (hidP A H) xs
  | .tup ds => ∃ a xs, v = .ref a ∧ H a = some (.tup xs) ∧ Rs K ι ds (hidP A H) xs
  | .dic ds => ∃ a xs, v = .ref a ∧ H a = some (.dK xs) ∧ Rk K ι ds (hidP A H) xs
  | .dit ds => ∃ a xs, v = .ref a ∧ H a = some (.dT xs) ∧ Rt K ι ds (hidP A H) xs
  | .obj C n fs => ∃ a dx xs, v = .ref a ∧ H a = some (.ins C dx xs) ∧ (∀ m, n = some m → ι[m]? = some a) ∧ Rf K ι fs (hidP A H) xs
  | .non => v = .non
  | .bl b => v = .bl b
  | .int i => v = .int i
  | .str s => v = .str s
section
variable {K : PySem.W.Frag} {ι ι' : List Addr} {A A' : Addr → Prop} {H H' : Hp}
theorem tupS {K : PySem.W.Frag} {H : Hp} {a : Addr} {xs : List V} (h : H a = some (.tup xs)) : SqT K H a xs := .inl (.inl h)
theorem seqT_same {a : Addr} {xs : List V} (e : Same H H') (h : SqT K H a xs) : SqT K H' a xs := by
  rcases h with (h | ⟨o, h⟩) | h
  · exact .inl (.inl (e _ _ h))
  · exact .inl (.inr ⟨o, e _ _ h⟩)
  · exact .inr h
theorem R.w {d : D} {v : V} (h : R K ι d (hidP A H) v) : RW K ι A d H v := by
  cases d with
  | scr ns => obtain ⟨a, e, h1⟩ := h; exact ⟨a, e, hidP_le.seq h1⟩
  | lst ds => obtain ⟨a, xs, e, h1, h2⟩ := h; exact ⟨a, xs, e, hidP_le _ _ h1, h2⟩
  | tup ds => obtain ⟨a, xs, e, h1, h2⟩ := h; exact ⟨a, xs, e, hidP_le _ _ h1, h2⟩
  | dic ds => obtain ⟨a, xs, e, h1, h2⟩ := h; exact ⟨a, xs, e, hidP_le _ _ h1, h2⟩
  | dit ds => obtain ⟨a, xs, e, h1, h2⟩ := h; exact ⟨a, xs, e, hidP_le _ _ h1, h2⟩
  | obj C n fs => obtain ⟨a, dx, xs, e, h1, h2⟩ := h; exact ⟨a, dx, xs, e, hidP_le _ _ h1, h2⟩
  | _ => exact h
theorem RW.r {d : D} {v : V} (h : RW K ι A d H v) : R K ι d H v := by
  cases d with
  | lst ds => obtain ⟨a, xs, e, h1, h2⟩ := h; exact ⟨a, xs, e, h1, Rs.mono _ h2 (Goes.refl _) hidP_le⟩
  | tup ds => obtain ⟨a, xs, e, h1, h2⟩ := h; exact ⟨a, xs, e, h1, Rs.mono _ h2 (Goes.refl _) hidP_le⟩
  | dic ds => obtain ⟨a, xs, e, h1, h2⟩ := h; exact ⟨a, xs, e, h1, Rk.mono _ h2 (Goes.refl _) hidP_le⟩
  | dit ds => obtain ⟨a, xs, e, h1, h2⟩ := h; exact ⟨a, xs, e, h1, Rt.mono _ h2 (Goes.refl _) hidP_le⟩
  | obj C n fs => obtain ⟨a, dx, xs, e, h1, h2, h3⟩ := h; exact ⟨a, dx, xs, e, h1, h2, Rf.mono _ h3 (Goes.refl _) hidP_le⟩
  | _ => exact h
end
def O.isD : O → Bool
  | .dp _ => true
  | _ => false
/-- all that is in it is shared -/
def O.flat : O → Bool
  | .dp _ => true
  | .lst os => os.all O.isD
  | .dic os => os.all fun p => p.2.isD
  | .dit os => os.all fun p => p.2.isD
  | .obj _ _ os => os.all fun p => p.2.isD
section
variable {K : PySem.W.Frag} {ι ι' : List Addr} {M : Addr → Prop} {H : Hp}
theorem ROs.flat : ∀ {os : List O} {f : List Addr} {xs : List V}, ROs K ι M os f H xs → os.all O.isD = true → Rs K ι (toDs os) (hidP M H) xs
  | [], _, _, h, _ => h.2
  | o :: os, _, _, h, fl => by
    obtain ⟨f1, f2, x, r, rfl, rfl, h1, h2⟩ := h
    rw [List.all_cons, Bool.and_eq_true] at fl
    cases o with
    | dp d => exact ⟨x, r, rfl, h1.2, ROs.flat h2 fl.2⟩
    | _ => exact absurd fl.1 (by simp [O.isD])
theorem ROk.flat : ∀ {os : List (Key × O)} {f : List Addr} {xs : List (Key × V)}, ROk K ι M os f H xs → (os.all fun p => p.2.isD) = true → Rk K ι (toDk os) (hidP M H) xs
  | [], _, _, h, _ => h.2
  | (k, o) :: os, _, _, h, fl => by
    obtain ⟨f1, f2, x, r, rfl, rfl, h1, h2⟩ := h
    rw [List.all_cons, Bool.and_eq_true] at fl
    cases o with
    | dp d => exact ⟨x, r, rfl, h1.2, ROk.flat h2 fl.2⟩
    | _ => exact absurd fl.1 (by simp [O.isD])
theorem ROt.flat : ∀ {os : List (List Key × O)} {f : List Addr} {xs : List (List Key × V)}, ROt K ι M os f H xs → (os.all fun p => p.2.isD) = true → Rt K ι (toDt os) (hidP M H) xs
  | [], _, _, h, _ => h.2
  | (k, o) :: os, _, _, h, fl => by
    obtain ⟨f1, f2, x, r, rfl, rfl, h1, h2⟩ := h
    rw [List.all_cons, Bool.and_eq_true] at fl
    cases o with
    | dp d => exact ⟨x, r, rfl, h1.2, ROt.flat h2 fl.2⟩
    | _ => exact absurd fl.1 (by simp [O.isD])
theorem ROf.flat : ∀ {os : List (Str × O)} {f : List Addr} {xs : List (Str × V)}, ROf K ι M os f H xs → (os.all fun p => p.2.isD) = true → Rf K ι (toDf os) (hidP M H) xs
  | [], _, _, h, _ => h.2
  | (k, o) :: os, _, _, h, fl => by
    obtain ⟨f1, f2, x, r, rfl, rfl, h1, h2⟩ := h
    rw [List.all_cons, Bool.and_eq_true] at fl
    cases o with
    | dp d => exact ⟨x, r, rfl, h1.2, ROf.flat h2 fl.2⟩
    | _ => exact absurd fl.1 (by simp [O.isD])
theorem RO.w {o : O} {f : List Addr} {v : V} (h : RO K ι M o f H v) (fl : o.flat = true) : RW K ι M o.toD H v := by
  cases o with
  | dp d => exact h.2.w
  | lst os => obtain ⟨a, r, xs, rfl, rfl, h1, h2⟩ := h; exact ⟨a, xs, rfl, h1, h2.flat fl⟩
  | dic os => obtain ⟨a, r, xs, rfl, rfl, h1, h2⟩ := h; exact ⟨a, xs, rfl, h1, h2.flat fl⟩
  | dit os => obtain ⟨a, r, xs, rfl, rfl, h1, h2⟩ := h; exact ⟨a, xs, rfl, h1, h2.flat fl⟩
  | obj C n os => obtain ⟨a, r, dx, xs, rfl, rfl, h1, h2, h3⟩ := h; exact ⟨a, dx, xs, rfl, h1, h2, h3.flat fl⟩
end
def here (st : ES) (i : Nat) (p : List Stp) : Option O := match st.ss[i]? with
  | some s => match s.o? with
    | some o => o.get p
    | none => none
  | none => none
def vw (st : ES) (rv : RV) : Option D := match rv with
  | .va o => some o.toD
  | .pl i p => match here st i p with
    | some o => if o.flat = true then some o.toD else none
    | none => none
def pk (st : ES) (rv : RV) : Option D := match rv with
  | .va o => some o.toD
  | .pl i p => match here st i p with
    | some o => some o.toD
    | none => none
@[simp] def vws (w : ES → RV → Option D) (st : ES) : List RV → Option (List D)
  | [] => some []
  | rv :: rvs => match w st rv, vws w st rvs with
    | some d, some ds => some (d :: ds)
    | _, _ => none
/-- kept for later: what is held becomes shared -/
def settle (rv : RV) (st : ES) : Out O := match rv with
  | .va o => .ok o st
  | .pl i [] => match st.ss[i]? with
    | some (.ow o) => .ok (.dp o.toD) { st with ss := st.ss.set i (.ow (.dp o.toD)), t := st.t + 1 }
    | _ => .no
  | .pl _ (_ :: _) => .no
def RWs (K : PySem.W.Frag) (ι : List Addr) (A : Addr → Prop) : List D → Hp → List V → Prop
  | [], _, vs => vs = []
  | d :: ds, H, vs => ∃ v r, vs = v :: r ∧ RW K ι A d H v ∧ RWs K ι A ds H r
section
variable {c : FC} {ι ι' : List Addr} {A B : Addr → Prop} {st st' : ES} {σ : L2.St} {H H' : Hp} {fp fp' : Nat → List Addr} {F : List Addr} {rv : RV} {v : V}
theorem RelS.here_ok (r : RelS c ι B st σ H fp) {i : Nat} {p : List Stp} {o1 : O} {u : V} (e : here st i p = some o1) (hu : σ[i]? = some (some u)) (rc : Reach H p u v) :
    ∃ f1, RO c.K ι (All B fp) o1 f1 H v := by
  unfold here at e
  cases hs : st.ss[i]? with
  | none => rw [hs] at e; cases e
  | some s =>
    rw [hs] at e
    have sl := r.sl i s hs
    cases s with
    | un => cases e
    | ow o =>
      obtain ⟨v', z1, z2⟩ := sl
      rw [hu] at z1
      cases z1
      obtain ⟨f1, _, _, h1, _⟩ := z2.lens e rc (r.nd i)
      exact ⟨f1, h1⟩
    | bo o =>
      obtain ⟨_, v', fb, z1, z2, zn, z3⟩ := sl
      rw [hu] at z1
      cases z1
      obtain ⟨f1, _, _, h1, _⟩ := z3.lens e rc zn
      exact ⟨f1, h1⟩
    | mu o =>
      obtain ⟨z1, z2⟩ := sl
      rw [hu] at z1
      cases z1
      obtain ⟨f1, _, _, h1, _⟩ := z2.lens e rc (r.nd i)
      exact ⟨f1, h1⟩
/-- the operand, when all that came new is given up -/
theorem rv_give (p : RelS c ι (Un2 B F) st σ H fp) (hF : ∀ a ∈ F, ¬ B a) {o : O} {F1 : List Addr} (sub : ∀ a ∈ F1, a ∈ F) (h : RO c.K ι (All (Un2 B F) fp) o F1 H v) : R c.K ι o.toD (hidP (All B fp) H) v := by
  refine RO.give o h (fun a ha => hidP_f fun z => ?_) (hidP_sub fun a z => z.elim (fun z => .inl (.inl z)) .inr)
  rcases z with z | ⟨i, z⟩
  · exact hF a (sub a ha) z
  · exact p.db i a z (.inr (sub a ha))
theorem rv_vw (p : RelS c ι (Un2 B F) st σ H fp) (hF : ∀ a ∈ F, ¬ B a) (hl : ∀ a, c.L a → B a) {F1 : List Addr} (sub : ∀ a ∈ F1, a ∈ F) {d : D} (h : RVR c ι (All (Un2 B F) fp) st σ rv F1 H v) (e : vw st rv = some d) : RW c.K ι (All B fp) d H v := by
  cases rv with
  | va o =>
    cases e
    exact (rv_give p hF sub h).w
  | pl i q =>
    obtain ⟨_, u, hu, rc, _⟩ := h
    have r := p.less (fun a h => .inl h) hl
    simp only [vw] at e
    cases eh : here st i q with
    | none => rw [eh] at e; cases e
    | some o =>
      rw [eh] at e
      simp only at e
      by_cases fl : o.flat = true
      · rw [if_pos fl] at e
        cases e
        obtain ⟨f1, h1⟩ := r.here_ok eh hu rc
        exact h1.w fl
      · rw [if_neg fl] at e
        cases e
theorem rv_pk (p : RelS c ι (Un2 B F) st σ H fp) (hF : ∀ a ∈ F, ¬ B a) (hl : ∀ a, c.L a → B a) {F1 : List Addr} (sub : ∀ a ∈ F1, a ∈ F) {d : D} (h : RVR c ι (All (Un2 B F) fp) st σ rv F1 H v) (e : pk st rv = some d) : R c.K ι d H v := by
  cases rv with
  | va o =>
    cases e
    exact R.mono _ (rv_give p hF sub h) (Goes.refl _) hidP_le
  | pl i q =>
    obtain ⟨_, u, hu, rc, _⟩ := h
    have r := p.less (fun a h => .inl h) hl
    simp only [pk] at e
    cases eh : here st i q with
    | none => rw [eh] at e; cases e
    | some o =>
      rw [eh] at e
      cases e
      obtain ⟨f1, h1⟩ := r.here_ok eh hu rc
      exact RO.give o h1 (fun _ _ => rfl) hidP_le
theorem rvs_vw (p : RelS c ι (Un2 B F) st σ H fp) (hF : ∀ a ∈ F, ¬ B a) (hl : ∀ a, c.L a → B a) : ∀ {rvs : List RV} {F1 : List Addr} {vs : List V} {ds : List D}, (∀ a ∈ F1, a ∈ F) → RVRs c ι (All (Un2 B F) fp) st σ rvs F1 H vs → vws vw st rvs = some ds → RWs c.K ι (All B fp) ds H vs
  | [], _, _, _, _, h, e => by cases e; exact h.2
  | rv :: rvs, _, _, ds, sub, h, e => by
    obtain ⟨F1, F2, v, r, rfl, rfl, h1, h2⟩ := h
    simp only [vws] at e
    cases e1 : vw st rv with
    | none => rw [e1] at e; cases e
    | some d =>
      cases e2 : vws vw st rvs with
      | none => rw [e1, e2] at e; cases e
      | some ds' =>
        rw [e1, e2] at e
        cases e
        exact ⟨v, r, rfl, rv_vw p hF hl (fun a ha => sub a (List.mem_append_left _ ha)) h1 e1, rvs_vw p hF hl (fun a ha => sub a (List.mem_append_right _ ha)) h2 e2⟩
theorem rvs_pk (p : RelS c ι (Un2 B F) st σ H fp) (hF : ∀ a ∈ F, ¬ B a) (hl : ∀ a, c.L a → B a) : ∀ {rvs : List RV} {F1 : List Addr} {vs : List V} {ds : List D}, (∀ a ∈ F1, a ∈ F) → RVRs c ι (All (Un2 B F) fp) st σ rvs F1 H vs → vws pk st rvs = some ds → Rs c.K ι ds H vs
  | [], _, _, _, _, h, e => by cases e; exact h.2
  | rv :: rvs, _, _, ds, sub, h, e => by
    obtain ⟨F1, F2, v, r, rfl, rfl, h1, h2⟩ := h
    simp only [vws] at e
    cases e1 : pk st rv with
    | none => rw [e1] at e; cases e
    | some d =>
      cases e2 : vws pk st rvs with
      | none => rw [e1, e2] at e; cases e
      | some ds' =>
        rw [e1, e2] at e
        cases e
        exact ⟨v, r, rfl, rv_pk p hF hl (fun a ha => sub a (List.mem_append_left _ ha)) h1 e1, rvs_pk p hF hl (fun a ha => sub a (List.mem_append_right _ ha)) h2 e2⟩
end
/-- what an operation may give: new things only -/
def Res (K : PySem.W.Frag) (ι : List Addr) (A : Addr → Prop) (H : Hp) (o : O) (Q : VK) : Prop := ∀ v H' F, F.Nodup → (∀ a ∈ F, H a = none) → Same H H' → RO K ι (Un2 A F) o F H' v → Q v H'
def OpS (K : PySem.W.Frag) (r : List V → Hp → VK → Prop) (g : List D → Option O) : Prop := ∀ ι A H vs ds o Q, (∀ a, A a → ∃ u, H a = some u) → RWs K ι A ds H vs → g ds = some o → Res K ι A H o Q → r vs H Q
def OpK (K : PySem.W.Frag) (r : List V → Hp → VK → Prop) (g : List D → Option O) : Prop := ∀ ι A H vs ds o Q, (∀ a, A a → ∃ u, H a = some u) → Rs K ι ds H vs → g ds = some o → Res K ι A H o Q → r vs H Q
def dArgs : List Den → ES → Out (List RV)
  | [], st => .ok [] st
  | f :: fs, st => (f st).bind fun rv st1 => (dArgs fs st1).bind fun rvs st2 => if keep rv st1 st2 = true then .ok (rv :: rvs) st2 else .no
def dOp (w : ES → RV → Option D) (g : List D → Option O) (fs : List Den) : Den := fun st => (dArgs fs st).bind fun rvs st' => match vws w st' rvs with
  | some ds => match g ds with
    | some o => .ok (.va o) st'
    | none => .no
  | none => .no
section
variable {c : FC} {W : WX} {ta tb : TE} {tr : TA} {fa fb : Den} {f : ES → Out (List RV)} {fs : List Den}
theorem ref_nil : RefA c W tNil (dArgs []) := fun B ι st σ H fp r Q g => g [] H [] ι fp (Post.refl r) ⟨rfl, rfl⟩
theorem ref_cons (ha : RefE c W ta fa) (hr : RefA c W tr (dArgs fs)) : RefA c W (tCons ta tr) (dArgs (fa :: fs)) := fun B ι st σ H fp r Q g => by
  refine ha B ι st σ H fp r _ ?_
  simp only [dArgs] at g
  cases e1 : fa st with
  | no => rw [e1] at g; exact g
  | ex C gg d st1 => rw [e1] at g; exact g
  | ok rv st1 =>
    rw [e1] at g
    simp only [bind_ok] at g
    intro v H1 F ι1 fp1 p1 h1
    refine hr _ ι1 st1 σ H1 fp1 p1.rel _ ?_
    cases e2 : dArgs fs st1 with
    | no => rw [e2] at g; exact g
    | ex C gg d st2 =>
      rw [e2] at g
      exact fun dx H' ι' fp' q => g dx H' ι' fp' (p1.thenX r.lb q)
    | ok rvs st2 =>
      rw [e2] at g
      simp only [bind_ok] at g
      intro vs H2 F2 ι2 fp2 p2 h2
      by_cases k : keep rv st1 st2 = true
      · rw [if_pos k] at g
        refine g (v :: vs) H2 (F ++ F2) ι2 fp2 (p1.trans p2) ⟨F, F2, v, vs, rfl, rfl, h1.stay (fun a h => h) p1.rel p2 k, ?_⟩
        rw [← un2_app]
        exact h2
      · rw [if_neg k] at g
        exact g.elim
theorem same_eq {H H' : Hp} (e : Same H H') {a : Addr} (h : ∃ o, H a = some o) : H' a = H a := by
  obtain ⟨o, h⟩ := h
  rw [h]
  exact e _ _ h
/-- behind an operation that makes new things only -/
theorem Post.made {B : Addr → Prop} {fp : Nat → List Addr} {H : Hp} {ι : List Addr} {st : ES} {σ : L2.St} (r : RelS c ι B st σ H fp) {o : O} {v : V} {H' : Hp} {F : List Addr} (nd : F.Nodup) (nf : ∀ a ∈ F, H a = none) (e : Same H H')
    (h : RO c.K ι (Un2 (All B fp) F) o F H' v) : Post c B fp H ι st σ st F ι fp H' ∧ RVR c ι (All (Un2 B F) fp) st σ (.va o) F H' v := by
  have ff : ∀ a ∈ F, ¬ All B fp a := fun a ha z => by
    obtain ⟨u, z⟩ := r.alive z
    rw [nf a ha] at z
    cases z
  have msk : Un2 (All B fp) F = All (Un2 B F) fp := by
    funext a
    refine propext ⟨fun z => ?_, fun z => ?_⟩
    · rcases z with (z | z) | z
      · exact .inl (.inl z)
      · exact .inr z
      · exact .inl (.inr z)
    · rcases z with (z | z) | z
      · exact .inl (.inl z)
      · exact .inr z
      · exact .inl (.inr z)
  have sm : Same (hidP (All B fp) H) (hidP (All (Un2 B F) fp) H') := by
    refine hidP_same (fun a z => ?_) e
    rcases z with (z | z) | z
    · exact .inl (.inl z)
    · exact .inr (nf a z)
    · exact .inl (.inr z)
  rw [msk] at h
  refine ⟨⟨nd, fun a ha z => ff a ha (.inl z), ?_, Goes.refl _, fun a ha => same_eq e (r.bl a ha), sm, fun _ => ⟨rfl, rfl, fun i a ha => same_eq e (r.fpl ha)⟩, Nat.le_refl _⟩, h⟩
  refine r.stay (fun a ha => .inl (r.lb a ha)) (fun i a ha z => ?_) (fun a z => ?_) (Goes.refl _) r.cnt (fun i a ha => same_eq e (r.fpl ha)) (fun a ha => same_eq e (r.bl a (r.lb a ha))) sm
  · rcases z with z | z
    · exact r.db i a ha z
    · exact ff a z (.inr ⟨i, ha⟩)
  · rcases z with z | z
    · obtain ⟨u, z⟩ := r.bl a z
      exact ⟨u, e _ _ z⟩
    · exact h.live _ a z
/-- an operation on arguments -/
theorem ref_op {r : List V → Hp → VK → Prop} {g : List D → Option O} {t : TA} {te : TE} (ht : RefA c W t (dArgs fs)) (ho : OpS c.K r g) (e : ∀ σ H Q, t σ H (fun vs H1 => r vs H1 Q) → te σ H Q) : RefE c W te (dOp vw g fs) := fun B ι st σ H fp rs Q gg => by
  refine e σ H Q (ht B ι st σ H fp rs _ ?_)
  unfold dOp at gg
  cases e1 : dArgs fs st with
  | no => rw [e1] at gg; exact gg
  | ex C gx d st1 => rw [e1] at gg; exact gg
  | ok rvs st1 =>
    rw [e1] at gg
    simp only [bind_ok] at gg
    intro vs H1 F ι1 fp1 p1 h1
    cases e2 : vws vw st1 rvs with
    | none => rw [e2] at gg; exact gg.elim
    | some ds =>
      rw [e2] at gg
      simp only at gg
      cases e3 : g ds with
      | none => rw [e3] at gg; exact gg.elim
      | some o =>
        rw [e3] at gg
        have p2 := p1.drop rs.lb
        have r2 : RelS c ι1 B st1 σ H1 fp1 := by
          have := p2.rel
          rwa [un2_nil rfl] at this
        refine ho ι1 (All B fp1) H1 vs ds o Q (fun a z => r2.alive z) (rvs_vw p1.rel p1.fb rs.lb (fun a h => h) h1 e2) e3 fun v H' F' nd nf sm hr => ?_
        obtain ⟨p3, h3⟩ := Post.made r2 nd nf sm hr
        have p4 := p2.trans (F := []) (by rw [un2_nil rfl]; exact p3)
        refine gg v H' F' ι1 fp1 (by simpa using p4) h3
/-- .. that looks only -/
theorem ref_opK {r : List V → Hp → VK → Prop} {g : List D → Option O} {t : TA} {te : TE} (ht : RefA c W t (dArgs fs)) (ho : OpK c.K r g) (e : ∀ σ H Q, t σ H (fun vs H1 => r vs H1 Q) → te σ H Q) : RefE c W te (dOp pk g fs) := fun B ι st σ H fp rs Q gg => by
  refine e σ H Q (ht B ι st σ H fp rs _ ?_)
  unfold dOp at gg
  cases e1 : dArgs fs st with
  | no => rw [e1] at gg; exact gg
  | ex C gx d st1 => rw [e1] at gg; exact gg
  | ok rvs st1 =>
    rw [e1] at gg
    simp only [bind_ok] at gg
    intro vs H1 F ι1 fp1 p1 h1
    cases e2 : vws pk st1 rvs with
    | none => rw [e2] at gg; exact gg.elim
    | some ds =>
      rw [e2] at gg
      simp only at gg
      cases e3 : g ds with
      | none => rw [e3] at gg; exact gg.elim
      | some o =>
        rw [e3] at gg
        have p2 := p1.drop rs.lb
        have r2 : RelS c ι1 B st1 σ H1 fp1 := by
          have := p2.rel
          rwa [un2_nil rfl] at this
        refine ho ι1 (All B fp1) H1 vs ds o Q (fun a z => r2.alive z) (rvs_pk p1.rel p1.fb rs.lb (fun a h => h) h1 e2) e3 fun v H' F' nd nf sm hr => ?_
        obtain ⟨p3, h3⟩ := Post.made r2 nd nf sm hr
        have p4 := p2.trans (F := []) (by rw [un2_nil rfl]; exact p3)
        refine gg v H' F' ι1 fp1 (by simpa using p4) h3
end
end Fv
set_option Elab.async false
set_option linter.all false
set_option maxRecDepth 100000
set_option maxHeartbeats 4000000
namespace Fv
open PySem PySem.Spec PyProof.Rows L2 RkO
open Classical
def dps (ds : List D) : List O := ds.map O.dp
@[simp] theorem toDs_dps : ∀ ds : List D, toDs (dps ds) = ds
  | [] => rfl
  | d :: ds => by show d :: toDs (dps ds) = _; rw [toDs_dps ds]
@[simp] theorem flat_dps (ds : List D) : (dps ds).all O.isD = true := by
  unfold dps
  rw [List.all_map]
  exact List.all_eq_true.mpr fun _ _ => rfl
section
variable {K : PySem.W.Frag} {ι : List Addr} {A : Addr → Prop} {H : Hp} {Q : VK}
theorem Res.atom {d : D} {v : V} (q : Res K ι A H (.dp d) Q) (h : ∀ H, R K ι d H v) : Q v H := q v H [] List.nodup_nil (fun _ h => nomatch h) (Same.refl H) ⟨rfl, h _⟩
theorem Res.sub {d : D} {v : V} (q : Res K ι A H (.dp d) Q) (h : R K ι d (hidP A H) v) : Q v H := q v H [] List.nodup_nil (fun _ h => nomatch h) (Same.refl H) ⟨rfl, by rw [un2_nil rfl]; exact h⟩
theorem same_upd {p : Addr} {o : HO} (h : H p = none) : Same H (upd H p o) := fun b u e => by rw [upd_ne (ne_of_none e h)]; exact e
theorem ros_dps : ∀ {ds : List D} {xs : List V} {M : Addr → Prop}, Rs K ι ds (hidP M H) xs → ROs K ι M (dps ds) [] H xs
  | [], _, _, h => ⟨rfl, h⟩
  | d :: ds, _, _, ⟨x, r, e, h1, h2⟩ => ⟨[], [], x, r, rfl, e, ⟨rfl, h1⟩, ros_dps h2⟩
theorem hid_new {p : Addr} {o : HO} (h : H p = none) : Same (hidP A H) (hidP (Un2 A [p]) (upd H p o)) := hidP_same (fun a z => z.elim .inl fun z => by rw [List.mem_singleton.mp z]; exact .inr h) (same_upd h)
/-- a new list of shared things -/
theorem Res.list {ds : List D} {xs : List V} (q : Res K ι A H (.lst (dps ds)) Q) (h : Rs K ι ds (hidP A H) xs) : ∀ p, H p = none → Q (.ref p) (upd H p (.lst xs)) := fun p np =>
  q _ _ [p] (List.nodup_cons.mpr ⟨List.not_mem_nil, List.nodup_nil⟩) (fun a ha => by rw [List.mem_singleton.mp ha]; exact np) (same_upd np) ⟨p, [], xs, rfl, rfl, upd_same, ros_dps (Rs.mono _ h (Goes.refl _) (hid_new np))⟩
/-- a new tuple: nobody can change it -/
theorem Res.tup {ds : List D} {xs : List V} (al : ∀ a, A a → ∃ o, H a = some o) (q : Res K ι A H (.dp (.tup ds)) Q) (h : Rs K ι ds (hidP A H) xs) : ∀ p, H p = none → Q (.ref p) (upd H p (.tup xs)) := fun p np => by
  have nA : ¬ A p := fun z => by obtain ⟨o, z⟩ := al p z; rw [np] at z; cases z
  refine q _ _ [] List.nodup_nil (fun _ h => nomatch h) (same_upd np) ⟨rfl, p, xs, rfl, ?_, ?_⟩
  · rw [un2_nil rfl]
    rw [hidP_f nA, upd_same]
  · rw [un2_nil rfl]
    exact Rs.mono _ h (Goes.refl _) (hidP_same (fun a z => .inl z) (same_upd np))
theorem RWs.two {d e : D} {vs : List V} (h : RWs K ι A [d, e] H vs) : ∃ x y, vs = [x, y] ∧ RW K ι A d H x ∧ RW K ι A e H y := by
  obtain ⟨x, r, rfl, h1, y, r2, rfl, h2, rfl⟩ := h
  exact ⟨x, y, rfl, h1, h2⟩
theorem RWs.one {d : D} {vs : List V} (h : RWs K ι A [d] H vs) : ∃ x, vs = [x] ∧ RW K ι A d H x := by
  obtain ⟨x, r, rfl, h1, rfl⟩ := h
  exact ⟨x, rfl, h1⟩
theorem Rs.two {d e : D} {vs : List V} (h : Rs K ι [d, e] H vs) : ∃ x y, vs = [x, y] ∧ R K ι d H x ∧ R K ι e H y := by
  obtain ⟨x, r, rfl, h1, y, r2, rfl, h2, rfl⟩ := h
  exact ⟨x, y, rfl, h1, h2⟩
theorem Rs.one {d : D} {vs : List V} (h : Rs K ι [d] H vs) : ∃ x, vs = [x] ∧ R K ι d H x := by
  obtain ⟨x, r, rfl, h1, rfl⟩ := h
  exact ⟨x, rfl, h1⟩
theorem Rs.len : ∀ {ds : List D} {xs : List V}, Rs K ι ds H xs → xs.length = ds.length
  | [], _, h => by rw [show _ = [] from h]; rfl
  | d :: ds, _, ⟨x, r, e, _, h2⟩ => by rw [e, List.length_cons, List.length_cons, Rs.len h2]
theorem Rs.get : ∀ {ds : List D} {xs : List V} {i : Nat} {d : D}, Rs K ι ds H xs → ds[i]? = some d → ∃ x, xs[i]? = some x ∧ R K ι d H x
  | [], _, i, _, _, e => by simp at e
  | d :: ds, _, 0, _, ⟨x, r, rfl, h1, _⟩, e => by cases e; exact ⟨x, rfl, h1⟩
  | d :: ds, _, i + 1, _, ⟨x, r, rfl, _, h2⟩, e => Rs.get (i := i) h2 e
theorem Rs.app : ∀ {ds es : List D} {xs ys : List V}, Rs K ι ds H xs → Rs K ι es H ys → Rs K ι (ds ++ es) H (xs ++ ys)
  | [], _, _, _, h, g => by rw [show _ = [] from h]; exact g
  | d :: ds, _, _, _, ⟨x, r, e, h1, h2⟩, g => by rw [e]; exact ⟨x, _, rfl, h1, Rs.app h2 g⟩
theorem Rs.take : ∀ {ds : List D} {xs : List V} (n : Nat), Rs K ι ds H xs → Rs K ι (ds.take n) H (xs.take n)
  | [], _, n, h => by rw [show _ = [] from h, List.take_nil, List.take_nil]; rfl
  | d :: ds, _, 0, _ => rfl
  | d :: ds, _, n + 1, ⟨x, r, e, h1, h2⟩ => by rw [e]; exact ⟨x, _, rfl, h1, Rs.take n h2⟩
theorem Rs.drop : ∀ {ds : List D} {xs : List V} (n : Nat), Rs K ι ds H xs → Rs K ι (ds.drop n) H (xs.drop n)
  | [], _, n, h => by rw [show _ = [] from h, List.drop_nil, List.drop_nil]; rfl
  | d :: ds, _, 0, h => h
  | d :: ds, _, n + 1, ⟨x, r, e, h1, h2⟩ => by rw [e]; exact Rs.drop n h2
theorem Rs.ints : ∀ {ns : List Int} {xs : List V}, Rs K ι (ns.map D.int) H xs → xs = ns.map V.int
  | [], _, h => h
  | n :: ns, _, ⟨x, r, e, h1, h2⟩ => by rw [e, show x = V.int n from h1, Rs.ints h2]; rfl
theorem Rs.bls : ∀ {ns : List Bool} {xs : List V}, Rs K ι (ns.map D.bl) H xs → xs = ns.map V.bl
  | [], _, h => h
  | n :: ns, _, ⟨x, r, e, h1, h2⟩ => by rw [e, show x = V.bl n from h1, Rs.bls h2]; rfl
theorem rs_ints : ∀ (ns : List Int), Rs K ι (ns.map D.int) H (ns.map V.int)
  | [] => rfl
  | n :: ns => ⟨_, _, rfl, rfl, rs_ints ns⟩
end
def asInts : List D → Option (List Int)
  | [] => some []
  | .int i :: ds => (asInts ds).map (i :: ·)
  | _ :: _ => none
def asStrs : List D → Option (List Str)
  | [] => some []
  | .str i :: ds => (asStrs ds).map (i :: ·)
  | _ :: _ => none
def asBls : List D → Option (List Bool)
  | [] => some []
  | .bl i :: ds => (asBls ds).map (i :: ·)
  | _ :: _ => none
@[simp] theorem asInts_map : ∀ ns : List Int, asInts (ns.map D.int) = some ns
  | [] => rfl
  | n :: ns => by show (asInts (ns.map D.int)).map _ = _; rw [asInts_map ns]; rfl
@[simp] theorem asStrs_map : ∀ ns : List Str, asStrs (ns.map D.str) = some ns
  | [] => rfl
  | n :: ns => by show (asStrs (ns.map D.str)).map _ = _; rw [asStrs_map ns]; rfl
@[simp] theorem asBls_map : ∀ ns : List Bool, asBls (ns.map D.bl) = some ns
  | [] => rfl
  | n :: ns => by show (asBls (ns.map D.bl)).map _ = _; rw [asBls_map ns]; rfl
theorem of_asInts : ∀ {ds : List D} {ns : List Int}, asInts ds = some ns → ds = ns.map D.int
  | [], ns, h => by cases h; rfl
  | .int i :: ds, ns, h => by
    obtain ⟨ms, h1, rfl⟩ := Option.map_eq_some_iff.mp (show (asInts ds).map (i :: ·) = some ns from h)
    rw [of_asInts h1]; rfl
theorem of_asBls : ∀ {ds : List D} {ns : List Bool}, asBls ds = some ns → ds = ns.map D.bl
  | [], ns, h => by cases h; rfl
  | .bl i :: ds, ns, h => by
    obtain ⟨ms, h1, rfl⟩ := Option.map_eq_some_iff.mp (show (asBls ds).map (i :: ·) = some ns from h)
    rw [of_asBls h1]; rfl
def D.flatV : D → Option V
  | .non => some .non
  | .bl b => some (.bl b)
  | .int i => some (.int i)
  | .str s => some (.str s)
  | _ => none
def flatVs : List D → Option (List V)
  | [] => some []
  | d :: ds => match d.flatV, flatVs ds with
    | some v, some vs => some (v :: vs)
    | _, _ => none
theorem R.flatV {K : PySem.W.Frag} {ι : List Addr} {H : Hp} {d : D} {v w : V} (h : R K ι d H v) (e : d.flatV = some w) : v = w ∧ L2.flatV v = true := by
  cases d with
  | non => cases e; cases (show v = _ from h); exact ⟨rfl, rfl⟩
  | bl b => cases e; cases (show v = _ from h); exact ⟨rfl, rfl⟩
  | int b => cases e; cases (show v = _ from h); exact ⟨rfl, rfl⟩
  | str b => cases e; cases (show v = _ from h); exact ⟨rfl, rfl⟩
  | _ => cases e
mutual
def D.py : D → Option PyData
  | .non => some .none
  | .bl b => some (.bool b)
  | .int i => some (.int i)
  | .str s => some (.str s)
  | .scr ns => some (.list (ns.map PyData.int))
  | .lst ds => match pys ds with | some ps => some (.list ps) | none => none
  | .tup ds => match pys ds with | some ps => some (.tuple ps) | none => none
  | .dic _ => none
  | .dit _ => none
  | .obj _ _ _ => none
def pys : List D → Option (List PyData)
  | [] => some []
  | d :: ds => match d.py, pys ds with
    | some p, some ps => some (p :: ps)
    | _, _ => none
end
section
variable {K : PySem.W.Frag} {ι : List Addr} {H : Hp}
mutual
theorem R.py : ∀ (d : D) {v : V} {p : PyData}, R K ι d H v → d.py = some p → Dp K H v p
  | .non, _, _, h, e => by cases e; rw [show _ = _ from h]; exact .non
  | .bl b, _, _, h, e => by cases e; rw [show _ = _ from h]; exact .bl b
  | .int b, _, _, h, e => by cases e; rw [show _ = _ from h]; exact .int b
  | .str b, _, _, h, e => by cases e; rw [show _ = _ from h]; exact .str b
  | .scr ns, _, _, h, e => by
    obtain ⟨a, rfl, h1⟩ := h
    cases e
    refine .lst h1 ?_
    clear h1
    induction ns with
    | nil => exact .nil
    | cons n ns ih => exact .cons (.int n) ih
  | .lst ds, _, _, h, e => by
    obtain ⟨a, xs, rfl, h1, h2⟩ := h
    simp only [D.py] at e
    cases e1 : pys ds with
    | none => rw [e1] at e; cases e
    | some ps => rw [e1] at e; cases e; exact .lst (SqL.of h1) (Rs.py ds h2 e1)
  | .tup ds, _, _, h, e => by
    obtain ⟨a, xs, rfl, h1, h2⟩ := h
    simp only [D.py] at e
    cases e1 : pys ds with
    | none => rw [e1] at e; cases e
    | some ps => rw [e1] at e; cases e; exact .tup (tupS h1) (Rs.py ds h2 e1)
  | .dic _, _, _, _, e => by simp [D.py] at e
  | .dit _, _, _, _, e => by simp [D.py] at e
  | .obj _ _ _, _, _, _, e => by simp [D.py] at e
theorem Rs.py : ∀ (ds : List D) {vs : List V} {ps : List PyData}, Rs K ι ds H vs → pys ds = some ps → DpAll K H vs ps
  | [], _, _, h, e => by cases e; rw [show _ = [] from h]; exact .nil
  | d :: ds, _, _, h, e => by
    obtain ⟨x, r, rfl, h1, h2⟩ := h
    simp only [pys] at e
    cases e1 : d.py with
    | none => rw [e1] at e; cases e
    | some p =>
      cases e2 : pys ds with
      | none => rw [e1, e2] at e; cases e
      | some ps =>
        rw [e1, e2] at e
        cases e
        exact .cons (R.py d h1 e1) (Rs.py ds h2 e2)
end
end
def r2l (r : R2) : List V → Hp → VK → Prop := fun vs H Q => match vs with
  | [x, y] => r x y H Q
  | _ => False
def gor (g g' : List D → Option O) : List D → Option O := fun ds => match g ds with
  | some o => some o
  | none => g' ds
section
variable {K : PySem.W.Frag} {r r' : List V → Hp → VK → Prop} {g g' : List D → Option O}
theorem OpS.or (h : OpS K r g) (h' : OpS K r' g') : OpS K (fun vs H Q => r vs H Q ∨ r' vs H Q) (gor g g') := fun ι A H vs ds o Q al hv e q => by
  unfold gor at e
  cases e1 : g ds with
  | some o1 => rw [e1] at e; cases e; exact .inl (h ι A H vs ds _ Q al hv e1 q)
  | none => rw [e1] at e; exact .inr (h' ι A H vs ds _ Q al hv e q)
theorem OpK.or (h : OpK K r g) (h' : OpK K r' g') : OpK K (fun vs H Q => r vs H Q ∨ r' vs H Q) (gor g g') := fun ι A H vs ds o Q al hv e q => by
  unfold gor at e
  cases e1 : g ds with
  | some o1 => rw [e1] at e; cases e; exact .inl (h ι A H vs ds _ Q al hv e1 q)
  | none => rw [e1] at e; exact .inr (h' ι A H vs ds _ Q al hv e q)
theorem OpS.imp {r2 : List V → Hp → VK → Prop} (h : OpS K r g) (f : ∀ vs H Q, r vs H Q → r2 vs H Q) : OpS K r2 g := fun ι A H vs ds o Q al hv e q => f _ _ _ (h ι A H vs ds o Q al hv e q)
theorem OpK.imp {r2 : List V → Hp → VK → Prop} (h : OpK K r g) (f : ∀ vs H Q, r vs H Q → r2 vs H Q) : OpK K r2 g := fun ι A H vs ds o Q al hv e q => f _ _ _ (h ι A H vs ds o Q al hv e q)
theorem r2l_or {r r' : R2} (vs : List V) (H : Hp) (Q : VK) (h : r2l r vs H Q ∨ r2l r' vs H Q) : r2l (r2or r r') vs H Q := by
  unfold r2l at h ⊢
  split at h
  · exact h
  · exact h.elim False.elim False.elim
end
end Fv
set_option Elab.async false
set_option linter.all false
set_option maxRecDepth 100000
set_option maxHeartbeats 4000000
namespace Fv
open PySem PySem.Spec PyProof.Rows L2 RkO
open Classical
def tD (c : FC) (W : WX) (f : Den) : TE := fun σ H Q => ∃ B ι st fp, RelS c ι B st σ H fp ∧ GoE c W B fp H ι st σ (f st) Q
def tDA (c : FC) (W : WX) (f : ES → Out (List RV)) : TA := fun σ H Q => ∃ B ι st fp, RelS c ι B st σ H fp ∧ GoA c W B fp H ι st σ (f st) Q
def tDT (c : FC) (W : WX) (f : ES → Out Bool) : TT := fun σ H Q => ∃ B ι st fp, RelS c ι B st σ H fp ∧ GoT c W B fp H ι st σ (f st) Q
theorem ref_tD {c : FC} {W : WX} {f : Den} : RefE c W (tD c W f) f := fun B ι st σ H fp r Q g => ⟨B, ι, st, fp, r, g⟩
theorem ref_tDA {c : FC} {W : WX} {f : ES → Out (List RV)} : RefA c W (tDA c W f) f := fun B ι st σ H fp r Q g => ⟨B, ι, st, fp, r, g⟩
theorem ref_tDT {c : FC} {W : WX} {f : ES → Out Bool} : RefT c W (tDT c W f) f := fun B ι st σ H fp r Q g => ⟨B, ι, st, fp, r, g⟩
def SE (X : Cx) (c : FC) (W : WX) (e : Expr) (f : Den) : Prop := PE X e (tD c W f)
def SA (X : Cx) (c : FC) (W : WX) (es : List Expr) (fs : List Den) : Prop := PA X es (tDA c W (dArgs fs))
def ST (X : Cx) (c : FC) (W : WX) (e : Expr) (f : ES → Out Bool) : Prop := PT X e (tDT c W f)
section
variable {X : Cx} {c : FC} {W : WX} {e a b : Expr} {es : List Expr} {fa fb f : Den} {fs : List Den} {t ta tb : TE} {pos : Pos}
theorem se_of (h : PE X e t) (r : RefE c W t f) : SE X c W e f := ⟨fun pins s σ H Q I ⟨B, ι, st, fp, rs, g⟩ => h.run pins s σ H Q I (r B ι st σ H fp rs Q g)⟩
theorem sa_of {t : TA} (h : PA X es t) (r : RefA c W t (dArgs fs)) : SA X c W es fs := ⟨fun pos pins s σ H Q I ⟨B, ι, st, fp, rs, g⟩ => h.run pos pins s σ H Q I (r B ι st σ H fp rs Q g)⟩
theorem st_of {t : TT} {f : ES → Out Bool} (h : PT X e t) (r : RefT c W t f) : ST X c W e f := ⟨fun pins s σ H Q I ⟨B, ι, st, fp, rs, g⟩ => h.run pins s σ H Q I (r B ι st σ H fp rs Q g)⟩
theorem sa_nil : SA X c W [] [] := sa_of pa_nil ref_nil
theorem sa_cons (ha : SE X c W e fa) (hr : SA X c W es fs) (hs : starEach (e :: es) X.env = (false, eval e X.env) :: starEach es X.env := by rfl) : SA X c W (e :: es) (fa :: fs) :=
  sa_of (pa_cons ha hr hs) (ref_cons ref_tD ref_tDA)
def dVar (i : Nat) : Den := fun st => match st.ss[i]? with
  | some s => match s.o? with
    | some (.dp d) => .ok (.va (.dp d)) st
    | some _ => .ok (.pl i []) st
    | none => .no
  | none => .no
theorem ref_var {i : Nat} : RefE c W (tVar i) (dVar i) := fun B ι st σ H fp r Q g => by
  unfold dVar at g
  cases hs : st.ss[i]? with
  | none => rw [hs] at g; exact g.elim
  | some s =>
    rw [hs] at g
    have sl := r.sl i s hs
    have go : ∀ (o : O) (v : V) (f : List Addr), σ[i]? = some (some v) → RO c.K ι (All B fp) o f H v → GoE c W B fp H ι st σ (match some o with | some (.dp d) => .ok (.va (.dp d)) st | some _ => .ok (.pl i []) st | none => .no) Q → tVar i σ H Q := fun o v f hv h g => by
      cases o with
      | dp d => exact ⟨v, hv, g v H [] ι fp (Post.refl r) (by rw [un2_nil rfl]; exact ⟨rfl, h.2⟩)⟩
      | _ => exact ⟨v, hv, g v H [] ι fp (Post.refl r) ⟨rfl, v, hv, rfl, fun z => absurd rfl z⟩⟩
    cases s with
    | un => exact g.elim
    | ow o => obtain ⟨v, h1, h2⟩ := sl; exact go o v _ h1 h2 g
    | bo o => obtain ⟨_, v, fb, h1, _, _, h2⟩ := sl; exact go o v _ h1 h2 g
    | mu o => obtain ⟨h1, h2⟩ := sl; exact go o _ _ h1 h2 g
theorem se_var (i : Nat) {x : Str} {pos : Pos} (hN : X.N[i]? = some x := by rfl) (hv : Vis X.env.scope x := by first | exact Or.inl rfl | exact Or.inr (Or.inl rfl) | exact Or.inr (Or.inr rfl)) (hd : (x == ("__debug__" : Str)) = false := by decide)
    (hcd : (x == ("__classdict__" : Str)) = false := by decide) : SE X c W (.Name x pos) (dVar i) := se_of (pe_var hN hv hd hcd) ref_var
def dC (d : D) : Den := fun st => .ok (.va (.dp d)) st
theorem ref_c {v : V} {d : D} (h : ∀ K ι H, R K ι d H v) : RefE c W (tC v) (dC d) := fun B ι st σ H fp r Q g => g v H [] ι fp (Post.refl r) ⟨rfl, h _ _ _⟩
theorem se_int {i j pos} : SE X c W (.Constant (.int i) j pos) (dC (.int i)) := se_of pe_int (ref_c fun _ _ _ => rfl)
theorem se_bl {b j pos} : SE X c W (.Constant (.bool b) j pos) (dC (.bl b)) := se_of pe_bl (ref_c fun _ _ _ => rfl)
theorem se_non {j pos} : SE X c W (.Constant .none j pos) (dC .non) := se_of pe_non (ref_c fun _ _ _ => rfl)
theorem se_str {x j pos} : SE X c W (.Constant (.str x) j pos) (dC (.str x)) := se_of pe_str (ref_c fun _ _ _ => rfl)
theorem se_bin {op : Operator} {r : R2} {g : List D → Option O} (ho : OpR X (binaryOp op) r) (hs : OpS c.K (r2l r) g) (ha : SE X c W a fa) (hb : SE X c W b fb) : SE X c W (.BinOp a op b pos) (dOp vw g [fa, fb]) :=
  se_of (pe_op ho ha hb) (ref_op (r := r2l r) (t := tCons (tD c W fa) (tCons (tD c W fb) tNil)) (ref_cons ref_tD (ref_cons ref_tD ref_nil)) hs fun _ _ _ h => h)
theorem se_cmp {op : CmpOp} {r : R2} {g : List D → Option O} (w : Bool) (ho : OpR X (compareOp op) r) (hs : OpK c.K (r2l r) g) (ha : SE X c W a fa) (hb : SE X c W b fb) (h1 : behindInMarks op b = false) : SE X c W (.Compare a [op] [b] pos) (dOp pk g [fa, fb]) :=
  se_of (pe_cmpR ho ha hb h1) (ref_opK (r := r2l r) (t := tCons (tD c W fa) (tCons (tD c W fb) tNil)) (ref_cons ref_tD (ref_cons ref_tD ref_nil)) hs fun _ _ _ h => h)
theorem se_callB {id : String} {x : Str} {p : Pos} {r : List V → Hp → VK → Prop} {g : List D → Option O} (hc : CallR X (.builtin id) r) (hs : OpS c.K r g) (hg : Gl X x) (hm : X.mg x = none) (hv : bootBuiltins x = some (.builtin id)) (ha : SA X c W (e :: es) fs)
    (hn : x ≠ "__name__" := by decide) (hdb : (x == ("__debug__" : Str)) = false := by decide)
    (he : starEach (e :: es) X.env = (false, eval e X.env) :: starEach es X.env := by rfl) (hpl : (backTo pos (starEach es X.env)).any (·.1) = false := by rfl) : SE X c W (.Call (.Name x p) (e :: es) [] pos) (dOp vw g fs) :=
  se_of (pe_callB hc hg hm hv ha hn hdb he hpl) (ref_op ref_tDA hs fun _ _ _ h => h)
theorem se_callBk {id : String} {x : Str} {p : Pos} {r : List V → Hp → VK → Prop} {g : List D → Option O} (hc : CallR X (.builtin id) r) (hs : OpK c.K r g) (hg : Gl X x) (hm : X.mg x = none) (hv : bootBuiltins x = some (.builtin id)) (ha : SA X c W (e :: es) fs)
    (hn : x ≠ "__name__" := by decide) (hdb : (x == ("__debug__" : Str)) = false := by decide)
    (he : starEach (e :: es) X.env = (false, eval e X.env) :: starEach es X.env := by rfl) (hpl : (backTo pos (starEach es X.env)).any (·.1) = false := by rfl) : SE X c W (.Call (.Name x p) (e :: es) [] pos) (dOp pk g fs) :=
  se_of (pe_callB hc hg hm hv ha hn hdb he hpl) (ref_opK ref_tDA hs fun _ _ _ h => h)
theorem se_callTy {T : String} {x : Str} {p : Pos} {r : List V → Hp → VK → Prop} {g : List D → Option O} (hc : CallR X (.type T) r) (hs : OpS c.K r g) (hg : Gl X x) (hm : X.mg x = none) (hv : bootBuiltins x = some (.type T)) (ha : SA X c W (e :: es) fs)
    (hn : x ≠ "__name__" := by decide) (hdb : (x == ("__debug__" : Str)) = false := by decide)
    (he : starEach (e :: es) X.env = (false, eval e X.env) :: starEach es X.env := by rfl) (hpl : (backTo pos (starEach es X.env)).any (·.1) = false := by rfl) : SE X c W (.Call (.Name x p) (e :: es) [] pos) (dOp vw g fs) :=
  se_of (pe_callTy hc hg hm hv ha hn hdb he hpl) (ref_op ref_tDA hs fun _ _ _ h => h)
end
def gI (g : Int → Int → Option Int) : List D → Option O
  | [.int i, .int j] => (g i j).map fun k => .dp (.int k)
  | _ => none
def gB (g : Int → Int → Bool) : List D → Option O
  | [.int i, .int j] => some (.dp (.bl (g i j)))
  | _ => none
section
variable {K : PySem.W.Frag}
theorem ops_I {C : Int → Int → Prop} {h : Int → Int → Int} {g : Int → Int → Option Int} (hg : ∀ i j k, g i j = some k → C i j ∧ k = h i j) : OpS K (r2l (rI C fun i j => .int (h i j))) (gI g) := fun ι A H vs ds o Q al hv e q => by
  unfold gI at e
  split at e
  · rename_i i j
    obtain ⟨x, y, rfl, h1, h2⟩ := hv.two
    cases (show x = _ from h1)
    cases (show y = _ from h2)
    obtain ⟨k, hk, rfl⟩ := Option.map_eq_some_iff.mp e
    obtain ⟨hc, rfl⟩ := hg i j k hk
    exact ⟨i, j, rfl, rfl, hc, q.atom fun _ => rfl⟩
  · cases e
theorem ops_I0 {h : Int → Int → Int} : OpS K (r2l (rI0 fun i j => .int (h i j))) (gI fun i j => some (h i j)) := fun ι A H vs ds o Q al hv e q => by
  unfold gI at e
  split at e
  · rename_i i j
    obtain ⟨x, y, rfl, h1, h2⟩ := hv.two
    cases (show x = _ from h1)
    cases (show y = _ from h2)
    cases e
    exact ⟨i, j, rfl, rfl, q.atom fun _ => rfl⟩
  · cases e
theorem opk_B0 {h : Int → Int → Bool} : OpK K (r2l (rI0 fun i j => .bl (h i j))) (gB h) := fun ι A H vs ds o Q al hv e q => by
  unfold gB at e
  split at e
  · rename_i i j
    obtain ⟨x, y, rfl, h1, h2⟩ := hv.two
    cases (show x = _ from h1)
    cases (show y = _ from h2)
    cases e
    exact ⟨i, j, rfl, rfl, q.atom fun _ => rfl⟩
  · cases e
end
def gSadd : List D → Option O
  | [.str i, .str j] => if i.length + j.length ≤ 100000 then some (.dp (.str (i ++ j))) else none
  | _ => none
def gCat : List D → Option O
  | [.lst xs, .lst ys] => if xs.length + ys.length ≤ 100000 then some (.lst (dps (xs ++ ys))) else none
  | _ => none
def gCatT : List D → Option O
  | [.tup xs, .tup ys] => if xs ≠ [] ∧ ys ≠ [] ∧ xs.length + ys.length ≤ 100000 then some (.dp (.tup (xs ++ ys))) else none
  | _ => none
def gAdd : List D → Option O := gor (gI fun i j => some (i + j)) (gor gSadd (gor gCat gCatT))
section
variable {K : PySem.W.Frag}
theorem ops_sadd : OpS K (r2l fun x y H Q => ∃ i j, x = .str i ∧ y = .str j ∧ i.length + j.length ≤ sizeLine ∧ Q (.str (i ++ j)) H) gSadd := fun ι A H vs ds o Q al hv e q => by
  unfold gSadd at e
  split at e
  · rename_i i j
    obtain ⟨x, y, rfl, h1, h2⟩ := hv.two
    cases (show x = _ from h1)
    cases (show y = _ from h2)
    split at e
    · rename_i hz
      cases e
      exact ⟨i, j, rfl, rfl, Evl.sz_of hz, q.atom fun _ => rfl⟩
    · cases e
  · cases e
theorem ops_cat : OpS K (r2l rCat) gCat := fun ι A H vs ds o Q al hv e q => by
  unfold gCat at e
  split at e
  · rename_i xs ys
    obtain ⟨x, y, rfl, ⟨a, us, rfl, h1, h2⟩, ⟨b, ws, rfl, h3, h4⟩⟩ := hv.two
    split at e
    · rename_i hz
      cases e
      exact ⟨a, b, us, ws, rfl, rfl, h1, h3, Evl.sz_of (by rw [h2.len, h4.len]; exact hz), q.list (h2.app h4)⟩
    · cases e
  · cases e
theorem ops_catT : OpS K (r2l (rCatT K)) gCatT := fun ι A H vs ds o Q al hv e q => by
  unfold gCatT at e
  split at e
  · rename_i xs ys
    obtain ⟨x, y, rfl, ⟨a, us, rfl, h1, h2⟩, ⟨b, ws, rfl, h3, h4⟩⟩ := hv.two
    split at e
    · rename_i hz
      cases e
      have n1 : us ≠ [] := fun z => hz.1 (List.length_eq_zero_iff.mp (by rw [← h2.len, z]; rfl))
      have n2 : ws ≠ [] := fun z => hz.2.1 (List.length_eq_zero_iff.mp (by rw [← h4.len, z]; rfl))
      exact ⟨a, b, us, ws, rfl, rfl, tupS h1, tupS h3, n1, Evl.sz_of (by rw [h2.len, h4.len]; exact hz.2.2), fun z => absurd z n2, fun _ => q.tup al (h2.app h4)⟩
    · cases e
  · cases e
theorem ops_add : OpS K (r2l (r2or (rI0 fun i j => .int (i + j)) (r2or (fun x y H Q => ∃ i j, x = .str i ∧ y = .str j ∧ i.length + j.length ≤ sizeLine ∧ Q (.str (i ++ j)) H) (r2or rCat (rCatT K))))) gAdd :=
  (OpS.or (ops_I0 (h := fun i j => i + j)) ((OpS.or ops_sadd ((OpS.or ops_cat ops_catT).imp r2l_or)).imp r2l_or)).imp r2l_or
end
section
variable {X : Cx} {c : FC} {W : WX} {a b : Expr} {fa fb : Den} {pos : Pos}
theorem op_addU : OpR X (binaryOp .Add) (r2or (rI0 fun i j => .int (i + j)) (r2or (fun x y H Q => ∃ i j, x = .str i ∧ y = .str j ∧ i.length + j.length ≤ sizeLine ∧ Q (.str (i ++ j)) H) (r2or rCat (rCatT X.K)))) :=
  RkO.op_or op_add (RkO.op_or op_add_str (RkO.op_or op_cat op_catT))
def dAdd (fa fb : Den) : Den := dOp vw gAdd [fa, fb]
theorem se_add (hK : X.K = c.K) (ha : SE X c W a fa) (hb : SE X c W b fb) : SE X c W (.BinOp a .Add b pos) (dAdd fa fb) := se_bin op_addU (by rw [hK]; exact ops_add) ha hb
def dSub (fa fb : Den) : Den := dOp vw (gI fun i j => some (i - j)) [fa, fb]
theorem se_sub (ha : SE X c W a fa) (hb : SE X c W b fb) : SE X c W (.BinOp a .Sub b pos) (dSub fa fb) := se_bin op_sub (ops_I0 (h := fun i j => i - j)) ha hb
/-- *: of ints below a million bits together; of a list by an int; of a text by an int -/
def gMulI : List D → Option O := gI fun i j => if i.natAbs.log2 + j.natAbs.log2 < 1000000 then some (i * j) else none
def gRep : List D → Option O
  | [.lst xs, .int k] => if k < 100000 ∧ -100000 < k ∧ xs.length * k.toNat ≤ 100000 then some (.lst (dps (List.replicate k.toNat xs).flatten)) else none
  | _ => none
theorem ops_rep {K : PySem.W.Frag} : OpS K (r2l rRep) gRep := fun ι A H vs ds o Q al hv e q => by
  unfold gRep at e
  split at e
  · rename_i xs k
    obtain ⟨x, y, rfl, ⟨a, us, rfl, h1, h2⟩, h3⟩ := hv.two
    cases (show y = _ from h3)
    split at e
    · rename_i hz
      cases e
      refine ⟨a, k, us, rfl, rfl, h1, by omega, by omega, Evl.sz_of (by rw [h2.len]; exact hz.2.2), q.list ?_⟩
      clear hz q
      induction k.toNat with
      | zero => rfl
      | succ n ih =>
        rw [List.replicate_succ, List.replicate_succ, List.flatten_cons, List.flatten_cons]
        exact h2.app ih
    · cases e
  · cases e
def gMul : List D → Option O := gor gMulI gRep
def dMul (fa fb : Den) : Den := dOp vw gMul [fa, fb]
theorem se_mul (ha : SE X c W a fa) (hb : SE X c W b fb) : SE X c W (.BinOp a .Mult b pos) (dMul fa fb) :=
  se_bin (RkO.op_or op_mulW op_rep) ((OpS.or (ops_I (C := CMulW) (h := fun i j => i * j) fun i j k hk => by
    split at hk
    · rename_i hz; cases hk; exact ⟨hz, rfl⟩
    · cases hk) ops_rep).imp r2l_or) ha hb
/-- // by a positive divisor below 9000 bits -/
def dDiv (fa fb : Den) : Den := dOp vw (gI fun i j => if 0 < j ∧ j.natAbs.log2 < 9000 then some (i / j) else none) [fa, fb]
theorem se_div (ha : SE X c W a fa) (hb : SE X c W b fb) : SE X c W (.BinOp a .FloorDiv b pos) (dDiv fa fb) :=
  se_bin op_fdivW (ops_I (C := CDivW) (h := fun i j => i / j) fun i j k hk => by
    split at hk
    · rename_i hz; cases hk; exact ⟨hz, rfl⟩
    · cases hk) ha hb
def dMod (fa fb : Den) : Den := dOp vw (gI fun i j => if 0 < j then some (i % j) else none) [fa, fb]
theorem se_mod (ha : SE X c W a fa) (hb : SE X c W b fb) : SE X c W (.BinOp a .Mod b pos) (dMod fa fb) :=
  se_bin op_mod (ops_I (C := fun _ j => 0 < j) (h := fun i j => i % j) fun i j k hk => by
    split at hk
    · rename_i hz; cases hk; exact ⟨hz, rfl⟩
    · cases hk) ha hb
def CPowB (i j : Int) : Prop := 0 ≤ j ∧ (Builtin.Int.intBits i : Int) * j ≤ 2 ^ 27
theorem op_powB : OpR X (binaryOp .Pow) (rI CPowB fun i j => .int (i ^ j.toNat)) := opI fun _ _ _ _ _ _ _ hc q => pow_int hc.1 hc.2 q
def gPow : List D → Option O := gI fun i j => if 0 ≤ j ∧ (j ≤ 1000000 ∧ i.natAbs < 2 ^ 64 ∨ (Builtin.Int.intBits i : Int) * j ≤ 2 ^ 27) then some (i ^ j.toNat) else none
def dPow (fa fb : Den) : Den := dOp vw gPow [fa, fb]
theorem se_pow (ha : SE X c W a fa) (hb : SE X c W b fb) : SE X c W (.BinOp a .Pow b pos) (dPow fa fb) :=
  se_bin op_powB (ops_I (C := CPowB) (h := fun i j => i ^ j.toNat) fun i j k hk => by
    split at hk
    · rename_i hz
      cases hk
      refine ⟨⟨hz.1, ?_⟩, rfl⟩
      rcases hz.2 with h | h
      · exact bits_mul_le h.2 hz.1 h.1
      · exact h
    · cases hk) ha hb
end
end Fv
set_option Elab.async false
set_option linter.all false
set_option maxRecDepth 100000
set_option maxHeartbeats 4000000
namespace Fv
open PySem PySem.Spec PyProof.Rows L2 RkO
open Classical
def gS (g : List Nat → List Nat → Bool) : List D → Option O
  | [.str i, .str j] => some (.dp (.bl (g i.cps.toList j.cps.toList)))
  | _ => none
def gLe : List D → Option O := gor (gB fun i j => decide (i ≤ j)) (gS fun i j => !decide (j < i))
def gGt : List D → Option O := gor (gB fun i j => decide (j < i)) (gS fun i j => decide (j < i))
def gGe : List D → Option O := gor (gB fun i j => decide (j ≤ i)) (gS fun i j => !decide (i < j))
/-- == of plain data -/
def gEqD (f : Bool → Bool) : List D → Option O
  | [d, e] => match d.py, e.py with
    | some p, some q => if (SeqAt.shaped p && SeqAt.shaped q) = true then some (.dp (.bl (f (PyData.eqv p q)))) else none
    | _, _ => none
  | _ => none
/-- in a list or tuple of flat values; a text in a text -/
def gInL (f : Bool → Bool) : List D → Option O
  | [d, .lst ys] => match d.flatV, flatVs ys with
    | some v, some vs => some (.dp (.bl (f (inV v vs))))
    | _, _ => none
  | [d, .tup ys] => match d.flatV, flatVs ys with
    | some v, some vs => some (.dp (.bl (f (inV v vs))))
    | _, _ => none
  | _ => none
def gInS (f : Bool → Bool) : List D → Option O
  | [.str i, .str j] => some (.dp (.bl (f (!(Builtin.Str.occurrences j i 0 j.length 1).isEmpty))))
  | _ => none
def D.isNon : D → Bool
  | .non => true
  | _ => false
def gIs (f : Bool → Bool) : List D → Option O
  | [d, .non] => some (.dp (.bl (f d.isNon)))
  | _ => none
section
variable {K : PySem.W.Frag}
theorem opk_S {h : List Nat → List Nat → Bool} : OpK K (r2l fun x y H Q => ∃ i j, x = .str i ∧ y = .str j ∧ Q (.bl (h i.cps.toList j.cps.toList)) H) (gS h) := fun ι A H vs ds o Q al hv e q => by
  unfold gS at e
  split at e
  · rename_i i j
    obtain ⟨x, y, rfl, h1, h2⟩ := hv.two
    cases (show x = _ from h1)
    cases (show y = _ from h2)
    cases e
    exact ⟨i, j, rfl, rfl, q.atom fun _ => rfl⟩
  · cases e
theorem opk_eqD : OpK K (r2l (rEqD K)) (gEqD id) := fun ι A H vs ds o Q al hv e q => by
  unfold gEqD at e
  split at e
  · rename_i d e'
    obtain ⟨x, y, rfl, h1, h2⟩ := hv.two
    cases e1 : d.py with
    | none => rw [e1] at e; cases e
    | some p =>
      cases e2 : e'.py with
      | none => rw [e1, e2] at e; cases e
      | some p' =>
        rw [e1, e2] at e
        simp only at e
        split at e
        · rename_i hs
          cases e
          have hs := Bool.and_eq_true_iff.mp hs
          exact ⟨p, p', R.py d h1 e1, R.py e' h2 e2, hs.1, hs.2, q.atom fun _ => rfl⟩
        · cases e
  · cases e
theorem opk_neD : OpK K (r2l (rNeD K)) (gEqD not) := fun ι A H vs ds o Q al hv e q => by
  unfold gEqD at e
  split at e
  · rename_i d e'
    obtain ⟨x, y, rfl, h1, h2⟩ := hv.two
    cases e1 : d.py with
    | none => rw [e1] at e; cases e
    | some p =>
      cases e2 : e'.py with
      | none => rw [e1, e2] at e; cases e
      | some p' =>
        rw [e1, e2] at e
        simp only at e
        split at e
        · rename_i hs
          cases e
          have hs := Bool.and_eq_true_iff.mp hs
          exact ⟨p, p', R.py d h1 e1, R.py e' h2 e2, hs.1, hs.2, q.atom fun _ => rfl⟩
        · cases e
  · cases e
theorem R.isNon {ι : List Addr} {H : Hp} {d : D} {v : V} (h : R K ι d H v) : decide (v = .non) = d.isNon := by
  cases d with
  | non => rw [show v = _ from h]; rfl
  | bl b => rw [show v = _ from h]; rfl
  | int b => rw [show v = _ from h]; rfl
  | str b => rw [show v = _ from h]; rfl
  | scr ns => obtain ⟨a, rfl, _⟩ := h; rfl
  | lst ds => obtain ⟨a, xs, rfl, _⟩ := h; rfl
  | tup ds => obtain ⟨a, xs, rfl, _⟩ := h; rfl
  | dic ds => obtain ⟨a, xs, rfl, _⟩ := h; rfl
  | dit ds => obtain ⟨a, xs, rfl, _⟩ := h; rfl
  | obj C n ds => obtain ⟨a, dx, xs, rfl, _⟩ := h; rfl
end
/-- a comparison: its operation, its rule -/
structure Cmp (X : Cx) (K : PySem.W.Frag) (op : CmpOp) (g : List D → Option O) : Prop where
  ex : ∃ r, OpR X (compareOp op) r ∧ OpK K (r2l r) g
section
variable {X : Cx} {K : PySem.W.Frag}
theorem cmp_le : Cmp X K .LtE gLe := ⟨_, RkO.op_or op_le op_le_str, (OpK.or opk_B0 opk_S).imp r2l_or⟩
theorem cmp_gt : Cmp X K .Gt gGt := ⟨_, RkO.op_or op_gt op_gt_str, (OpK.or opk_B0 opk_S).imp r2l_or⟩
theorem cmp_ge : Cmp X K .GtE gGe := ⟨_, RkO.op_or op_ge op_ge_str, (OpK.or opk_B0 opk_S).imp r2l_or⟩
theorem cmp_eq (hu : X.A.units + 64 < cLine) (hK : X.K = K) : Cmp X K .Eq (gEqD id) := ⟨_, op_eqD hu, by rw [hK]; exact opk_eqD⟩
theorem cmp_ne (hu : X.A.units + 64 < cLine) (hK : X.K = K) : Cmp X K .NotEq (gEqD not) := ⟨_, op_neD hu, by rw [hK]; exact opk_neD⟩
end
def dCmp (g : List D → Option O) (fa fb : Den) : Den := dOp pk g [fa, fb]
/-- a op b op' c -/
def dChain (g g' : List D → Option O) (fa fb fc : Den) : Den := fun st => (dArgs [fa, fb] st).bind fun rvs st1 => match rvs with
  | [ra, rb] => match pk st1 ra, pk st1 rb with
    | some da, some db => match g [da, db] with
      | some (.dp (.bl true)) => (fc st1).bind fun rc st2 => if keep rb st1 st2 = true then match pk st2 rb, pk st2 rc with
        | some db', some dc => match g' [db', dc] with
          | some o => .ok (.va o) st2
          | none => .no
        | _, _ => .no
        else .no
      | some (.dp (.bl false)) => .ok (.va (.dp (.bl false))) st1
      | _ => .no
    | _, _ => .no
  | _ => .no
section
variable {X : Cx} {c : FC} {W : WX} {a b e : Expr} {fa fb fc f : Den} {pos : Pos} {op op' : CmpOp} {g g' : List D → Option O}
theorem se_cmpU (hc : Cmp X c.K op g) (ha : SE X c W a fa) (hb : SE X c W b fb) (h1 : behindInMarks op b = false) : SE X c W (.Compare a [op] [b] pos) (dCmp g fa fb) := by
  obtain ⟨r, h2, h3⟩ := hc.ex
  exact se_cmp true h2 h3 ha hb h1
theorem RVRs.two {ι : List Addr} {A : Addr → Prop} {st : ES} {σ : L2.St} {r1 r2 : RV} {F : List Addr} {H : Hp} {vs : List V} (h : RVRs c ι A st σ [r1, r2] F H vs) : ∃ F1 F2 x y, F = F1 ++ F2 ∧ vs = [x, y] ∧ RVR c ι A st σ r1 F1 H x ∧ RVR c ι A st σ r2 F2 H y := by
  obtain ⟨F1, F2, v, r, rfl, rfl, h1, F3, F4, v2, r', rfl, rfl, h2, rfl, rfl⟩ := h
  exact ⟨F1, F3, v, v2, by simp, rfl, h1, h2⟩
theorem ref_chain {r r' : R2} (h : OpK c.K (r2l r) g) (h' : OpK c.K (r2l r') g') {ta tb tc : TE} (ha : RefE c W ta fa) (hb : RefE c W tb fb) (hc : RefE c W tc fc) : RefE c W (tChain r r' ta tb tc) (dChain g g' fa fb fc) := fun B ι st σ H fp rs Q gg => by
  have hA : RefA c W (tCons ta (tCons tb tNil)) (dArgs [fa, fb]) := ref_cons ha (ref_cons hb ref_nil)
  show (tCons ta (tCons tb tNil)) σ H (fun vs H2 => match vs with
    | [x, y] => r x y H2 fun z H3 => ∃ k, z = .bl k ∧ (if k = true then tc σ H3 fun w' H4 => r' y w' H4 Q else Q (.bl false) H3)
    | _ => False)
  refine hA B ι st σ H fp rs _ ?_
  unfold dChain at gg
  cases e1 : dArgs [fa, fb] st with
  | no => rw [e1] at gg; exact gg
  | ex C gx d st1 => rw [e1] at gg; exact gg
  | ok rvs st1 =>
    rw [e1] at gg
    simp only [bind_ok] at gg
    intro vs H1 F ι1 fp1 p1 h1
    split at gg
    · rename_i ra rb
      split at gg
      · rename_i da db ea eb
        have p2 := p1.drop rs.lb
        have r2 : RelS c ι1 B st1 σ H1 fp1 := by
          have := p2.rel
          rwa [un2_nil rfl] at this
        have hds : Rs c.K ι1 [da, db] H1 vs := rvs_pk p1.rel p1.fb rs.lb (fun a h => h) h1 (by simp only [vws, ea, eb])
        obtain ⟨F1, F2, x, y, rfl, rfl, hx, hy⟩ := h1.two
        split at gg
        · rename_i eg
          refine h ι1 (All B fp1) H1 [x, y] [da, db] _ _ (fun a z => r2.alive z) hds eg fun v H' F' nd nf sm hr => ?_
          obtain ⟨p3, h3⟩ := Post.made r2 nd nf sm hr
          obtain ⟨rfl, hv⟩ := (show F' = [] ∧ _ from hr)
          cases (show v = V.bl true from hv)
          refine ⟨true, rfl, ?_⟩
          rw [if_pos rfl]
          -- the first pair stays where it is while the third operand comes
          have p1' : Post c B fp H ι st σ st1 (F1 ++ F2) ι1 fp1 H' := by
            have z := p1.rel
            have ff : ∀ a, Un2 B (F1 ++ F2) a → H' a = H1 a := fun a ha => same_eq sm (z.bl a ha)
            have sm2 : Same (hidP (All (Un2 B (F1 ++ F2)) fp1) H1) (hidP (All (Un2 B (F1 ++ F2)) fp1) H') := hidP_same (fun a z => .inl z) sm
            refine ⟨p1.fn, p1.fb, z.stay z.lb z.db (fun a ha => ?_) (Goes.refl _) z.cnt (fun i a ha => same_eq sm (z.fpl ha)) (fun a ha => ff a (z.lb a ha)) sm2, p1.go, fun a ha => (ff a (.inl ha)).trans (p1.kb a ha), p1.sm.trans sm2, fun e => ?_, p1.up⟩
            · obtain ⟨u, q⟩ := z.bl a ha
              exact ⟨u, sm _ _ q⟩
            · obtain ⟨q1, q2, q3⟩ := p1.still e
              exact ⟨q1, q2, fun i a ha => (same_eq sm (z.fpl (by rw [q2]; exact ha))).trans (q3 i a ha)⟩
          have hy' : RVR c ι1 (All (Un2 B (F1 ++ F2)) fp1) st1 σ rb F2 H' y := by
            cases rb with
            | va o =>
              refine RO.stay o hy (Goes.refl _) (fun a ha => same_eq sm (p1.rel.bl a (.inr (List.mem_append_right _ ha)))) (hidP_same (fun a z => .inl z) sm)
            | pl i p =>
              obtain ⟨q1, u, q2, q3, q4⟩ := hy
              refine ⟨q1, u, q2, ?_, q4⟩
              cases p with
              | nil => exact q3
              | cons s0 p =>
                obtain ⟨s, o, o1, w1, w2, w3⟩ := q4 (by simp)
                have sl := p1.rel.sl i s w1
                cases s with
                | un => cases w2
                | ow o' =>
                  cases w2
                  obtain ⟨v', z1, z2⟩ := sl
                  rw [q2] at z1
                  cases z1
                  exact q3.stay z2 w3 fun a ha => same_eq sm (p1.rel.fpl ha)
                | bo o' =>
                  cases w2
                  obtain ⟨_, v', fb, z1, z2, _, z3⟩ := sl
                  rw [q2] at z1
                  cases z1
                  exact q3.stay z3 w3 fun a ha => same_eq sm (p1.rel.bl a (p1.rel.lb a (z2 a ha)))
                | mu o' =>
                  cases w2
                  obtain ⟨z1, z2⟩ := sl
                  rw [q2] at z1
                  cases z1
                  exact q3.stay z2 w3 fun a ha => same_eq sm (p1.rel.fpl ha)
          refine hc _ ι1 st1 σ H' fp1 p1'.rel _ ?_
          cases e2 : fc st1 with
          | no => rw [e2] at gg; exact gg
          | ex C gx d st2 =>
            rw [e2] at gg
            exact fun dx H' ι' fp' q => gg dx H' ι' fp' (p1'.thenX rs.lb q)
          | ok rc st2 =>
            rw [e2] at gg
            simp only [bind_ok] at gg
            intro w H2 F3 ι2 fp2 p4 h4
            by_cases k : keep rb st1 st2 = true
            · rw [if_pos k] at gg
              split at gg
              · rename_i db' dc eb' ec
                have p5 := p1'.trans p4
                have p6 := p5.drop rs.lb
                have r6 : RelS c ι2 B st2 σ H2 fp2 := by
                  have := p6.rel
                  rwa [un2_nil rfl] at this
                have hy2 := RVR.stay hy' (fun a ha => List.mem_append_right _ ha) p1'.rel p4 k
                have d1 := rv_pk p5.rel p5.fb rs.lb (fun a ha => by simp [ha]) hy2 eb'
                have h4' : RVR c ι2 (All (Un2 B (F1 ++ F2 ++ F3)) fp2) st2 σ rc F3 H2 w := by
                  rw [← un2_app]
                  exact h4
                have d2 := rv_pk p5.rel p5.fb rs.lb (fun a ha => by simp [ha]) h4' ec
                split at gg
                · rename_i o eo
                  refine h' ι2 (All B fp2) H2 [y, w] [db', dc] o Q (fun a z => r6.alive z) ⟨y, [w], rfl, d1, w, [], rfl, d2, rfl⟩ eo fun v H7 F7 nd7 nf7 sm7 hr7 => ?_
                  obtain ⟨p7, h7⟩ := Post.made r6 nd7 nf7 sm7 hr7
                  have p8 := p6.trans (F := []) (by rw [un2_nil rfl]; exact p7)
                  exact gg v H7 F7 ι2 fp2 (by simpa using p8) h7
                · exact gg.elim
              · exact gg.elim
            · rw [if_neg k] at gg
              exact gg.elim
        · rename_i eg
          refine h ι1 (All B fp1) H1 [x, y] [da, db] _ _ (fun a z => r2.alive z) hds eg fun v H' F' nd nf sm hr => ?_
          obtain ⟨p3, h3⟩ := Post.made r2 nd nf sm hr
          have hr' : F' = [] ∧ _ := hr
          obtain ⟨rfl, hv⟩ := hr'
          cases (show v = V.bl false from hv)
          refine ⟨false, rfl, ?_⟩
          rw [if_neg (by decide)]
          have p4 := p2.trans (F := []) (by rw [un2_nil rfl]; exact p3)
          exact gg _ H' [] ι1 fp1 (by simpa using p4) h3
        · exact gg.elim
      · exact gg.elim
    · exact gg.elim
theorem se_chain {ec : Expr} (h : Cmp X c.K op g) (h' : Cmp X c.K op' g') (ha : SE X c W a fa) (hb : SE X c W b fb) (hc : SE X c W ec fc) (hm : lastMarks [op, op'] [b, ec] = false := by rfl) : SE X c W (.Compare a [op, op'] [b, ec] pos) (dChain g g' fa fb fc) := by
  obtain ⟨r, h2, h3⟩ := h.ex
  obtain ⟨r', h4, h5⟩ := h'.ex
  exact se_of (pe_chain h2 h4 ha hb hc (hm := hm)) (ref_chain h3 h5 ref_tD ref_tD ref_tD)
/-- the Boolean that an expression gives -/
def tst (f : Den) : ES → Out Bool := fun st => (f st).bind fun rv st' => match rv with
  | .va (.dp (.bl k)) => .ok k st'
  | _ => .no
theorem ref_tst {t : TE} (h : RefE c W t f) : RefT c W (tTest t) (tst f) := fun B ι st σ H fp rs Q gg => by
  refine h B ι st σ H fp rs _ ?_
  unfold tst at gg
  cases e : f st with
  | no => rw [e] at gg; exact gg
  | ex C gx d st1 => rw [e] at gg; exact gg
  | ok rv st1 =>
    rw [e] at gg
    simp only [bind_ok] at gg
    intro v H' F ι' fp' p hv
    split at gg
    · rename_i k
      obtain ⟨rfl, hv⟩ := (show F = [] ∧ _ from hv)
      cases (show v = V.bl k from hv)
      exact ⟨k, rfl, gg H' ι' fp' p⟩
    · exact gg.elim
theorem st_val (h : SE X c W e f) (he : ∀ whole, isTrue e X.env whole = (do let v ← whole; standAt e.pos; holding [v] (truthy v)) := by intro _; rfl) : ST X c W e (tst f) := st_of (pt_val h he) (ref_tst ref_tD)
theorem st_cmp (hc : Cmp X c.K op g) (ha : SE X c W a fa) (hb : SE X c W b fb) (h1 : behindInMarks op b = false) : ST X c W (.Compare a [op] [b] pos) (tst (dCmp g fa fb)) := by
  obtain ⟨r, h2, h3⟩ := hc.ex
  exact st_of (pt_cmpR h2 ha hb h1) (ref_tst (ref_opK (r := r2l r) (t := tCons (tD c W fa) (tCons (tD c W fb) tNil)) (ref_cons ref_tD (ref_cons ref_tD ref_nil)) h3 fun _ _ _ h => h))
theorem st_chain {ec : Expr} (h : Cmp X c.K op g) (h' : Cmp X c.K op' g') (ha : SE X c W a fa) (hb : SE X c W b fb) (hc : SE X c W ec fc) (hm : lastMarks [op, op'] [b, ec] = false := by rfl) : ST X c W (.Compare a [op, op'] [b, ec] pos) (tst (dChain g g' fa fb fc)) := by
  obtain ⟨r, h2, h3⟩ := h.ex
  obtain ⟨r', h4, h5⟩ := h'.ex
  exact st_of (pt_chain h2 h4 ha hb hc (hm := hm)) (ref_tst (ref_chain h3 h5 ref_tD ref_tD ref_tD))
end
end Fv
set_option Elab.async false
set_option linter.all false
set_option maxRecDepth 100000
set_option maxHeartbeats 4000000
namespace Fv
open PySem PySem.Spec PyProof.Rows L2 RkO
open Classical
def SW (X : Cx) (c : FC) (W : WX) (e : Expr) (f : ES → Out Bool) : Prop := PW X e (tDT c W f)
def tNo (f : ES → Out Bool) : ES → Out Bool := fun st => (f st).bind fun b st' => .ok (!b) st'
def tAn (f g : ES → Out Bool) : ES → Out Bool := fun st => (f st).bind fun b st' => if b = true then g st' else .ok false st'
def tOrr (f g : ES → Out Bool) : ES → Out Bool := fun st => (f st).bind fun b st' => if b = true then .ok true st' else g st'
def dIf (t : ES → Out Bool) (f g : Den) : Den := fun st => (t st).bind fun b st' => if b = true then f st' else g st'
def dAn (f g : Den) : Den := fun st => (tst f st).bind fun b st' => if b = true then g st' else .ok (.va (.dp (.bl false))) st'
def dOrr (f g : Den) : Den := fun st => (tst f st).bind fun b st' => if b = true then .ok (.va (.dp (.bl true))) st' else g st'
def dNo (f : Den) : Den := fun st => (tst f st).bind fun b st' => .ok (.va (.dp (.bl (!b)))) st'
section
variable {X : Cx} {c : FC} {W : WX} {a b e : Expr} {es : List Expr} {f g : ES → Out Bool} {fa fb : Den} {pos : Pos}
theorem ref_no {t : TT} (h : RefT c W t f) : RefT c W (tNot t) (tNo f) := fun B ι st σ H fp rs Q gg => by
  refine h B ι st σ H fp rs _ ?_
  unfold tNo at gg
  cases e : f st with
  | no => rw [e] at gg; exact gg
  | ex C gx d st1 => rw [e] at gg; exact gg
  | ok k st1 => rw [e] at gg; exact gg
/-- then: another state -/
theorem GoT.then_ {st st1 : ES} {B : Addr → Prop} {fp fp1 : Nat → List Addr} {H H1 : Hp} {ι ι1 : List Addr} {σ : L2.St} {out : Out Bool} {Q : Bool → Hp → Prop} (p : Post c B fp H ι st σ st1 [] ι1 fp1 H1) (hl : ∀ a, c.L a → B a) (g : GoT c W B fp H ι st σ out Q) : GoT c W B fp1 H1 ι1 st1 σ out Q := by
  cases out with
  | no => exact g
  | ex C gx d st2 =>
    intro dx H' ι' fp' q
    exact g dx H' ι' fp' (p.thenX hl (by rw [un2_nil rfl]; exact q))
  | ok k st2 =>
    intro H' ι' fp' q
    have := p.trans (F1 := []) (by rw [un2_nil rfl]; exact q)
    exact g H' ι' fp' (by simpa using this)
theorem GoE.then_ {st st1 : ES} {B : Addr → Prop} {fp fp1 : Nat → List Addr} {H H1 : Hp} {ι ι1 : List Addr} {σ : L2.St} {out : Out RV} {Q : VK} (p : Post c B fp H ι st σ st1 [] ι1 fp1 H1) (hl : ∀ a, c.L a → B a) (g : GoE c W B fp H ι st σ out Q) : GoE c W B fp1 H1 ι1 st1 σ out Q := by
  cases out with
  | no => exact g
  | ex C gx d st2 =>
    intro dx H' ι' fp' q
    exact g dx H' ι' fp' (p.thenX hl (by rw [un2_nil rfl]; exact q))
  | ok k st2 =>
    intro v H' F ι' fp' q hv
    have := p.trans (F1 := F) (by rw [un2_nil rfl]; exact q)
    exact g v H' F ι' fp' (by simpa using this) hv
theorem Post.rel0 {st st1 : ES} {B : Addr → Prop} {fp fp1 : Nat → List Addr} {H H1 : Hp} {ι ι1 : List Addr} {σ : L2.St} (p : Post c B fp H ι st σ st1 [] ι1 fp1 H1) : RelS c ι1 B st1 σ H1 fp1 := by
  have := p.rel
  rwa [un2_nil rfl] at this
theorem ref_orr {t u : TT} (h : RefT c W t f) (h' : RefT c W u g) : RefT c W (tOr t u) (tOrr f g) := fun B ι st σ H fp rs Q gg => by
  refine h B ι st σ H fp rs _ ?_
  unfold tOrr at gg
  cases e : f st with
  | no => rw [e] at gg; exact gg
  | ex C gx d st1 => rw [e] at gg; exact gg
  | ok k st1 =>
    rw [e] at gg
    simp only [bind_ok] at gg
    intro H1 ι1 fp1 p1
    cases k with
    | true =>
      rw [if_pos rfl] at gg
      rw [if_pos rfl]
      exact gg H1 ι1 fp1 p1
    | false =>
      rw [if_neg (by decide)] at gg
      rw [if_neg (by decide)]
      exact h' B ι1 st1 σ H1 fp1 p1.rel0 Q (gg.then_ p1 rs.lb)
theorem ref_anV {ta tb : TE} (ha : RefE c W ta fa) (hb : RefE c W tb fb) : RefE c W (tAndV ta tb) (dAn fa fb) := fun B ι st σ H fp rs Q gg => by
  refine ref_tst ha B ι st σ H fp rs (fun k H1 => if k = true then tb σ H1 Q else Q (.bl false) H1) ?_
  unfold dAn at gg
  cases e : tst fa st with
  | no => rw [e] at gg; exact gg
  | ex C gx d st1 => rw [e] at gg; exact gg
  | ok k st1 =>
    rw [e] at gg
    simp only [bind_ok] at gg
    intro H1 ι1 fp1 p1
    cases k with
    | true =>
      rw [if_pos rfl] at gg
      rw [if_pos rfl]
      exact hb B ι1 st1 σ H1 fp1 p1.rel0 Q (gg.then_ p1 rs.lb)
    | false =>
      rw [if_neg (by decide)] at gg
      rw [if_neg (by decide)]
      exact gg _ H1 [] ι1 fp1 p1 ⟨rfl, rfl⟩
theorem ref_noV {ta : TE} (ha : RefE c W ta fa) : RefE c W (tNotV ta) (dNo fa) := fun B ι st σ H fp rs Q gg => by
  refine ref_tst ha B ι st σ H fp rs (fun k H1 => Q (.bl (!k)) H1) ?_
  unfold dNo at gg
  cases e : tst fa st with
  | no => rw [e] at gg; exact gg
  | ex C gx d st1 => rw [e] at gg; exact gg
  | ok k st1 =>
    rw [e] at gg
    simp only [bind_ok] at gg
    intro H1 ι1 fp1 p1
    exact gg _ H1 [] ι1 fp1 p1 ⟨rfl, rfl⟩
theorem st_not (h : ST X c W a f) : ST X c W (.UnaryOp .Not a pos) (tNo f) := st_of (pt_not h) (ref_no ref_tDT)
theorem sw_of {t : TT} (h : PW X e t) (r : RefT c W t f) : SW X c W e f := ⟨fun wh pins s σ H Q I ⟨B, ι, st, fp, rs, g⟩ => h.run wh pins s σ H Q I (r B ι st σ H fp rs Q g)⟩
theorem sw_or1 (h : ST X c W a f) : SW X c W (.BoolOp .Or [a] pos) f := sw_of (pw_or1 h) ref_tDT
theorem sw_or (h : ST X c W a f) (h' : SW X c W (.BoolOp .Or (b :: es) pos) g) : SW X c W (.BoolOp .Or (a :: b :: es) pos) (tOrr f g) := sw_of (pw_or h h') (ref_orr ref_tDT ref_tDT)
theorem SW.st (h : SW X c W e f) : ST X c W e f := PW.pt h
theorem se_one {op} (h : SE X c W a fa) : SE X c W (.BoolOp op [a] pos) fa := se_of (pe_one h) ref_tD
theorem se_and (ha : SE X c W a fa) (hb : SE X c W (.BoolOp .And (b :: es) pos) fb) : SE X c W (.BoolOp .And (a :: b :: es) pos) (dAn fa fb) := se_of (pe_and ha hb) (ref_anV ref_tD ref_tD)
theorem se_not (ha : SE X c W a fa) : SE X c W (.UnaryOp .Not a pos) (dNo fa) := se_of (pe_not ha) (ref_noV ref_tD)
/-- one of two rules -/
theorem se_two {f1 f2 f : Den} (h1 : SE X c W e f1) (h2 : SE X c W e f2) (h : ∀ st, f st = f1 st ∨ f st = f2 st) : SE X c W e f := ⟨fun pins s σ H Q I ⟨B, ι, st, fp, rs, g⟩ => by
  rcases h st with z | z
  · rw [z] at g
    exact h1.run pins s σ H Q I ⟨B, ι, st, fp, rs, g⟩
  · rw [z] at g
    exact h2.run pins s σ H Q I ⟨B, ι, st, fp, rs, g⟩⟩
theorem dop_gor {w : ES → RV → Option D} {g g' : List D → Option O} {fs : List Den} (st : ES) : dOp w (gor g g') fs st = dOp w g fs st ∨ dOp w (gor g g') fs st = dOp w g' fs st := by
  unfold dOp
  cases e : dArgs fs st with
  | no => exact .inl rfl
  | ex C gx d st1 => exact .inl rfl
  | ok rvs st1 =>
    simp only [bind_ok]
    cases e2 : vws w st1 rvs with
    | none => exact .inl rfl
    | some ds =>
      simp only [gor]
      cases g ds with
      | some o => exact .inl rfl
      | none => exact .inr rfl
end
def gIx : List D → Option O
  | [.lst ds, .int i] => (atI ds i).map .dp
  | [.tup ds, .int i] => (atI ds i).map .dp
  | [.scr ns, .int i] => (atI ns i).map fun n => .dp (.int n)
  | [.str z, .int i] => if z.length ≤ 100000 then (atI z.cps.toList i).map fun c => .dp (.str ⟨#[c]⟩) else none
  | _ => none
def D.key : D → Option Key
  | .int i => some (.inl i)
  | .str s => some (.inr s)
  | _ => none
def D.keys : D → Option (List Key)
  | .tup ds => ds.mapM D.key
  | _ => none
/-- the value under a key -/
def getD_ {κ : Type} [DecidableEq κ] (kvs : List (κ × D)) (k : κ) : Option D := (kvs.find? fun kv => decide (kv.1 = k)).map (·.2)
def gDget : List D → Option O
  | [.dic kvs, d] => match d.key with
    | some k => (getD_ kvs k).map .dp
    | none => none
  | _ => none
section
variable {K : PySem.W.Frag} {ι : List Addr} {H : Hp}
theorem Rs.atI {ds : List D} {xs : List V} {i : Int} {d : D} (h : Rs K ι ds H xs) (e : atI ds i = some d) : ∃ x, L2.atI xs i = some x ∧ R K ι d H x := by
  unfold L2.atI at e ⊢
  rw [h.len]
  cases e1 : ixN ds.length i with
  | none => rw [e1] at e; cases e
  | some j =>
    rw [e1] at e
    exact h.get e
theorem R.key {d : D} {v : V} {k : Key} (h : R K ι d H v) (e : d.key = some k) : v = kV k := by
  cases d with
  | int i => cases e; exact h
  | str i => cases e; exact h
  | _ => cases e
theorem Rk.find {k : Key} : ∀ {kvs : List (Key × D)} {xs : List (Key × V)}, Rk K ι kvs H xs → (∀ d, getD_ kvs k = some d → ∃ v, valV xs k = some v ∧ R K ι d H v) ∧ (getD_ kvs k = none → valV xs k = none)
  | [], _, h => by
    rw [show _ = [] from h]
    exact ⟨fun d z => (by simp [getD_] at z), fun _ => rfl⟩
  | (m, d0) :: kvs, _, ⟨x, r, e, h1, h2⟩ => by
    subst e
    obtain ⟨i1, i2⟩ := Rk.find (k := k) h2
    by_cases hm : m = k
    · subst hm
      refine ⟨fun d z => ?_, fun z => ?_⟩
      · simp [getD_, List.find?_cons] at z
        subst z
        exact ⟨x, valV_pos rfl, h1⟩
      · simp [getD_, List.find?_cons] at z
    · have e : getD_ ((m, d0) :: kvs) k = getD_ kvs k := by simp [getD_, List.find?_cons, hm]
      rw [e, valV_neg (p := (m, x)) hm]
      exact ⟨i1, i2⟩
end
section
variable {X : Cx} {c : FC} {W : WX} {a b e : Expr} {fa fb : Den} {pos : Pos}
theorem ops_ix {K : PySem.W.Frag} : OpS K (r2l (rIx K)) gIx := fun ι A H vs ds o Q al hv e q => by
  unfold gIx at e
  split at e
  · rename_i ds i
    obtain ⟨x, y, rfl, ⟨p, us, rfl, h1, h2⟩, h3⟩ := hv.two
    cases (show y = _ from h3)
    obtain ⟨d, hd, rfl⟩ := Option.map_eq_some_iff.mp e
    obtain ⟨w, hw, rw'⟩ := h2.atI hd
    exact .inl ⟨p, us, i, w, rfl, rfl, SqL.of h1, hw, q.sub rw'⟩
  · rename_i ds i
    obtain ⟨x, y, rfl, ⟨p, us, rfl, h1, h2⟩, h3⟩ := hv.two
    cases (show y = _ from h3)
    obtain ⟨d, hd, rfl⟩ := Option.map_eq_some_iff.mp e
    obtain ⟨w, hw, rw'⟩ := h2.atI hd
    exact .inr (.inl ⟨p, us, i, w, rfl, rfl, tupS h1, hw, q.sub rw'⟩)
  · rename_i ns i
    obtain ⟨x, y, rfl, ⟨p, rfl, h1⟩, h3⟩ := hv.two
    cases (show y = _ from h3)
    obtain ⟨n, hd, rfl⟩ := Option.map_eq_some_iff.mp e
    refine .inl ⟨p, _, i, .int n, rfl, rfl, h1, ?_, q.atom fun _ => rfl⟩
    unfold atI at hd ⊢
    rw [List.length_map]
    cases e1 : ixN ns.length i with
    | none => rw [e1] at hd; cases hd
    | some j =>
      rw [e1] at hd
      show (ns.map V.int)[j]? = _
      rw [List.getElem?_map, show ns[j]? = some n from hd]
      rfl
  · rename_i z i
    obtain ⟨x, y, rfl, h1, h3⟩ := hv.two
    cases (show x = _ from h1)
    cases (show y = _ from h3)
    split at e
    · rename_i hz
      obtain ⟨n, hd, rfl⟩ := Option.map_eq_some_iff.mp e
      exact .inr (.inr ⟨z, i, n, rfl, rfl, Evl.sz_of hz, hd, q.atom fun _ => rfl⟩)
    · cases e
  · cases e
def dIx (fa fb : Den) : Den := dOp vw (gor gIx gDget) [fa, fb]
theorem ref_dget : RefE c W (tDGet (tD c W fa) (tD c W fb)) (dOp vw gDget [fa, fb]) := by
  refine ref_op (r := r2l fun x y H Q => ∃ a v, x = .ref a ∧ DGet H a y (some v) ∧ Q v H) (t := tCons (tD c W fa) (tCons (tD c W fb) tNil)) (ref_cons ref_tD (ref_cons ref_tD ref_nil)) (fun ι A H vs ds o Q al hv e q => ?_) fun _ _ _ h => h
  unfold gDget at e
  split at e
  · rename_i kvs d
    obtain ⟨x, y, rfl, ⟨p, us, rfl, h1, h2⟩, h3⟩ := hv.two
    cases ek : d.key with
    | none => rw [ek] at e; cases e
    | some k =>
      rw [ek] at e
      obtain ⟨d', hd, rfl⟩ := Option.map_eq_some_iff.mp e
      obtain ⟨v, e1, e2⟩ := (Rk.find h2).1 d' hd
      refine ⟨p, v, rfl, .inl ⟨us, k, .inl h1, h3.r.key ek, e1.symm⟩, q.sub e2⟩
  · cases e
theorem se_ix (hK : X.K = c.K) (hu : X.A.units + 1 < cLine) (ha : SE X c W a fa) (hb : SE X c W b fb) (hs : NoSl b) : SE X c W (.Subscript a b pos) (dIx fa fb) :=
  se_two (se_of (pe_ix ix_seq ha hb (fun o i => hs o i)) (ref_op (r := r2l (rIx X.K)) (t := tCons (tD c W fa) (tCons (tD c W fb) tNil)) (ref_cons ref_tD (ref_cons ref_tD ref_nil)) (by rw [hK]; exact ops_ix) fun _ _ _ h => h)) (se_of (pe_dget hu ha hb hs) ref_dget) fun st => dop_gor st
def cutD (ds : List D) (lo hi : Option Int) : List D := (ds.drop (HT.sIx ds.length 0 lo)).take (HT.sIx ds.length ds.length hi - HT.sIx ds.length 0 lo)
def gSl (lo hi : Option Int) : List D → Option O
  | [.lst ds] => some (.lst (dps (cutD ds lo hi)))
  | [.str z] => if z.length ≤ 100000 then some (.dp (.str (cutS z lo hi))) else none
  | [.scr ns] => some (.lst (dps (cutD (ns.map .int) lo hi)))
  | [.tup ds] => if HT.sIx ds.length 0 lo = 0 ∧ HT.sIx ds.length ds.length hi = ds.length then none else some (.dp (.tup (cutD ds lo hi)))
  | _ => none
/-- the bound of a slice -/
def bnd (f : Option Den) (st : ES) : Out (Option Int) := match f with
  | none => .ok none st
  | some f => (f st).bind fun rv st' => match rv with
    | .va (.dp (.int i)) => .ok (some i) st'
    | _ => .no
def dSl (fa : Den) (fl fh : Option Den) : Den := fun st => (fa st).bind fun ra st1 => (bnd fl st1).bind fun lo st2 => (bnd fh st2).bind fun hi st3 => if keep ra st1 st3 = true then match vw st3 ra with
  | some d => match gSl lo hi [d] with
    | some o => .ok (.va o) st3
    | none => .no
  | none => .no
  else .no
end
end Fv
set_option Elab.async false
set_option linter.all false
set_option maxRecDepth 100000
set_option maxHeartbeats 4000000
namespace Fv
open PySem PySem.Spec PyProof.Rows L2 RkO
open Classical
section
variable {c : FC} {W : WX} {ι ι' : List Addr} {B : Addr → Prop} {st st' st1 : ES} {σ : L2.St} {H H' : Hp} {fp fp' : Nat → List Addr} {F F' : List Addr}
theorem un2_eq {F F' : List Addr} (h : ∀ a, a ∈ F ↔ a ∈ F') : Un2 B F = Un2 B F' := by
  funext a
  exact propext ⟨fun z => z.elim .inl fun z => .inr ((h a).mp z), fun z => z.elim .inl fun z => .inr ((h a).mpr z)⟩
theorem Post.perm (p : Post c B fp H ι st σ st' F ι' fp' H') (nd : F'.Nodup) (h : ∀ a, a ∈ F ↔ a ∈ F') : Post c B fp H ι st σ st' F' ι' fp' H' := by
  have e : Un2 B F = Un2 B F' := un2_eq h
  exact ⟨nd, fun a ha => p.fb a ((h a).mpr ha), e ▸ p.rel, p.go, p.kb, e ▸ p.sm, p.still, p.up⟩
/-- new things that are held -/
theorem Post.fresh (r : RelS c ι B st σ H fp) (nd : F.Nodup) (nf : ∀ a ∈ F, H a = none) (e : Same H H') (lv : ∀ a ∈ F, ∃ u, H' a = some u) : Post c B fp H ι st σ st F ι fp H' := by
  have ff : ∀ a ∈ F, ¬ All B fp a := fun a ha z => by
    obtain ⟨u, z⟩ := r.alive z
    rw [nf a ha] at z
    cases z
  have sm : Same (hidP (All B fp) H) (hidP (All (Un2 B F) fp) H') := by
    refine hidP_same (fun a z => ?_) e
    rcases z with (z | z) | z
    · exact .inl (.inl z)
    · exact .inr (nf a z)
    · exact .inl (.inr z)
  refine ⟨nd, fun a ha z => ff a ha (.inl z), ?_, Goes.refl _, fun a ha => same_eq e (r.bl a ha), sm, fun _ => ⟨rfl, rfl, fun i a ha => same_eq e (r.fpl ha)⟩, Nat.le_refl _⟩
  refine r.stay (fun a ha => .inl (r.lb a ha)) (fun i a ha z => ?_) (fun a z => ?_) (Goes.refl _) r.cnt (fun i a ha => same_eq e (r.fpl ha)) (fun a ha => same_eq e (r.bl a (r.lb a ha))) sm
  · rcases z with z | z
    · exact r.db i a ha z
    · exact ff a z (.inr ⟨i, ha⟩)
  · rcases z with z | z
    · obtain ⟨u, z⟩ := r.bl a z
      exact ⟨u, e _ _ z⟩
    · exact lv a z
def fset (fp : Nat → List Addr) (i : Nat) (f : List Addr) : Nat → List Addr := fun j => if j = i then f else fp j
theorem fset_same {i : Nat} {f : List Addr} : fset fp i f i = f := if_pos rfl
theorem fset_ne {i j : Nat} {f : List Addr} (h : j ≠ i) : fset fp i f j = fp j := if_neg h
/-- what slot i holds is shared from now on -/
theorem RelS.freeze (r : RelS c ι B st σ H fp) {i : Nat} {o : O} {v : V} (hs : st.ss[i]? = some (.ow o)) (hv : σ[i]? = some (some v)) :
    Post c B fp H ι st σ { st with ss := st.ss.set i (.ow (.dp o.toD)), t := st.t + 1 } [] ι (fset fp i []) H ∧ R c.K ι o.toD (hidP (All B (fset fp i [])) H) v := by
  have hi : i < st.ss.length := (List.getElem?_eq_some_iff.mp hs).1
  have sub : ∀ a, All B (fset fp i []) a → All B fp a := fun a z => by
    rcases z with z | ⟨j, z⟩
    · exact .inl z
    · by_cases hj : j = i
      · rw [hj, fset_same] at z; cases z
      · rw [fset_ne hj] at z; exact .inr ⟨j, z⟩
  have sm : Same (hidP (All B fp) H) (hidP (All B (fset fp i [])) H) := hidP_sub sub
  have hR : R c.K ι o.toD (hidP (All B (fset fp i [])) H) v := by
    obtain ⟨v', h1, h2⟩ := r.sl i _ hs
    rw [hv] at h1
    cases h1
    refine RO.give o h2 (fun a ha => hidP_f fun z => ?_) sm
    rcases z with z | ⟨j, z⟩
    · exact r.db i a ha z
    · by_cases hj : j = i
      · rw [hj, fset_same] at z; cases z
      · rw [fset_ne hj] at z; exact hj (r.dj j i a z ha)
  refine ⟨⟨List.nodup_nil, fun _ h => (nomatch h), ?_, Goes.refl _, fun _ _ => rfl, by rw [un2_nil rfl]; exact sm, fun e => absurd e (Nat.ne_of_gt (Nat.lt_succ_self _)), Nat.le_succ _⟩, hR⟩
  rw [un2_nil rfl]
  have fsub : ∀ j a, a ∈ fset fp i [] j → a ∈ fp j := fun j a h => by
    by_cases hj : j = i
    · rw [hj, fset_same] at h; cases h
    · rwa [fset_ne hj] at h
  refine ⟨by rw [List.length_set]; exact r.len, r.cnt, fun j => ?_, fun j k a h1 h2 => r.dj j k a (fsub j a h1) (fsub k a h2), fun j a h => r.db j a (fsub j a h), r.lb, r.bl, fun j s h => ?_, fun j h => ?_⟩
  · by_cases hj : j = i
    · rw [hj, fset_same]; exact List.nodup_nil
    · rw [fset_ne hj]; exact r.nd j
  · by_cases hj : j = i
    · subst hj
      rw [List.getElem?_set_self hi] at h
      cases h
      rw [fset_same]
      exact ⟨v, hv, rfl, hR⟩
    · rw [List.getElem?_set_ne (Ne.symm hj)] at h
      rw [fset_ne hj]
      exact (r.sl j s h).stay (Goes.refl _) (fun _ _ => rfl) (fun _ _ => rfl) sm
  · by_cases hj : j = i
    · rw [hj, fset_same]
    · rw [List.getElem?_set_ne (Ne.symm hj)] at h
      rw [fset_ne hj]
      exact r.out j h
@[simp] def settles : List RV → ES → Out (List O)
  | [], st => .ok [] st
  | rv :: rvs, st => (settle rv st).bind fun o st1 => (settles rvs st1).bind fun os st2 => .ok (o :: os) st2
theorem settle_ok {rv : RV} {v : V} {o : O} {F1 : List Addr} (p : Post c B fp H ι st σ st1 F ι' fp' H') (sub : ∀ a ∈ F1, a ∈ F) (h : RVR c ι' (All (Un2 B F) fp') st1 σ rv F1 H' v) (e : settle rv st1 = .ok o st') :
    ∃ fp2, Post c B fp H ι st σ st' F ι' fp2 H' ∧ RO c.K ι' (All (Un2 B F) fp2) o F1 H' v ∧ ∀ a, All (Un2 B F) fp2 a → All (Un2 B F) fp' a := by
  cases rv with
  | va o' => cases e; exact ⟨fp', p, h, fun a z => z⟩
  | pl i q =>
    cases q with
    | cons s q => cases e
    | nil =>
      obtain ⟨rfl, u, hu, rc, _⟩ := h
      cases (show u = v from rc)
      simp only [settle] at e
      split at e
      · rename_i o' hs
        cases e
        obtain ⟨p2, h2⟩ := p.rel.freeze hs hu
        have p3 := p.trans p2
        rw [List.append_nil] at p3
        refine ⟨_, p3, ⟨rfl, h2⟩, fun a z => ?_⟩
        rcases z with z | ⟨j, z⟩
        · exact .inl z
        · by_cases hj : j = i
          · rw [hj, fset_same] at z; cases z
          · rw [fset_ne hj] at z; exact .inr ⟨j, z⟩
      · cases e
/-- a still unread operand, when others were settled -/
theorem RVRs.less {A A' : Addr → Prop} (hA : ∀ a, A' a → A a) : ∀ {rvs : List RV} {F : List Addr} {vs : List V} {os : List O} {st2 st3 : ES}, RVRs c ι A st σ rvs F H vs → settles rvs st2 = .ok os st3 → RVRs c ι A' st' σ rvs F H vs
  | [], _, _, _, _, _, h, _ => h
  | rv :: rvs, _, _, os, st2, st3, h, e => by
    obtain ⟨F1, F2, v, r, rfl, rfl, h1, h2⟩ := h
    simp only [settles] at e
    cases e1 : settle rv st2 with
    | no => rw [e1] at e; cases e
    | ex C g d s => rw [e1] at e; cases e
    | ok o st4 =>
      rw [e1] at e
      simp only [bind_ok] at e
      cases e2 : settles rvs st4 with
      | no => rw [e2] at e; cases e
      | ex C g d s => rw [e2] at e; cases e
      | ok os' st5 =>
        have ih := RVRs.less hA h2 e2
        refine ⟨F1, F2, v, r, rfl, rfl, ?_, ?_⟩
        · cases rv with
          | va o' => exact RO.stay o' h1 (Goes.refl _) (fun _ _ => rfl) (hidP_sub hA)
          | pl i q =>
            obtain ⟨q1, u, q2, q3, q4⟩ := h1
            cases q with
            | nil => exact ⟨q1, u, q2, q3, fun z => absurd rfl z⟩
            | cons s q => cases e1
        · exact ih
theorem settles_ok : ∀ {rvs : List RV} {vs : List V} {os : List O} {F1 : List Addr} {st1 : ES} {fp' : Nat → List Addr}, Post c B fp H ι st σ st1 F ι' fp' H' → (∀ a ∈ F1, a ∈ F) → RVRs c ι' (All (Un2 B F) fp') st1 σ rvs F1 H' vs → settles rvs st1 = .ok os st' →
    ∃ fp2, Post c B fp H ι st σ st' F ι' fp2 H' ∧ ROs c.K ι' (All (Un2 B F) fp2) os F1 H' vs ∧ ∀ a, All (Un2 B F) fp2 a → All (Un2 B F) fp' a
  | [], _, _, _, _, fp', p, _, h, e => by cases e; exact ⟨fp', p, h, fun _ z => z⟩
  | rv :: rvs, _, os, _, st1, fp', p, sub, h, e => by
    obtain ⟨F1, F2, v, r, rfl, rfl, h1, h2⟩ := h
    simp only [settles] at e
    cases e1 : settle rv st1 with
    | no => rw [e1] at e; cases e
    | ex C g d s => rw [e1] at e; cases e
    | ok o st4 =>
      rw [e1] at e
      simp only [bind_ok] at e
      cases e2 : settles rvs st4 with
      | no => rw [e2] at e; cases e
      | ex C g d s => rw [e2] at e; cases e
      | ok os' st5 =>
        rw [e2] at e
        cases e
        obtain ⟨fp3, p3, h3, s3⟩ := settle_ok p (fun a ha => sub a (List.mem_append_left _ ha)) h1 e1
        obtain ⟨fp4, p4, h4, s4⟩ := settles_ok p3 (fun a ha => sub a (List.mem_append_right _ ha)) (RVRs.less s3 h2 e2) e2
        exact ⟨fp4, p4, ⟨F1, F2, v, r, rfl, rfl, h3.stay _ (Goes.refl _) (fun _ _ => rfl) (hidP_sub s4), h4⟩, fun a z => s3 a (s4 a z)⟩
end
end Fv
set_option Elab.async false
set_option linter.all false
set_option maxRecDepth 100000
set_option maxHeartbeats 4000000
namespace Fv
open PySem PySem.Spec PyProof.Rows L2 RkO
open Classical
def dLst (fs : List Den) : Den := fun st => (dArgs fs st).bind fun rvs st1 => (settles rvs st1).bind fun os st2 => if os.length ≤ 100000 then .ok (.va (.lst os)) st2 else .no
def dTup (fs : List Den) : Den := fun st => (dArgs fs st).bind fun rvs st1 => (settles rvs st1).bind fun os st2 => if os.length ≤ 100000 then .ok (.va (.dp (.tup (toDs os)))) st2 else .no
theorem settles_no {rvs : List RV} : ∀ {st : ES}, (∃ os st', settles rvs st = .ok os st') ∨ settles rvs st = .no := by
  induction rvs with
  | nil => intro st; exact .inl ⟨_, _, rfl⟩
  | cons rv rvs ih =>
    intro st
    simp only [settles]
    cases e : settle rv st with
    | no => exact .inr rfl
    | ex C g d s =>
      exfalso
      cases rv with
      | va o => cases e
      | pl i p =>
        cases p with
        | nil =>
          simp only [settle] at e
          split at e <;> cases e
        | cons s p => cases e
    | ok o st1 =>
      simp only [bind_ok]
      rcases ih (st := st1) with ⟨os, st2, h⟩ | h
      · rw [h]; exact .inl ⟨_, _, rfl⟩
      · rw [h]; exact .inr rfl
section
variable {c : FC} {W : WX} {ι ι' : List Addr} {B : Addr → Prop} {st st' st1 : ES} {σ : L2.St} {H H' : Hp} {fp fp' : Nat → List Addr} {F F' : List Addr} {fs : List Den} {ta : TA}
theorem ROs.len {K : PySem.W.Frag} {M : Addr → Prop} : ∀ {os : List O} {f : List Addr} {xs : List V}, ROs K ι M os f H xs → xs.length = os.length
  | [], _, _, h => by rw [h.2]; rfl
  | o :: os, _, _, h => by
    obtain ⟨f1, f2, x, r, rfl, rfl, h1, h2⟩ := h
    rw [List.length_cons, List.length_cons, ROs.len h2]
/-- the arguments, all kept: what follows is run on them -/
theorem args_kept (ht : RefA c W ta (dArgs fs)) {k : List O → ES → Out RV} {Q : VK} (rs : RelS c ι B st σ H fp) (gg : GoE c W B fp H ι st σ ((dArgs fs st).bind fun rvs st1 => (settles rvs st1).bind k) Q) {Q' : List V → Hp → Prop}
    (h : ∀ vs H' F ι' fp' os st', Post c B fp H ι st σ st' F ι' fp' H' → ROs c.K ι' (All (Un2 B F) fp') os F H' vs → GoE c W B fp H ι st σ (k os st') Q → Q' vs H') : ta σ H Q' := by
  refine ht B ι st σ H fp rs _ ?_
  cases e1 : dArgs fs st with
  | no => rw [e1] at gg; exact gg
  | ex C gx d st1 => rw [e1] at gg; exact gg
  | ok rvs st1 =>
    rw [e1] at gg
    simp only [bind_ok] at gg
    intro vs H1 F ι1 fp1 p1 h1
    rcases settles_no (rvs := rvs) (st := st1) with ⟨os, st2, e2⟩ | e2
    · rw [e2] at gg
      simp only [bind_ok] at gg
      obtain ⟨fp2, p2, h2, _⟩ := settles_ok p1 (fun a h => h) h1 e2
      exact h vs H1 F ι1 fp2 os st2 p2 h2 gg
    · rw [e2] at gg; exact gg.elim
theorem ref_lst (ht : RefA c W ta (dArgs fs)) : RefE c W (tLst ta) (dLst fs) := fun B ι st σ H fp rs Q gg => by
  refine args_kept (k := fun os st2 => if os.length ≤ 100000 then .ok (.va (.lst os)) st2 else .no) ht rs gg fun vs H1 F ι1 fp1 os st1 p1 h1 gg => ?_
  by_cases hz : os.length ≤ 100000
  · rw [if_pos hz] at gg
    refine ⟨Evl.sz_of (by rw [h1.len]; exact hz), fun p np => ?_⟩
    have nF : p ∉ F := fun z => by obtain ⟨u, z⟩ := ROs.live os h1 p z; rw [np] at z; cases z
    have p2 := p1.trans (Post.fresh (F := [p]) p1.rel (List.nodup_cons.mpr ⟨List.not_mem_nil, List.nodup_nil⟩) (fun a ha => by rw [List.mem_singleton.mp ha]; exact np) (same_upd (o := .lst vs) np) (fun a ha => by rw [List.mem_singleton.mp ha]; exact ⟨_, upd_same⟩))
    have p3 := p2.perm (F' := p :: F) (List.nodup_cons.mpr ⟨nF, p1.fn⟩) (fun a => by simp [or_comm])
    refine gg (.ref p) _ (p :: F) ι1 fp1 p3 ⟨p, F, vs, rfl, rfl, upd_same, ?_⟩
    refine ROs.stay os h1 (Goes.refl _) (fun a ha => upd_ne fun z => nF (z ▸ ha)) (hidP_same (fun a z => ?_) (same_upd np))
    rcases z with (z | z) | z
    · exact .inl (.inl (.inl z))
    · rcases List.mem_cons.mp z with rfl | z
      · exact .inr np
      · exact .inl (.inl (.inr z))
    · exact .inl (.inr z)
  · rw [if_neg hz] at gg
    exact gg.elim
theorem ros_give {os : List O} {vs : List V} (p : RelS c ι (Un2 B F) st σ H fp) (hF : ∀ a ∈ F, ¬ B a) (h : ROs c.K ι (All (Un2 B F) fp) os F H vs) : Rs c.K ι (toDs os) (hidP (All B fp) H) vs := by
  refine ROs.give os h (fun a ha => hidP_f fun z => ?_) (hidP_sub fun a z => z.elim (fun z => .inl (.inl z)) .inr)
  rcases z with z | ⟨i, z⟩
  · exact hF a ha z
  · exact p.db i a z (.inr ha)
theorem ref_tup (ht : RefA c W ta (dArgs fs)) : RefE c W (tTup ta) (dTup fs) := fun B ι st σ H fp rs Q gg => by
  refine args_kept (k := fun os st2 => if os.length ≤ 100000 then .ok (.va (.dp (.tup (toDs os)))) st2 else .no) ht rs gg fun vs H1 F ι1 fp1 os st1 p1 h1 gg => ?_
  by_cases hz : os.length ≤ 100000
  · rw [if_pos hz] at gg
    refine ⟨Evl.sz_of (by rw [h1.len]; exact hz), fun p np => ?_⟩
    have hR := ros_give p1.rel p1.fb h1
    have p2 := p1.drop rs.lb
    have r2 := p2.rel0
    have nA : ¬ All B fp1 p := fun z => by obtain ⟨u, z⟩ := r2.alive z; rw [np] at z; cases z
    have p3 := p2.trans (F1 := []) (by rw [un2_nil rfl]; exact Post.fresh (F := []) r2 List.nodup_nil (fun a ha => nomatch ha) (same_upd (o := .tup vs) np) (fun a ha => nomatch ha))
    refine gg (.ref p) _ [] ι1 fp1 (by simpa using p3) ⟨rfl, p, vs, rfl, ?_, ?_⟩
    · rw [un2_nil rfl]
      rw [hidP_f nA, upd_same]
    · rw [un2_nil rfl]
      exact Rs.mono _ hR (Goes.refl _) (hidP_same (fun a z => .inl z) (same_upd np))
  · rw [if_neg hz] at gg
    exact gg.elim
end
section
variable {X : Cx} {c : FC} {W : WX} {a b e : Expr} {es : List Expr} {fa fb : Den} {fs : List Den} {pos : Pos}
theorem se_lst (h : SA X c W es fs) : SE X c W (.List es pos) (dLst fs) := se_of (pe_lst h) (ref_lst ref_tDA)
theorem se_tup {x1} (h : SA X c W es fs) : SE X c W (.Tuple es x1 pos) (dTup fs) := se_of (pe_tup h) (ref_tup ref_tDA)
theorem Rs.cut {K : PySem.W.Frag} {ι : List Addr} {H : Hp} {ds : List D} {xs : List V} (h : Rs K ι ds H xs) (lo hi : Option Int) : Rs K ι (cutD ds lo hi) H (cutV xs lo hi) := by
  unfold cutD cutV
  rw [h.len]
  exact (h.drop _).take _
/-- a slice's rule, any of a list, a text, a tuple -/
def rSlU (K : PySem.W.Frag) : V → Option Int → Option Int → Hp → VK → Prop := fun x lo hi H Q => rSlL K x lo hi H Q ∨ (rSlS x lo hi H Q ∨ rSlT K x lo hi H Q)
theorem sl_U : SlR X (rSlU X.K) := SlR.or sl_list (SlR.or sl_str sl_tup)
theorem ops_sl {K : PySem.W.Frag} {lo hi : Option Int} : OpS K (fun vs H Q => match vs with | [x] => rSlU K x lo hi H Q | _ => False) (gSl lo hi) := fun ι A H vs ds o Q al hv e q => by
  unfold gSl at e
  split at e
  · rename_i ds
    obtain ⟨x, rfl, p, us, rfl, h1, h2⟩ := hv.one
    cases e
    exact .inl ⟨p, us, rfl, SqL.of h1, q.list (h2.cut lo hi)⟩
  · rename_i z
    obtain ⟨x, rfl, h1⟩ := hv.one
    cases (show x = _ from h1)
    split at e
    · rename_i hz
      cases e
      exact .inr (.inl ⟨z, rfl, Evl.sz_of hz, q.atom fun _ => rfl⟩)
    · cases e
  · rename_i ns
    obtain ⟨x, rfl, p, rfl, h1⟩ := hv.one
    cases e
    exact .inl ⟨p, _, rfl, h1, q.list ((rs_ints ns).cut lo hi)⟩
  · rename_i ds
    obtain ⟨x, rfl, p, us, rfl, h1, h2⟩ := hv.one
    split at e
    · cases e
    · rename_i hn
      cases e
      exact .inr (.inr ⟨p, us, rfl, tupS h1, by rw [h2.len]; exact hn, q.tup al (h2.cut lo hi)⟩)
  · cases e
/-- the bound of a slice: an int or nothing -/
def GoO (c : FC) (W : WX) (B : Addr → Prop) (fp : Nat → List Addr) (H : Hp) (ι : List Addr) (st : ES) (σ : L2.St) (out : Out (Option Int)) (Q : Option Int → Hp → Prop) : Prop := match out with
  | .ok i st' => ∀ H' ι' fp', Post c B fp H ι st σ st' [] ι' fp' H' → Q i H'
  | .ex C g d st' => ∀ dx H' ι' fp', PostX c B fp H ι σ g d st' dx ι' fp' H' → W (.ref C) (some dx) σ H'
  | .no => False
def RefO (c : FC) (W : WX) (t : TO) (f : Option Den) : Prop := ∀ B ι st σ H fp, RelS c ι B st σ H fp → ∀ Q : Option Int → Hp → Prop, GoO c W B fp H ι st σ (bnd f st) Q → t σ H Q
theorem ref_bn : RefO c W tNoPart none := fun B ι st σ H fp rs Q g => g H ι fp (Post.refl rs)
theorem ref_bs {t : TE} (h : RefE c W t fa) : RefO c W (tPart t) (some fa) := fun B ι st σ H fp rs Q g => by
  refine h B ι st σ H fp rs _ ?_
  simp only [bnd] at g
  cases e : fa st with
  | no => rw [e] at g; exact g
  | ex C gx d st1 => rw [e] at g; exact g
  | ok rv st1 =>
    rw [e] at g
    simp only [bind_ok] at g
    intro v H' F ι' fp' p hv
    cases rv with
    | pl i q => exact g.elim
    | va o =>
      cases o with
      | dp d =>
        cases d with
        | int i =>
          obtain ⟨rfl, hv⟩ := (show F = [] ∧ _ from hv)
          exact ⟨i, hv, g H' ι' fp' p⟩
        | _ => exact g.elim
      | _ => exact g.elim
theorem ref_sl {te : TE} {tl th : TO} {fl fh : Option Den} (ha : RefE c W te fa) (hl : RefO c W tl fl) (hh : RefO c W th fh) : RefE c W (tSl (rSlU c.K) te tl th) (dSl fa fl fh) := fun B ι st σ H fp rs Q gg => by
  refine ha B ι st σ H fp rs _ ?_
  unfold dSl at gg
  cases e1 : fa st with
  | no => rw [e1] at gg; exact gg
  | ex C gx d st1 => rw [e1] at gg; exact gg
  | ok ra st1 =>
    rw [e1] at gg
    simp only [bind_ok] at gg
    intro v H1 F ι1 fp1 p1 h1
    refine hl _ ι1 st1 σ H1 fp1 p1.rel _ ?_
    cases e2 : bnd fl st1 with
    | no => rw [e2] at gg; exact gg
    | ex C gx d st2 =>
      rw [e2] at gg
      exact fun dx H' ι' fp' q => gg dx H' ι' fp' (p1.thenX rs.lb q)
    | ok lo st2 =>
      rw [e2] at gg
      simp only [bind_ok] at gg
      intro H2 ι2 fp2 p2
      have p12 := p1.trans p2
      rw [List.append_nil] at p12
      refine hh _ ι2 st2 σ H2 fp2 p12.rel _ ?_
      cases e3 : bnd fh st2 with
      | no => rw [e3] at gg; exact gg
      | ex C gx d st3 =>
        rw [e3] at gg
        exact fun dx H' ι' fp' q => gg dx H' ι' fp' (p12.thenX rs.lb q)
      | ok hi st3 =>
        rw [e3] at gg
        simp only [bind_ok] at gg
        intro H3 ι3 fp3 p3
        by_cases k : keep ra st1 st3 = true
        · rw [if_pos k] at gg
          have p23 := p2.trans (F1 := []) (by rw [un2_nil rfl]; exact p3)
          have hv := RVR.stay h1 (fun a h => h) p1.rel (by simpa using p23) k
          have p := p12.trans p3
          rw [List.append_nil] at p
          simp only [List.append_nil] at hv
          split at gg
          · rename_i d ed
            have hd := rv_vw p.rel p.fb rs.lb (fun a h => h) hv ed
            split at gg
            · rename_i o eo
              have p4 := p.drop rs.lb
              refine ops_sl ι3 (All B fp3) H3 [v] [d] o Q (fun a z => p4.rel0.alive z) ⟨v, [], rfl, hd, rfl⟩ eo fun v' H' F' nd nf sm hr => ?_
              obtain ⟨p5, h5⟩ := Post.made p4.rel0 nd nf sm hr
              have p6 := p4.trans (F := []) (by rw [un2_nil rfl]; exact p5)
              exact gg v' H' F' ι3 fp3 (by simpa using p6) h5
            · exact gg.elim
          · exact gg.elim
        · rw [if_neg k] at gg
          exact gg.elim
def SO (X : Cx) (c : FC) (W : WX) (e : Option Expr) (f : Option Den) : Prop := ∃ t, PO X e t ∧ RefO c W t f
theorem so_none : SO X c W none none := ⟨_, po_none, ref_bn⟩
theorem so_some (h : SE X c W e fa) : SO X c W (some e) (some fa) := ⟨_, po_some h, ref_bs ref_tD⟩
theorem se_sl {lo hi : Option Expr} {p2 : Pos} {fl fh : Option Den} (hK : X.K = c.K) (ha : SE X c W a fa) (hl : SO X c W lo fl) (hh : SO X c W hi fh) : SE X c W (.Subscript a (.Slice lo hi none p2) pos) (dSl fa fl fh) := by
  obtain ⟨tl, l1, l2⟩ := hl
  obtain ⟨th, h1, h2⟩ := hh
  refine se_of (pe_slice (r := rSlU X.K) sl_U ha l1 h1) ?_
  rw [hK]
  exact ref_sl ref_tD l2 h2
def gRev : List D → Option O
  | [.lst ds] => some (.lst (dps ds.reverse))
  | _ => none
def dRev (fa : Den) : Den := dOp vw gRev [fa]
end
end Fv
set_option Elab.async false
set_option linter.all false
set_option maxRecDepth 100000
set_option maxHeartbeats 4000000
namespace Fv
open PySem PySem.Spec PyProof.Rows L2 RkO
open Classical
inductive FRes where
  | ok (o : O) (bs : List Slot) (n : Nat) | ex (C : Addr) (g : Str) (d : D) (bs : List Slot) (n : Nat) | no
abbrev Fn := List Slot → Nat → FRes
def GoF (c : FC) (fp : Nat → List Addr) (H : Hp) (ι : List Addr) (args : List Slot) (σ : L2.St) (out : FRes) (Q : VK) (E : XK) : Prop := match out with
  | .ok o bs n => ∀ v H' F ι' fp', Post c c.L fp H ι ⟨args, ι.length, 0⟩ σ ⟨bs, n, 1⟩ F ι' fp' H' → RO c.K ι' (All (Un2 c.L F) fp') o F H' v → Q v H'
  | .ex C g d bs n => ∀ dx H' ι' fp', PostX c c.L fp H ι σ g d ⟨bs, n, 1⟩ dx ι' fp' H' → E (.ref C) (some dx) H'
  | .no => False
def spD (K : PySem.W.Frag) (k : Nat) (m : Fn) : Sp := fun vs H Q E => ∃ ι L args fp, args.length = k ∧ RelS ⟨K, L, fun i => vs.getD i .non⟩ ι L ⟨args, ι.length, 0⟩ (vs.map some) H fp ∧
  GoF ⟨K, L, fun i => vs.getD i .non⟩ fp H ι args (vs.map some) (m args ι.length) Q E
theorem spD_len {K : PySem.W.Frag} {k : Nat} {m : Fn} {vs : List V} {H : Hp} {Q : VK} {E : XK} (h : spD K k m vs H Q E) : vs.length = k := by
  obtain ⟨ι, L, args, fp, e, r, _⟩ := h
  have := r.len
  rw [List.length_map] at this
  rw [← this]
  exact e
/-- val: handed over; len: lent to be read; mut: lent to be changed -/
inductive AM where
  | val | len | chg
@[simp] def pass1 : List AM → List RV → ES → Out (List RV)
  | [], [], st => .ok [] st
  | .val :: ms, rv :: rvs, st => (settle rv st).bind fun o st1 => (pass1 ms rvs st1).bind fun rs st2 => .ok (.va o :: rs) st2
  | .len :: ms, rv :: rvs, st => (pass1 ms rvs st).bind fun rs st2 => .ok (rv :: rs) st2
  | .chg :: ms, rv :: rvs, st => (pass1 ms rvs st).bind fun rs st2 => .ok (rv :: rs) st2
  | _, _, _ => .no
def mkSlot (st : ES) : AM → RV → Option Slot
  | .val, .va o => some (.ow o)
  | .len, .va o => some (.ow o)
  | .len, .pl i p => (here st i p).map .bo
  | .chg, .pl i p => match st.ss[i]? with
    | some (.ow o) => (o.get p).map .mu
    | some (.mu o) => (o.get p).map .mu
    | _ => none
  | _, _ => none
@[simp] def mkSlots (st : ES) : List AM → List RV → Option (List Slot)
  | [], [] => some []
  | m :: ms, rv :: rvs => match mkSlot st m rv, mkSlots st ms rvs with
    | some s, some ss => some (s :: ss)
    | _, _ => none
  | _, _ => none
/-- the places that are lent to be changed: slot, path, argument -/
@[simp] def muts : List AM → List RV → Nat → List (Nat × List Stp × Nat)
  | .chg :: ms, .pl i p :: rvs, k => (i, p, k) :: muts ms rvs (k + 1)
  | _ :: ms, _ :: rvs, k => muts ms rvs (k + 1)
  | _, _, _ => []
/-- the slots that are lent to be read -/
@[simp] def lens : List AM → List RV → List Nat
  | .len :: ms, .pl i _ :: rvs => i :: lens ms rvs
  | _ :: ms, _ :: rvs => lens ms rvs
  | _, _ => []
@[simp] def okM (ms : List AM) (rvs : List RV) : Bool := decide ((muts ms rvs 0).map (·.1)).Nodup && (lens ms rvs).all fun i => decide (i ∉ (muts ms rvs 0).map (·.1))
def Slot.upd (s : Slot) (p : List Stp) (o2 : O) : Slot := match s with
  | .ow o => .ow (o.put p o2)
  | .mu o => .mu (o.put p o2)
  | s => s
def Slot.muO : Option Slot → Option O
  | some (.mu o) => some o
  | _ => none
@[simp] def back1 (pl : List (Nat × List Stp × Nat)) (bs : List Slot) (i : Nat) (s : Slot) : Slot := match pl.find? fun q => decide (q.1 = i) with
  | some (_, p, k) => match Slot.muO bs[k]? with
    | some o2 => s.upd p o2
    | none => .un
  | none => s
def back (st : ES) (pl : List (Nat × List Stp × Nat)) (bs : List Slot) (n : Nat) : ES := ⟨st.ss.mapIdx fun i s => back1 pl bs i s, n, match pl with | [] => st.t | _ :: _ => st.t + 1⟩
/-- the call of a def, its operands read -/
def callRV (m : Fn) (ms : List AM) (rvs : List RV) : Den := fun st1 => (pass1 ms rvs st1).bind fun rvs st2 => match mkSlots st2 ms rvs with
  | none => .no
  | some args => if okM ms rvs = true then match m args st2.n with
      | .ok o bs n => .ok (.va o) (back st2 (muts ms rvs 0) bs n)
      | .ex C g d bs n => .ex C g d (back st2 (muts ms rvs 0) bs n)
      | .no => .no
    else .no
/-- f(..): the written arguments, then the defaults ds -/
def dCall (m : Fn) (ms : List AM) (ds : List D) (fs : List Den) : Den := fun st => (dArgs fs st).bind fun rvs st1 => callRV m ms (rvs ++ ds.map fun d => .va (.dp d)) st1
section
variable {c : FC} {W : WX} {ι ι' : List Addr} {B : Addr → Prop} {st st' st1 : ES} {σ : L2.St} {H H' : Hp} {fp fp' : Nat → List Addr} {F F' : List Addr} {fs : List Den} {ta : TA}
/-- an operand, as far as a call needs it -/
def RVC (c : FC) (ι : List Addr) (A : Addr → Prop) (σ : L2.St) (rv : RV) (F : List Addr) (H : Hp) (v : V) : Prop := match rv with
  | .va o => RO c.K ι A o F H v
  | .pl i p => F = [] ∧ ∃ u, σ[i]? = some (some u) ∧ Reach H p u v
def RVCs (c : FC) (ι : List Addr) (A : Addr → Prop) (σ : L2.St) : List RV → List (List Addr) → Hp → List V → Prop
  | [], Fs, _, vs => Fs = [] ∧ vs = []
  | rv :: rvs, Fs, H, vs => ∃ F1 F2 v r, Fs = F1 :: F2 ∧ vs = v :: r ∧ RVC c ι A σ rv F1 H v ∧ RVCs c ι A σ rvs F2 H r
theorem RVR.vc {A : Addr → Prop} {rv : RV} {v : V} (h : RVR c ι A st σ rv F H v) : RVC c ι A σ rv F H v := by
  cases rv with
  | va o => exact h
  | pl i p =>
    obtain ⟨h1, u, h2, h3, _⟩ := h
    exact ⟨h1, u, h2, h3⟩
theorem RVRs.vc {A : Addr → Prop} : ∀ {rvs : List RV} {F : List Addr} {vs : List V}, RVRs c ι A st σ rvs F H vs → ∃ Fs, F = Fs.flatten ∧ RVCs c ι A σ rvs Fs H vs
  | [], _, _, h => ⟨[], h.1, rfl, h.2⟩
  | rv :: rvs, _, _, h => by
    obtain ⟨F1, F2, v, r, rfl, rfl, h1, h2⟩ := h
    obtain ⟨Fs, rfl, h3⟩ := RVRs.vc h2
    exact ⟨F1 :: Fs, rfl, F1, Fs, v, r, rfl, rfl, h1.vc, h3⟩
theorem RVC.less {A A' : Addr → Prop} {rv : RV} {v : V} (hA : ∀ a, A' a → A a) (h : RVC c ι A σ rv F H v) : RVC c ι A' σ rv F H v := by
  cases rv with
  | va o => exact RO.stay o h (Goes.refl _) (fun _ _ => rfl) (hidP_sub hA)
  | pl i p => exact h
theorem RVCs.less {A A' : Addr → Prop} (hA : ∀ a, A' a → A a) : ∀ {rvs : List RV} {Fs : List (List Addr)} {vs : List V}, RVCs c ι A σ rvs Fs H vs → RVCs c ι A' σ rvs Fs H vs
  | [], _, _, h => h
  | rv :: rvs, _, _, h => by
    obtain ⟨F1, F2, v, r, rfl, rfl, h1, h2⟩ := h
    exact ⟨F1, F2, v, r, rfl, rfl, h1.less hA, h2.less hA⟩
theorem settle_c {rv : RV} {v : V} {o : O} {F1 : List Addr} (p : Post c B fp H ι st σ st1 F ι' fp' H') (h : RVC c ι' (All (Un2 B F) fp') σ rv F1 H' v) (e : settle rv st1 = .ok o st') :
    ∃ fp2, Post c B fp H ι st σ st' F ι' fp2 H' ∧ RO c.K ι' (All (Un2 B F) fp2) o F1 H' v ∧ ∀ a, All (Un2 B F) fp2 a → All (Un2 B F) fp' a := by
  cases rv with
  | va o' => cases e; exact ⟨fp', p, h, fun a z => z⟩
  | pl i q =>
    cases q with
    | cons s q => cases e
    | nil =>
      obtain ⟨rfl, u, hu, rc⟩ := h
      cases (show u = v from rc)
      simp only [settle] at e
      split at e
      · rename_i o' hs
        cases e
        obtain ⟨p2, h2⟩ := p.rel.freeze hs hu
        have p3 := p.trans p2
        rw [List.append_nil] at p3
        refine ⟨_, p3, ⟨rfl, h2⟩, fun a z => ?_⟩
        rcases z with z | ⟨j, z⟩
        · exact .inl z
        · by_cases hj : j = i
          · rw [hj, fset_same] at z; cases z
          · rw [fset_ne hj] at z; exact .inr ⟨j, z⟩
      · cases e
theorem pass1_ok : ∀ {ms : List AM} {rvs rs : List RV} {vs : List V} {Fs : List (List Addr)} {st1 : ES} {fp' : Nat → List Addr}, Post c B fp H ι st σ st1 F ι' fp' H' → RVCs c ι' (All (Un2 B F) fp') σ rvs Fs H' vs → pass1 ms rvs st1 = .ok rs st' →
    ∃ fp2, Post c B fp H ι st σ st' F ι' fp2 H' ∧ RVCs c ι' (All (Un2 B F) fp2) σ rs Fs H' vs ∧ ∀ a, All (Un2 B F) fp2 a → All (Un2 B F) fp' a
  | [], [], _, _, _, _, fp', p, h, e => by cases e; exact ⟨fp', p, h, fun _ z => z⟩
  | .val :: ms, rv :: rvs, rs, _, _, st1, fp', p, h, e => by
    obtain ⟨F1, F2, v, r, rfl, rfl, h1, h2⟩ := h
    simp only [pass1] at e
    cases e1 : settle rv st1 with
    | no => rw [e1] at e; cases e
    | ex C g d s => rw [e1] at e; cases e
    | ok o st4 =>
      rw [e1] at e
      simp only [bind_ok] at e
      cases e2 : pass1 ms rvs st4 with
      | no => rw [e2] at e; cases e
      | ex C g d s => rw [e2] at e; cases e
      | ok os' st5 =>
        rw [e2] at e
        cases e
        obtain ⟨fp3, p3, h3, s3⟩ := settle_c p h1 e1
        obtain ⟨fp4, p4, h4, s4⟩ := pass1_ok p3 (h2.less s3) e2
        exact ⟨fp4, p4, ⟨F1, F2, v, r, rfl, rfl, RVC.less (rv := .va o) s4 h3, h4⟩, fun a z => s3 a (s4 a z)⟩
  | .len :: ms, rv :: rvs, rs, _, _, st1, fp', p, h, e => by
    obtain ⟨F1, F2, v, r, rfl, rfl, h1, h2⟩ := h
    simp only [pass1] at e
    cases e2 : pass1 ms rvs st1 with
    | no => rw [e2] at e; cases e
    | ex C g d s => rw [e2] at e; cases e
    | ok os' st5 =>
      rw [e2] at e
      cases e
      obtain ⟨fp4, p4, h4, s4⟩ := pass1_ok p h2 e2
      exact ⟨fp4, p4, ⟨F1, F2, v, r, rfl, rfl, h1.less s4, h4⟩, s4⟩
  | .chg :: ms, rv :: rvs, rs, _, _, st1, fp', p, h, e => by
    obtain ⟨F1, F2, v, r, rfl, rfl, h1, h2⟩ := h
    simp only [pass1] at e
    cases e2 : pass1 ms rvs st1 with
    | no => rw [e2] at e; cases e
    | ex C g d s => rw [e2] at e; cases e
    | ok os' st5 =>
      rw [e2] at e
      cases e
      obtain ⟨fp4, p4, h4, s4⟩ := pass1_ok p h2 e2
      exact ⟨fp4, p4, ⟨F1, F2, v, r, rfl, rfl, h1.less s4, h4⟩, s4⟩
  | [], _ :: _, _, _, _, _, _, _, _, e => by cases e
  | .val :: _, [], _, _, _, _, _, _, _, e => by cases e
  | .len :: _, [], _, _, _, _, _, _, _, e => by cases e
  | .chg :: _, [], _, _, _, _, _, _, _, e => by cases e
theorem pass1_no : ∀ {ms : List AM} {rvs : List RV} {st : ES}, (∃ rs st', pass1 ms rvs st = .ok rs st') ∨ pass1 ms rvs st = .no := by
  intro ms
  induction ms with
  | nil => intro rvs st; cases rvs with
    | nil => exact .inl ⟨_, _, rfl⟩
    | cons rv rvs => exact .inr rfl
  | cons m ms ih =>
    intro rvs st
    cases rvs with
    | nil => cases m <;> exact .inr rfl
    | cons rv rvs =>
      cases m with
      | val =>
        simp only [pass1]
        have := settles_no (rvs := [rv]) (st := st)
        simp only [settles] at this
        cases e : settle rv st with
        | no => exact .inr rfl
        | ex C g d s => rw [e] at this; rcases this with ⟨_, _, z⟩ | z <;> cases z
        | ok o st1 =>
          simp only [bind_ok]
          rcases ih (rvs := rvs) (st := st1) with ⟨os, st2, h⟩ | h
          · rw [h]; exact .inl ⟨_, _, rfl⟩
          · rw [h]; exact .inr rfl
      | len =>
        simp only [pass1]
        rcases ih (rvs := rvs) (st := st) with ⟨os, st2, h⟩ | h
        · rw [h]; exact .inl ⟨_, _, rfl⟩
        · rw [h]; exact .inr rfl
      | chg =>
        simp only [pass1]
        rcases ih (rvs := rvs) (st := st) with ⟨os, st2, h⟩ | h
        · rw [h]; exact .inl ⟨_, _, rfl⟩
        · rw [h]; exact .inr rfl
theorem RVCs.at {A : Addr → Prop} : ∀ {rvs : List RV} {Fs : List (List Addr)} {vs : List V} {k : Nat} {rv : RV}, RVCs c ι A σ rvs Fs H vs → rvs[k]? = some rv → ∃ v, vs[k]? = some v ∧ RVC c ι A σ rv (Fs.getD k []) H v
  | [], _, _, k, _, _, e => by simp at e
  | rv :: rvs, _, _, 0, _, h, e => by
    obtain ⟨F1, F2, v, r, rfl, rfl, h1, h2⟩ := h
    cases e
    exact ⟨v, rfl, h1⟩
  | rv :: rvs, _, _, k + 1, _, h, e => by
    obtain ⟨F1, F2, v, r, rfl, rfl, h1, h2⟩ := h
    obtain ⟨v', e1, e2⟩ := RVCs.at h2 (k := k) (by simpa using e)
    exact ⟨v', e1, by simpa using e2⟩
theorem RVCs.len {A : Addr → Prop} : ∀ {rvs : List RV} {Fs : List (List Addr)} {vs : List V}, RVCs c ι A σ rvs Fs H vs → vs.length = rvs.length ∧ Fs.length = rvs.length
  | [], _, _, h => by rw [h.1, h.2]; exact ⟨rfl, rfl⟩
  | rv :: rvs, _, _, h => by
    obtain ⟨F1, F2, v, r, rfl, rfl, h1, h2⟩ := h
    obtain ⟨e1, e2⟩ := h2.len
    simp [e1, e2]
theorem mkSlots_at : ∀ {ms : List AM} {rvs : List RV} {args : List Slot} {k : Nat} {s : Slot}, mkSlots st ms rvs = some args → args[k]? = some s → ∃ m rv, ms[k]? = some m ∧ rvs[k]? = some rv ∧ mkSlot st m rv = some s
  | [], [], _, k, _, e, h => by cases e; simp at h
  | m :: ms, rv :: rvs, _, k, s, e, h => by
    simp only [mkSlots] at e
    cases e1 : mkSlot st m rv with
    | none => rw [e1] at e; cases e
    | some s' =>
      cases e2 : mkSlots st ms rvs with
      | none => rw [e1, e2] at e; cases e
      | some ss =>
        rw [e1, e2] at e
        cases e
        cases k with
        | zero => cases h; exact ⟨m, rv, rfl, rfl, e1⟩
        | succ k => exact mkSlots_at e2 (k := k) (by simpa using h)
  | [], _ :: _, _, _, _, e, _ => by cases e
  | _ :: _, [], _, _, _, e, _ => by cases e
theorem mkSlots_len : ∀ {ms : List AM} {rvs : List RV} {args : List Slot}, mkSlots st ms rvs = some args → args.length = rvs.length
  | [], [], _, e => by cases e; rfl
  | m :: ms, rv :: rvs, _, e => by
    simp only [mkSlots] at e
    cases e1 : mkSlot st m rv with
    | none => rw [e1] at e; cases e
    | some s' =>
      cases e2 : mkSlots st ms rvs with
      | none => rw [e1, e2] at e; cases e
      | some ss =>
        rw [e1, e2] at e
        cases e
        simp [mkSlots_len e2]
  | [], _ :: _, _, e => by cases e
  | _ :: _, [], _, e => by cases e
theorem muts_at : ∀ {ms : List AM} {rvs : List RV} {k0 i k : Nat} {p : List Stp}, (i, p, k) ∈ muts ms rvs k0 ↔ k0 ≤ k ∧ ms[k - k0]? = some .chg ∧ rvs[k - k0]? = some (.pl i p)
  | [], rvs, k0, i, k, p => by cases rvs <;> simp [muts]
  | m :: ms, [], k0, i, k, p => by cases m <;> simp [muts]
  | m :: ms, rv :: rvs, k0, i, k, p => by
    have step : (i, p, k) ∈ muts ms rvs (k0 + 1) ↔ k0 + 1 ≤ k ∧ ms[k - (k0 + 1)]? = some .chg ∧ rvs[k - (k0 + 1)]? = some (.pl i p) := muts_at
    have later : (k0 + 1 ≤ k ∧ ms[k - (k0 + 1)]? = some .chg ∧ rvs[k - (k0 + 1)]? = some (.pl i p)) ↔ (k0 + 1 ≤ k ∧ (m :: ms)[k - k0]? = some .chg ∧ (rv :: rvs)[k - k0]? = some (.pl i p)) := by
      constructor
      · rintro ⟨h1, h2, h3⟩
        have e : k - k0 = (k - (k0 + 1)) + 1 := by omega
        rw [e]
        exact ⟨h1, by simpa using h2, by simpa using h3⟩
      · rintro ⟨h1, h2, h3⟩
        have e : k - k0 = (k - (k0 + 1)) + 1 := by omega
        rw [e] at h2 h3
        exact ⟨h1, by simpa using h2, by simpa using h3⟩
    have here_ : (k0 ≤ k ∧ (m :: ms)[k - k0]? = some .chg ∧ (rv :: rvs)[k - k0]? = some (.pl i p)) ↔ (k = k0 ∧ m = .chg ∧ rv = .pl i p) ∨ (k0 + 1 ≤ k ∧ (m :: ms)[k - k0]? = some .chg ∧ (rv :: rvs)[k - k0]? = some (.pl i p)) := by
      constructor
      · rintro ⟨h1, h2, h3⟩
        by_cases e : k = k0
        · subst e
          rw [Nat.sub_self] at h2 h3
          exact .inl ⟨rfl, by simpa using h2, by simpa using h3⟩
        · exact .inr ⟨by omega, h2, h3⟩
      · rintro (⟨rfl, rfl, rfl⟩ | ⟨h1, h2, h3⟩)
        · simp
        · exact ⟨by omega, h2, h3⟩
    rw [here_, ← later, ← step]
    cases m with
    | chg =>
      cases rv with
      | va o => simp [muts]
      | pl j q =>
        simp only [muts, List.mem_cons, Prod.mk.injEq]
        constructor
        · rintro (⟨rfl, rfl, rfl⟩ | h)
          · exact .inl ⟨rfl, trivial, rfl⟩
          · exact .inr h
        · rintro (⟨rfl, _, h⟩ | h)
          · cases h; exact .inl ⟨rfl, rfl, rfl⟩
          · exact .inr h
    | val => cases rv <;> simp [muts]
    | len => cases rv <;> simp [muts]
theorem lens_at : ∀ {ms : List AM} {rvs : List RV} {i k : Nat} {p : List Stp}, ms[k]? = some .len → rvs[k]? = some (.pl i p) → i ∈ lens ms rvs
  | [], _, _, k, _, h, _ => by simp at h
  | m :: ms, [], _, k, _, _, h => by simp at h
  | m :: ms, rv :: rvs, i, 0, p, h1, h2 => by
    cases h1
    cases h2
    simp [lens]
  | m :: ms, rv :: rvs, i, k + 1, p, h1, h2 => by
    have := lens_at (ms := ms) (rvs := rvs) (i := i) (k := k) (p := p) (by simpa using h1) (by simpa using h2)
    cases m with
    | len => cases rv <;> simp [lens, this]
    | val => cases rv <;> simp [lens, this]
    | chg => cases rv <;> simp [lens, this]
end
end Fv
set_option Elab.async false
set_option linter.all false
set_option maxRecDepth 100000
set_option maxHeartbeats 4000000
namespace Fv
open PySem PySem.Spec PyProof.Rows L2 RkO
open Classical
theorem mkSlots_len2 {st : ES} : ∀ {ms : List AM} {rvs : List RV} {args : List Slot}, mkSlots st ms rvs = some args → args.length = ms.length
  | [], [], _, e => by cases e; rfl
  | m :: ms, rv :: rvs, _, e => by
    simp only [mkSlots] at e
    cases e1 : mkSlot st m rv with
    | none => rw [e1] at e; cases e
    | some s' =>
      cases e2 : mkSlots st ms rvs with
      | none => rw [e1, e2] at e; cases e
      | some ss =>
        rw [e1, e2] at e
        cases e
        simp [mkSlots_len2 e2]
  | [], _ :: _, _, e => by cases e
  | _ :: _, [], _, e => by cases e
theorem flat_get {Fs : List (List Addr)} {k : Nat} {a : Addr} (h : a ∈ Fs.getD k []) : a ∈ Fs.flatten := by
  rw [List.getD_eq_getElem?_getD] at h
  cases e : Fs[k]? with
  | none => rw [e] at h; cases h
  | some f => rw [e] at h; exact List.mem_flatten.mpr ⟨f, List.mem_of_getElem? e, h⟩
theorem flat_nd : ∀ {Fs : List (List Addr)} {k : Nat}, Fs.flatten.Nodup → (Fs.getD k []).Nodup
  | [], _, _ => by simp
  | f :: Fs, 0, h => by simpa using (List.nodup_append.mp (by simpa using h)).1
  | f :: Fs, k + 1, h => by
    have := flat_nd (Fs := Fs) (k := k) (List.nodup_append.mp (by simpa using h)).2.1
    simpa using this
theorem flat_dj : ∀ {Fs : List (List Addr)} {k l : Nat} {a : Addr}, Fs.flatten.Nodup → a ∈ Fs.getD k [] → a ∈ Fs.getD l [] → k = l
  | [], _, _, _, _, h, _ => by simp at h
  | f :: Fs, 0, 0, _, _, _, _ => rfl
  | f :: Fs, 0, l + 1, a, h, h1, h2 => by
    have nd := List.nodup_append.mp (show (f ++ Fs.flatten).Nodup by simpa using h)
    exact absurd rfl (nd.2.2 a (by simpa using h1) a (flat_get (k := l) (by simpa using h2)))
  | f :: Fs, k + 1, 0, a, h, h1, h2 => by
    have nd := List.nodup_append.mp (show (f ++ Fs.flatten).Nodup by simpa using h)
    exact absurd rfl (nd.2.2 a (by simpa using h2) a (flat_get (k := k) (by simpa using h1)))
  | f :: Fs, k + 1, l + 1, a, h, h1, h2 => by
    have nd := List.nodup_append.mp (show (f ++ Fs.flatten).Nodup by simpa using h)
    rw [flat_dj nd.2.1 (k := k) (l := l) (by simpa using h1) (by simpa using h2)]
section
variable {c : FC} {W : WX} {ι ι' : List Addr} {B : Addr → Prop} {st st' st1 st2 : ES} {σ : L2.St} {H H' H2 : Hp} {fp fp' fp2 : Nat → List Addr} {F F' : List Addr} {fs : List Den} {ta : TA}
/-- what the k-th argument's changing thing is, and the way back -/
def Lent (c : FC) (ι : List Addr) (A : Addr → Prop) (st : ES) (σ : L2.St) (H : Hp) (fi : List Addr) (i : Nat) (p : List Stp) (v : V) (f1 : List Addr) : Prop :=
  ∃ s o o1 u, st.ss[i]? = some s ∧ (s = .ow o ∨ s = .mu o) ∧ o.get p = some o1 ∧ σ[i]? = some (some u) ∧ (s = .mu o → u = c.μ i) ∧ (∀ a ∈ f1, a ∈ fi) ∧ f1.Nodup ∧ RO c.K ι A o1 f1 H v ∧
    ∀ {ι' : List Addr} {M' : Addr → Prop} {H' : Hp} {o2 : O} {f2 : List Addr}, RO c.K ι' M' o2 f2 H' v → Goes ι ι' → (∀ a ∈ fi, a ∉ f1 → H' a = H a) → Same (hidP A H) (hidP M' H') → f2.Nodup → (∀ a ∈ f2, a ∈ fi → a ∈ f1) →
      ∃ f', RO c.K ι' M' (o.put p o2) f' H' u ∧ f'.Nodup ∧ ∀ a, a ∈ f' ↔ (a ∈ fi ∧ a ∉ f1) ∨ a ∈ f2
/-- the call itself: what the callee is handed, and what its end means here -/
theorem call_core {ms : List AM} {rvs : List RV} {Fs : List (List Addr)} {vs : List V} {args : List Slot} (rel : RelS c ι (Un2 B Fs.flatten) st σ H fp) (hF : Fs.flatten.Nodup) (hFB : ∀ a ∈ Fs.flatten, ¬ B a) (hl : ∀ a, c.L a → B a)
    (h : RVCs c ι (All (Un2 B Fs.flatten) fp) σ rvs Fs H vs) (e : mkSlots st ms rvs = some args) (ok : okM ms rvs = true) :
    ∃ (L : Addr → Prop) (g : Nat → List Addr), (∀ a, All L g a ↔ All (Un2 B Fs.flatten) fp a) ∧ (∀ a, B a → L a) ∧ (muts ms rvs 0 = [] → ∀ i a, a ∈ fp i → L a) ∧ RelS ⟨c.K, L, fun i => vs.getD i .non⟩ ι L ⟨args, ι.length, 0⟩ (vs.map some) H g ∧
      ∀ {ι' : List Addr} {F' : List Addr} {g' : Nat → List Addr} {H' : Hp} {bs : List Slot} {n : Nat}, RelS ⟨c.K, L, fun i => vs.getD i .non⟩ ι' (Un2 L F') ⟨bs, n, 1⟩ (vs.map some) H' g' → (∀ a ∈ F', ¬ L a) → Goes ι ι' → (∀ a, L a → H' a = H a) → Same (hidP (All L g) H) (hidP (All (Un2 L F') g') H') →
        ∃ fpN, RelS c ι' (Un2 B F') (back st (muts ms rvs 0) bs n) σ H' fpN ∧ (∀ a, All (Un2 B F') fpN a → All (Un2 L F') g' a) ∧ (muts ms rvs 0 = [] → (back st (muts ms rvs 0) bs n).ss = st.ss ∧ fpN = fp) := by
  obtain ⟨ok1, ok2⟩ := Bool.and_eq_true_iff.mp ok
  have ok1 := of_decide_eq_true ok1
  have hlen := h.len
  have alen := mkSlots_len e
  -- the footprints handed over
  have ex : ∀ k, ∃ f1 : List Addr, (∀ i p, ms[k]? = some .chg → rvs[k]? = some (.pl i p) → ∃ v, vs[k]? = some v ∧ Lent c ι (All (Un2 B Fs.flatten) fp) st σ H (fp i) i p v f1) ∧ ((∀ i p, ¬ (ms[k]? = some .chg ∧ rvs[k]? = some (.pl i p))) → f1 = Fs.getD k []) := by
    intro k
    by_cases hk : ∃ i p, ms[k]? = some .chg ∧ rvs[k]? = some (.pl i p)
    · obtain ⟨i, p, hm, hr⟩ := hk
      obtain ⟨v, hv, hrv⟩ := h.at hr
      obtain ⟨_, u, hu, rc⟩ := hrv
      have hka : k < args.length := by rw [alen]; exact (List.getElem?_eq_some_iff.mp hr).1
      obtain ⟨m', rv', e1, e2, e3⟩ := mkSlots_at e (List.getElem?_eq_getElem hka)
      rw [hm] at e1
      rw [hr] at e2
      cases e1
      cases e2
      simp only [mkSlot] at e3
      have go : ∀ (s : Slot) (o : O), st.ss[i]? = some s → (s = .ow o ∨ s = .mu o) → (o.get p).map Slot.mu = some args[k] → RO c.K ι (All (Un2 B Fs.flatten) fp) o (fp i) H u → (s = .mu o → u = c.μ i) → ∃ f1, (∀ i' p', ms[k]? = some .chg → rvs[k]? = some (.pl i' p') → ∃ v, vs[k]? = some v ∧ Lent c ι (All (Un2 B Fs.flatten) fp) st σ H (fp i') i' p' v f1) ∧ ((∀ i p, ¬ (ms[k]? = some .chg ∧ rvs[k]? = some (.pl i p))) → f1 = Fs.getD k []) := fun s o hs hso hg hro hmu => by
        obtain ⟨o1, ho1, _⟩ := Option.map_eq_some_iff.mp hg
        obtain ⟨f1, sub, nd1, h1, bk⟩ := hro.lens ho1 rc (rel.nd i)
        refine ⟨f1, fun i' p' _ hr' => ?_, fun z => absurd ⟨hm, hr⟩ (z i p)⟩
        rw [hr] at hr'
        cases hr'
        exact ⟨v, hv, s, o, o1, u, hs, hso, ho1, hu, hmu, sub, nd1, h1, fun {ι' M' H' o2 f2} => bk⟩
      split at e3
      · rename_i o hs
        obtain ⟨v', z1, z2⟩ := rel.sl i _ hs
        rw [hu] at z1
        cases z1
        exact go _ o hs (.inl rfl) e3 z2 (fun z => by cases z)
      · rename_i o hs
        obtain ⟨z1, z2⟩ := rel.sl i _ hs
        rw [hu] at z1
        cases z1
        exact go _ o hs (.inr rfl) e3 z2 (fun _ => rfl)
      · cases e3
    · exact ⟨Fs.getD k [], fun i p h1 h2 => absurd ⟨i, p, h1, h2⟩ hk, fun _ => rfl⟩
  obtain ⟨g, hg⟩ := Classical.axiomOfChoice ex
  -- which arguments change which slots
  have gm : ∀ {k i p}, ms[k]? = some .chg → rvs[k]? = some (.pl i p) → ∃ v, vs[k]? = some v ∧ Lent c ι (All (Un2 B Fs.flatten) fp) st σ H (fp i) i p v (g k) := fun {k i p} h1 h2 => (hg k).1 i p h1 h2
  have mem_m : ∀ {k i p}, ms[k]? = some .chg → rvs[k]? = some (.pl i p) → (i, p, k) ∈ muts ms rvs 0 := fun {k i p} h1 h2 => muts_at.mpr ⟨Nat.zero_le _, by simpa using h1, by simpa using h2⟩
  have of_m : ∀ {k i p}, (i, p, k) ∈ muts ms rvs 0 → ms[k]? = some .chg ∧ rvs[k]? = some (.pl i p) := fun {k i p} h => by
    obtain ⟨_, h1, h2⟩ := muts_at.mp h
    exact ⟨by simpa using h1, by simpa using h2⟩
  have one_m : ∀ {k l i p q}, (i, p, k) ∈ muts ms rvs 0 → (i, q, l) ∈ muts ms rvs 0 → k = l ∧ p = q := fun {k l i p q} h1 h2 => by
    have : ∀ {l : List (Nat × List Stp × Nat)} {x y : Nat × List Stp × Nat}, (l.map (·.1)).Nodup → x ∈ l → y ∈ l → x.1 = y.1 → x = y := by
      intro l
      induction l with
      | nil => intro x y _ h; cases h
      | cons z l ih =>
        intro x y nd hx hy exy
        have nd := List.nodup_cons.mp (show (z.1 :: l.map (·.1)).Nodup from nd)
        rcases List.mem_cons.mp hx with ex | hx'
        · rcases List.mem_cons.mp hy with ey | hy'
          · rw [ex, ey]
          · exact absurd (show z.1 ∈ l.map (·.1) from List.mem_map.mpr ⟨y, hy', by rw [← exy, ex]⟩) nd.1
        · rcases List.mem_cons.mp hy with ey | hy'
          · exact absurd (show z.1 ∈ l.map (·.1) from List.mem_map.mpr ⟨x, hx', by rw [exy, ey]⟩) nd.1
          · exact ih nd.2 hx' hy' exy
    have := this ok1 h1 h2 rfl
    cases this
    exact ⟨rfl, rfl⟩
  -- where a footprint comes from
  have g_in : ∀ {k a}, a ∈ g k → (∃ i p, ms[k]? = some .chg ∧ rvs[k]? = some (.pl i p) ∧ a ∈ fp i) ∨ ((∀ i p, ¬ (ms[k]? = some .chg ∧ rvs[k]? = some (.pl i p))) ∧ a ∈ Fs.getD k []) := fun {k a} ha => by
    by_cases hk : ∃ i p, ms[k]? = some .chg ∧ rvs[k]? = some (.pl i p)
    · obtain ⟨i, p, h1, h2⟩ := hk
      obtain ⟨v, _, s, o, o1, u, _, _, _, _, _, sub, _⟩ := gm h1 h2
      exact .inl ⟨i, p, h1, h2, sub a ha⟩
    · have hk' : ∀ i p, ¬ (ms[k]? = some .chg ∧ rvs[k]? = some (.pl i p)) := fun i p z => hk ⟨i, p, z.1, z.2⟩
      rw [(hg k).2 hk'] at ha
      exact .inr ⟨hk', ha⟩
  have g_all : ∀ {k a}, a ∈ g k → All (Un2 B Fs.flatten) fp a := fun {k a} ha => (g_in ha).elim (fun ⟨i, p, _, _, z⟩ => .inr ⟨i, z⟩) fun z => .inl (.inr (flat_get z.2))
  have g_B : ∀ {k a}, a ∈ g k → ¬ B a := fun {k a} ha hb => (g_in ha).elim (fun ⟨i, p, _, _, z⟩ => rel.db i a z (.inl hb)) fun z => hFB a (flat_get z.2) hb
  have g_nd : ∀ k, (g k).Nodup := fun k => by
    by_cases hk : ∃ i p, ms[k]? = some .chg ∧ rvs[k]? = some (.pl i p)
    · obtain ⟨i, p, h1, h2⟩ := hk
      obtain ⟨v, _, s, o, o1, u, _, _, _, _, _, _, nd, _⟩ := gm h1 h2
      exact nd
    · rw [(hg k).2 fun i p z => hk ⟨i, p, z.1, z.2⟩]
      exact flat_nd hF
  have g_dj : ∀ {k l a}, a ∈ g k → a ∈ g l → k = l := fun {k l a} h1 h2 => by
    rcases g_in h1 with ⟨i, p, m1, r1, z1⟩ | ⟨_, z1⟩
    · rcases g_in h2 with ⟨j, q, m2, r2, z2⟩ | ⟨_, z2⟩
      · have := rel.dj i j a z1 z2
        subst this
        exact (one_m (mem_m m1 r1) (mem_m m2 r2)).1
      · exact absurd (.inr (flat_get z2)) (rel.db i a z1)
    · rcases g_in h2 with ⟨j, q, m2, r2, z2⟩ | ⟨_, z2⟩
      · exact absurd (.inr (flat_get z1)) (rel.db j a z2)
      · exact flat_dj hF z1 z2
  -- a slot's footprint that is not lent to be changed
  have g_slot : ∀ {k a i}, a ∈ g k → a ∈ fp i → ∃ p, (i, p, k) ∈ muts ms rvs 0 := fun {k a i} h1 h2 => by
    rcases g_in h1 with ⟨j, p, m1, r1, z1⟩ | ⟨_, z1⟩
    · have := rel.dj j i a z1 h2
      subst this
      exact ⟨p, mem_m m1 r1⟩
    · exact absurd (.inr (flat_get z1)) (rel.db i a h2)
  refine ⟨fun a => All (Un2 B Fs.flatten) fp a ∧ ∀ k, a ∉ g k, g, ?_, ?_, fun hm i a ha => ⟨.inr ⟨i, ha⟩, fun k hk => by
    obtain ⟨p, hp⟩ := g_slot hk ha
    rw [hm] at hp
    cases hp⟩, ?_, ?_⟩
  · intro a
    constructor
    · rintro (z | ⟨k, z⟩)
      · exact z.1
      · exact g_all z
    · intro z
      by_cases hk : ∃ k, a ∈ g k
      · exact .inr hk
      · exact .inl ⟨z, fun k y => hk ⟨k, y⟩⟩
  · exact fun a hb => ⟨.inl (.inl hb), fun k z => g_B z hb⟩
  · have mask : All (fun a => All (Un2 B Fs.flatten) fp a ∧ ∀ k, a ∉ g k) g = All (Un2 B Fs.flatten) fp := by
      funext a
      refine propext ⟨?_, ?_⟩
      · rintro (z | ⟨k, z⟩)
        · exact z.1
        · exact g_all z
      · intro z
        by_cases hk : ∃ k, a ∈ g k
        · exact .inr hk
        · exact .inl ⟨z, fun k y => hk ⟨k, y⟩⟩
    refine ⟨by rw [List.length_map, hlen.1, alen], rfl, g_nd, fun k l a => g_dj, fun k a ha z => z.2 k ha, fun a z => z, fun a z => rel.alive z.1, fun k s hs => ?_, fun k hk => ?_⟩
    · rw [mask]
      obtain ⟨m, rv, e1, e2, e3⟩ := mkSlots_at e hs
      obtain ⟨v, hv, hrv⟩ := h.at e2
      have hx : (vs.map some)[k]? = some (some v) := by rw [List.getElem?_map, hv]; rfl
      have hmu : vs.getD k .non = v := by rw [List.getD_eq_getElem?_getD, hv]; rfl
      have own : ∀ o, rv = .va o → s = .ow o → SlotR ⟨c.K, fun a => All (Un2 B Fs.flatten) fp a ∧ ∀ k, a ∉ g k, fun i => vs.getD i .non⟩ ι (All (Un2 B Fs.flatten) fp) (vs.getD k .non) ((vs.map some)[k]?) s (g k) H := fun o h1 h2 => by
        subst h1
        subst h2
        rw [(hg k).2 fun i p z => by rw [e2] at z; exact absurd (Option.some.inj z.2) (by simp)]
        exact ⟨v, hx, hrv⟩
      cases m with
      | val =>
        cases rv with
        | va o => exact own o rfl (by simp only [mkSlot] at e3; exact (Option.some.inj e3).symm)
        | pl i p => cases e3
      | len =>
        cases rv with
        | va o => exact own o rfl (by simp only [mkSlot] at e3; exact (Option.some.inj e3).symm)
        | pl i p =>
          simp only [mkSlot] at e3
          obtain ⟨o1, ho1, rfl⟩ := Option.map_eq_some_iff.mp e3
          obtain ⟨rfl', u, hu, rc⟩ := hrv
          have gk : g k = [] := by
            rw [(hg k).2 fun i p z => by rw [e1] at z; exact absurd (Option.some.inj z.1) (by simp), rfl']
          have notg : ∀ {a}, a ∈ fp i → ∀ l, a ∉ g l := fun {a} ha l hl' => by
            obtain ⟨q, hq⟩ := g_slot hl' ha
            have := List.all_eq_true.mp ok2 i (lens_at e1 e2)
            exact of_decide_eq_true this (List.mem_map.mpr ⟨_, hq, rfl⟩)
          unfold here at ho1
          cases hsi : st.ss[i]? with
          | none => rw [hsi] at ho1; cases ho1
          | some s0 =>
            rw [hsi] at ho1
            have sl := rel.sl i s0 hsi
            cases s0 with
            | un => cases ho1
            | ow o =>
              obtain ⟨v', z1, z2⟩ := sl
              rw [hu] at z1
              cases z1
              obtain ⟨f1, sub, nd1, h1, _⟩ := z2.lens ho1 rc (rel.nd i)
              exact ⟨gk, v, f1, hx, fun a ha => ⟨.inr ⟨i, sub a ha⟩, notg (sub a ha)⟩, nd1, h1⟩
            | bo o =>
              obtain ⟨_, v', fb, z1, z2, zn, z3⟩ := sl
              rw [hu] at z1
              cases z1
              obtain ⟨f1, sub, nd1, h1, _⟩ := z3.lens ho1 rc zn
              exact ⟨gk, v, f1, hx, fun a ha => ⟨.inl (.inl (hl a (z2 a (sub a ha)))), fun l z => g_B z (hl a (z2 a (sub a ha)))⟩, nd1, h1⟩
            | mu o =>
              obtain ⟨z1, z2⟩ := sl
              rw [hu] at z1
              cases z1
              obtain ⟨f1, sub, nd1, h1, _⟩ := z2.lens ho1 rc (rel.nd i)
              exact ⟨gk, v, f1, hx, fun a ha => ⟨.inr ⟨i, sub a ha⟩, notg (sub a ha)⟩, nd1, h1⟩
      | chg =>
        cases rv with
        | va o => simp [mkSlot] at e3
        | pl i p =>
          obtain ⟨v', hv', s0, o, o1, u, hs0, hso, ho1, hu, hmu', sub, nd1, h1, bk⟩ := gm e1 e2
          rw [hv] at hv'
          cases hv'
          have es : s = .mu o1 := by
            simp only [mkSlot, hs0] at e3
            rcases hso with rfl | rfl
            · simp only [ho1] at e3; exact (Option.some.inj e3).symm
            · simp only [ho1] at e3; exact (Option.some.inj e3).symm
          subst es
          exact ⟨show (vs.map some)[k]? = some (some (vs.getD k .non)) by rw [hmu]; exact hx, show RO c.K ι _ o1 (g k) H (vs.getD k .non) by rw [hmu]; exact h1⟩
    · have hk : args.length ≤ k := List.getElem?_eq_none_iff.mp hk
      rw [(hg k).2 fun i p z => by
        have := (List.getElem?_eq_some_iff.mp z.2).1
        omega]
      rw [List.getD_eq_getElem?_getD, List.getElem?_eq_none (by omega)]
      rfl
  · intro ι' F' g' H' bs n rel' hF' go kb sm
    -- slot by slot
    have ex : ∀ i, ∃ f' : List Addr, (∀ s, st.ss[i]? = some s → SlotR c ι' (All (Un2 (fun a => All (Un2 B Fs.flatten) fp a ∧ ∀ k, a ∉ g k) F') g') (c.μ i) σ[i]? (back1 (muts ms rvs 0) bs i s) f' H') ∧ f'.Nodup ∧
        (∀ a ∈ f', (a ∈ fp i ∧ ∀ k, a ∉ g k) ∨ ∃ p k, (i, p, k) ∈ muts ms rvs 0 ∧ a ∈ g' k) ∧ ((∀ p k, (i, p, k) ∉ muts ms rvs 0) → f' = fp i) ∧ (st.ss[i]? = none → f' = []) := by
      intro i
      have kL : ∀ a, c.L a → H' a = H a := fun a ha => kb a ⟨.inl (.inl (hl a ha)), fun k z => g_B z (hl a ha)⟩
      have sm2 : Same (hidP (All (Un2 B Fs.flatten) fp) H) (hidP (All (Un2 (fun a => All (Un2 B Fs.flatten) fp a ∧ ∀ k, a ∉ g k) F') g') H') := (hidP_sub (fun a z => by
        rcases z with z | ⟨k, z⟩
        · exact z.1
        · exact g_all z)).trans sm
      by_cases hi : ∃ p k, (i, p, k) ∈ muts ms rvs 0
      · obtain ⟨p, k, hm⟩ := hi
        obtain ⟨m1, r1⟩ := of_m hm
        obtain ⟨v, hv, s, o, o1, u, hs, hso, ho1, hu, hmu, sub, nd1, h1, bk⟩ := gm m1 r1
        have hmuv : vs.getD k .non = v := by rw [List.getD_eq_getElem?_getD, hv]; rfl
        have hfind : (muts ms rvs 0).find? (fun q => decide (q.1 = i)) = some (i, p, k) := by
          cases ef : (muts ms rvs 0).find? (fun q => decide (q.1 = i)) with
          | none =>
            have := List.find?_eq_none.mp ef _ hm
            simp at this
          | some q =>
            have h1 := List.mem_of_find?_eq_some ef
            have h2 := List.find?_some ef
            obtain ⟨j, q1, q2⟩ := q
            have h2 : j = i := by simpa using h2
            subst h2
            obtain ⟨rfl, rfl⟩ := one_m hm h1
            rfl
        cases hb : Slot.muO bs[k]? with
        | none =>
          refine ⟨[], fun s' _ => ?_, List.nodup_nil, fun a ha => (nomatch ha), fun z => absurd hm (z p k), fun _ => rfl⟩
          simp only [back1, hfind, hb]
          rfl
        | some o2 =>
          have hbk : bs[k]? = some (.mu o2) := by
            cases eb : bs[k]? with
            | none => rw [eb] at hb; cases hb
            | some s2 =>
              rw [eb] at hb
              cases s2 with
              | mu o' => cases hb; rfl
              | _ => cases hb
          obtain ⟨z1, z2⟩ := rel'.sl k _ hbk
          have z2 : RO c.K ι' (All (Un2 (fun a => All (Un2 B Fs.flatten) fp a ∧ ∀ k, a ∉ g k) F') g') o2 (g' k) H' v := by rw [← hmuv]; exact z2
          obtain ⟨f', h', ndf, mem⟩ := bk z2 go (fun a ha hn => kb a ⟨.inr ⟨i, ha⟩, fun l hl' => by
              obtain ⟨q, hq⟩ := g_slot hl' ha
              obtain ⟨rfl, _⟩ := one_m hm hq
              exact hn hl'⟩) sm2 (rel'.nd k) (fun a ha hai => by
              have nL : ¬ _ := rel'.db k a ha
              by_cases hk' : ∃ l, a ∈ g l
              · obtain ⟨l, hl'⟩ := hk'
                obtain ⟨q, hq⟩ := g_slot hl' hai
                obtain ⟨rfl, _⟩ := one_m hm hq
                exact hl'
              · exact absurd (.inl ⟨.inr ⟨i, hai⟩, fun l z => hk' ⟨l, z⟩⟩) nL)
          refine ⟨f', fun s' hs' => ?_, ndf, fun a ha => ?_, fun z => absurd hm (z p k), fun z => by rw [hs] at z; cases z⟩
          · rw [hs] at hs'
            cases hs'
            simp only [back1, hfind, hb]
            rcases hso with rfl | rfl
            · exact ⟨u, hu, h'⟩
            · have := hmu rfl
              subst this
              exact ⟨hu, h'⟩
          · rcases (mem a).mp ha with ⟨z1', z2'⟩ | z
            · refine .inl ⟨z1', fun l hl' => ?_⟩
              obtain ⟨q, hq⟩ := g_slot hl' z1'
              obtain ⟨rfl, _⟩ := one_m hm hq
              exact z2' hl'
            · exact .inr ⟨p, k, hm, z⟩
      · have hi : ∀ p k, (i, p, k) ∉ muts ms rvs 0 := fun p k z => hi ⟨p, k, z⟩
        have hfind : (muts ms rvs 0).find? (fun q => decide (q.1 = i)) = none := List.find?_eq_none.mpr fun q hq => by
          obtain ⟨j, q1, q2⟩ := q
          simp only [decide_eq_true_eq]
          rintro rfl
          exact hi q1 q2 hq
        have notg : ∀ {a}, a ∈ fp i → ∀ k, a ∉ g k := fun {a} ha k hk => by
          obtain ⟨p, hp⟩ := g_slot hk ha
          exact hi p k hp
        refine ⟨fp i, fun s hs => ?_, rel.nd i, fun a ha => .inl ⟨ha, notg ha⟩, fun _ => rfl, rel.out i⟩
        simp only [back1, hfind]
        exact (rel.sl i s hs).stay go (fun a ha => kb a ⟨.inr ⟨i, ha⟩, notg ha⟩) kL sm2
    obtain ⟨fpN, hN⟩ := Classical.axiomOfChoice ex
    have inA : ∀ a, All (Un2 B F') fpN a → All (Un2 (fun a => All (Un2 B Fs.flatten) fp a ∧ ∀ k, a ∉ g k) F') g' a := fun a z => by
      rcases z with (z | z) | ⟨i, z⟩
      · exact .inl (.inl ⟨.inl (.inl z), fun k y => g_B y z⟩)
      · exact .inl (.inr z)
      · rcases (hN i).2.2.1 a z with z | ⟨p, k, hm, z⟩
        · exact .inl (.inl ⟨.inr ⟨i, z.1⟩, z.2⟩)
        · exact .inr ⟨k, z⟩
    refine ⟨fpN, ⟨by simp only [back, List.length_mapIdx]; exact rel.len, rel'.cnt, fun i => (hN i).2.1, fun i j a h1 h2 => ?_, fun i a h1 z => ?_, fun a ha => .inl (hl a ha), fun a z => ?_, fun i s hs => ?_, fun i hi => ?_⟩, inA, fun hm => ⟨?_, ?_⟩⟩
    · rcases (hN i).2.2.1 a h1 with z1 | ⟨p, k, m1, z1⟩
      · rcases (hN j).2.2.1 a h2 with z2 | ⟨q, l, m2, z2⟩
        · exact rel.dj i j a z1.1 z2.1
        · exact absurd (.inl ⟨.inr ⟨i, z1.1⟩, z1.2⟩) (rel'.db l a z2)
      · rcases (hN j).2.2.1 a h2 with z2 | ⟨q, l, m2, z2⟩
        · exact absurd (.inl ⟨.inr ⟨j, z2.1⟩, z2.2⟩) (rel'.db k a z1)
        · have := rel'.dj k l a z1 z2
          subst this
          have e1 := (of_m m1).2
          have e2 := (of_m m2).2
          rw [e1] at e2
          cases e2
          rfl
    · rcases (hN i).2.2.1 a h1 with z1 | ⟨p, k, m1, z1⟩
      · rcases z with z | z
        · exact rel.db i a z1.1 (.inl z)
        · exact hF' a z ⟨.inr ⟨i, z1.1⟩, z1.2⟩
      · rcases z with z | z
        · exact rel'.db k a z1 (.inl ⟨.inl (.inl z), fun l y => g_B y z⟩)
        · exact rel'.db k a z1 (.inr z)
    · rcases z with z | z
      · have := kb a ⟨.inl (.inl z), fun l y => g_B y z⟩
        rw [this]
        exact rel.bl a (.inl z)
      · exact rel'.bl a (.inr z)
    · have hs : (st.ss.mapIdx fun i s => back1 (muts ms rvs 0) bs i s)[i]? = some s := hs
      rw [List.getElem?_mapIdx] at hs
      obtain ⟨s0, hs0, rfl⟩ := Option.map_eq_some_iff.mp hs
      exact ((hN i).1 s0 hs0).stay (Goes.refl _) (fun _ _ => rfl) (fun _ _ => rfl) (hidP_sub inA)
    · have hi : (st.ss.mapIdx fun i s => back1 (muts ms rvs 0) bs i s)[i]? = none := hi
      rw [List.getElem?_mapIdx] at hi
      exact (hN i).2.2.2.2 (Option.map_eq_none_iff.mp hi)
    · rw [hm]
      show (st.ss.mapIdx fun i s => s) = st.ss
      apply List.ext_getElem?
      intro i
      rw [List.getElem?_mapIdx]
      cases st.ss[i]? <;> rfl
    · funext i
      exact (hN i).2.2.2.1 fun p k z => by rw [hm] at z; cases z
end
end Fv
set_option Elab.async false
set_option linter.all false
set_option maxRecDepth 100000
set_option maxHeartbeats 4000000
namespace Fv
open PySem PySem.Spec PyProof.Rows L2 RkO
open Classical
/-- a default's value -/
def D.V : D → V
  | .non => .non
  | .bl b => .bl b
  | .int i => .int i
  | .str s => .str s
  | _ => .non
@[simp] def D.isAtom : D → Bool
  | .non => true
  | .bl _ => true
  | .int _ => true
  | .str _ => true
  | _ => false
theorem atom_R {K : PySem.W.Frag} {ι : List Addr} {H : Hp} {d : D} (h : d.isAtom = true) : R K ι d H d.V := by
  cases d with
  | non => rfl
  | bl b => rfl
  | int b => rfl
  | str b => rfl
  | _ => cases h
section
variable {c : FC} {W : WX} {ι ι' : List Addr} {B : Addr → Prop} {st st' st1 st2 : ES} {σ : L2.St} {H H' H1 H2 : Hp} {fp fp' fp1 fp2 : Nat → List Addr} {F F' : List Addr} {fs : List Den} {ta : TA}
theorem RVCs.defs {A : Addr → Prop} {ds : List D} (hd : ds.all D.isAtom = true) : ∀ {rvs : List RV} {Fs : List (List Addr)} {vs : List V}, RVCs c ι A σ rvs Fs H vs → RVCs c ι A σ (rvs ++ ds.map fun d => .va (.dp d)) (Fs ++ ds.map fun _ => []) H (vs ++ ds.map D.V)
  | [], _, _, h => by
    rw [h.1, h.2]
    clear h
    induction ds with
    | nil => exact ⟨rfl, rfl⟩
    | cons d ds ih =>
      rw [List.all_cons, Bool.and_eq_true] at hd
      exact ⟨[], _, d.V, _, rfl, rfl, ⟨rfl, atom_R hd.1⟩, ih hd.2⟩
  | rv :: rvs, _, _, h => by
    obtain ⟨F1, F2, v, r, rfl, rfl, h1, h2⟩ := h
    exact ⟨F1, _, v, _, rfl, rfl, h1, RVCs.defs hd h2⟩
theorem flat_defs {Fs : List (List Addr)} {ds : List D} : (Fs ++ ds.map fun _ => ([] : List Addr)).flatten = Fs.flatten := by
  rw [List.flatten_append]
  have : (ds.map fun _ => ([] : List Addr)).flatten = [] := by
    induction ds with
    | nil => rfl
    | cons d ds ih => simpa using ih
  rw [this, List.append_nil]
/-- the callee runs -/
theorem call_ok {m : Fn} {k : Nat} {ms : List AM} {rvs : List RV} {Fs : List (List Addr)} {vs : List V} {Q : VK} (hk : ms.length = k) (hl : ∀ a, c.L a → B a) (p : Post c B fp H ι st σ st1 Fs.flatten ι' fp1 H1) (h : RVCs c ι' (All (Un2 B Fs.flatten) fp1) σ rvs Fs H1 vs)
    (gg : GoE c W B fp H ι st σ (callRV m ms rvs st1) Q) : spD c.K k m vs H1 Q (WE W σ) := by
  unfold callRV at gg
  rcases pass1_no (ms := ms) (rvs := rvs) (st := st1) with ⟨rs, st2, e⟩ | e
  · rw [e] at gg
    simp only [bind_ok] at gg
    obtain ⟨fp2, p2, h2, _⟩ := pass1_ok p h e
    cases ea : mkSlots st2 ms rs with
    | none => rw [ea] at gg; exact gg.elim
    | some args =>
      rw [ea] at gg
      simp only at gg
      by_cases ho : okM ms rs = true
      · rw [if_pos ho] at gg
        obtain ⟨L, g, hm, hBL, hLf, relC, fin⟩ := call_core p2.rel p2.fn p2.fb hl h2 ea ho
        refine ⟨ι', L, args, g, by rw [mkSlots_len2 ea, hk], relC, ?_⟩
        rw [← p2.rel.cnt] at gg
        have pm : Same (hidP (All (Un2 B Fs.flatten) fp2) H1) (hidP (All L g) H1) := hidP_sub fun a z => (hm a).mp z
        cases em : m args ι'.length with
        | no => rw [em] at gg; exact gg.elim
        | ok o bs n =>
          rw [em] at gg
          intro v H' F' ι2 g' q hro
          obtain ⟨fpN, r3, inA, stl⟩ := fin q.rel q.fb q.go q.kb q.sm
          have kb : ∀ a, B a → H' a = H a := fun a ha => (q.kb a (hBL a ha)).trans (p2.kb a ha)
          refine gg v H' F' ι2 fpN ⟨q.fn, fun a ha z => q.fb a ha (hBL a z), r3, p2.go.trans q.go, kb, ((p2.sm.trans pm).trans q.sm).trans (hidP_sub inA), fun et => ?_, ?_⟩ (RO.stay o hro (Goes.refl _) (fun _ _ => rfl) (hidP_sub inA))
          · have hmu : muts ms rs 0 = [] := by
              cases hmu : muts ms rs 0 with
              | nil => rfl
              | cons x y =>
                have : (back st2 (muts ms rs 0) bs n).t = st2.t + 1 := by rw [hmu]; rfl
                have := p2.up
                omega
            have e2 : (back st2 (muts ms rs 0) bs n).t = st2.t := by rw [hmu]; rfl
            obtain ⟨s1, s2⟩ := stl hmu
            obtain ⟨q1, q2, q3⟩ := p2.still (e2.symm.trans et)
            refine ⟨s1.trans q1, s2.trans q2, fun i a ha => ?_⟩
            have ha2 : a ∈ fp2 i := by rw [q2]; exact ha
            have hL : L a := hLf hmu i a ha2
            exact (q.kb a hL).trans (q3 i a ha)
          · have : st2.t ≤ (back st2 (muts ms rs 0) bs n).t := by
              unfold back
              split <;> simp
            exact Nat.le_trans p2.up this
        | ex C gx d bs n =>
          rw [em] at gg
          intro dx H' ι2 g' q
          have hL0 : Un2 L ([] : List Addr) = L := un2_nil rfl
          obtain ⟨fpN, r3, inA, stl⟩ := fin (F' := []) (by rw [hL0]; exact q.rel) (fun a ha => nomatch ha) q.go q.kb (by rw [hL0]; exact q.sm)
          rw [hL0] at inA
          have hB0 : Un2 B ([] : List Addr) = B := un2_nil rfl
          rw [hB0] at r3 inA
          have kb : ∀ a, B a → H' a = H a := fun a ha => (q.kb a (hBL a ha)).trans (p2.kb a ha)
          obtain ⟨u, hu, hR⟩ := q.xd
          exact gg dx H' ι2 fpN ⟨r3, p2.go.trans q.go, kb, ((p2.sm.trans pm).trans q.sm).trans (hidP_sub inA), ⟨u, hu, R.mono _ hR (Goes.refl _) (hidP_sub inA)⟩, fun z => q.nx (inA dx z)⟩
      · rw [if_neg ho] at gg
        exact gg.elim
  · rw [e] at gg
    exact gg.elim
end
end Fv
set_option Elab.async false
set_option linter.all false
set_option maxRecDepth 100000
set_option maxHeartbeats 4000000
namespace Fv
open PySem PySem.Spec PyProof.Rows L2 RkO Rx
open Classical
section
variable {c : FC} {W : WX} {ι ι' : List Addr} {B : Addr → Prop} {st st' st1 st2 : ES} {σ : L2.St} {H H' H1 H2 : Hp} {fp fp' fp1 fp2 : Nat → List Addr} {F F' : List Addr} {fs : List Den} {ta : TA} {te : TE} {fo : Den}
theorem ref_call {m : Fn} {k : Nat} {ms : List AM} {ds : List D} (hk : ms.length = k) (hd : ds.all D.isAtom = true) (ht : RefA c W ta (dArgs fs)) : RefE c W (tCallSD (spD c.K k m) (ds.map D.V) (WE W) ta) (dCall m ms ds fs) := fun B ι st σ H fp rs Q gg => by
  refine ht B ι st σ H fp rs _ ?_
  unfold dCall at gg
  cases e1 : dArgs fs st with
  | no => rw [e1] at gg; exact gg
  | ex C gx d st1 => rw [e1] at gg; exact gg
  | ok rvs st1 =>
    rw [e1] at gg
    simp only [bind_ok] at gg
    intro vs H1 F ι1 fp1 p1 h1
    obtain ⟨Fs, rfl, h2⟩ := h1.vc
    have h3 := h2.defs hd
    refine call_ok hk rs.lb (Fs := Fs ++ ds.map fun _ => []) (by rw [flat_defs]; exact p1) (by rw [flat_defs]; exact h3) gg
/-- an entry of a table of methods: the class, the def, its arguments' ways, its defaults -/
structure ME where
  C : Addr
  m : Fn
  ms : List AM
  ds : List D
@[simp] def findM (tab : List ME) (C : Addr) : Option ME := tab.find? fun e => decide (e.C = C)
/-- o.m(..): by the class of o -/
def dMeth (n : Str) (tab : List ME) (fo : Den) (fs : List Den) : Den := fun st => (fo st).bind fun r0 st1 => match pk st1 r0 with
  | some (.obj C _ flds) => if (flds.lookup n).isNone = true then match findM tab C with
      | some e => (dArgs fs st1).bind fun rvs st2 => if keep r0 st1 st2 = true then callRV e.m e.ms (r0 :: (rvs ++ e.ds.map fun d => .va (.dp d))) st2 else .no
      | none => .no
    else .no
  | _ => .no
theorem Rf.look {K : PySem.W.Frag} {n : Str} : ∀ {fs : List (Str × D)} {xs : List (Str × V)}, Rf K ι fs H xs → (fs.lookup n = none → xs.lookup n = none) ∧ ∀ d, fs.lookup n = some d → ∃ v, xs.lookup n = some v ∧ R K ι d H v
  | [], _, h => by rw [show _ = [] from h]; exact ⟨fun _ => rfl, fun d z => (by cases z)⟩
  | (k, d0) :: fs, _, h => by
    obtain ⟨x, r, rfl, h1, h2⟩ := h
    obtain ⟨i1, i2⟩ := Rf.look (n := n) h2
    by_cases hk : n = k
    · subst hk
      rw [List.lookup_cons_self, List.lookup_cons_self]
      exact ⟨fun z => (by cases z), fun d z => (by cases z; exact ⟨x, rfl, h1⟩)⟩
    · have : (n == k) = false := by simpa using hk
      rw [List.lookup_cons, List.lookup_cons, this]
      exact ⟨i1, i2⟩
theorem ref_meth {n : Str} {e : ME} {k : Nat} (hk : e.ms.length = k) (hd : e.ds.all D.isAtom = true) (ho : RefE c W te fo) (ht : RefA c W ta (dArgs fs)) : RefE c W (tMethSd e.C n (spD c.K k e.m) (e.ds.map D.V) (WE W) te ta) (dMeth n [e] fo fs) := fun B ι st σ H fp rs Q gg => by
  refine ho B ι st σ H fp rs _ ?_
  unfold dMeth at gg
  cases e1 : fo st with
  | no => rw [e1] at gg; exact gg
  | ex C gx d st1 => rw [e1] at gg; exact gg
  | ok r0 st1 =>
    rw [e1] at gg
    simp only [bind_ok] at gg
    intro v H1 F ι1 fp1 p1 h1
    split at gg
    · rename_i C nn flds ep
      split at gg
      · rename_i hn
        simp only [findM, List.find?_cons, List.find?_nil] at gg
        by_cases hC : e.C = C
        · rw [decide_eq_true hC] at gg
          simp only at gg
          have hR := rv_pk p1.rel p1.fb rs.lb (fun a h => h) h1 ep
          obtain ⟨a, dx, xs, rfl, hx, _, hf⟩ := hR
          refine ⟨a, dx, xs, rfl, by rw [hC]; exact hx, hf.look.1 (by cases z : flds.lookup n with | none => rfl | some d => rw [z] at hn; cases hn), ?_⟩
          refine ht _ ι1 st1 σ H1 fp1 p1.rel _ ?_
          cases e2 : dArgs fs st1 with
          | no => rw [e2] at gg; exact gg
          | ex C gx d st2 =>
            rw [e2] at gg
            exact fun dx H' ι' fp' q => gg dx H' ι' fp' (p1.thenX rs.lb q)
          | ok rvs st2 =>
            rw [e2] at gg
            simp only [bind_ok] at gg
            intro vs H2 F2 ι2 fp2 p2 h2
            by_cases kp : keep r0 st1 st2 = true
            · rw [if_pos kp] at gg
              have h3 := RVR.stay h1 (fun a h => h) p1.rel p2 kp
              rw [un2_app] at h2
              obtain ⟨Fs, rfl, h4⟩ := h2.vc
              have h5 := h4.defs hd
              have p3 := p1.trans p2
              refine call_ok hk rs.lb (Fs := F :: (Fs ++ e.ds.map fun _ => [])) (by rw [List.flatten_cons, flat_defs]; exact p3) ?_ gg
              rw [List.flatten_cons, flat_defs]
              exact ⟨F, _, _, _, rfl, rfl, h3.vc, h5⟩
            · rw [if_neg kp] at gg
              exact gg.elim
        · rw [decide_eq_false hC] at gg
          exact gg.elim
      · exact gg.elim
    · exact gg.elim
/-- no exception leaves -/
def quiet (f : Den) : Den := fun st => match f st with
  | .ok rv st' => .ok rv st'
  | _ => .no
/-- o.p, a property: by the class of o -/
def dProp (tab : List ME) (fo : Den) : Den := fun st => (fo st).bind fun r0 st1 => match pk st1 r0 with
  | some (.obj C _ _) => match findM tab C with
      | some e => quiet (callRV e.m e.ms (r0 :: e.ds.map fun d => .va (.dp d))) st1
      | none => .no
  | _ => .no
theorem quiet_go {f : Den} {out : Out RV} {Q : VK} (g : GoE c W B fp H ι st σ (quiet f st1) Q) : GoE c (fun _ _ _ _ => False) B fp H ι st σ (f st1) Q := by
  unfold quiet at g
  cases e : f st1 with
  | ok rv st' => rw [e] at g; exact g
  | no => rw [e] at g; exact g
  | ex C gx d s => rw [e] at g; exact g.elim
theorem ref_prop {e : ME} {k : Nat} (hk : e.ms.length = k) (hd : e.ds.all D.isAtom = true) (ho : RefE c W te fo) : RefE c W (tProp e.C (spD c.K k e.m) (e.ds.map D.V) E0 te) (dProp [e] fo) := fun B ι st σ H fp rs Q gg => by
  refine ho B ι st σ H fp rs _ ?_
  unfold dProp at gg
  cases e1 : fo st with
  | no => rw [e1] at gg; exact gg
  | ex C gx d st1 => rw [e1] at gg; exact gg
  | ok r0 st1 =>
    rw [e1] at gg
    simp only [bind_ok] at gg
    intro v H1 F ι1 fp1 p1 h1
    split at gg
    · rename_i C nn flds ep
      simp only [findM, List.find?_cons, List.find?_nil] at gg
      by_cases hC : e.C = C
      · rw [decide_eq_true hC] at gg
        simp only at gg
        have hR := rv_pk p1.rel p1.fb rs.lb (fun a h => h) h1 ep
        obtain ⟨a, dx, xs, rfl, hx, _, hf⟩ := hR
        refine ⟨a, dx, xs, rfl, by rw [hC]; exact hx, ?_⟩
        have gg := quiet_go (out := .no) gg
        have h5 : RVCs c ι1 (All (Un2 B F) fp1) σ (r0 :: e.ds.map fun d => .va (.dp d)) (F :: e.ds.map fun _ => []) H1 (V.ref a :: e.ds.map D.V) := ⟨F, _, _, _, rfl, rfl, h1.vc, RVCs.defs (rvs := []) (Fs := []) (vs := []) hd ⟨rfl, rfl⟩⟩
        have hfl : (F :: e.ds.map fun _ => ([] : List Addr)).flatten = F := by
          have := flat_defs (Fs := [F]) (ds := e.ds)
          simpa using this
        exact call_ok (W := fun _ _ _ _ => False) hk rs.lb (by rw [hfl]; exact p1) (by rw [hfl]; exact h5) gg
      · rw [decide_eq_false hC] at gg
        exact gg.elim
    · exact gg.elim
/-- o.f: what an instance's field holds -/
def dFld (ok : List Addr) (n : Str) (fo : Den) : Den := fun st => (fo st).bind fun r0 st1 => match r0 with
  | .va o => match o.toD with
    | .obj C _ flds => if C ∈ ok then match flds.lookup n with
        | some d => .ok (.va (.dp d)) st1
        | none => .no
      else .no
    | _ => .no
  | .pl i p => match here st1 i p with
    | some (.obj C _ flds) => if C ∈ ok then match flds.lookup n with
        | some (.dp d) => .ok (.va (.dp d)) st1
        | some _ => .ok (.pl i (p ++ [.fld n])) st1
        | none => .no
      else .no
    | _ => .no
theorem Reach.snoc {n : Str} {v w : V} {a C dx : Addr} {fs : List (Str × V)} : ∀ {p : List Stp} {u : V}, Reach H p u v → v = .ref a → H a = some (.ins C dx fs) → fs.lookup n = some w → Reach H (p ++ [.fld n]) u w
  | [], u, h, e, h1, h2 => by
    cases (show u = v from h)
    exact ⟨a, C, dx, fs, w, e, h1, h2, rfl⟩
  | .idx k :: p, u, h, e, h1, h2 => by
    obtain ⟨b, xs, w', r1, r2, r3, r4⟩ := h
    exact ⟨b, xs, w', r1, r2, r3, Reach.snoc r4 e h1 h2⟩
  | .fld f :: p, u, h, e, h1, h2 => by
    obtain ⟨b, C', dx', fs', w', r1, r2, r3, r4⟩ := h
    exact ⟨b, C', dx', fs', w', r1, r2, r3, Reach.snoc r4 e h1 h2⟩
theorem get_snoc {s : Stp} : ∀ {p : List Stp} {o o1 : O}, o.get p = some o1 → o.get (p ++ [s]) = o1.at s
  | [], o, o1, h => by
    cases h
    show (match o.at s with | some o' => o'.get [] | none => none) = o.at s
    cases o.at s <;> rfl
  | t :: p, o, o1, h => by
    simp only [O.get, List.cons_append] at h ⊢
    cases e : o.at t with
    | none => rw [e] at h; cases h
    | some o' => rw [e] at h; exact get_snoc h
theorem here_get {i : Nat} {p : List Stp} {o1 : O} (h : here st i p = some o1) : ∃ s o, st.ss[i]? = some s ∧ s.o? = some o ∧ o.get p = some o1 := by
  unfold here at h
  cases e : st.ss[i]? with
  | none => rw [e] at h; cases h
  | some s =>
    rw [e] at h
    simp only at h
    cases e2 : s.o? with
    | none => rw [e2] at h; cases h
    | some o => rw [e2] at h; exact ⟨s, o, rfl, e2, h⟩
theorem ref_fld {ok : List Addr} {n : Str} (hok : ∀ C ∈ ok, Cls c.K C ∧ NoAttr c.K C n) (ho : RefE c W te fo) : RefE c W (tFld c.K te n) (dFld ok n fo) := fun B ι st σ H fp rs Q gg => by
  refine ho B ι st σ H fp rs _ ?_
  unfold dFld at gg
  cases e1 : fo st with
  | no => rw [e1] at gg; exact gg
  | ex C gx d st1 => rw [e1] at gg; exact gg
  | ok r0 st1 =>
    rw [e1] at gg
    simp only [bind_ok] at gg
    intro v H1 F ι1 fp1 p1 h1
    cases r0 with
    | va o =>
      simp only at gg
      split at gg
      · rename_i C nn flds eo
        split at gg
        · rename_i hC
          split at gg
          · rename_i d ed
            have hR := rv_give p1.rel p1.fb (fun a h => h) h1
            rw [eo] at hR
            obtain ⟨a, dx, xs, rfl, hx, _, hf⟩ := hR
            obtain ⟨w, hw, rw'⟩ := hf.look.2 d ed
            have p2 := p1.drop rs.lb
            exact ⟨a, C, dx, xs, w, rfl, hidP_le _ _ hx, (hok C hC).1, (hok C hC).2, hw, gg w H1 [] ι1 fp1 p2 ⟨rfl, by rw [un2_nil rfl]; exact rw'⟩⟩
          · exact gg.elim
        · exact gg.elim
      · exact gg.elim
    | pl i p =>
      simp only at gg
      obtain ⟨rfl, u, hu, rc, _⟩ := h1
      split at gg
      · rename_i C nn flds eh
        split at gg
        · rename_i hC
          obtain ⟨f1, h2⟩ := p1.rel.here_ok eh hu rc
          obtain ⟨a, r, dx, xs, _, rfl, hx, _, hf⟩ := h2
          split at gg
          · rename_i d ed
            obtain ⟨q1, qk, q2, w, _, hw, hk, _⟩ := hf.at ed
            exact ⟨a, C, dx, xs, w, rfl, hx, (hok C hC).1, (hok C hC).2, hw, gg w H1 [] ι1 fp1 p1 ⟨rfl, hk.2⟩⟩
          · rename_i o' hn ed
            obtain ⟨q1, qk, q2, w, _, hw, hk, _⟩ := hf.at ed
            obtain ⟨s, oo, w1, w2, w3⟩ := here_get eh
            refine ⟨a, C, dx, xs, w, rfl, hx, (hok C hC).1, (hok C hC).2, hw, gg w H1 [] ι1 fp1 p1 ⟨rfl, u, hu, rc.snoc rfl hx hw, fun _ => ⟨s, oo, o', w1, w2, ?_⟩⟩⟩
            rw [get_snoc w3]
            exact ed
          · exact gg.elim
        · exact gg.elim
      · exact gg.elim
/-- shared from now on -/
def dFz (f : Den) : Den := fun st => (f st).bind fun rv st1 => (settle rv st1).bind fun o st2 => .ok (.va (.dp o.toD)) st2
theorem ref_fz (h : RefE c W te fo) : RefE c W te (dFz fo) := fun B ι st σ H fp rs Q gg => by
  refine h B ι st σ H fp rs Q ?_
  unfold dFz at gg
  cases e1 : fo st with
  | no => rw [e1] at gg; exact gg
  | ex C gx d st1 => rw [e1] at gg; exact gg
  | ok r0 st1 =>
    rw [e1] at gg
    simp only [bind_ok] at gg
    intro v H1 F ι1 fp1 p1 h1
    have := settles_no (rvs := [r0]) (st := st1)
    simp only [settles] at this
    cases e2 : settle r0 st1 with
    | no => rw [e2] at gg; exact gg.elim
    | ex C gx d s => rw [e2] at this; rcases this with ⟨_, _, z⟩ | z <;> cases z
    | ok o st2 =>
      rw [e2] at gg
      simp only [bind_ok] at gg
      obtain ⟨fp2, p2, h2, _⟩ := settle_ok p1 (fun a h => h) h1 e2
      have p3 := p2.drop rs.lb
      exact gg v H1 [] ι1 fp2 p3 ⟨rfl, by rw [un2_nil rfl]; exact rv_give p2.rel p2.fb (fun a h => h) h2⟩
end
end Fv
set_option Elab.async false
set_option linter.all false
set_option maxRecDepth 100000
set_option maxHeartbeats 4000000
namespace Fv
open PySem PySem.Spec PyProof.Rows L2 RkO Rx
open Classical
inductive SOut where
  | nx (st : ES) | rt (rv : RV) (st : ES) | bk (st : ES) | ct (st : ES) | ex (C : Addr) (g : Str) (d : D) (st : ES) | no
abbrev SDen := ES → SOut
structure PostS (c : FC) (B : Addr → Prop) (fp : Nat → List Addr) (H : Hp) (ι : List Addr) (F : List Addr) (st' : ES) (σ' : L2.St) (ι' : List Addr) (fp' : Nat → List Addr) (H' : Hp) : Prop where
  fn : F.Nodup
  fb : ∀ a ∈ F, ¬ B a
  rel : RelS c ι' (Un2 B F) st' σ' H' fp'
  go : Goes ι ι'
  kb : ∀ a, B a → H' a = H a
  sm : Same (hidP (All B fp) H) (hidP (All (Un2 B F) fp') H')
def GoS (c : FC) (W : WX) (B : Addr → Prop) (fp : Nat → List Addr) (H : Hp) (ι : List Addr) (out : SOut) (D : Ends) : Prop := match out with
  | .nx st' => ∀ σ' H' ι' fp', PostS c B fp H ι [] st' σ' ι' fp' H' → D.nx σ' H'
  | .bk st' => ∀ σ' H' ι' fp', PostS c B fp H ι [] st' σ' ι' fp' H' → D.bk σ' H'
  | .ct st' => ∀ σ' H' ι' fp', PostS c B fp H ι [] st' σ' ι' fp' H' → D.ct σ' H'
  | .rt rv st' => ∀ v σ' H' F ι' fp', PostS c B fp H ι F st' σ' ι' fp' H' → RVR c ι' (All (Un2 B F) fp') st' σ' rv F H' v → D.rt v H'
  | .ex C g d st' => ∀ dx σ' H' ι' fp', PostX c B fp H ι σ' g d st' dx ι' fp' H' → W (.ref C) (some dx) σ' H'
  | .no => False
def RefS (c : FC) (W : WX) (t : TS) (f : SDen) : Prop := ∀ B ι st σ H fp, RelS c ι B st σ H fp → ∀ D, GoS c W B fp H ι (f st) D → t D σ H
def tDS (c : FC) (W : WX) (f : SDen) : TS := fun D σ H => ∃ B ι st fp, RelS c ι B st σ H fp ∧ GoS c W B fp H ι (f st) D
def SS (X : Cx) (c : FC) (W : WX) (s : Stmt) (f : SDen) : Prop := PS X s (tDS c W f)
def SSs (X : Cx) (c : FC) (W : WX) (s : List Stmt) (f : SDen) : Prop := PSs X s (tDS c W f)
section
variable {c : FC} {W : WX} {ι ι' ι1 : List Addr} {B : Addr → Prop} {st st' st1 st2 : ES} {σ σ' σ1 : L2.St} {H H' H1 H2 : Hp} {fp fp' fp1 fp2 : Nat → List Addr} {F F' : List Addr} {fs : List Den} {ta : TA} {te : TE} {f g : SDen} {fe : Den} {t u : TS}
theorem ref_tDS : RefS c W (tDS c W f) f := fun B ι st σ H fp r D g => ⟨B, ι, st, fp, r, g⟩
theorem ss_of {X : Cx} {s : Stmt} (h : PS X s t) (r : RefS c W t f) : SS X c W s f := ⟨fun pins s σ H D I ⟨B, ι, st, fp, rs, g⟩ => h.run pins s σ H D I (r B ι st σ H fp rs D g)⟩
theorem sss_of {X : Cx} {s : List Stmt} (h : PSs X s t) (r : RefS c W t f) : SSs X c W s f := ⟨fun pins s σ H D I ⟨B, ι, st, fp, rs, g⟩ => h.run pins s σ H D I (r B ι st σ H fp rs D g)⟩
theorem Post.s (p : Post c B fp H ι st σ st' F ι' fp' H') : PostS c B fp H ι F st' σ ι' fp' H' := ⟨p.fn, p.fb, p.rel, p.go, p.kb, p.sm⟩
theorem PostS.rel0 (p : PostS c B fp H ι [] st' σ' ι' fp' H') : RelS c ι' B st' σ' H' fp' := by
  have := p.rel
  rwa [un2_nil rfl] at this
theorem PostS.refl (r : RelS c ι B st σ H fp) : PostS c B fp H ι [] st σ ι fp H := (Post.refl r).s
theorem PostS.trans (p : PostS c B fp H ι [] st1 σ1 ι1 fp1 H1) (q : PostS c B fp1 H1 ι1 F st' σ' ι' fp' H') : PostS c B fp H ι F st' σ' ι' fp' H' where
  fn := q.fn
  fb := q.fb
  rel := q.rel
  go := p.go.trans q.go
  kb := fun a h => (q.kb a h).trans (p.kb a h)
  sm := by
    have := p.sm
    rw [un2_nil rfl] at this
    exact this.trans q.sm
theorem PostS.thenX {gg : Str} {d : D} {dx : Addr} (p : PostS c B fp H ι [] st1 σ1 ι1 fp1 H1) (q : PostX c B fp1 H1 ι1 σ' gg d st' dx ι' fp' H') : PostX c B fp H ι σ' gg d st' dx ι' fp' H' where
  rel := q.rel
  go := p.go.trans q.go
  kb := fun a h => (q.kb a h).trans (p.kb a h)
  sm := by
    have := p.sm
    rw [un2_nil rfl] at this
    exact this.trans q.sm
  xd := q.xd
  nx := q.nx
theorem GoS.then_ {out : SOut} {D : Ends} (p : PostS c B fp H ι [] st1 σ1 ι1 fp1 H1) (g : GoS c W B fp H ι out D) : GoS c W B fp1 H1 ι1 out D := by
  cases out with
  | nx st' => exact fun σ' H' ι' fp' q => g σ' H' ι' fp' (p.trans q)
  | bk st' => exact fun σ' H' ι' fp' q => g σ' H' ι' fp' (p.trans q)
  | ct st' => exact fun σ' H' ι' fp' q => g σ' H' ι' fp' (p.trans q)
  | rt rv st' => exact fun v σ' H' F ι' fp' q h => g v σ' H' F ι' fp' (p.trans q) h
  | ex C gx d st' => exact fun dx σ' H' ι' fp' q => g dx σ' H' ι' fp' (p.thenX q)
  | no => exact g
/-- an expression's outcome, taken on -/
def onE {α : Type} (x : Out α) (k : α → ES → SOut) : SOut := match x with
  | .ok a st => k a st
  | .ex C g d st => .ex C g d st
  | .no => .no
@[simp] theorem onE_ok {α : Type} (a : α) (st : ES) (k : α → ES → SOut) : onE (.ok a st) k = k a st := rfl
@[simp] theorem onE_ex {α : Type} (C : Addr) (g : Str) (d : D) (st : ES) (k : α → ES → SOut) : onE (.ex C g d st) k = .ex C g d st := rfl
@[simp] theorem onE_no {α : Type} (k : α → ES → SOut) : onE .no k = .no := rfl
def sNx : SDen := fun st => .nx st
def sSeq (f g : SDen) : SDen := fun st => match f st with
  | .nx st' => g st'
  | r => r
theorem ref_nx : RefS c W tNext sNx := fun B ι st σ H fp r D g => g σ H ι fp (PostS.refl r)
theorem ref_seq (hf : RefS c W t f) (hg : RefS c W u g) : RefS c W (tSeq t u) (sSeq f g) := fun B ι st σ H fp r D gg => by
  refine hf B ι st σ H fp r _ ?_
  unfold sSeq at gg
  cases e : f st with
  | nx st1 =>
    rw [e] at gg
    intro σ1 H1 ι1 fp1 p1
    exact hg B ι1 st1 σ1 H1 fp1 p1.rel0 D (gg.then_ p1)
  | bk st1 => rw [e] at gg; exact gg
  | ct st1 => rw [e] at gg; exact gg
  | rt rv st1 => rw [e] at gg; exact gg
  | ex C gx d st1 => rw [e] at gg; exact gg
  | no => rw [e] at gg; exact gg
def sExpr (f : Den) : SDen := fun st => onE (f st) fun _ st' => .nx st'
def sRet (f : Den) : SDen := fun st => onE (f st) fun rv st' => .rt rv st'
def sRetN : SDen := fun st => .rt (.va (.dp .non)) st
theorem ref_expr (h : RefE c W te fe) : RefS c W (tDrop te) (sExpr fe) := fun B ι st σ H fp r D gg => by
  refine h B ι st σ H fp r _ ?_
  unfold sExpr at gg
  cases e : fe st with
  | no => rw [e] at gg; exact gg
  | ex C gx d st1 => rw [e] at gg; exact fun dx H' ι' fp' q => gg dx σ H' ι' fp' q
  | ok rv st1 =>
    rw [e] at gg
    intro v H1 F ι1 fp1 p1 _
    exact gg σ H1 ι1 fp1 (p1.drop r.lb).s
theorem ref_ret (h : RefE c W te fe) : RefS c W (tRet te) (sRet fe) := fun B ι st σ H fp r D gg => by
  refine h B ι st σ H fp r _ ?_
  unfold sRet at gg
  cases e : fe st with
  | no => rw [e] at gg; exact gg
  | ex C gx d st1 => rw [e] at gg; exact fun dx H' ι' fp' q => gg dx σ H' ι' fp' q
  | ok rv st1 =>
    rw [e] at gg
    intro v H1 F ι1 fp1 p1 hv
    exact gg v σ H1 F ι1 fp1 p1.s hv
def sIf (t : ES → Out Bool) (f g : SDen) : SDen := fun st => onE (t st) fun b st' => if b = true then f st' else g st'
theorem ref_ifS {tt : TT} {ft : ES → Out Bool} (h : RefT c W tt ft) (hf : RefS c W t f) (hg : RefS c W u g) : RefS c W (tIfS tt t u) (sIf ft f g) := fun B ι st σ H fp r D gg => by
  refine h B ι st σ H fp r _ ?_
  unfold sIf at gg
  cases e : ft st with
  | no => rw [e] at gg; exact gg
  | ex C gx d st1 => rw [e] at gg; exact fun dx H' ι' fp' q => gg dx σ H' ι' fp' q
  | ok b st1 =>
    rw [e] at gg
    simp only [onE_ok] at gg
    intro H1 ι1 fp1 p1
    cases b with
    | true =>
      rw [if_pos rfl] at gg ⊢
      exact hf B ι1 st1 σ H1 fp1 p1.rel0 D (gg.then_ p1.s)
    | false =>
      rw [if_neg (by decide)] at gg ⊢
      exact hg B ι1 st1 σ H1 fp1 p1.rel0 D (gg.then_ p1.s)
def free (s : Option Slot) : Bool := match s with
  | some (.mu _) => false
  | some _ => true
  | none => false
def put (st : ES) (i : Nat) (o : O) : ES := { st with ss := st.ss.set i (.ow o) }
theorem put_ok {o : O} {v : V} {i : Nat} (p : PostS c B fp H ι F st1 σ ι1 fp1 H1) (h : RO c.K ι1 (All (Un2 B F) fp1) o F H1 v) (hl : ∀ a, c.L a → B a) (hf : free st1.ss[i]? = true) : PostS c B fp H ι [] (put st1 i o) (σ.set i (some v)) ι1 (fset fp1 i F) H1 := by
  have hi : i < st1.ss.length := by
    cases e : st1.ss[i]? with
    | none => rw [e] at hf; cases hf
    | some s => exact (List.getElem?_eq_some_iff.mp e).1
  have hσ : i < σ.length := by rw [← p.rel.len]; exact hi
  have sub : ∀ a, All B (fset fp1 i F) a → All (Un2 B F) fp1 a := fun a z => by
    rcases z with z | ⟨j, z⟩
    · exact .inl (.inl z)
    · by_cases hj : j = i
      · rw [hj, fset_same] at z; exact .inl (.inr z)
      · rw [fset_ne hj] at z; exact .inr ⟨j, z⟩
  refine ⟨List.nodup_nil, fun _ h => (nomatch h), ?_, p.go, p.kb, by rw [un2_nil rfl]; exact p.sm.trans (hidP_sub sub)⟩
  rw [un2_nil rfl]
  refine ⟨by show (st1.ss.set i _).length = _; rw [List.length_set, List.length_set]; exact p.rel.len, p.rel.cnt, fun j => ?_, fun j k a h1 h2 => ?_, fun j a h1 z => ?_, hl, fun a z => p.rel.bl a (.inl z), fun j s hs => ?_, fun j hj => ?_⟩
  · by_cases hj : j = i
    · rw [hj, fset_same]; exact p.fn
    · rw [fset_ne hj]; exact p.rel.nd j
  · by_cases hj : j = i
    · by_cases hk : k = i
      · rw [hj, hk]
      · rw [hj, fset_same] at h1
        rw [fset_ne hk] at h2
        exact absurd (.inr h1) (p.rel.db k a h2)
    · by_cases hk : k = i
      · rw [hk, fset_same] at h2
        rw [fset_ne hj] at h1
        exact absurd (.inr h2) (p.rel.db j a h1)
      · rw [fset_ne hj] at h1
        rw [fset_ne hk] at h2
        exact p.rel.dj j k a h1 h2
  · by_cases hj : j = i
    · rw [hj, fset_same] at h1; exact p.fb a h1 z
    · rw [fset_ne hj] at h1; exact p.rel.db j a h1 (.inl z)
  · have hs : (st1.ss.set i (.ow o))[j]? = some s := hs
    by_cases hj : j = i
    · subst hj
      rw [List.getElem?_set_self hi] at hs
      cases hs
      rw [fset_same]
      exact ⟨v, by rw [List.getElem?_set_self hσ], h.stay _ (Goes.refl _) (fun _ _ => rfl) (hidP_sub sub)⟩
    · rw [List.getElem?_set_ne (Ne.symm hj)] at hs
      rw [fset_ne hj, List.getElem?_set_ne (Ne.symm hj)]
      exact (p.rel.sl j s hs).stay (Goes.refl _) (fun _ _ => rfl) (fun _ _ => rfl) (hidP_sub sub)
  · have hj : (st1.ss.set i (.ow o))[j]? = none := hj
    have hne : j ≠ i := fun z => by
      subst z
      rw [List.getElem?_set_self hi] at hj
      cases hj
    rw [List.getElem?_set_ne (Ne.symm hne)] at hj
    rw [fset_ne hne]
    exact p.rel.out j hj
/-- the value kept -/
def keepE (x : Out RV) (k : O → ES → SOut) : SOut := onE x fun rv st1 => onE (settle rv st1) k
def sSet (i : Nat) (f : Den) : SDen := fun st => keepE (f st) fun o st2 => if free st2.ss[i]? = true then .nx (put st2 i o) else .no
/-- the value of an expression, kept: what follows -/
theorem kept (h : RefE c W te fe) (r : RelS c ι B st σ H fp) {k : O → ES → SOut} {D : Ends} {Q : VK} (gg : GoS c W B fp H ι (keepE (fe st) k) D)
    (go : ∀ v H' F ι' fp' o st', Post c B fp H ι st σ st' F ι' fp' H' → RO c.K ι' (All (Un2 B F) fp') o F H' v → GoS c W B fp H ι (k o st') D → Q v H') : te σ H Q := by
  refine h B ι st σ H fp r _ ?_
  unfold keepE at gg
  cases e : fe st with
  | no => rw [e] at gg; exact gg
  | ex C gx d st1 => rw [e] at gg; exact fun dx H' ι' fp' q => gg dx σ H' ι' fp' q
  | ok rv st1 =>
    rw [e] at gg
    simp only [onE_ok] at gg
    intro v H1 F ι1 fp1 p1 hv
    have := settles_no (rvs := [rv]) (st := st1)
    simp only [settles] at this
    cases e2 : settle rv st1 with
    | no => rw [e2] at gg; exact gg.elim
    | ex C gx d s => rw [e2] at this; rcases this with ⟨_, _, z⟩ | z <;> cases z
    | ok o st2 =>
      rw [e2] at gg
      simp only [onE_ok] at gg
      obtain ⟨fp2, p2, h2, _⟩ := settle_ok p1 (fun a h => h) hv e2
      exact go v H1 F ι1 fp2 o st2 p2 h2 gg
theorem ref_set {i : Nat} (h : RefE c W te fe) : RefS c W (tAsg te (gName i)) (sSet i fe) := fun B ι st σ H fp r D gg => by
  refine kept h r (k := fun o st2 => if free st2.ss[i]? = true then .nx (put st2 i o) else .no) gg fun v H' F ι' fp' o st' p ho gg => ?_
  by_cases hf : free st'.ss[i]? = true
  · rw [if_pos hf] at gg
    exact gg _ H' ι' _ (put_ok p.s ho r.lb hf)
  · rw [if_neg hf] at gg
    exact gg.elim
end
end Fv
set_option Elab.async false
set_option linter.all false
set_option maxRecDepth 100000
set_option maxHeartbeats 4000000
namespace Fv
open PySem PySem.Spec PyProof.Rows L2 RkO Rx
open Classical
inductive Tg where
  | nm (i : Nat) | tp (ts : List Tg)
mutual
def tgS : Tg → D → ES → Option ES
  | .nm i => fun d st => if free st.ss[i]? = true then some (put st i (.dp d)) else none
  | .tp ts => fun d st => match d with
    | .tup ds => tgSs ts ds st
    | _ => none
def tgSs : List Tg → List D → ES → Option ES
  | [] => fun ds st => match ds with
    | [] => some st
    | _ :: _ => none
  | t :: ts => fun ds st => match ds with
    | [] => none
    | d :: ds => match tgS t d st with
      | some st1 => tgSs ts ds st1
      | none => none
end
mutual
def Tg.slots : Tg → List Nat
  | .nm i => [i]
  | .tp ts => slotsL ts
def slotsL : List Tg → List Nat
  | [] => []
  | t :: ts => t.slots ++ slotsL ts
end
def RefG (c : FC) (g : TG) (tg : Tg) : Prop := ∀ B ι st σ H fp d x st' (Q : L2.St → Hp → Prop), RelS c ι B st σ H fp → R c.K ι d (hidP (All B fp) H) x → tgS tg d st = some st' →
  (∀ σ' ι' fp', PostS c B fp H ι [] st' σ' ι' fp' H → (∀ j, j ∉ tg.slots → σ'[j]? = σ[j]?) → σ'.length = σ.length → Q σ' H) → g x σ H Q
def RefGs (c : FC) (g : TGs) (tg : List Tg) : Prop := ∀ B ι st σ H fp ds xs st' (Q : L2.St → Hp → Prop), RelS c ι B st σ H fp → Rs c.K ι ds (hidP (All B fp) H) xs → tgSs tg ds st = some st' →
  (∀ σ' ι' fp', PostS c B fp H ι [] st' σ' ι' fp' H → (∀ j, j ∉ slotsL tg → σ'[j]? = σ[j]?) → σ'.length = σ.length → Q σ' H) → g xs σ H Q
section
variable {c : FC} {W : WX} {ι ι' ι1 : List Addr} {B : Addr → Prop} {st st' st1 st2 : ES} {σ σ' σ1 : L2.St} {H H' H1 H2 : Hp} {fp fp' fp1 fp2 : Nat → List Addr} {F F' : List Addr}
theorem ref_gname {i : Nat} : RefG c (gName i) (.nm i) := fun B ι st σ H fp d x st' Q r h e q => by
  simp only [tgS] at e
  split at e
  · rename_i hf
    cases e
    exact q _ ι _ (put_ok (F := []) (PostS.refl r) (by rw [un2_nil rfl]; exact ⟨rfl, h⟩) r.lb hf) (fun j hj => List.getElem?_set_ne fun z => hj (by rw [← z]; exact List.mem_singleton.mpr rfl)) (List.length_set)
  · cases e
theorem ref_gnil : RefGs c gNil [] := fun B ι st σ H fp ds xs st' Q r h e q => by
  cases ds with
  | nil =>
    cases e
    exact ⟨h, q σ ι fp (PostS.refl r) (fun _ _ => rfl) rfl⟩
  | cons d ds => cases e
theorem ref_gcons {g : TG} {gs : TGs} {t : Tg} {ts : List Tg} (h1 : RefG c g t) (h2 : RefGs c gs ts) : RefGs c (gCons g gs) (t :: ts) := fun B ι st σ H fp ds xs st' Q r h e q => by
  cases ds with
  | nil => cases e
  | cons d ds =>
    obtain ⟨x, rr, rfl, a1, a2⟩ := h
    simp only [tgSs] at e
    cases e1 : tgS t d st with
    | none => rw [e1] at e; cases e
    | some st1 =>
      rw [e1] at e
      refine ⟨x, rr, rfl, h1 B ι st σ H fp d x st1 _ r a1 e1 fun σ1 ι1 fp1 p1 f1 l1 => ?_⟩
      have sm := p1.sm
      rw [un2_nil rfl] at sm
      exact h2 B ι1 st1 σ1 H fp1 ds rr st' Q p1.rel0 (Rs.mono _ a2 p1.go sm) e fun σ' ι' fp' p2 f2 l2 => q σ' ι' fp' (p1.trans p2) (fun j hj => (f2 j fun z => hj (List.mem_append_right _ z)).trans (f1 j fun z => hj (List.mem_append_left _ z))) (l2.trans l1)
theorem ref_gtup {n : Nat} {gs : TGs} {ts : List Tg} (hn : ts.length = n) (h : RefGs c gs ts) : RefG c (gTup c.K n gs) (.tp ts) := fun B ι st σ H fp d x st' Q r hd e q => by
  cases d with
  | tup ds =>
    obtain ⟨a, xs, rfl, h1, h2⟩ := hd
    have len : ∀ {ts : List Tg} {ds : List D} {st st' : ES}, tgSs ts ds st = some st' → ds.length = ts.length := by
      intro ts
      induction ts with
      | nil => intro ds st st' e; cases ds with
        | nil => rfl
        | cons d ds => cases e
      | cons t ts ih => intro ds st st' e; cases ds with
        | nil => cases e
        | cons d ds =>
          simp only [tgSs] at e
          cases e1 : tgS t d st with
          | none => rw [e1] at e; cases e
          | some s1 => rw [e1] at e; rw [List.length_cons, List.length_cons, ih e]
    refine ⟨a, xs, rfl, tupS (hidP_le _ _ h1), by rw [h2.len, len e, hn], h B ι st σ H fp ds xs st' Q r h2 e q⟩
  | _ => cases e
/-- a, b = value -/
def sUnp (tg : Tg) (f : Den) : SDen := fun st => keepE (f st) fun o st2 => match o with
  | .dp d => match tgS tg d st2 with
    | some st3 => .nx st3
    | none => .no
  | _ => .no
theorem ref_unp {te : TE} {fe : Den} {g : TG} {tg : Tg} (h : RefE c W te fe) (hg : RefG c g tg) : RefS c W (tAsg te g) (sUnp tg fe) := fun B ι st σ H fp r D gg => by
  refine kept h r (k := fun o st2 => match o with
    | .dp d => match tgS tg d st2 with
      | some st3 => .nx st3
      | none => .no
    | _ => .no) gg fun v H' F ι' fp' o st' p ho gg => ?_
  cases o with
  | dp d =>
    simp only at gg
    obtain ⟨rfl, hd⟩ := ho
    split at gg
    · rename_i st3 e3
      rw [un2_nil rfl] at hd
      exact hg B ι' st' σ H' fp' d v st3 _ p.rel0 hd e3 fun σ' ι2 fp2 p2 _ _ => gg σ' H' ι2 fp2 (p.s.trans p2)
    · exact gg.elim
  | _ => exact gg.elim
end
structure ItOk (K : PySem.W.Frag) (J : It) (ds : List D) (P : List Addr → Hp → Prop) : Prop where
  mono : ∀ ι ι' Hm Hm', P ι Hm → Goes ι ι' → Same Hm Hm' → P ι' Hm'
  stop : ∀ ι A H, P ι (hidP A H) → J.stop ds.length H
  go : ∀ i ι A H, P ι (hidP A H) → i < ds.length → J.go i H
  yld : ∀ i ι A H x H' d, P ι (hidP A H) → (∀ a, A a → ∃ o, H a = some o) → ds[i]? = some d → J.yld i H x H' → Same H H' ∧ R K ι d (hidP A H') x
def GoI (c : FC) (W : WX) (B : Addr → Prop) (fp : Nat → List Addr) (H : Hp) (ι : List Addr) (st0 : ES) (σ : L2.St) (out : Out (List D)) (Q : It → Hp → Prop) : Prop := match out with
  | .ok ds st' => ∀ J H' ι' fp' P, Post c B fp H ι st0 σ st' [] ι' fp' H' → ItOk c.K J ds P → P ι' (hidP (All B fp') H') → Q J H'
  | .ex C g d st' => ∀ dx H' ι' fp', PostX c B fp H ι σ g d st' dx ι' fp' H' → W (.ref C) (some dx) σ H'
  | .no => False
def RefI (c : FC) (W : WX) (wi : TI) (it : ES → Out (List D)) : Prop := ∀ B ι st σ H fp, RelS c ι B st σ H fp → ∀ Q, GoI c W B fp H ι st σ (it st) Q → wi σ H Q
/-- over a list, a tuple, a text's signs -/
def itV (k : D → Option (List D)) (f : Den) : ES → Out (List D) := fun st => (f st).bind fun rv st1 => (settle rv st1).bind fun o st2 => match k o.toD with
  | some ds => .ok ds st2
  | none => .no
def kLst : D → Option (List D)
  | .lst ds => some ds
  | _ => none
def kTup : D → Option (List D)
  | .tup ds => some ds
  | _ => none
def kStr : D → Option (List D)
  | .str z => if z.length ≤ 100000 then some (z.cps.toList.map fun c => .str ⟨#[c]⟩) else none
  | _ => none
section
variable {c : FC} {W : WX} {ι ι' ι1 : List Addr} {B : Addr → Prop} {st st' st1 st2 : ES} {σ σ' σ1 : L2.St} {H H' H1 H2 : Hp} {fp fp' fp1 fp2 : Nat → List Addr} {F F' : List Addr} {te : TE} {fe : Den}
theorem it_kept {k : D → Option (List D)} (h : RefE c W te fe) (r : RelS c ι B st σ H fp) {Q : It → Hp → Prop} (gg : GoI c W B fp H ι st σ (itV k fe st) Q) {Q' : VK}
    (go : ∀ v H' ι' fp' d ds st', Post c B fp H ι st σ st' [] ι' fp' H' → R c.K ι' d (hidP (All B fp') H') v → k d = some ds → GoI c W B fp H ι st σ (.ok ds st') Q → Q' v H') : te σ H Q' := by
  refine h B ι st σ H fp r _ ?_
  unfold itV at gg
  cases e : fe st with
  | no => rw [e] at gg; exact gg
  | ex C gx d st1 => rw [e] at gg; exact fun dx H' ι' fp' q => gg dx H' ι' fp' q
  | ok rv st1 =>
    rw [e] at gg
    simp only [bind_ok] at gg
    intro v H1 F ι1 fp1 p1 hv
    have := settles_no (rvs := [rv]) (st := st1)
    simp only [settles] at this
    cases e2 : settle rv st1 with
    | no => rw [e2] at gg; exact gg.elim
    | ex C gx d s => rw [e2] at this; rcases this with ⟨_, _, z⟩ | z <;> cases z
    | ok o st2 =>
      rw [e2] at gg
      simp only [bind_ok] at gg
      obtain ⟨fp2, p2, h2, _⟩ := settle_ok p1 (fun a h => h) hv e2
      split at gg
      · rename_i ds ek
        exact go v H1 ι1 fp2 o.toD ds st2 (p2.drop r.lb) (rv_give p2.rel p2.fb (fun a h => h) h2) ek gg
      · exact gg.elim
theorem ref_itL (h : RefE c W te fe) : RefI c W (iList c.K te) (itV kLst fe) := fun B ι st σ H fp r Q gg => by
  refine it_kept h r gg fun v H' ι' fp' d ds st' p hd ek gg => ?_
  cases d with
  | lst ds' =>
    cases ek
    obtain ⟨a, xs, rfl, h1, h2⟩ := hd
    refine ⟨a, rfl, ⟨xs, SqL.of (hidP_le _ _ h1)⟩, gg (Itl c.K a) H' ι' fp' (fun ι Hm => ∃ xs, Hm a = some (.lst xs) ∧ Rs c.K ι ds Hm xs) p ⟨?_, ?_, ?_, ?_⟩ ⟨xs, h1, h2⟩⟩
    · rintro ι ι' Hm Hm' ⟨xs, a1, a2⟩ g e
      exact ⟨xs, e _ _ a1, Rs.mono _ a2 g e⟩
    · rintro ι A H ⟨xs, a1, a2⟩
      exact ⟨xs, SqL.of (hidP_le _ _ a1), Nat.le_of_eq a2.len⟩
    · rintro i ι A H ⟨xs, a1, a2⟩ hi
      exact ⟨xs, xs[i]'(by rw [a2.len]; exact hi), SqL.of (hidP_le _ _ a1), List.getElem?_eq_getElem _⟩
    · rintro i ι A H x H' d ⟨xs, a1, a2⟩ al hd ⟨rfl, y⟩
      have := y xs (SqL.of (hidP_le _ _ a1))
      obtain ⟨w, hw, hr⟩ := a2.get hd
      rw [this] at hw
      cases hw
      exact ⟨Same.refl _, hr⟩
  | _ => cases ek
theorem ref_itT (h : RefE c W te fe) : RefI c W (iTup c.K te) (itV kTup fe) := fun B ι st σ H fp r Q gg => by
  refine it_kept h r gg fun v H' ι' fp' d ds st' p hd ek gg => ?_
  cases d with
  | tup ds' =>
    cases ek
    obtain ⟨a, xs, rfl, h1, h2⟩ := hd
    refine ⟨a, rfl, ⟨xs, tupS (hidP_le _ _ h1)⟩, gg (Itt c.K a) H' ι' fp' (fun ι Hm => ∃ xs, SqT c.K Hm a xs ∧ Rs c.K ι ds Hm xs) p ⟨?_, ?_, ?_, ?_⟩ ⟨xs, tupS h1, h2⟩⟩
    · rintro ι ι' Hm Hm' ⟨xs, a1, a2⟩ g e
      exact ⟨xs, seqT_same e a1, Rs.mono _ a2 g e⟩
    · rintro ι A H ⟨xs, a1, a2⟩
      exact ⟨xs, seqT_same hidP_le a1, Nat.le_of_eq a2.len⟩
    · rintro i ι A H ⟨xs, a1, a2⟩ hi
      exact ⟨xs, xs[i]'(by rw [a2.len]; exact hi), seqT_same hidP_le a1, List.getElem?_eq_getElem _⟩
    · rintro i ι A H x H' d ⟨xs, a1, a2⟩ al hd ⟨rfl, y⟩
      have := y xs (seqT_same hidP_le a1)
      obtain ⟨w, hw, hr⟩ := a2.get hd
      rw [this] at hw
      cases hw
      exact ⟨Same.refl _, hr⟩
  | _ => cases ek
def loopS (body : SDen) (tg : Tg) : List D → SDen
  | [], st => .nx st
  | d :: ds, st => match tgS tg d st with
    | none => .no
    | some st1 => match body st1 with
      | .nx st2 => loopS body tg ds st2
      | .ct st2 => loopS body tg ds st2
      | .bk st2 => .nx st2
      | r => r
def sFor (it : ES → Out (List D)) (tg : Tg) (body : SDen) : SDen := fun st => onE (it st) fun ds st1 => loopS body tg ds st1
theorem ref_for {wi : TI} {g : TG} {tb : TS} {it : ES → Out (List D)} {tg : Tg} {body : SDen} (hi : RefI c W wi it) (hg : RefG c g tg) (hb : RefS c W tb body) : RefS c W (tFor wi g tb) (sFor it tg body) := fun B ι st σ H fp r D gg => by
  refine hi B ι st σ H fp r _ ?_
  unfold sFor at gg
  cases e : it st with
  | no => rw [e] at gg; exact gg
  | ex C gx d st1 => rw [e] at gg; exact fun dx H' ι' fp' q => gg dx σ H' ι' fp' q
  | ok ds st1 =>
    rw [e] at gg
    simp only [onE_ok] at gg
    intro J H1 ι1 fp1 P p1 io hP
    refine ⟨fun i m σ H => i ≤ ds.length ∧ m = ds.length - i ∧ ∃ ι st fp, RelS c ι B st σ H fp ∧ P ι (hidP (All B fp) H) ∧ GoS c W B fp H ι (loopS body tg (ds.drop i) st) D, ⟨_, Nat.zero_le _, rfl, ι1, st1, fp1, p1.rel0, hP, gg.then_ p1.s⟩, ?_⟩
    rintro i m σ2 H2 ⟨hi, rfl, ι2, st2, fp2, r2, hP2, g2⟩
    by_cases hlt : i < ds.length
    · refine .inr ⟨io.go i ι2 _ H2 hP2 hlt, fun σ' H' => i + 1 ≤ ds.length ∧ ∃ ι st fp, RelS c ι B st σ' H' fp ∧ P ι (hidP (All B fp) H') ∧ GoS c W B fp H' ι (loopS body tg (ds.drop (i + 1)) st) D, fun σ' H' n => ⟨ds.length - (i + 1), by omega, n.1, rfl, n.2⟩, fun x H3 y => ?_⟩
      have hdi : ds[i]? = some ds[i] := List.getElem?_eq_getElem hlt
      obtain ⟨s3, hx⟩ := io.yld i ι2 _ H2 x H3 ds[i] hP2 (fun a z => r2.alive z) hdi y
      have p3 : Post c B fp2 H2 ι2 st2 σ2 st2 [] ι2 fp2 H3 := Post.fresh (F := []) r2 List.nodup_nil (fun a ha => nomatch ha) s3 (fun a ha => nomatch ha)
      have hP3 : P ι2 (hidP (All B fp2) H3) := io.mono _ _ _ _ hP2 (Goes.refl _) (hidP_same (fun a z => .inl z) s3)
      rw [List.drop_eq_getElem_cons hlt] at g2
      simp only [loopS] at g2
      cases e3 : tgS tg ds[i] st2 with
      | none => rw [e3] at g2; exact g2.elim
      | some st3 =>
        rw [e3] at g2
        simp only at g2
        refine hg B ι2 st2 σ2 H3 fp2 ds[i] x st3 _ p3.rel0 hx e3 fun σ4 ι4 fp4 p4 _ _ => ?_
        have p34 := p3.s.trans p4
        have hP4 : P ι4 (hidP (All B fp4) H3) := io.mono _ _ _ _ hP3 p4.go (by have := p4.sm; rwa [un2_nil rfl] at this)
        refine hb B ι4 st3 σ4 H3 fp4 p4.rel0 _ ?_
        have nxt : ∀ st5, GoS c W B fp2 H2 ι2 (loopS body tg (ds.drop (i + 1)) st5) D → ∀ σ' H' ι' fp', PostS c B fp4 H3 ι4 [] st5 σ' ι' fp' H' → i + 1 ≤ ds.length ∧ ∃ ι st fp, RelS c ι B st σ' H' fp ∧ P ι (hidP (All B fp) H') ∧ GoS c W B fp H' ι (loopS body tg (ds.drop (i + 1)) st) D := fun st5 g5 σ' H' ι' fp' q =>
          ⟨hlt, ι', st5, fp', q.rel0, io.mono _ _ _ _ hP4 q.go (by have := q.sm; rwa [un2_nil rfl] at this), g5.then_ (p34.trans q)⟩
        cases e5 : body st3 with
        | no => rw [e5] at g2; exact g2
        | nx st5 => rw [e5] at g2; exact nxt st5 g2
        | ct st5 => rw [e5] at g2; exact nxt st5 g2
        | bk st5 =>
          rw [e5] at g2
          exact fun σ' H' ι' fp' q => g2 σ' H' ι' fp' (p34.trans q)
        | rt rv st5 =>
          rw [e5] at g2
          exact fun v σ' H' F ι' fp' q hv => g2 v σ' H' F ι' fp' (p34.trans q) hv
        | ex C gx d st5 =>
          rw [e5] at g2
          exact fun dx σ' H' ι' fp' q => g2 dx σ' H' ι' fp' (p34.thenX q)
    · have : i = ds.length := by omega
      subst this
      rw [List.drop_length] at g2
      exact .inl ⟨io.stop ι2 _ H2 hP2, g2 σ2 H2 ι2 fp2 (PostS.refl r2)⟩
end
end Fv
set_option Elab.async false
set_option linter.all false
set_option maxRecDepth 100000
set_option maxHeartbeats 4000000
namespace Fv
open PySem PySem.Spec PyProof.Rows L2 RkO Rx
open Classical
def wipeS (st : ES) (vs : List Nat) : ES := { st with ss := st.ss.mapIdx fun i s => if i ∈ vs then .un else s }
/-- the slots vs as they stood in st1 -/
def unwipe (st1 st3 : ES) (vs : List Nat) : ES := { st3 with ss := st3.ss.mapIdx fun i s => if i ∈ vs then st1.ss.getD i .un else s, t := st1.t + 1 }
def loopC (tg : Tg) (tt : ES → Out Bool) (fe : Den) (vs : List Nat) : List D → ES → List O → Option (List O × ES)
  | [], st, acc => some (acc, st)
  | d :: ds, st, acc => match tgS tg d st with
    | none => none
    | some st1 => match tt st1 with
      | .ok true st2 => match fe st2 with
        | .ok rv st3 => match settle rv st3 with
          | .ok o st4 => loopC tg tt fe vs ds (wipeS st4 vs) (acc ++ [o])
          | _ => none
        | _ => none
      | .ok false st2 => loopC tg tt fe vs ds (wipeS st2 vs) acc
      | _ => none
def dLc (it : ES → Out (List D)) (tg : Tg) (tt : ES → Out Bool) (fe : Den) (vs : List Nat) : Den := fun st => (it st).bind fun ds st1 => if ds.length ≤ 90000 then match loopC tg tt fe vs ds (wipeS st1 vs) [] with
  | some (os, st3) => .ok (.va (.lst os)) (unwipe st1 st3 vs)
  | none => .no
  else .no
theorem wipe_get {σ : L2.St} : ∀ {vs : List Nat} {j : Nat}, j ∉ vs → (wipe σ vs)[j]? = σ[j]?
  | [], _, _ => rfl
  | v :: vs, j, h => by
    unfold wipe
    rw [List.getElem?_set_ne (fun z => h (by rw [z]; exact List.mem_cons_self)), wipe_get fun z => h (List.mem_cons_of_mem _ z)]
theorem wipe_in {σ : L2.St} : ∀ {vs : List Nat} {j : Nat}, j ∈ vs → j < σ.length → (wipe σ vs)[j]? = some none
  | v :: vs, j, h, hl => by
    unfold wipe
    by_cases e : v = j
    · subst e
      rw [List.getElem?_set_self (by rw [wipe_length]; exact hl)]
    · rw [List.getElem?_set_ne e]
      rcases List.mem_cons.mp h with z | z
      · exact absurd z.symm e
      · exact wipe_in z hl
theorem wipe_eq {σ σ' : L2.St} {vs : List Nat} (hl : σ'.length = σ.length) (h : ∀ j, j ∉ vs → σ'[j]? = σ[j]?) : wipe σ' vs = wipe σ vs := by
  apply List.ext_getElem?
  intro j
  by_cases hj : j ∈ vs
  · by_cases hlt : j < σ.length
    · rw [wipe_in hj hlt, wipe_in hj (by rw [hl]; exact hlt)]
    · rw [List.getElem?_eq_none (by rw [wipe_length]; omega), List.getElem?_eq_none (by rw [wipe_length]; omega)]
  · rw [wipe_get hj, wipe_get hj, h j hj]
section
variable {c : FC} {W : WX} {ι ι' ι1 : List Addr} {B : Addr → Prop} {st st' st1 st2 : ES} {σ σ' σ1 : L2.St} {H H' H1 H2 : Hp} {fp fp' fp1 fp2 : Nat → List Addr} {F F' : List Addr} {te : TE} {fe : Den}
noncomputable def fpW (fp : Nat → List Addr) (vs : List Nat) : Nat → List Addr := fun i => if i ∈ vs then [] else fp i
theorem fpW_sub {vs : List Nat} {i : Nat} {a : Addr} (h : a ∈ fpW fp vs i) : a ∈ fp i ∧ i ∉ vs := by
  unfold fpW at h
  split at h
  · cases h
  · rename_i n
    exact ⟨h, n⟩
/-- without the block's names; what they held is given up -/
theorem RelS.wipe (r : RelS c ι B st σ H fp) (vs : List Nat) : RelS c ι B (wipeS st vs) (L2.wipe σ vs) H (fpW fp vs) := by
  have sub : ∀ a, All B (fpW fp vs) a → All B fp a := fun a z => z.elim .inl fun ⟨i, z⟩ => .inr ⟨i, (fpW_sub z).1⟩
  refine ⟨by show (st.ss.mapIdx _).length = _; rw [List.length_mapIdx, wipe_length]; exact r.len, r.cnt, fun i => ?_, fun i j a h1 h2 => r.dj i j a (fpW_sub h1).1 (fpW_sub h2).1, fun i a h => r.db i a (fpW_sub h).1, r.lb, r.bl, fun i s hs => ?_, fun i hi => ?_⟩
  · unfold fpW
    split
    · exact List.nodup_nil
    · exact r.nd i
  · have hs : (st.ss.mapIdx fun i s => if i ∈ vs then Slot.un else s)[i]? = some s := hs
    rw [List.getElem?_mapIdx] at hs
    obtain ⟨s0, hs0, rfl⟩ := Option.map_eq_some_iff.mp hs
    by_cases hv : i ∈ vs
    · rw [if_pos hv]
      show fpW fp vs i = []
      unfold fpW
      rw [if_pos hv]
    · rw [if_neg hv, wipe_get hv]
      have : fpW fp vs i = fp i := by unfold fpW; rw [if_neg hv]
      rw [this]
      exact (r.sl i s0 hs0).stay (Goes.refl _) (fun _ _ => rfl) (fun _ _ => rfl) (hidP_sub sub)
  · have hi : (st.ss.mapIdx fun i s => if i ∈ vs then Slot.un else s)[i]? = none := hi
    rw [List.getElem?_mapIdx] at hi
    unfold fpW
    split
    · rfl
    · exact r.out i (Option.map_eq_none_iff.mp hi)
def gone (fp : Nat → List Addr) (vs : List Nat) : List Addr := (vs.map fp).flatten
theorem mem_gone {vs : List Nat} {a : Addr} : a ∈ gone fp vs ↔ ∃ v ∈ vs, a ∈ fp v := by
  unfold gone
  rw [List.mem_flatten]
  constructor
  · rintro ⟨l, h1, h2⟩
    obtain ⟨v, hv, rfl⟩ := List.mem_map.mp h1
    exact ⟨v, hv, h2⟩
  · rintro ⟨v, hv, h⟩
    exact ⟨fp v, List.mem_map.mpr ⟨v, hv, rfl⟩, h⟩
theorem mask_gone {vs : List Nat} {a : Addr} : All (Un2 B (gone fp vs)) (fpW fp vs) a ↔ All B fp a := by
  constructor
  · rintro ((z | z) | ⟨i, z⟩)
    · exact .inl z
    · obtain ⟨v, hv, z⟩ := mem_gone.mp z
      exact .inr ⟨v, z⟩
    · exact .inr ⟨i, (fpW_sub z).1⟩
  · rintro (z | ⟨i, z⟩)
    · exact .inl (.inl z)
    · by_cases hi : i ∈ vs
      · exact .inl (.inr (mem_gone.mpr ⟨i, hi, z⟩))
      · exact .inr ⟨i, by unfold fpW; rw [if_neg hi]; exact z⟩
/-- .. what they held is kept apart -/
theorem RelS.wipeK (r : RelS c ι B st σ H fp) (vs : List Nat) : RelS c ι (Un2 B (gone fp vs)) (wipeS st vs) (L2.wipe σ vs) H (fpW fp vs) := by
  have w := r.wipe vs
  refine ⟨w.len, w.cnt, w.nd, w.dj, fun i a h z => ?_, fun a h => .inl (r.lb a h), fun a z => ?_, fun i s hs => ?_, w.out⟩
  · obtain ⟨h1, h2⟩ := fpW_sub h
    rcases z with z | z
    · exact r.db i a h1 z
    · obtain ⟨v, hv, z⟩ := mem_gone.mp z
      exact h2 (by rw [r.dj i v a h1 z]; exact hv)
  · rcases z with z | z
    · exact r.bl a z
    · obtain ⟨v, hv, z⟩ := mem_gone.mp z
      exact r.fpl z
  · have hs : (st.ss.mapIdx fun i s => if i ∈ vs then Slot.un else s)[i]? = some s := hs
    rw [List.getElem?_mapIdx] at hs
    obtain ⟨s0, hs0, rfl⟩ := Option.map_eq_some_iff.mp hs
    by_cases hv : i ∈ vs
    · rw [if_pos hv]
      show fpW fp vs i = []
      unfold fpW
      rw [if_pos hv]
    · rw [if_neg hv, wipe_get hv]
      have : fpW fp vs i = fp i := by unfold fpW; rw [if_neg hv]
      rw [this]
      exact (r.sl i s0 hs0).stay (Goes.refl _) (fun _ _ => rfl) (fun _ _ => rfl) (hidP_sub fun a z => mask_gone.mp z)
theorem PostS.trans2 {F2 : List Addr} (p : PostS c B fp H ι F st1 σ1 ι1 fp1 H1) (q : PostS c (Un2 B F) fp1 H1 ι1 F2 st' σ' ι' fp' H') : PostS c B fp H ι (F ++ F2) st' σ' ι' fp' H' where
  fn := List.nodup_append.mpr ⟨p.fn, q.fn, fun a ha b hb e => by subst e; exact q.fb a hb (.inr ha)⟩
  fb := fun a ha => (List.mem_append.mp ha).elim (p.fb a) fun h z => q.fb a h (.inl z)
  rel := by rw [← un2_app]; exact q.rel
  go := p.go.trans q.go
  kb := fun a h => (q.kb a (.inl h)).trans (p.kb a h)
  sm := by rw [← un2_app]; exact p.sm.trans q.sm
theorem PostS.perm (p : PostS c B fp H ι F st' σ' ι' fp' H') (nd : F'.Nodup) (h : ∀ a, a ∈ F ↔ a ∈ F') : PostS c B fp H ι F' st' σ' ι' fp' H' := by
  have e : Un2 B F = Un2 B F' := un2_eq h
  exact ⟨nd, fun a ha => p.fb a ((h a).mpr ha), e ▸ p.rel, p.go, p.kb, e ▸ p.sm⟩
theorem PostS.wiped (p : PostS c B fp H ι F st' σ' ι' fp' H') (vs : List Nat) : PostS c B fp H ι F (wipeS st' vs) (L2.wipe σ' vs) ι' (fpW fp' vs) H' :=
  ⟨p.fn, p.fb, p.rel.wipe vs, p.go, p.kb, p.sm.trans (hidP_sub fun a z => z.elim .inl fun ⟨i, z⟩ => .inr ⟨i, (fpW_sub z).1⟩)⟩
/-- a hidden thing of ours changes -/
theorem PostS.chg {p : Addr} {o : HO} (q : PostS c B fp H ι F st' σ' ι' fp' H') (hp : p ∈ F) (hl : ∀ a, c.L a → B a) : PostS c B fp H ι F st' σ' ι' fp' (upd H' p o) := by
  have nL : ∀ a, B a → a ≠ p := fun a ha e => q.fb p hp (e ▸ ha)
  have sm : Same (hidP (All (Un2 B F) fp') H') (hidP (All (Un2 B F) fp') (upd H' p o)) := fun b u z => by
    obtain ⟨n, z⟩ := hidP_some z
    rw [hidP_f n, upd_ne fun e => n (.inl (.inr (by rw [e]; exact hp)))]
    exact z
  refine ⟨q.fn, q.fb, q.rel.stay (fun a h => .inl (hl a h)) q.rel.db (fun a z => ?_) (Goes.refl _) q.rel.cnt (fun i a ha => upd_ne fun e => q.rel.db i a ha (.inr (by rw [e]; exact hp))) (fun a ha => upd_ne (nL a (hl a ha))) sm, q.go, fun a ha => (upd_ne (nL a ha)).trans (q.kb a ha), q.sm.trans sm⟩
  by_cases e : a = p
  · rw [e]; exact ⟨_, upd_same⟩
  · rw [upd_ne e]
    exact q.rel.bl a z
theorem ROs.app {K : PySem.W.Frag} {M : Addr → Prop} : ∀ {os os' : List O} {f f' : List Addr} {xs xs' : List V}, ROs K ι M os f H xs → ROs K ι M os' f' H xs' → ROs K ι M (os ++ os') (f ++ f') H (xs ++ xs')
  | [], _, _, _, _, _, h, g => by rw [h.1, h.2]; exact g
  | o :: os, _, _, _, _, _, h, g => by
    obtain ⟨f1, f2, x, r, rfl, rfl, h1, h2⟩ := h
    exact ⟨f1, f2 ++ _, x, _, List.append_assoc .., rfl, h1, ROs.app h2 g⟩
theorem loopC_len {tg : Tg} {tt : ES → Out Bool} {vs : List Nat} : ∀ {ds : List D} {st : ES} {acc os : List O} {st' : ES}, loopC tg tt fe vs ds st acc = some (os, st') → os.length ≤ acc.length + ds.length
  | [], _, _, _, _, e => by cases e; simp
  | d :: ds, st, acc, os, st', e => by
    simp only [loopC] at e
    split at e
    · cases e
    · split at e
      · split at e
        · split at e
          · have := loopC_len e
            rw [List.length_append] at this
            simp only [List.length_cons, List.length_nil] at this ⊢
            omega
          · cases e
        · cases e
      · have := loopC_len e
        simp only [List.length_cons]
        omega
      · cases e
/-- back to the names as they stood -/
theorem unwiped {vs : List Nat} {σ1 : L2.St} (r1 : RelS c ι1 B st1 σ1 H1 fp1) (p : PostS c (Un2 B (gone fp1 vs)) (fpW fp1 vs) H1 ι1 F st' (L2.wipe σ1 vs) ι' fp' H') : Post c B fp1 H1 ι1 st1 σ1 (unwipe st1 st' vs) F ι' (fun i => if i ∈ vs then fp1 i else fp' i) H' := by
  have mk : ∀ a, All (Un2 B F) (fun i => if i ∈ vs then fp1 i else fp' i) a → All (Un2 (Un2 B (gone fp1 vs)) F) fp' a := fun a z => by
    rcases z with (z | z) | ⟨i, z⟩
    · exact .inl (.inl (.inl z))
    · exact .inl (.inr z)
    · simp only at z
      split at z
      · rename_i hv
        exact .inl (.inl (.inr (mem_gone.mpr ⟨i, hv, z⟩)))
      · exact .inr ⟨i, z⟩
  have sm0 : Same (hidP (All B fp1) H1) (hidP (All (Un2 (Un2 B (gone fp1 vs)) F) fp') H') := (hidP_sub fun a z => mask_gone.mp z).trans p.sm
  have sm : Same (hidP (All B fp1) H1) (hidP (All (Un2 B F) (fun i => if i ∈ vs then fp1 i else fp' i)) H') := sm0.trans (hidP_sub mk)
  have len : st'.ss.length = st1.ss.length := by rw [p.rel.len, wipe_length, r1.len]
  refine ⟨p.fn, fun a ha z => p.fb a ha (.inl z), ?_, p.go, fun a ha => p.kb a (.inl ha), sm, fun e => ?_, ?_⟩
  · refine ⟨by show (st'.ss.mapIdx _).length = _; rw [List.length_mapIdx, len]; exact r1.len, p.rel.cnt, fun i => ?_, fun i j a h1 h2 => ?_, fun i a h z => ?_, fun a h => .inl (r1.lb a h), fun a z => ?_, fun i s hs => ?_, fun i hi => ?_⟩
    · split
      · exact r1.nd i
      · exact p.rel.nd i
    · split at h1
      · rename_i hi
        split at h2
        · exact r1.dj i j a h1 h2
        · exact absurd (.inl (.inr (mem_gone.mpr ⟨i, hi, h1⟩))) (p.rel.db j a h2)
      · split at h2
        · rename_i hj
          exact absurd (.inl (.inr (mem_gone.mpr ⟨j, hj, h2⟩))) (p.rel.db i a h1)
        · exact p.rel.dj i j a h1 h2
    · split at h
      · rename_i hi
        rcases z with z | z
        · exact r1.db i a h z
        · exact p.fb a z (.inr (mem_gone.mpr ⟨i, hi, h⟩))
      · rcases z with z | z
        · exact p.rel.db i a h (.inl (.inl z))
        · exact p.rel.db i a h (.inr z)
    · rcases z with z | z
      · exact p.rel.bl a (.inl (.inl z))
      · exact p.rel.bl a (.inr z)
    · have hs : (st'.ss.mapIdx fun i s => if i ∈ vs then st1.ss.getD i .un else s)[i]? = some s := hs
      rw [List.getElem?_mapIdx] at hs
      obtain ⟨s0, hs0, rfl⟩ := Option.map_eq_some_iff.mp hs
      have hi : i < st1.ss.length := by rw [← len]; exact (List.getElem?_eq_some_iff.mp hs0).1
      by_cases hv : i ∈ vs
      · rw [if_pos hv]
        simp only [if_pos hv]
        have hg : st1.ss[i]? = some (st1.ss.getD i .un) := by rw [List.getD_eq_getElem?_getD, List.getElem?_eq_getElem hi]; rfl
        exact (r1.sl i _ hg).stay p.go (fun a ha => p.kb a (.inr (mem_gone.mpr ⟨i, hv, ha⟩))) (fun a ha => p.kb a (.inl (r1.lb a ha))) sm
      · rw [if_neg hv]
        simp only [if_neg hv]
        have := p.rel.sl i s0 hs0
        rw [wipe_get hv] at this
        exact this.stay (Goes.refl _) (fun _ _ => rfl) (fun _ _ => rfl) (hidP_sub mk)
    · have hi : (st'.ss.mapIdx fun i s => if i ∈ vs then st1.ss.getD i .un else s)[i]? = none := hi
      rw [List.getElem?_mapIdx] at hi
      have hi := Option.map_eq_none_iff.mp hi
      split
      · exact r1.out i (by rw [List.getElem?_eq_none_iff] at hi ⊢; omega)
      · exact p.rel.out i hi
  · exact absurd e (Nat.ne_of_gt (Nat.lt_succ_self _))
  · exact Nat.le_succ _
end
end Fv
set_option Elab.async false
set_option linter.all false
set_option maxRecDepth 100000
set_option maxHeartbeats 4000000
namespace Fv
open PySem PySem.Spec PyProof.Rows L2 RkO Rx
open Classical
section
variable {c : FC} {W : WX} {ι ι' ι1 : List Addr} {B : Addr → Prop} {st st' st1 st2 : ES} {σ σ' σ1 : L2.St} {H H' H1 H2 : Hp} {fp fp' fp1 fp2 : Nat → List Addr} {F F' : List Addr} {te : TE} {fe : Den}
theorem ref_lc {wi : TI} {g : TG} {tt : TT} {it : ES → Out (List D)} {tg : Tg} {ft : ES → Out Bool} {vs : List Nat} (hi : RefI c W wi it) (hg : RefG c g tg) (ht : RefT c (fun _ _ _ _ => False) tt ft) (he : RefE c (fun _ _ _ _ => False) te fe)
    (hvs : ∀ j ∈ tg.slots, j ∈ vs) : RefE c W (tLc wi g tt te vs) (dLc it tg ft fe vs) := fun B ι st σ H fp r Q gg => by
  refine hi B ι st σ H fp r _ ?_
  unfold dLc at gg
  cases e : it st with
  | no => rw [e] at gg; exact gg
  | ex C gx d st1 => rw [e] at gg; exact fun dx H' ι' fp' q => gg dx H' ι' fp' q
  | ok ds st1 =>
    rw [e] at gg
    simp only [bind_ok] at gg
    intro J H1 ι1 fp1 P p1 io hP
    split at gg
    · rename_i hdl
      cases el : loopC tg ft fe vs ds (wipeS st1 vs) [] with
      | none => rw [el] at gg; exact gg.elim
      | some x =>
        obtain ⟨osF, stF⟩ := x
        rw [el] at gg
        simp only at gg
        have r1 := p1.rel0
        intro Dl hD
        have oslen := loopC_len el
        simp only [List.length_nil, Nat.zero_add] at oslen
        -- the start: the new list apart
        have w0 := PostS.refl (r1.wipeK vs)
        have w1 : PostS c (Un2 B (gone fp1 vs)) (fpW fp1 vs) H1 ι1 [Dl] (wipeS st1 vs) (L2.wipe σ vs) ι1 (fpW fp1 vs) (upd H1 Dl (.lst [])) :=
          (Post.fresh (F := [Dl]) (r1.wipeK vs) (List.nodup_cons.mpr ⟨List.not_mem_nil, List.nodup_nil⟩) (fun a ha => by rw [List.mem_singleton.mp ha]; exact hD) (same_upd hD) (fun a ha => by rw [List.mem_singleton.mp ha]; exact ⟨_, upd_same⟩)).s
        have keepP : ∀ {F : List Addr} {st2 : ES} {σ2 : L2.St} {ι2 : List Addr} {fp2 : Nat → List Addr} {H2 : Hp}, PostS c (Un2 B (gone fp1 vs)) (fpW fp1 vs) H1 ι1 F st2 σ2 ι2 fp2 H2 → P ι2 (hidP (All (Un2 (Un2 B (gone fp1 vs)) F) fp2) H2) := fun q => io.mono _ _ _ _ hP q.go ((hidP_sub fun a z => mask_gone.mp z).trans q.sm)
        refine ⟨fun i m H2 => i ≤ ds.length ∧ m = ds.length - i ∧ ∃ ι2 st2 fp2 os F ys, PostS c (Un2 B (gone fp1 vs)) (fpW fp1 vs) H1 ι1 (Dl :: F) st2 (L2.wipe σ vs) ι2 fp2 H2 ∧ H2 Dl = some (.lst ys) ∧ ROs c.K ι2 (All (Un2 (Un2 B (gone fp1 vs)) (Dl :: F)) fp2) os F H2 ys ∧ os.length ≤ i ∧ loopC tg ft fe vs (ds.drop i) st2 os = some (osF, stF),
          ⟨_, Nat.zero_le _, rfl, ι1, _, _, [], [], [], w1, upd_same, ⟨rfl, rfl⟩, Nat.le_refl _, el⟩, ?_⟩
        rintro i m H2 ⟨hi2, rfl, ι2, st2, fp2, os, F, ys, p2, hDy, hos, hol, hl⟩
        by_cases hlt : i < ds.length
        · refine .inr ⟨io.go i ι2 _ H2 (keepP p2) hlt, fun H' => i + 1 ≤ ds.length ∧ ∃ ι2 st2 fp2 os F ys, PostS c (Un2 B (gone fp1 vs)) (fpW fp1 vs) H1 ι1 (Dl :: F) st2 (L2.wipe σ vs) ι2 fp2 H' ∧ H' Dl = some (.lst ys) ∧ ROs c.K ι2 (All (Un2 (Un2 B (gone fp1 vs)) (Dl :: F)) fp2) os F H' ys ∧ os.length ≤ i + 1 ∧ loopC tg ft fe vs (ds.drop (i + 1)) st2 os = some (osF, stF), fun H' n => ⟨ds.length - (i + 1), by omega, n.1, rfl, n.2⟩, fun x H3 y => ?_⟩
          have hdi : ds[i]? = some ds[i] := List.getElem?_eq_getElem hlt
          obtain ⟨s3, hx⟩ := io.yld i ι2 _ H2 x H3 ds[i] (keepP p2) (fun a z => p2.rel.alive z) hdi y
          have q3 : Post c (Un2 (Un2 B (gone fp1 vs)) (Dl :: F)) fp2 H2 ι2 st2 (L2.wipe σ vs) st2 [] ι2 fp2 H3 := Post.fresh (F := []) p2.rel List.nodup_nil (fun a ha => nomatch ha) s3 (fun a ha => nomatch ha)
          rw [List.drop_eq_getElem_cons hlt] at hl
          simp only [loopC] at hl
          cases e3 : tgS tg ds[i] st2 with
          | none => rw [e3] at hl; cases hl
          | some st3 =>
            rw [e3] at hl
            simp only at hl
            refine hg _ ι2 st2 (L2.wipe σ vs) H3 fp2 ds[i] x st3 _ q3.rel0 hx e3 fun σ4 ι4 fp4 q4 hfr hln => ?_
            have hwp : L2.wipe σ4 vs = L2.wipe σ vs := by
              rw [wipe_eq (σ := L2.wipe σ vs) hln fun j hj => hfr j fun z => hj (hvs j z)]
              exact wipe_eq (wipe_length σ vs) fun j hj => wipe_get hj
            refine ⟨hwp, ?_⟩
            have p4 := p2.trans2 (q3.s.trans q4)
            rw [List.append_nil] at p4
            have alv : ∀ {H5 : Hp} {ι5 : List Addr} {fp5 : Nat → List Addr} {st5 : ES} {σ5 : L2.St} {G : List Addr}, PostS c (Un2 (Un2 B (gone fp1 vs)) (Dl :: F)) fp2 H2 ι2 G st5 σ5 ι5 fp5 H5 → H5 Dl = some (.lst ys) ∧ ROs c.K ι5 (All (Un2 (Un2 B (gone fp1 vs)) ((Dl :: F) ++ G)) fp5) os F H5 ys := fun {H5 ι5 fp5 st5 σ5 G} q => by
              refine ⟨(q.kb Dl (.inr List.mem_cons_self)).trans hDy, ?_⟩
              have := hos.stay _ q.go (fun a ha => q.kb a (.inr (List.mem_cons_of_mem _ ha))) q.sm
              rwa [un2_app] at this
            refine ht _ ι4 st3 σ4 H3 fp4 q4.rel0 _ ?_
            cases e5 : ft st3 with
            | no => rw [e5] at hl; cases hl
            | ex C gx d st5 => rw [e5] at hl; cases hl
            | ok b st5 =>
              rw [e5] at hl
              intro H5 ι5 fp5 q5
              have q25 := (q3.s.trans q4).trans q5.s
              cases b with
              | false =>
                simp only at hl
                rw [if_neg (by decide)]
                have p5 := (p2.trans2 q25).wiped vs
                rw [List.append_nil, hwp] at p5
                obtain ⟨a1, a2⟩ := alv q25
                rw [List.append_nil] at a2
                refine ⟨hlt, ι5, _, _, os, F, ys, p5, a1, a2.stay _ (Goes.refl _) (fun _ _ => rfl) (hidP_sub fun a z => z.elim .inl fun ⟨j, z⟩ => .inr ⟨j, (fpW_sub z).1⟩), by omega, hl⟩
              | true =>
                simp only at hl
                rw [if_pos rfl]
                refine he _ ι5 st5 σ4 H5 fp5 q5.rel0 _ ?_
                cases e6 : fe st5 with
                | no => rw [e6] at hl; cases hl
                | ex C gx d st6 => rw [e6] at hl; cases hl
                | ok rv st6 =>
                  rw [e6] at hl
                  simp only at hl
                  intro v H6 F6 ι6 fp6 q6 hv
                  cases e7 : settle rv st6 with
                  | no => rw [e7] at hl; cases hl
                  | ex C gx d st7 => rw [e7] at hl; cases hl
                  | ok o st7 =>
                    rw [e7] at hl
                    simp only at hl
                    obtain ⟨fp7, q7, h7, _⟩ := settle_ok q6 (fun a h => h) hv e7
                    have q27 := q25.trans q7.s
                    obtain ⟨a1, a2⟩ := alv q27
                    have hyl : ys.length = os.length := hos.len
                    refine ⟨ys, a1, ?_, hlt, ι6, wipeS st7 vs, fpW fp7 vs, os ++ [o], F ++ F6, ys ++ [v], ?_, upd_same, ?_, ?_, hl⟩
                    · rw [hyl]
                      exact Evl.sz_lt (by omega)
                    · have p7 := (p2.trans2 q27).wiped vs
                      rw [hwp] at p7
                      exact PostS.chg p7 (List.mem_append_left _ List.mem_cons_self) (fun a h => .inl (r.lb a h))
                    · have nodup := (p2.trans2 q27).fn
                      have nD : ∀ a ∈ F ++ F6, a ≠ Dl := fun a ha e => by
                        rw [List.cons_append] at nodup
                        exact (List.nodup_cons.mp nodup).1 (e ▸ ha)
                      have h7' : RO c.K ι6 (All (Un2 (Un2 B (gone fp1 vs)) ((Dl :: F) ++ F6)) fp7) o F6 H6 v := by
                        rw [← un2_app]
                        exact h7
                      have both : ROs c.K ι6 (All (Un2 (Un2 B (gone fp1 vs)) ((Dl :: F) ++ F6)) fp7) (os ++ [o]) (F ++ F6) H6 (ys ++ [v]) := a2.app ⟨F6, [], v, [], (List.append_nil _).symm, rfl, h7', rfl, rfl⟩
                      refine both.stay _ (Goes.refl _) (fun a ha => upd_ne (nD a ha)) fun b u z => ?_
                      obtain ⟨n, z⟩ := hidP_some z
                      have nb : b ≠ Dl := fun e => n (.inl (.inr (by rw [e]; simp)))
                      rw [hidP_f, upd_ne nb]
                      · exact z
                      · rintro (z2 | ⟨j, z2⟩)
                        · exact n (.inl z2)
                        · exact n (.inr ⟨j, (fpW_sub z2).1⟩)
                    · rw [List.length_append]
                      simp only [List.length_cons, List.length_nil]
                      omega
        · have hie : i = ds.length := by omega
          subst hie
          rw [List.drop_length] at hl
          cases hl
          refine .inl ⟨io.stop ι2 _ H2 (keepP p2), ?_⟩
          have pe := unwiped r1 p2
          have pf := p1.trans (F1 := Dl :: F) (by rw [un2_nil rfl]; exact pe)
          rw [List.nil_append] at pf
          refine gg (.ref Dl) H2 (Dl :: F) ι2 _ pf ⟨Dl, F, ys, rfl, rfl, hDy, hos.stay _ (Goes.refl _) (fun _ _ => rfl) (hidP_sub fun a z => ?_)⟩
          rcases z with (z | z) | ⟨j, z⟩
          · exact .inl (.inl (.inl z))
          · exact .inl (.inr z)
          · simp only at z
            split at z
            · rename_i hv
              exact .inl (.inl (.inr (mem_gone.mpr ⟨j, hv, z⟩)))
            · exact .inr ⟨j, z⟩
    · exact gg.elim
def fin (np : Nat) (ss : List Slot) : List Slot := (ss.take np).map fun s => match s with
  | .mu o => .mu o
  | _ => .un
def runFn (np nl : Nat) (body : SDen) : Fn := fun args n => if args.length = np then match body ⟨args ++ List.replicate nl .un, n, 0⟩ with
  | .nx st => if np ≤ st.ss.length then .ok (.dp .non) (fin np st.ss) st.n else .no
  | .rt (.va o) st => if np ≤ st.ss.length then .ok o (fin np st.ss) st.n else .no
  | .rt (.pl i []) st => match st.ss[i]? with
    | some (.ow o) => if np ≤ st.ss.length then .ok o (fin np st.ss) st.n else .no
    | _ => .no
  | .ex C g d st => if np ≤ st.ss.length then .ex C g d (fin np st.ss) st.n else .no
  | _ => .no
  else .no
noncomputable def fpF (fp : Nat → List Addr) (ss : List Slot) (np : Nat) : Nat → List Addr := fun i => if i < np ∧ ∃ o, ss[i]? = some (.mu o) then fp i else []
theorem fpF_sub {ss : List Slot} {np i : Nat} {a : Addr} (h : a ∈ fpF fp ss np i) : a ∈ fp i ∧ i < np ∧ ∃ o, ss[i]? = some (.mu o) := by
  unfold fpF at h
  split at h
  · rename_i z
    exact ⟨h, z⟩
  · cases h
theorem fin_post {np : Nat} {vs : List V} {F2 : List Addr} {st0 : ES} (p : PostS c c.L fp H ι F st' σ' ι' fp' H') (hμ : ∀ i, c.μ i = vs.getD i .non) (hv : vs.length = np) (hn : np ≤ st'.ss.length) (nd : F2.Nodup) (hF2 : ∀ a ∈ F2, a ∈ F ∨ ∃ i, a ∈ fp' i ∧ ∀ o, st'.ss[i]? ≠ some (.mu o)) (ht : st0.t = 0) :
    Post c c.L fp H ι st0 (vs.map some) ⟨fin np st'.ss, st'.n, 1⟩ F2 ι' (fpF fp' st'.ss np) H' ∧ ∀ a, All (Un2 c.L F2) (fpF fp' st'.ss np) a → All (Un2 c.L F) fp' a := by
  have mk : ∀ a, All (Un2 c.L F2) (fpF fp' st'.ss np) a → All (Un2 c.L F) fp' a := fun a z => by
    rcases z with (z | z) | ⟨i, z⟩
    · exact .inl (.inl z)
    · rcases hF2 a z with z | ⟨i, z, _⟩
      · exact .inl (.inr z)
      · exact .inr ⟨i, z⟩
    · exact .inr ⟨i, (fpF_sub z).1⟩
  refine ⟨⟨nd, fun a ha z => ?_, ?_, p.go, p.kb, p.sm.trans (hidP_sub mk), fun e => ?_, by rw [ht]; exact Nat.zero_le _⟩, mk⟩
  · rcases hF2 a ha with h | ⟨i, h, _⟩
    · exact p.fb a h z
    · exact p.rel.db i a h (.inl z)
  · refine ⟨?_, p.rel.cnt, fun i => ?_, fun i j a h1 h2 => p.rel.dj i j a (fpF_sub h1).1 (fpF_sub h2).1, fun i a h z => ?_, fun a h => .inl h, fun a z => ?_, fun i s hs => ?_, fun i hi => ?_⟩
    · show ((st'.ss.take np).map _).length = _
      rw [List.length_map, List.length_take, List.length_map, hv]
      omega
    · unfold fpF
      split
      · exact p.rel.nd i
      · exact List.nodup_nil
    · obtain ⟨h1, _, o, ho⟩ := fpF_sub h
      rcases z with z | z
      · exact p.rel.db i a h1 (.inl z)
      · rcases hF2 a z with z | ⟨j, z, nm⟩
        · exact p.rel.db i a h1 (.inr z)
        · have := p.rel.dj i j a h1 z
          subst this
          exact nm o ho
    · rcases z with z | z
      · exact p.rel.bl a (.inl z)
      · rcases hF2 a z with z | ⟨j, z, _⟩
        · exact p.rel.bl a (.inr z)
        · exact p.rel.fpl z
    · have hs : ((st'.ss.take np).map fun s => match s with | .mu o => Slot.mu o | _ => .un)[i]? = some s := hs
      rw [List.getElem?_map] at hs
      obtain ⟨s0, hs0, rfl⟩ := Option.map_eq_some_iff.mp hs
      have hlt : i < np := by
        by_cases h : i < np
        · exact h
        · have := (List.getElem?_eq_some_iff.mp hs0).1
          rw [List.length_take] at this
          omega
      rw [List.getElem?_take_of_lt hlt] at hs0
      have hvi : vs[i]? = some (vs.getD i .non) := by rw [List.getD_eq_getElem?_getD, List.getElem?_eq_getElem (by omega)]; rfl
      have nomu : (∀ o, s0 ≠ .mu o) → fpF fp' st'.ss np i = [] := fun h => by
        unfold fpF
        rw [if_neg]
        rintro ⟨_, o, ho⟩
        rw [hs0] at ho
        exact h o (Option.some.inj ho)
      cases s0 with
      | mu o =>
        have hf : fpF fp' st'.ss np i = fp' i := by unfold fpF; rw [if_pos ⟨hlt, o, hs0⟩]
        show _ ∧ _
        rw [hf]
        obtain ⟨_, z2⟩ := p.rel.sl i _ hs0
        refine ⟨by rw [List.getElem?_map, hvi, hμ]; rfl, z2.stay _ (Goes.refl _) (fun _ _ => rfl) (hidP_sub mk)⟩
      | un => exact nomu fun o h => by cases h
      | ow o => exact nomu fun o h => by cases h
      | bo o => exact nomu fun o h => by cases h
    · have hi : ((st'.ss.take np).map fun s => match s with | .mu o => Slot.mu o | _ => .un)[i]? = none := hi
      rw [List.getElem?_map] at hi
      have hi := Option.map_eq_none_iff.mp hi
      unfold fpF
      rw [if_neg]
      rintro ⟨h1, o, h2⟩
      rw [List.getElem?_take_of_lt h1, h2] at hi
      cases hi
  · exfalso
    rw [ht] at e
    cases e
end
section
variable {P : Program} {w : World} {K : PySem.W.Frag} {mg : Str → Option Value} {base : Heap}
/-- the context at a def's entry -/
theorem start_ok {L : Addr → Prop} {ι : List Addr} {args : List Slot} {vs : List V} {H : Hp} {fp : Nat → List Addr} {N : List Str} {nl : Nat} (r : RelS ⟨K, L, fun i => vs.getD i .non⟩ ι L ⟨args, ι.length, 0⟩ (vs.map some) H fp) (hN : N.length = args.length + nl) :
    RelS ⟨K, L, fun i => vs.getD i .non⟩ ι L ⟨args ++ List.replicate nl .un, ι.length, 0⟩ (L2.start N vs) H fp := by
  have hl : args.length = vs.length := by have := r.len; rwa [List.length_map] at this
  refine ⟨?_, rfl, r.nd, r.dj, r.db, r.lb, r.bl, fun i s hs => ?_, fun i hi => ?_⟩
  · unfold L2.start
    rw [List.length_append, List.length_append, List.length_map, List.length_replicate, List.length_replicate]
    omega
  · have hs : (args ++ List.replicate nl Slot.un)[i]? = some s := hs
    by_cases h : i < args.length
    · rw [List.getElem?_append_left h] at hs
      unfold L2.start
      rw [List.getElem?_append_left (by rw [List.length_map]; omega)]
      exact r.sl i s hs
    · rw [List.getElem?_append_right (by omega), List.getElem?_replicate] at hs
      split at hs
      · cases hs
        exact r.out i (List.getElem?_eq_none (by show args.length ≤ i; omega))
      · cases hs
  · have hi : (args ++ List.replicate nl Slot.un)[i]? = none := hi
    have := List.getElem?_eq_none_iff.mp hi
    rw [List.length_append] at this
    exact r.out i (List.getElem?_eq_none (by show args.length ≤ i; omega))
/-- a def's body in values: the run -/
theorem fn_core {X : Cx} {N ps : List Str} {np nl : Nat} {body : SDen} {bd : List Stmt} {vs : List V} {H : Hp} {Q : VK} {E : XK} (hp : ps.length = np) (hN : N.length = np + nl)
    (hb : ∀ (L : Addr → Prop) (μ : Nat → V), SSs X ⟨K, L, μ⟩ (fun cls d _ H => E cls d H) bd body) (h : spD K np (runFn np nl body) vs H Q E) :
    ∃ t, PSs X bd t ∧ t { nx := fun _ H' => Q .non H', rt := Q } (start N vs) H := by
  obtain ⟨ι, L, args, fp, ha, r, g⟩ := h
  have hl : args.length = vs.length := by have := r.len; rwa [List.length_map] at this
  refine ⟨_, hb L (fun i => vs.getD i .non), L, ι, ⟨args ++ List.replicate nl .un, ι.length, 0⟩, fp, start_ok r (by rw [ha]; exact hN), ?_⟩
  unfold runFn at g
  rw [if_pos ha] at g
  have hlen : ∀ {F : List Addr} {st' : ES} {σ' : L2.St} {ι' : List Addr} {fp' : Nat → List Addr} {H' : Hp}, PostS ⟨K, L, fun i => vs.getD i .non⟩ L fp H ι F st' σ' ι' fp' H' → True := fun _ => trivial
  cases e : body ⟨args ++ List.replicate nl .un, ι.length, 0⟩ with
  | no => rw [e] at g; exact g.elim
  | bk st' => rw [e] at g; exact g.elim
  | ct st' => rw [e] at g; exact g.elim
  | nx st' =>
    rw [e] at g
    intro σ' H' ι' fp' p
    simp only at g
    split at g
    · rename_i hn
      obtain ⟨q, mk⟩ := fin_post (vs := vs) (F2 := []) (st0 := ⟨args, ι.length, 0⟩) p (fun _ => rfl) (by omega) hn List.nodup_nil (fun a ha => nomatch ha) rfl
      exact g .non H' [] ι' _ q ⟨rfl, rfl⟩
    · exact g.elim
  | rt rv st' =>
    rw [e] at g
    intro v σ' H' F ι' fp' p hv
    cases rv with
    | va o =>
      simp only at g
      split at g
      · rename_i hn
        obtain ⟨q, mk⟩ := fin_post (vs := vs) (F2 := F) (st0 := ⟨args, ι.length, 0⟩) p (fun _ => rfl) (by omega) hn p.fn (fun a ha => .inl ha) rfl
        exact g v H' F ι' _ q (RO.stay o hv (Goes.refl _) (fun _ _ => rfl) (hidP_sub mk))
      · exact g.elim
    | pl i pp =>
      cases pp with
      | cons s0 pp => exact g.elim
      | nil =>
        simp only at g
        obtain ⟨rfl, u, hu, rc, _⟩ := hv
        cases (show u = v from rc)
        split at g
        · rename_i o ho
          split at g
          · rename_i hn
            obtain ⟨v', h1, h2⟩ := p.rel.sl i _ ho
            rw [hu] at h1
            cases h1
            obtain ⟨q, mk⟩ := fin_post (vs := vs) (F2 := fp' i) (st0 := ⟨args, ι.length, 0⟩) p (fun _ => rfl) (by omega) hn (p.rel.nd i) (fun a ha => .inr ⟨i, ha, fun o' z => by rw [ho] at z; cases z⟩) rfl
            exact g _ H' (fp' i) ι' _ q (RO.stay o h2 (Goes.refl _) (fun _ _ => rfl) (hidP_sub mk))
          · exact g.elim
        · exact g.elim
  | ex C gx d st' =>
    rw [e] at g
    intro dx σ' H' ι' fp' p
    simp only at g
    split at g
    · rename_i hn
      have p0 : PostS ⟨K, L, fun i => vs.getD i .non⟩ L fp H ι [] st' σ' ι' fp' H' := ⟨List.nodup_nil, fun _ h => (nomatch h), by rw [un2_nil rfl]; exact p.rel, p.go, p.kb, by rw [un2_nil rfl]; exact p.sm⟩
      obtain ⟨q, mk⟩ := fin_post (vs := vs) (F2 := []) (st0 := ⟨args, ι.length, 0⟩) p0 (fun _ => rfl) (by omega) hn List.nodup_nil (fun a ha => nomatch ha) rfl
      rw [un2_nil rfl] at mk
      obtain ⟨u, h1, h2⟩ := p.xd
      exact g dx H' ι' _ ⟨q.rel0, q.go, q.kb, by have := q.sm; rwa [un2_nil rfl] at this, ⟨u, h1, R.mono _ h2 (Goes.refl _) (hidP_sub mk)⟩, fun z => p.nx (mk dx z)⟩
    · exact g.elim
/-- THE RULE for a def: its body in values -/
theorem fn_ok {x qual : Str} {stm : Stmt} {f : Addr} {fd : FuncData} {N ps : List Str} {k np nl : Nat} {body : SDen} (Fd : L2.Fun K x qual stm f fd) (S : FnScope N ps (defScope stm)) (hp : ps.length = np) (hN : N.length = np + nl)
    (hb : ∀ (cdv : Value) (A : Around) (outer : List Env) (s : Shared) (H : Hp) (E : XK) (L : Addr → Prop) (μ : Nat → V), Room k (A.deeper (envOfC qual (defScope stm) s.heap.objs.size f cdv)) →
      SSs (cxOf (L2.CX P w) P w K mg base N qual (defScope stm) f cdv A outer s H E) ⟨K, L, μ⟩ (fun cls d _ H => E cls d H) (defBody stm) body) :
    FnOk P w K mg base (L2.CX P w) (k + 1) f fd ps (spD K np (runFn np nl body)) := by
  exact Fd.okX S (fun vs H Q E h => by rw [spD_len h, hp]) fun cdv A outer s H vs Q E hr h => fn_core hp hN (fun L μ => hb cdv A outer s H E L μ hr) h
end
end Fv
set_option Elab.async false
set_option linter.all false
set_option maxRecDepth 100000
set_option maxHeartbeats 4000000
namespace Fv
open PySem PySem.Spec PyProof.Rows L2 RkO Rx
open Classical
def gLen : List D → Option O
  | [.lst ds] => some (.dp (.int ds.length))
  | [.tup ds] => some (.dp (.int ds.length))
  | [.scr ns] => some (.dp (.int ns.length))
  | [.str z] => if z.length ≤ 100000 then some (.dp (.int z.length)) else none
  | [.dic kvs] => some (.dp (.int kvs.length))
  | _ => none
def gInt : List D → Option O
  | [.int i] => some (.dp (.int i))
  | [.bl b] => some (.dp (.int (if b then 1 else 0)))
  | _ => none
def keyD : Key → D
  | .inl i => .int i
  | .inr s => .str s
def gList : List D → Option O
  | [.lst ds] => some (.lst (dps ds))
  | [.tup ds] => some (.lst (dps ds))
  | [.scr ns] => some (.lst (dps (ns.map .int)))
  | _ => none
def gTuple : List D → Option O
  | [.lst ds] => some (.dp (.tup ds))
  | _ => none
def gSum : List D → Option O
  | [.lst ds] => (asInts ds).map fun ns => .dp (.int ns.sum)
  | [.scr ns] => some (.dp (.int ns.sum))
  | _ => none
def gAll : List D → Option O
  | [.lst ds] => (asBls ds).map fun bs => .dp (.bl (bs.all id))
  | _ => none
def gAny : List D → Option O
  | [.lst ds] => (asBls ds).map fun bs => .dp (.bl (bs.any id))
  | _ => none
section
variable {K : PySem.W.Frag} {X : Cx}
theorem opk_len (hK : X.K = K) : CallR X (.builtin "len") (fun xs H Q => (∃ p ys, xs = [.ref p] ∧ (SqL X.K H p ys ∨ SqT X.K H p ys) ∧ Q (.int ys.length) H) ∨ (∃ z, xs = [.str z] ∧ z.length ≤ sizeLine ∧ Q (.int z.length) H) ∨ ∃ a kvs, xs = [V.ref a] ∧ H a = some (.dK kvs) ∧ Q (.int kvs.length) H) ∧
    OpK K (fun xs H Q => (∃ p ys, xs = [.ref p] ∧ (SqL X.K H p ys ∨ SqT X.K H p ys) ∧ Q (.int ys.length) H) ∨ (∃ z, xs = [.str z] ∧ z.length ≤ sizeLine ∧ Q (.int z.length) H) ∨ ∃ a kvs, xs = [V.ref a] ∧ H a = some (.dK kvs) ∧ Q (.int kvs.length) H) gLen := by
  refine ⟨fun pins s σ H xs us Q I r h => ?_, fun ι A H vs ds o Q al hv e q => ?_⟩
  · rcases h with h | h | h
    · exact call_len_seq pins s σ H xs us Q I r h
    · exact call_len_str pins s σ H xs us Q I r h
    · exact call_lenD pins s σ H xs us Q I r h
  · rw [hK]
    unfold gLen at e
    split at e
    · obtain ⟨x, rfl, a, xs, rfl, h1, h2⟩ := hv.one
      cases e
      exact .inl ⟨a, xs, rfl, .inl (SqL.of h1), by rw [h2.len]; exact q.atom fun _ => rfl⟩
    · obtain ⟨x, rfl, a, xs, rfl, h1, h2⟩ := hv.one
      cases e
      exact .inl ⟨a, xs, rfl, .inr (tupS h1), by rw [h2.len]; exact q.atom fun _ => rfl⟩
    · rename_i ns
      obtain ⟨x, rfl, a, rfl, h1⟩ := hv.one
      cases e
      exact .inl ⟨a, _, rfl, .inl h1, by rw [List.length_map]; exact q.atom fun _ => rfl⟩
    · rename_i z
      obtain ⟨x, rfl, h1⟩ := hv.one
      cases (show x = _ from h1)
      split at e
      · rename_i hz
        cases e
        exact .inr (.inl ⟨z, rfl, Evl.sz_of hz, q.atom fun _ => rfl⟩)
      · cases e
    · rename_i kvs
      obtain ⟨x, rfl, a, xs, rfl, h1, h2⟩ := hv.one
      cases e
      have hl : ∀ {kvs : List (Key × D)} {xs : List (Key × V)}, Rk K ι kvs H xs → xs.length = kvs.length := by
        intro kvs
        induction kvs with
        | nil => intro xs h; rw [show xs = [] from h]; rfl
        | cons p kvs ih =>
          intro xs h
          obtain ⟨k, d⟩ := p
          obtain ⟨x, r, rfl, _, h⟩ := h
          rw [List.length_cons, List.length_cons, ih h]
      exact .inr (.inr ⟨a, xs, rfl, h1, by rw [hl h2]; exact q.atom fun _ => rfl⟩)
    · cases e
theorem ops_int : OpS K (fun xs H Q => (∃ i, xs = [.int i] ∧ Q (.int i) H) ∨ ∃ k, xs = [.bl k] ∧ Q (.int (if k then 1 else 0)) H) gInt := fun ι A H vs ds o Q al hv e q => by
  unfold gInt at e
  split at e
  · obtain ⟨x, rfl, h1⟩ := hv.one
    cases (show x = _ from h1)
    cases e
    exact .inl ⟨_, rfl, q.atom fun _ => rfl⟩
  · obtain ⟨x, rfl, h1⟩ := hv.one
    cases (show x = _ from h1)
    cases e
    exact .inr ⟨_, rfl, q.atom fun _ => rfl⟩
  · cases e
theorem ops_list : OpS K (fun xs H Q => ∃ p ys, xs = [.ref p] ∧ (SqL K H p ys ∨ SqT K H p ys) ∧ ∀ l, H l = none → Q (.ref l) (upd H l (.lst ys))) gList := fun ι A H vs ds o Q al hv e q => by
  unfold gList at e
  split at e
  · obtain ⟨x, rfl, a, xs, rfl, h1, h2⟩ := hv.one
    cases e
    exact ⟨a, xs, rfl, .inl (SqL.of h1), q.list h2⟩
  · obtain ⟨x, rfl, a, xs, rfl, h1, h2⟩ := hv.one
    cases e
    exact ⟨a, xs, rfl, .inr (tupS h1), q.list h2⟩
  · rename_i ns
    obtain ⟨x, rfl, a, rfl, h1⟩ := hv.one
    cases e
    exact ⟨a, _, rfl, .inl h1, q.list (rs_ints ns)⟩
  · cases e
theorem ops_tuple : OpS K (fun xs H Q => ∃ p ys, xs = [.ref p] ∧ ((SqL K H p ys ∧ ∀ l, H l = none → Q (.ref l) (upd H l (.tup ys))) ∨ (SqT K H p ys ∧ Q (.ref p) H))) gTuple := fun ι A H vs ds o Q al hv e q => by
  unfold gTuple at e
  split at e
  · obtain ⟨x, rfl, a, xs, rfl, h1, h2⟩ := hv.one
    cases e
    exact ⟨a, xs, rfl, .inl ⟨SqL.of h1, q.tup al h2⟩⟩
  · cases e
theorem ops_sum : OpS K (rSum K) gSum := fun ι A H vs ds o Q al hv e q => by
  unfold gSum at e
  split at e
  · obtain ⟨x, rfl, a, xs, rfl, h1, h2⟩ := hv.one
    obtain ⟨ns, hn, rfl⟩ := Option.map_eq_some_iff.mp e
    have := of_asInts hn
    subst this
    rw [h2.ints] at h1
    exact ⟨a, ns, rfl, SqL.of h1, q.atom fun _ => rfl⟩
  · rename_i ns
    obtain ⟨x, rfl, a, rfl, h1⟩ := hv.one
    cases e
    exact ⟨a, ns, rfl, h1, q.atom fun _ => rfl⟩
  · cases e
theorem ops_all : OpS K (rAll K) gAll := fun ι A H vs ds o Q al hv e q => by
  unfold gAll at e
  split at e
  · obtain ⟨x, rfl, a, xs, rfl, h1, h2⟩ := hv.one
    obtain ⟨ns, hn, rfl⟩ := Option.map_eq_some_iff.mp e
    have := of_asBls hn
    subst this
    rw [h2.bls] at h1
    exact ⟨a, ns, rfl, SqL.of h1, q.atom fun _ => rfl⟩
  · cases e
end
def gMin2 : List D → Option O := gI fun i j => some (if j < i then j else i)
section
variable {X : Cx} {c : FC} {W : WX} {a b e : Expr} {es : List Expr} {fa fb : Den} {fs : List Den} {pos p : Pos}
theorem se_len (hK : X.K = c.K) (hg : Gl X "len") (hm : X.mg "len" = none) (ha : SA X c W [e] fs) (he : starEach [e] X.env = (false, eval e X.env) :: starEach [] X.env := by rfl) (hpl : (backTo pos (starEach [] X.env)).any (·.1) = false := by rfl) : SE X c W (.Call (.Name "len" p) [e] [] pos) (dOp pk gLen fs) :=
  se_callBk (opk_len hK).1 (opk_len hK).2 hg hm PySem.boot_len ha (by decide) (by decide) he hpl
end
end Fv
set_option Elab.async false
set_option linter.all false
set_option maxRecDepth 100000
set_option maxHeartbeats 4000000
namespace Fv
open PySem PySem.Spec PyProof.Rows L2 RkO Rx
open Classical
def setAt (st : ES) (i : Nat) (p : List Stp) (o2 : O) : ES := { st with ss := st.ss.mapIdx fun j s => if j = i then s.upd p o2 else s, t := st.t + 1 }
/-- what stands at a place that may be changed -/
def hereM (st : ES) (i : Nat) (p : List Stp) : Option O := match st.ss[i]? with
  | some (.ow o) => o.get p
  | some (.mu o) => o.get p
  | _ => none
section
variable {c : FC} {W : WX} {ι ι' ι1 : List Addr} {B : Addr → Prop} {st st' st1 st2 : ES} {σ σ' σ1 : L2.St} {H H' H1 H2 : Hp} {fp fp' fp1 fp2 : Nat → List Addr} {F F' : List Addr} {te : TE} {fe : Den}
/-- a place may be changed: what of it is held, and what becomes of the state -/
def Chg (c : FC) (ι : List Addr) (B : Addr → Prop) (F : List Addr) (st : ES) (σ : L2.St) (H : Hp) (fp : Nat → List Addr) (i : Nat) (p : List Stp) (o1 : O) (v : V) : Prop :=
    ∃ f1, (∀ a ∈ f1, a ∈ fp i) ∧ f1.Nodup ∧ RO c.K ι (All (Un2 B F) fp) o1 f1 H v ∧ ∀ {H' : Hp} {o2 : O} {f2 F2 : List Addr}, (∀ a, a ∉ f1 → H' a = H a) → (∀ a ∈ f1, ∃ u, H' a = some u) → RO c.K ι (All (Un2 B F) fp) o2 f2 H' v → f2.Nodup → (∀ a ∈ f2, a ∈ f1 ∨ a ∈ F) → F2.Nodup → (∀ a ∈ F2, (a ∈ f1 ∨ a ∈ F) ∧ a ∉ f2) →
      ∃ fpN, RelS c ι (Un2 B F2) (setAt st i p o2) σ H' fpN ∧ (∀ a, All (Un2 B F2) fpN a → All (Un2 B F) fp a) ∧ Same (hidP (All (Un2 B F) fp) H) (hidP (All (Un2 B F2) fpN) H')
theorem place_chg (r : RelS c ι (Un2 B F) st σ H fp) (hl : ∀ a, c.L a → B a) (hFB : ∀ a ∈ F, ¬ B a) {i : Nat} {p : List Stp} {o1 : O} {u v : V} (e : hereM st i p = some o1) (hu : σ[i]? = some (some u)) (rc : Reach H p u v) :
    Chg c ι B F st σ H fp i p o1 v := by
  have core : ∀ (s : Slot) (o : O), st.ss[i]? = some s → (s = .ow o ∨ s = .mu o) → o.get p = some o1 → RO c.K ι (All (Un2 B F) fp) o (fp i) H u → (s = .mu o → u = c.μ i) → Chg c ι B F st σ H fp i p o1 v := fun s o hs hso ho1 hro hmu => by
    obtain ⟨f1, sub, nd1, h1, back⟩ := hro.lens ho1 rc (r.nd i)
    refine ⟨f1, sub, nd1, h1, fun {H' o2 f2 F2} k lv h2 nd2 s2 ndF sF => ?_⟩
    have inA : ∀ a ∈ f1, All (Un2 B F) fp a := fun a ha => .inr ⟨i, sub a ha⟩
    have smA : Same (hidP (All (Un2 B F) fp) H) (hidP (All (Un2 B F) fp) H') := fun b w z => by
      obtain ⟨n, z⟩ := hidP_some z
      rw [hidP_f n, k b fun y => n (inA b y)]
      exact z
    obtain ⟨f', h', ndf, mem⟩ := back h2 (Goes.refl _) (fun a _ hn => k a hn) smA nd2 (fun a ha hai => (s2 a ha).elim id fun z => absurd (.inr z) (r.db i a hai))
    have mk : ∀ a, All (Un2 B F2) (fset fp i f') a → All (Un2 B F) fp a := fun a z => by
      rcases z with (z | z) | ⟨j, z⟩
      · exact .inl (.inl z)
      · rcases (sF a z).1 with y | y
        · exact inA a y
        · exact .inl (.inr y)
      · by_cases hj : j = i
        · rw [hj, fset_same] at z
          rcases (mem a).mp z with z | z
          · exact .inr ⟨i, z.1⟩
          · rcases s2 a z with y | y
            · exact inA a y
            · exact .inl (.inr y)
        · rw [fset_ne hj] at z; exact .inr ⟨j, z⟩
    have sm := smA.trans (hidP_sub mk)
    refine ⟨fset fp i f', ⟨?_, r.cnt, fun j => ?_, fun j l a h1' h2' => ?_, fun j a h1' z => ?_, fun a h => .inl (hl a h), fun a z => ?_, fun j s' hs' => ?_, fun j hj => ?_⟩, mk, sm⟩
    · show (st.ss.mapIdx _).length = _
      rw [List.length_mapIdx]; exact r.len
    · by_cases hj : j = i
      · rw [hj, fset_same]; exact ndf
      · rw [fset_ne hj]; exact r.nd j
    · have hit : ∀ {j a}, j ≠ i → a ∈ fp j → a ∈ f' → False := fun {j a} hj h1 h2 => by
        rcases (mem a).mp h2 with z | z
        · exact hj (r.dj j i a h1 z.1)
        · rcases s2 a z with y | y
          · exact hj (r.dj j i a h1 (sub a y))
          · exact r.db j a h1 (.inr y)
      by_cases hj : j = i
      · by_cases hk : l = i
        · rw [hj, hk]
        · rw [hj, fset_same] at h1'
          rw [fset_ne hk] at h2'
          exact (hit hk h2' h1').elim
      · by_cases hk : l = i
        · rw [hk, fset_same] at h2'
          rw [fset_ne hj] at h1'
          exact (hit hj h1' h2').elim
        · rw [fset_ne hj] at h1'
          rw [fset_ne hk] at h2'
          exact r.dj j l a h1' h2'
    · by_cases hj : j = i
      · rw [hj, fset_same] at h1'
        rcases z with z | z
        · rcases (mem a).mp h1' with y | y
          · exact r.db i a y.1 (.inl z)
          · rcases s2 a y with y | y
            · exact r.db i a (sub a y) (.inl z)
            · exact hFB a y z
        · rcases (mem a).mp h1' with y | y
          · rcases (sF a z).1 with w | w
            · exact y.2 w
            · exact r.db i a y.1 (.inr w)
          · exact (sF a z).2 y
      · rw [fset_ne hj] at h1'
        rcases z with z | z
        · exact r.db j a h1' (.inl z)
        · rcases (sF a z).1 with w | w
          · exact hj (r.dj j i a h1' (sub a w))
          · exact r.db j a h1' (.inr w)
    · have : ∀ {a}, (∃ w, H a = some w) → ∃ w, H' a = some w := fun {a} h => by
        by_cases y : a ∈ f1
        · exact lv a y
        · rw [k a y]; exact h
      rcases z with z | z
      · exact this (r.bl a (.inl z))
      · rcases (sF a z).1 with w | w
        · exact lv a w
        · exact this (r.bl a (.inr w))
    · have hs' : (st.ss.mapIdx fun j s => if j = i then s.upd p o2 else s)[j]? = some s' := hs'
      rw [List.getElem?_mapIdx] at hs'
      obtain ⟨s0, hs0, rfl⟩ := Option.map_eq_some_iff.mp hs'
      by_cases hj : j = i
      · subst hj
        rw [hs] at hs0
        cases hs0
        rw [if_pos rfl, fset_same]
        rcases hso with rfl | rfl
        · exact ⟨u, hu, h'.stay _ (Goes.refl _) (fun _ _ => rfl) (hidP_sub mk)⟩
        · have := hmu rfl
          subst this
          exact ⟨hu, h'.stay _ (Goes.refl _) (fun _ _ => rfl) (hidP_sub mk)⟩
      · rw [if_neg hj, fset_ne hj]
        refine (r.sl j s0 hs0).stay (Goes.refl _) (fun a ha => k a fun y => hj (r.dj j i a ha (sub a y))) (fun a ha => k a fun y => r.db i a (sub a y) (.inl (hl a ha))) sm
    · have hj : (st.ss.mapIdx fun j s => if j = i then s.upd p o2 else s)[j]? = none := hj
      rw [List.getElem?_mapIdx] at hj
      have hj := Option.map_eq_none_iff.mp hj
      have hne : j ≠ i := fun z => by subst z; rw [hs] at hj; cases hj
      rw [fset_ne hne]
      exact r.out j hj
  unfold hereM at e
  split at e
  · rename_i o hs
    obtain ⟨v', z1, z2⟩ := r.sl i _ hs
    rw [hu] at z1
    cases z1
    exact core _ o hs (.inl rfl) e z2 (fun z => by cases z)
  · rename_i o hs
    obtain ⟨z1, z2⟩ := r.sl i _ hs
    rw [hu] at z1
    cases z1
    exact core _ o hs (.inr rfl) e z2 (fun _ => rfl)
  · cases e
/-- the operation at a place, a Post of it -/
theorem Post.setAt (p0 : Post c B fp H ι st σ st1 F ι1 fp1 H1) {i : Nat} {p : List Stp} {o2 : O} {F2 : List Addr} {H2 : Hp} {fpN : Nat → List Addr} (rel : RelS c ι1 (Un2 B F2) (Fv.setAt st1 i p o2) σ H2 fpN) (nd : F2.Nodup) (hb : ∀ a ∈ F2, ¬ B a) (kb : ∀ a, B a → H2 a = H1 a) (sm : Same (hidP (All (Un2 B F) fp1) H1) (hidP (All (Un2 B F2) fpN) H2)) :
    Post c B fp H ι st σ (Fv.setAt st1 i p o2) F2 ι1 fpN H2 :=
  ⟨nd, hb, rel, p0.go, fun a ha => (kb a ha).trans (p0.kb a ha), p0.sm.trans sm, fun e => by
    have : (Fv.setAt st1 i p o2).t = st1.t + 1 := rfl
    have := p0.up
    omega, Nat.le_trans p0.up (Nat.le_succ _)⟩
theorem chg_ty (r : RelS c ι B st σ H fp) {i : Nat} {p : List Stp} {o1 : O} {u v : V} (e : hereM st i p = some o1) (hu : σ[i]? = some (some u)) (rc : Reach H p u v) : ∃ f1, RO c.K ι (All B fp) o1 f1 H v := by
  have hB : Un2 B ([] : List Addr) = B := un2_nil rfl
  obtain ⟨f1, _, _, h, _⟩ := place_chg (F := []) (by rw [hB]; exact r) r.lb (fun a h => nomatch h) e hu rc
  rw [hB] at h
  exact ⟨f1, h⟩
/-- o.append(x) -/
def dApp (fo fx : Den) : Den := fun st => (fo st).bind fun r0 st1 => match r0 with
  | .pl i p => match hereM st1 i p with
    | some (.lst _) => (fx st1).bind fun rx st2 => if keep (.pl i p) st1 st2 = true then (settle rx st2).bind fun o st3 => match hereM st3 i p with
        | some (.lst os) => if os.length < 100000 then .ok (.va (.dp .non)) (setAt st3 i p (.lst (os ++ [o]))) else .no
        | _ => .no
      else .no
    | _ => .no
  | _ => .no
theorem ref_app {to tx : TE} {fo fx : Den} (ho : RefE c W to fo) (hx : RefE c W tx fx) : RefE c W (tBM c.K "list" rAppend to (tCons tx tNil)) (dApp fo fx) := fun B ι st σ H fp rs Q gg => by
  refine ho B ι st σ H fp rs _ ?_
  unfold dApp at gg
  cases e1 : fo st with
  | no => rw [e1] at gg; exact gg
  | ex C gx d st1 => rw [e1] at gg; exact gg
  | ok r0 st1 =>
    rw [e1] at gg
    simp only [bind_ok] at gg
    intro v H1 F ι1 fp1 p1 h1
    cases r0 with
    | va o => exact gg.elim
    | pl i p =>
      simp only at gg
      obtain ⟨rfl, u, hu, rc, _⟩ := id h1
      split at gg
      · rename_i os0 eh
        obtain ⟨f0, a, _, xs0, _, rfl, hx0, _⟩ := chg_ty p1.rel eh hu rc
        refine ⟨.inl ⟨rfl, xs0, SqL.of hx0⟩, hx _ ι1 st1 σ H1 fp1 p1.rel _ ?_⟩
        cases e2 : fx st1 with
        | no => rw [e2] at gg; exact gg
        | ex C gx d st2 =>
          rw [e2] at gg
          exact fun dx H' ι' fp' q => gg dx H' ι' fp' (p1.thenX rs.lb q)
        | ok rx st2 =>
          rw [e2] at gg
          simp only [bind_ok] at gg
          intro y H2 F2 ι2 fp2 p2 h2
          by_cases kp : keep (.pl i p) st1 st2 = true
          · rw [if_pos kp] at gg
            have hr := RVR.stay h1 (fun a h => h) p1.rel p2 kp
            obtain ⟨_, u', hu', rc', _⟩ := hr
            rw [hu] at hu'
            cases hu'
            have := settles_no (rvs := [rx]) (st := st2)
            simp only [settles] at this
            cases e3 : settle rx st2 with
            | no => rw [e3] at gg; exact gg.elim
            | ex C gx d s => rw [e3] at this; rcases this with ⟨_, _, z⟩ | z <;> cases z
            | ok o st3 =>
              rw [e3] at gg
              simp only [bind_ok] at gg
              have p12 := p1.trans p2
              rw [un2_app] at h2
              obtain ⟨fp3, p3, h3, _⟩ := settle_ok p12 (fun a ha => List.mem_append_right _ ha) h2 e3
              rw [List.nil_append] at p3 h3
              split at gg
              · rename_i os eh3
                split at gg
                · rename_i hz
                  obtain ⟨f1, sub, nd1, hro, chg⟩ := place_chg p3.rel rs.lb p3.fb eh3 hu rc'
                  obtain ⟨a', r', xs, rfl, ea, hxs, hos⟩ := id hro
                  cases ea
                  have nF : ∀ b ∈ F2, b ∉ a :: r' := fun b hb z => p3.rel.db i b (sub b z) (.inr hb)
                  have ndr := List.nodup_cons.mp nd1
                  obtain ⟨fpN, rel, mk, sm⟩ := chg (H' := upd H2 a (.lst (xs ++ [y]))) (o2 := .lst (os ++ [o])) (f2 := a :: (r' ++ F2)) (F2 := []) (fun b hb => upd_ne fun z => hb (by rw [z]; exact List.mem_cons_self))
                    (fun b hb => by
                      by_cases z : b = a
                      · rw [z]; exact ⟨_, upd_same⟩
                      · rw [upd_ne z]; exact hro.live _ b hb)
                    (by
                      have sm1 : Same (hidP (All (Un2 B F2) fp3) H2) (hidP (All (Un2 B F2) fp3) (upd H2 a (.lst (xs ++ [y])))) := fun b w z => by
                        obtain ⟨n, z⟩ := hidP_some z
                        rw [hidP_f n, upd_ne fun y => n (.inr ⟨i, by rw [y]; exact sub a List.mem_cons_self⟩)]
                        exact z
                      have k1 : ∀ b ∈ r', upd H2 a (.lst (xs ++ [y])) b = H2 b := fun b hb => upd_ne fun z => ndr.1 (z ▸ hb)
                      have k2 : ∀ b ∈ F2, upd H2 a (.lst (xs ++ [y])) b = H2 b := fun b hb => upd_ne fun z => nF b hb (by rw [z]; exact List.mem_cons_self)
                      exact ⟨a, _, xs ++ [y], rfl, rfl, upd_same, (hos.stay _ (Goes.refl _) k1 sm1).app ⟨F2, [], y, [], (List.append_nil _).symm, rfl, h3.stay _ (Goes.refl _) k2 sm1, rfl, rfl⟩⟩)
                    (List.nodup_cons.mpr ⟨fun z => (List.mem_append.mp z).elim ndr.1 fun z => nF a z List.mem_cons_self, List.nodup_append.mpr ⟨ndr.2, p3.fn, fun x hx y hy e => nF y hy (by rw [← e]; exact List.mem_cons_of_mem _ hx)⟩⟩)
                    (fun b hb => by
                      rcases List.mem_cons.mp hb with rfl | hb
                      · exact .inl List.mem_cons_self
                      · rcases List.mem_append.mp hb with hb | hb
                        · exact .inl (List.mem_cons_of_mem _ hb)
                        · exact .inr hb)
                    List.nodup_nil (fun b hb => nomatch hb)
                  refine ⟨a, xs, y, rfl, rfl, hxs, ?_, ?_⟩
                  · rw [hos.len]
                    exact Evl.sz_lt hz
                  · refine gg .non _ [] ι2 fpN (Post.setAt p3 rel List.nodup_nil (fun b hb => nomatch hb) (fun b hb => upd_ne fun z => p3.rel.db i b (by rw [z]; exact sub a List.mem_cons_self) (.inl hb)) sm) ⟨rfl, rfl⟩
                · exact gg.elim
              · exact gg.elim
          · rw [if_neg kp] at gg
            exact gg.elim
      · exact gg.elim
end
end Fv
set_option Elab.async false
set_option linter.all false
set_option maxRecDepth 100000
set_option maxHeartbeats 4000000
namespace Fv
open PySem PySem.Spec PyProof.Rows L2 RkO Rx
open Classical
@[simp] def putL {κ : Type} [DecidableEq κ] (k : κ) (o : O) : List (κ × O) → List (κ × O)
  | [] => [(k, o)]
  | (m, x) :: r => if m = k then (m, o) :: r else (m, x) :: putL k o r
/-- x[i] = v -/
def sSub (fv fo fi : Den) : SDen := fun st => keepE (fv st) fun o st1 => onE (fo st1) fun r0 st2 => match r0 with
  | .pl j p => onE (fi st2) fun ri st3 => if keep (.pl j p) st2 st3 = true then match hereM st3 j p, pk st3 ri with
      | some (.lst os), some (.int k) => match ixN os.length k with
        | some q => .nx (setAt st3 j p (.lst (os.set q o)))
        | none => .no
      | _, _ => .no
    else .no
  | _ => .no
/-- o.f = v -/
def sFldS (ok : List Addr) (n : Str) (fv fo : Den) : SDen := fun st => keepE (fv st) fun o st1 => onE (fo st1) fun r0 st2 => match r0 with
  | .pl j p => match hereM st2 j p with
    | some (.obj C m flds) => if C ∈ ok ∧ flds.length < 1000 then .nx (setAt st2 j p (.obj C m (putL n o flds))) else .no
    | _ => .no
  | _ => .no
def sRaise (C : Addr) (g : Str) (f : Den) : SDen := fun st => keepE (f st) fun o st1 => .ex C g o.toD st1
section
variable {c : FC} {W : WX} {ι ι' ι1 : List Addr} {B : Addr → Prop} {st st' st1 st2 : ES} {σ σ' σ1 : L2.St} {H H' H1 H2 : Hp} {fp fp' fp1 fp2 : Nat → List Addr} {F F' : List Addr} {te to ti tv : TE} {fe fo fi fv : Den}
theorem ref_raise {C : Addr} {g : Str} {t : TS} (h : RefE c W te fe) (ht : ∀ (D : Ends) (σ : L2.St) (H : Hp), te σ H (fun v H1 => ∀ d, H1 d = none → W (.ref C) (some d) σ (upd H1 d (.xd [(g, v)]))) → t D σ H) : RefS c W t (sRaise C g fe) := fun B ι st σ H fp r D gg => by
  refine ht D σ H (kept h r (k := fun o st1 => .ex C g o.toD st1) gg fun v H' F ι' fp' o st' p ho gg d hd => ?_)
  have hR := rv_give p.rel p.fb (fun a h => h) ho
  have p2 := p.drop r.lb
  have r2 := p2.rel0
  have nA : ¬ All B fp' d := fun z => by obtain ⟨u, z⟩ := r2.alive z; rw [hd] at z; cases z
  have q : Post c B fp' H' ι' st' σ st' [] ι' fp' (upd H' d (.xd [(g, v)])) := Post.fresh (F := []) r2 List.nodup_nil (fun a ha => nomatch ha) (same_upd hd) (fun a ha => nomatch ha)
  have sm : Same (hidP (All B fp') H') (hidP (All B fp') (upd H' d (.xd [(g, v)]))) := by have := q.sm; rwa [un2_nil rfl] at this
  refine gg d σ _ ι' fp' ⟨q.rel0, p.go, fun a ha => (q.kb a ha).trans (p.kb a ha), ?_, ⟨v, upd_same, R.mono _ hR (Goes.refl _) sm⟩, nA⟩
  have := p2.sm
  rw [un2_nil rfl] at this
  exact this.trans sm
theorem ROf.putL {K : PySem.W.Frag} {M : Addr → Prop} {n : Str} {o : O} {fo : List Addr} {y : V} : ∀ {os : List (Str × O)} {f : List Addr} {xs : List (Str × V)}, ROf K ι M os f H xs → RO K ι M o fo H y → (f ++ fo).Nodup → ∃ f', ROf K ι M (Fv.putL n o os) f' H (putF n y xs) ∧ (∀ a ∈ f', a ∈ f ∨ a ∈ fo) ∧ f'.Nodup
  | [], _, _, h, g, nd => by
    rw [h.1, h.2]
    rw [h.1] at nd
    exact ⟨fo, ⟨fo, [], y, [], (List.append_nil _).symm, rfl, g, rfl, rfl⟩, fun a ha => .inr ha, nd⟩
  | (m, o0) :: os, _, _, h, g, nd => by
    obtain ⟨f1, f2, x, r, rfl, rfl, h1, h2⟩ := h
    by_cases hm : m = n
    · simp only [Fv.putL, putF, if_pos hm]
      have nd' := List.nodup_append.mp (by rw [List.append_assoc] at nd; exact nd)
      have nd2 := List.nodup_append.mp nd'.2.1
      refine ⟨fo ++ f2, ⟨fo, f2, y, r, rfl, rfl, g, h2⟩, fun a ha => ?_, List.nodup_append.mpr ⟨nd2.2.1, nd2.1, fun a ha b hb e => nd2.2.2 b hb a ha e.symm⟩⟩
      rcases List.mem_append.mp ha with ha | ha
      · exact .inr ha
      · exact .inl (List.mem_append_right _ ha)
    · simp only [Fv.putL, putF, if_neg hm]
      have nd' := List.nodup_append.mp (by rw [List.append_assoc] at nd; exact nd)
      obtain ⟨f', h', sub, nd2⟩ := ROf.putL (n := n) h2 g nd'.2.1
      refine ⟨f1 ++ f', ⟨f1, f', x, _, rfl, rfl, h1, h'⟩, fun a ha => ?_, List.nodup_append.mpr ⟨nd'.1, nd2, fun a ha b hb e => ?_⟩⟩
      · rcases List.mem_append.mp ha with ha | ha
        · exact .inl (List.mem_append_left _ ha)
        · rcases sub a ha with z | z
          · exact .inl (List.mem_append_right _ z)
          · exact .inr z
      · rcases sub b hb with z | z
        · exact nd'.2.2 a ha b (List.mem_append_left _ z) e
        · exact nd'.2.2 a ha b (List.mem_append_right _ z) e
/-- the container's place, behind the value -/
theorem ref_fldS {ok : List Addr} {n : Str} (hok : ∀ C ∈ ok, Cls c.K C ∧ NoAttr c.K C n) (hv : RefE c W tv fv) (ho : RefE c W to fo) : RefS c W (sFld c.K to tv n) (sFldS ok n fv fo) := fun B ι st σ H fp rs D gg => by
  refine kept hv rs (k := fun o st1 => onE (fo st1) fun r0 st2 => match r0 with
    | .pl j p => match hereM st2 j p with
      | some (.obj C m flds) => if C ∈ ok ∧ flds.length < 1000 then .nx (setAt st2 j p (.obj C m (putL n o flds))) else .no
      | _ => .no
    | _ => .no) gg fun y H1 F ι1 fp1 o st1 p1 hy gg => ?_
  refine ho _ ι1 st1 σ H1 fp1 p1.rel _ ?_
  cases e1 : fo st1 with
  | no => rw [e1] at gg; exact gg
  | ex C gx d st2 => rw [e1] at gg; exact fun dx H' ι' fp' q => gg dx σ H' ι' fp' (p1.thenX rs.lb q)
  | ok r0 st2 =>
    rw [e1] at gg
    simp only [onE_ok] at gg
    intro v H2 F2 ι2 fp2 p2 h2
    cases r0 with
    | va o => exact gg.elim
    | pl j p =>
      simp only at gg
      obtain ⟨rfl, u, hu, rc, _⟩ := h2
      split at gg
      · rename_i C m flds eh
        split at gg
        · rename_i hC
          have p12 := p1.trans p2
          rw [List.append_nil] at p12
          have hy2 : RO c.K ι2 (All (Un2 B F) fp2) o F H2 y := by
            have := RO.stay o hy p2.go (fun a ha => p2.kb a (.inr ha)) p2.sm
            rwa [un2_nil rfl] at this
          obtain ⟨f1, sub, nd1, hro, chg⟩ := place_chg p12.rel rs.lb p12.fb eh hu rc
          obtain ⟨a, r', dx, xs, rfl, rfl, hx, hid, hos⟩ := id hro
          have nF : ∀ b ∈ F, b ∉ a :: r' := fun b hb z => p12.rel.db j b (sub b z) (.inr hb)
          have ndr := List.nodup_cons.mp nd1
          have sm1 : Same (hidP (All (Un2 B F) fp2) H2) (hidP (All (Un2 B F) fp2) (upd H2 a (.ins C dx (putF n y xs)))) := fun b w z => by
            obtain ⟨nn, z⟩ := hidP_some z
            rw [hidP_f nn, upd_ne fun y => nn (.inr ⟨j, by rw [y]; exact sub a List.mem_cons_self⟩)]
            exact z
          have k1 : ∀ b ∈ r', upd H2 a (.ins C dx (putF n y xs)) b = H2 b := fun b hb => upd_ne fun z => ndr.1 (z ▸ hb)
          have k2 : ∀ b ∈ F, upd H2 a (.ins C dx (putF n y xs)) b = H2 b := fun b hb => upd_ne fun z => nF b hb (by rw [z]; exact List.mem_cons_self)
          obtain ⟨f', hf', sub', nd'⟩ := ROf.putL (n := n) (hos.stay _ (Goes.refl _) k1 sm1) (hy2.stay _ (Goes.refl _) k2 sm1) (List.nodup_append.mpr ⟨ndr.2, p12.fn, fun b hb b' hb' e => nF b' hb' (by rw [← e]; exact List.mem_cons_of_mem _ hb)⟩)
          obtain ⟨fpN, rel, mk, sm⟩ := chg (H' := upd H2 a (.ins C dx (putF n y xs))) (o2 := .obj C m (putL n o flds)) (f2 := a :: f') (F2 := []) (fun b hb => upd_ne fun z => hb (by rw [z]; exact List.mem_cons_self))
            (fun b hb => by
              by_cases z : b = a
              · rw [z]; exact ⟨_, upd_same⟩
              · rw [upd_ne z]; exact hro.live _ b hb)
            ⟨a, f', dx, _, rfl, rfl, upd_same, hid, hf'⟩
            (List.nodup_cons.mpr ⟨fun z => (sub' a z).elim ndr.1 fun z => nF a z List.mem_cons_self, nd'⟩)
            (fun b hb => by
              rcases List.mem_cons.mp hb with rfl | hb
              · exact .inl List.mem_cons_self
              · exact (sub' b hb).imp (List.mem_cons_of_mem _) id)
            List.nodup_nil (fun b hb => nomatch hb)
          have hxl : xs.length = flds.length := by
            have : ∀ {os : List (Str × O)} {f : List Addr} {xs : List (Str × V)}, ROf c.K ι2 (All (Un2 B F) fp2) os f H2 xs → xs.length = os.length := by
              intro os
              induction os with
              | nil => intro f xs h; rw [h.2]; rfl
              | cons q os ih =>
                intro f xs h
                obtain ⟨k, o⟩ := q
                obtain ⟨_, _, _, _, _, rfl, _, h⟩ := h
                rw [List.length_cons, List.length_cons, ih h]
            exact this hos
          refine ⟨a, C, dx, xs, rfl, hx, (hok C hC.1).1, (hok C hC.1).2, by rw [hxl]; exact hC.2, ?_⟩
          exact gg σ _ ι2 fpN (Post.setAt p12 rel List.nodup_nil (fun b hb => nomatch hb) (fun b hb => upd_ne fun z => p12.rel.db j b (by rw [z]; exact sub a List.mem_cons_self) (.inl hb)) sm).s
        · exact gg.elim
      · exact gg.elim
theorem ref_sub {fv fo fi : Den} {tv to ti : TE} (hv : RefE c W tv fv) (ho : RefE c W to fo) (hi : RefE c W ti fi) : RefS c W (tAsg tv (gSub to ti rSetL)) (sSub fv fo fi) := fun B ι st σ H fp rs D gg => by
  refine kept hv rs (k := fun o st1 => onE (fo st1) fun r0 st2 => match r0 with
    | .pl j p => onE (fi st2) fun ri st3 => if keep (.pl j p) st2 st3 = true then match hereM st3 j p, pk st3 ri with
        | some (.lst os), some (.int k) => match ixN os.length k with
          | some q => .nx (setAt st3 j p (.lst (os.set q o)))
          | none => .no
        | _, _ => .no
      else .no
    | _ => .no) gg fun y H1 F ι1 fp1 o st1 p1 hy gg => ?_
  refine ho _ ι1 st1 σ H1 fp1 p1.rel _ ?_
  cases e1 : fo st1 with
  | no => rw [e1] at gg; exact gg
  | ex C gx d st2 => rw [e1] at gg; exact fun dx H' ι' fp' q => gg dx σ H' ι' fp' (p1.thenX rs.lb q)
  | ok r0 st2 =>
    rw [e1] at gg
    simp only [onE_ok] at gg
    intro v H2 F2 ι2 fp2 p2 h2
    cases r0 with
    | va o => exact gg.elim
    | pl j p =>
      simp only at gg
      obtain ⟨rfl, u, hu, rc, _⟩ := id h2
      have p12 := p1.trans p2
      rw [List.append_nil] at p12
      have h2r : RelS c ι2 (Un2 (Un2 B F) []) st2 σ H2 fp2 := p2.rel
      refine hi _ ι2 st2 σ H2 fp2 p12.rel _ ?_
      cases e2 : fi st2 with
      | no => rw [e2] at gg; exact gg
      | ex C gx d st3 => rw [e2] at gg; exact fun dx H' ι' fp' q => gg dx σ H' ι' fp' (p12.thenX rs.lb q)
      | ok ri st3 =>
        rw [e2] at gg
        simp only [onE_ok] at gg
        intro w H3 F3 ι3 fp3 p3 h3
        by_cases kp : keep (.pl j p) st2 st3 = true
        · rw [if_pos kp] at gg
          have hr := RVR.stay (F := F) (F0 := []) (by rw [un2_nil (B := Un2 B F) rfl] at h2; exact h2) (fun a h => nomatch h) p12.rel p3 kp
          obtain ⟨_, u', hu', rc', _⟩ := hr
          rw [hu] at hu'
          cases hu'
          split at gg
          · rename_i os k eh ek
            split at gg
            · rename_i q eq
              have hk : w = .int k := by
                have := rv_pk (B := Un2 B F) (F := F3) p3.rel p3.fb (fun a h => .inl (rs.lb a h)) (fun a h => h) h3 ek
                exact this
              have p13 := p12.trans (p3.drop (fun a h => .inl (rs.lb a h)))
              rw [List.append_nil] at p13
              have hy3 : RO c.K ι3 (All (Un2 B F) fp3) o F H3 y := by
                have e1 : Same (hidP (All (Un2 B F) fp1) H1) (hidP (All (Un2 B F) fp2) H2) := by have := p2.sm; rwa [un2_nil rfl] at this
                have e2 : Same (hidP (All (Un2 B F) fp2) H2) (hidP (All (Un2 B F) fp3) H3) := by have := (p3.drop (fun a h => .inl (rs.lb a h))).sm; rwa [un2_nil rfl] at this
                exact RO.stay o hy (p2.go.trans p3.go) (fun a ha => (p3.kb a (.inr ha)).trans (p2.kb a (.inr ha))) (e1.trans e2)
              obtain ⟨f1, sub, nd1, hro, chg⟩ := place_chg p13.rel rs.lb p13.fb eh hu rc'
              obtain ⟨a, r', xs, rfl, rfl, hxs, hos⟩ := id hro
              have hql : q < os.length := by
                unfold ixN at eq
                split at eq
                · split at eq
                  · cases eq; omega
                  · cases eq
                · split at eq
                  · cases eq; omega
                  · cases eq
              obtain ⟨g1, gk, g2, x0, rfl, hx0, hk0, put⟩ := hos.at (List.getElem?_eq_getElem hql)
              have nF : ∀ b ∈ F, b ∉ a :: (g1 ++ (gk ++ g2)) := fun b hb z => p13.rel.db j b (sub b z) (.inr hb)
              have ndr := List.nodup_cons.mp nd1
              have nd2 := List.nodup_append.mp ndr.2
              have nd3 := List.nodup_append.mp nd2.2.1
              have sm1 : Same (hidP (All (Un2 B F) fp3) H3) (hidP (All (Un2 B F) fp3) (upd H3 a (.lst (xs.set q y)))) := fun b w z => by
                obtain ⟨nn, z⟩ := hidP_some z
                rw [hidP_f nn, upd_ne fun y => nn (.inr ⟨j, by rw [y]; exact sub a List.mem_cons_self⟩)]
                exact z
              have k2 : ∀ b ∈ F, upd H3 a (.lst (xs.set q y)) b = H3 b := fun b hb => upd_ne fun z => nF b hb (by rw [z]; exact List.mem_cons_self)
              have hnew := put (hy3.stay _ (Goes.refl _) k2 sm1) (Goes.refl _) (fun b hb => upd_ne fun z => ndr.1 (by rw [← z]; rcases List.mem_append.mp hb with hb | hb <;> simp [hb])) sm1
              obtain ⟨fpN, rel, mk, sm⟩ := chg (H' := upd H3 a (.lst (xs.set q y))) (o2 := .lst (os.set q o)) (f2 := a :: (g1 ++ (F ++ g2))) (F2 := []) (fun b hb => upd_ne fun z => hb (by rw [z]; exact List.mem_cons_self))
                (fun b hb => by
                  by_cases z : b = a
                  · rw [z]; exact ⟨_, upd_same⟩
                  · rw [upd_ne z]; exact hro.live _ b hb)
                ⟨a, _, _, rfl, rfl, upd_same, hnew⟩
                (List.nodup_cons.mpr ⟨fun z => by
                  rcases List.mem_append.mp z with z | z
                  · exact ndr.1 (by simp [z])
                  · rcases List.mem_append.mp z with z | z
                    · exact nF a z List.mem_cons_self
                    · exact ndr.1 (by simp [z]), List.nodup_append.mpr ⟨nd2.1, List.nodup_append.mpr ⟨p13.fn, nd3.2.1, fun b hb b' hb' e => nF b hb (by rw [e]; simp [hb'])⟩, fun b hb b' hb' e => by
                  rcases List.mem_append.mp hb' with z | z
                  · exact nF b' z (by rw [← e]; simp [hb])
                  · exact nd2.2.2 b hb b' (by simp [z]) e⟩⟩)
                (fun b hb => by
                  rcases List.mem_cons.mp hb with rfl | hb
                  · exact .inl List.mem_cons_self
                  · rcases List.mem_append.mp hb with hb | hb
                    · exact .inl (by simp [hb])
                    · rcases List.mem_append.mp hb with hb | hb
                      · exact .inr hb
                      · exact .inl (by simp [hb]))
                List.nodup_nil (fun b hb => nomatch hb)
              refine ⟨a, xs, k, q, rfl, hk, hxs, by rw [hos.len]; exact eq, ?_⟩
              exact gg σ _ ι3 fpN (Post.setAt p13 rel List.nodup_nil (fun b hb => nomatch hb) (fun b hb => upd_ne fun z => p13.rel.db j b (by rw [z]; exact sub a List.mem_cons_self) (.inl hb)) sm).s
            · exact gg.elim
          · exact gg.elim
        · rw [if_neg kp] at gg
          exact gg.elim
end
end Fv
set_option Elab.async false
set_option linter.all false
set_option maxRecDepth 100000
set_option maxHeartbeats 4000000
namespace Fv
open PySem PySem.Spec PyProof.Rows L2 RkO RZ RT
open Classical
def itA (k : List D → Option (List D)) (fs : List Den) : ES → Out (List D) := fun st => (dArgs fs st).bind fun rvs st1 => (settles rvs st1).bind fun os st2 => match k (toDs os) with
  | some ds => .ok ds st2
  | none => .no
def kR1 : List D → Option (List D)
  | [.int j] => if -(2 ^ 62) ≤ j ∧ j < 2 ^ 62 then some ((List.range j.toNat).map fun i : Nat => .int (i : Int)) else none
  | _ => none
def zipD : List D → List D → List D
  | d :: ds, e :: es => .tup [d, e] :: zipD ds es
  | _, _ => []
def kZipL : List D → Option (List D)
  | [.lst ds, .lst es] => some (zipD ds es)
  | _ => none
def kZipT : List D → Option (List D)
  | [.tup ds, .tup es] => some (zipD ds es)
  | _ => none
section
variable {c : FC} {W : WX} {ι ι' ι1 : List Addr} {B : Addr → Prop} {st st' st1 st2 : ES} {σ σ' σ1 : L2.St} {H H' H1 H2 : Hp} {fp fp' fp1 fp2 : Nat → List Addr} {F F' : List Addr} {te : TE} {fe : Den} {ta : TA} {fs : List Den}
theorem its_kept {k : List D → Option (List D)} (ht : RefA c W ta (dArgs fs)) (rs : RelS c ι B st σ H fp) {Q : It → Hp → Prop} (gg : GoI c W B fp H ι st σ (itA k fs st) Q) {Q' : List V → Hp → Prop}
    (h : ∀ vs H' ι' fp' ds xs st', Post c B fp H ι st σ st' [] ι' fp' H' → Rs c.K ι' ds (hidP (All B fp') H') vs → k ds = some xs → GoI c W B fp H ι st σ (.ok xs st') Q → Q' vs H') : ta σ H Q' := by
  refine ht B ι st σ H fp rs _ ?_
  unfold itA at gg
  cases e1 : dArgs fs st with
  | no => rw [e1] at gg; exact gg
  | ex C gx d st1 => rw [e1] at gg; exact fun dx H' ι' fp' q => gg dx H' ι' fp' q
  | ok rvs st1 =>
    rw [e1] at gg
    simp only [bind_ok] at gg
    intro vs H1 F ι1 fp1 p1 h1
    rcases settles_no (rvs := rvs) (st := st1) with ⟨os, st2, e2⟩ | e2
    · rw [e2] at gg
      simp only [bind_ok] at gg
      obtain ⟨fp2, p2, h2, _⟩ := settles_ok p1 (fun a h => h) h1 e2
      split at gg
      · rename_i ds ek
        exact h vs H1 ι1 fp2 _ ds st2 (p2.drop rs.lb) (ros_give p2.rel p2.fb h2) ek gg
      · exact gg.elim
    · rw [e2] at gg; exact gg.elim
theorem itOk_ints {K : PySem.W.Frag} (lo : Int) (n : Nat) : ItOk K (Itr lo n) ((List.range n).map fun i : Nat => D.int (lo + (i : Int))) (fun _ _ => True) where
  mono := fun _ _ _ _ _ _ _ => trivial
  stop := fun ι A H _ => by simp [Itr]
  go := fun i ι A H _ h => by simpa [Itr] using h
  yld := fun i ι A H x H' d _ _ hd y => by
    obtain ⟨rfl, rfl⟩ := y
    simp only [List.getElem?_map] at hd
    rcases Nat.lt_or_ge i n with h | h
    · rw [List.getElem?_range h] at hd
      cases hd
      exact ⟨Same.refl _, rfl⟩
    · rw [List.getElem?_eq_none (by simpa using h)] at hd; cases hd
theorem ref_itR1 (ht : RefA c W ta (dArgs fs)) : RefI c W (iRng1 ta) (itA kR1 fs) := fun B ι st σ H fp r Q gg => by
  refine its_kept ht r gg fun vs H' ι' fp' ds xs st' p hd ek gg => ?_
  unfold kR1 at ek
  split at ek
  · rename_i j
    split at ek
    · rename_i hj
      cases ek
      obtain ⟨x, rfl, rfl⟩ := Rs.one hd
      refine ⟨j, rfl, hj.1, hj.2, gg _ H' ι' fp' (fun _ _ => True) p ?_ trivial⟩
      have := itOk_ints (K := c.K) 0 j.toNat
      simpa using this
    · cases ek
  · cases ek
theorem ref_itS (h : RefE c W te fe) : RefI c W (iStr te) (itV kStr fe) := fun B ι st σ H fp r Q gg => by
  refine it_kept h r gg fun v H' ι' fp' d ds st' p hd ek gg => ?_
  cases d with
  | str z =>
    simp only [kStr] at ek
    split at ek
    · cases ek
      cases hd
      refine ⟨z, rfl, gg (Its z) H' ι' fp' (fun _ _ => True) p ⟨fun _ _ _ _ _ _ _ => trivial, fun _ _ _ _ => ?_, fun i _ _ _ _ h => ?_, fun i ι A H x H' d _ _ hd y => ?_⟩ trivial⟩
      · simp [Its]
      · simpa [Its] using h
      · obtain ⟨rfl, cc, hc, rfl⟩ := y
        rw [List.getElem?_map, Array.getElem?_toList, hc] at hd
        cases hd
        exact ⟨Same.refl _, rfl⟩
    · cases ek
  | _ => cases ek
end
def tDI (c : FC) (W : WX) (it : ES → Out (List D)) : TI := fun σ H Q => ∃ B ι st fp, RelS c ι B st σ H fp ∧ GoI c W B fp H ι st σ (it st) Q
theorem ref_tDI {c : FC} {W : WX} {it : ES → Out (List D)} : RefI c W (tDI c W it) it := fun B ι st σ H fp r Q g => ⟨B, ι, st, fp, r, g⟩
def SI (X : Cx) (c : FC) (W : WX) (tg e : Expr) (it : ES → Out (List D)) : Prop := PI X tg e (tDI c W it)
section
variable {X : Cx} {c : FC} {W : WX} {tg e a b : Expr} {it it' : ES → Out (List D)} {fa fb : Den} {fs : List Den} {pos p : Pos} {wi : TI}
theorem si_of (h : PI X tg e wi) (r : RefI c W wi it) : SI X c W tg e it := ⟨fun pins s σ H R I ⟨B, ι, st, fp, rs, g⟩ => h.run pins s σ H R I (r B ι st σ H fp rs R g)⟩
theorem si_two {f1 f2 f : ES → Out (List D)} (h1 : SI X c W tg e f1) (h2 : SI X c W tg e f2) (h : ∀ st, f st = f1 st ∨ f st = f2 st) : SI X c W tg e f := ⟨fun pins s σ H R I ⟨B, ι, st, fp, rs, g⟩ => by
  rcases h st with z | z
  · rw [z] at g; exact h1.run pins s σ H R I ⟨B, ι, st, fp, rs, g⟩
  · rw [z] at g; exact h2.run pins s σ H R I ⟨B, ι, st, fp, rs, g⟩⟩
def kOr (k k' : D → Option (List D)) (d : D) : Option (List D) := match k d with
  | some x => some x
  | none => k' d
theorem itV_or {k k' : D → Option (List D)} {f : Den} (st : ES) : itV (kOr k k') f st = itV k f st ∨ itV (kOr k k') f st = itV k' f st := by
  unfold itV
  cases e : f st with
  | no => exact .inl rfl
  | ex C g d s => exact .inl rfl
  | ok rv s1 =>
    simp only [bind_ok]
    cases e1 : settle rv s1 with
    | no => exact .inl rfl
    | ex C g d s => exact .inl rfl
    | ok o s2 =>
      simp only [bind_ok, kOr]
      cases k o.toD with
      | some x => exact .inl rfl
      | none => exact .inr rfl
def kkOr (k k' : List D → Option (List D)) (d : List D) : Option (List D) := match k d with
  | some x => some x
  | none => k' d
/-- a value: a list, a tuple or a text -/
def itU (f : Den) : ES → Out (List D) := itV (kOr kLst (kOr kTup kStr)) f
theorem si_val (hK : X.K = c.K) (h : SE X c W e fa) : SI X c W tg e (itU fa) := by
  refine si_two (si_of (pi_list h) (hK ▸ ref_itL ref_tD)) (si_two (f := itV (kOr kTup kStr) fa) (si_of (pi_tup h) (hK ▸ ref_itT ref_tD)) (si_of (pi_str h) (ref_itS ref_tD)) fun st => itV_or st) fun st => itV_or st
theorem si_r1 (hg : Gl X "range") (hm : X.mg "range" = none) (ha : SA X c W [a] fs) (hs : starEach [a] X.env = [(false, eval a X.env)] := by rfl) : SI X c W tg (.Call (.Name "range" p) [a] [] pos) (itA kR1 fs) := si_of (pi_range1 hg hm ha hs) (ref_itR1 ref_tDA)
end
end Fv
set_option Elab.async false
set_option linter.all false
set_option maxRecDepth 100000
set_option maxHeartbeats 4000000
namespace Fv
open PySem PySem.Spec PyProof.Rows L2 RkO
open Classical
mutual
def tgG (K : PySem.W.Frag) : Tg → TG
  | .nm i => gName i
  | .tp ts => gTup K ts.length (tgGs K ts)
def tgGs (K : PySem.W.Frag) : List Tg → TGs
  | [] => gNil
  | t :: ts => gCons (tgG K t) (tgGs K ts)
end
mutual
theorem ref_tgG {c : FC} : ∀ (t : Tg), RefG c (tgG c.K t) t
  | .nm i => ref_gname
  | .tp ts => ref_gtup rfl (ref_tgGs ts)
theorem ref_tgGs {c : FC} : ∀ (ts : List Tg), RefGs c (tgGs c.K ts) ts
  | [] => ref_gnil
  | t :: ts => ref_gcons (ref_tgG t) (ref_tgGs ts)
end
def SG (X : Cx) (c : FC) (e : Expr) (t : Tg) : Prop := PG X e (tgG c.K t)
def SGs (X : Cx) (c : FC) (es : List Expr) (ts : List Tg) : Prop := PGs X es (tgGs c.K ts)
def sPar (i j : Nat) (fa fb : Den) : SDen := fun st => onE (dArgs [fa, fb] st) fun rvs st1 => onE (settles rvs st1) fun os st2 => match os with
  | [o, u] => if free st2.ss[i]? = true ∧ free st2.ss[j]? = true then .nx (put (put st2 i o) j u) else .no
  | _ => .no
section
variable {X : Cx} {c : FC} {W : WX} {e a b : Expr} {es : List Expr} {s : Stmt} {rest p q : List Stmt} {fe fa fb fo fi : Den} {fs : List Den} {f g : SDen} {t : ES → Out Bool} {it : ES → Out (List D)} {pos : Pos} {tg : Tg} {tgs : List Tg}
theorem sg_name {i : Nat} {x : Str} (hN : X.N.Nodup) (hi : X.N[i]? = some x) (hx : Loc X.env.scope x) (hf : X.fn x = true ∨ X.env.scope.names.lookup x = some .local := by first | exact .inl rfl | exact .inr rfl | assumption) : SG X c (.Name x pos) (.nm i) := pg_name hN hi hx hf
theorem sgs_nil : SGs X c [] [] := pgs_nil
theorem sgs_cons (h1 : SG X c e tg) (h2 : SGs X c es tgs) (hs : (assignEach (e :: es) X.env).map (·.2) = assign e X.env :: (assignEach es X.env).map (·.2) := by rfl) : SGs X c (e :: es) (tg :: tgs) := pgs_cons h1 h2 hs
theorem sg_tup {k : Nat} (hK : X.K = c.K) (hc : X.calm = true) (h : SGs X c es tgs) (hn : (assignEach es X.env).length = tgs.length := by rfl) (hst : (assignEach es X.env).findIdx? (·.1) = none := by rfl) : SG X c (.Tuple es k pos) (.tp tgs) := by
  have := pg_tup (pos := pos) (k := k) hc h hn hst
  rw [hK] at this
  exact this
theorem sss_nil : SSs X c W [] sNx := sss_of pss_nil ref_nx
theorem sss_one (h : SS X c W s f) : SSs X c W [s] f := sss_of (pss_one h) ref_tDS
theorem sss_cons (h : SS X c W s f) (h2 : SSs X c W rest g) : SSs X c W (s :: rest) (sSeq f g) := sss_of (pss_cons h h2) (ref_seq ref_tDS ref_tDS)
theorem ss_expr (he : SE X c W e fe) (hs : swapsWith e none pos.line X.env = pure false := by rfl) : SS X c W (.Expr e pos) (sExpr fe) := ss_of (ps_expr he hs) (ref_expr ref_tD)
theorem ss_ret (he : SE X c W e fe) : SS X c W (.Return (some e) pos) (sRet fe) := ss_of (ps_ret he) (ref_ret ref_tD)
theorem ss_if (hc : ST X c W e t) (ha : SSs X c W p f) (hb : SSs X c W q g) : SS X c W (.If e p q pos) (sIf t f g) := ss_of (ps_if hc ha hb) (ref_ifS ref_tDT ref_tDS ref_tDS)
theorem ss_for {iter tge : Expr} (hp : PassesOwn (model X.prog X.w) X.A X.env X.xe) (hc : X.calm = true) (hi : SI X c W tge iter it) (hg : SG X c tge tg) (hb : SSs X c W p f) (hs : ∀ x, foldedSetIterable iter X.env x = pure x := by intro _; rfl) : SS X c W (.For tge iter p [] pos) (sFor it tg f) :=
  ss_of (ps_for hp hc hi hg hb hs) (ref_for ref_tDI (ref_tgG tg) ref_tDS)
theorem ss_set {i : Nat} {x : Str} {pos' : Pos} (hN : X.N.Nodup) (hi : X.N[i]? = some x) (hx : Loc X.env.scope x) (he : SE X c W e fe) (hs : swapsWith e (some (.Name x pos')) pos.line X.env = pure false := by rfl) (hf : X.fn x = true ∨ X.env.scope.names.lookup x = some .local := by first | exact .inl rfl | exact .inr rfl | assumption) :
    SS X c W (.Assign [.Name x pos'] e pos) (sSet i fe) := ss_of (ps_set hN hi hx he hs hf) (ref_set ref_tD)
theorem ss_unp {tge : Expr} (he : SE X c W e fe) (hg : SG X c tge tg) (hs : swapsWithSole [tge] e pos.line X.env = pure false := by rfl) (hw : swappedStores [tge] e X.env = pure none := by rfl) (h1 : (assignEach [tge] X.env).map (·.2) = [assign tge X.env] := by rfl) : SS X c W (.Assign [tge] e pos) (sUnp tg fe) :=
  ss_of (ps_asg he hg hs hw h1) (ref_unp ref_tD (ref_tgG tg))
theorem ss_sub {o i : Expr} {p2 : Pos} (he : SE X c W e fe) (ho : SE X c W o fo) (hi : SE X c W i fi)
    (ha : ∀ v, assign (.Subscript o i p2) X.env v = (do
      let ov ← holding [v] (eval o X.env)
      let iv ← holding [v, ov] (eval i X.env)
      standAt p2
      holding [v, ov, iv] (setItem ov iv v)
      release [v, ov, iv] []) := by intro _; rfl)
    (hs : swapsWithSole [.Subscript o i p2] e pos.line X.env = pure false := by rfl) (hw : swappedStores [.Subscript o i p2] e X.env = pure none := by rfl) : SS X c W (.Assign [.Subscript o i p2] e pos) (sSub fe fo fi) :=
  ss_of (ps_asg he (pg_sub ho hi set_list ha) hs hw) (ref_sub ref_tD ref_tD ref_tD)
theorem ss_fld {o : Expr} {n : Str} {p2 : Pos} (ok : List Addr) (hK : X.K = c.K) (hok : ∀ C ∈ ok, Cls c.K C ∧ NoAttr c.K C n) (ho : SE X c W o fo) (hv : SE X c W e fe) (hs : swapsWith e (some (.Attribute o n p2)) pos.line X.env = pure false) : SS X c W (.Assign [.Attribute o n p2] e pos) (sFldS ok n fe fo) :=
  ss_of (ps_fld ho hv hs) (hK ▸ ref_fldS hok ref_tD ref_tD)
theorem se_fld {n : Str} (ok : List Addr) (hK : X.K = c.K) (hok : ∀ C ∈ ok, Cls c.K C ∧ NoAttr c.K C n) (ho : SE X c W e fe) (hb : attributeBase e n X.env (eval e X.env) = eval e X.env) : SE X c W (.Attribute e n pos) (dFld ok n fe) :=
  se_of (pe_fld ho hb) (hK ▸ ref_fld hok ref_tD)
theorem se_lc {elt tge iter : Expr} {ifs : List Expr} {scope : Scope} {own : List (Str × Nat)} {t : ES → Out Bool} (hc : X.calm = true) (hN : X.N.Nodup) (hi : SI X c W tge iter it) (ok : BlkOk X.N X.env.scope scope own)
    (hg : ∀ (s : Shared) (H : Hp) (C : Addr) (cl : List (Str × Addr)) (fp : List Addr), SG (X.blk s H scope (compEnvC scope cl C X.env) fp) c tge tg)
    (ht : ∀ (s : Shared) (H : Hp) (C : Addr) (cl : List (Str × Addr)) (fp : List Addr), PTs (X.blk s H scope (compEnvC scope cl C X.env) fp) ifs (tDT c (fun _ _ _ _ => False) t))
    (he : ∀ (s : Shared) (H : Hp) (C : Addr) (cl : List (Str × Addr)) (fp : List Addr), SE (X.blk s H scope (compEnvC scope cl C X.env) fp) c (fun _ _ _ _ => False) elt fe) (hs : ∀ x, foldedSetIterable iter X.env x = pure x := by intro _; rfl)
    (hvs : ∀ j ∈ tg.slots, j ∈ own.map (·.2) := by decide) : SE X c W (.ListComp elt [⟨tge, iter, ifs, 0⟩] scope pos) (dLc it tg t fe (own.map (·.2))) :=
  se_of (pe_lc hc hN hi ok hg ht he hs) (ref_lc ref_tDI (ref_tgG tg) ref_tDT ref_tD hvs)
def tYs : ES → Out Bool := fun st => .ok true st
theorem ref_ys : RefT c W tYes tYs := fun B ι st σ H fp r Q g => g H ι fp (Post.refl r)
theorem sts_nil : PTs X [] (tDT c W tYs) := ⟨fun pins s σ H Q I ⟨B, ι, st, fp, rs, g⟩ => pts_nil.run pins s σ H Q I (ref_ys B ι st σ H fp rs Q g)⟩
theorem sts_one (h : ST X c W e t) : PTs X [e] (tDT c W t) := pts_one h
end
end Fv
set_option Elab.async false
set_option linter.all false
set_option maxRecDepth 100000
set_option maxHeartbeats 4000000
namespace Fv
open PySem PySem.Spec PyProof.Rows L2 RkO
open Classical
section
variable {X : Cx} {CX : CXT} {k : Nat} {C f : Addr} {fd : FuncData} {ps : List Str} {ds : List Value} {dvs : List V} {sp : Sp} {E : L2.St → XK} {o : Expr} {ta : TE} {m x : Str} {pos apos p : Pos}
/-- o.m() in a try -/
theorem pe_methS0 {pl : Sem Bool} (he : PE X o ta) (c : Cls X.K C) (hm : Meth X.K C m f) (F : FnOk X.prog X.w X.K X.mg X.base CX k f fd ps sp) (hr : Room k X.A) (hb : Binds X.K fd ps ds) (hd : Vals dvs ds) (hx : ∀ σ, PassesAt CX X σ (E σ))
    (ht : eval (.Call (.Attribute o m apos) [] [] pos) X.env = (do
      let ov ← eval o X.env
      standAt apos.atName
      let (f, first) ← holding [ov] (getMethod ov m pl)
      callWith pos f first (backTo pos (starEach [] X.env)) (backToKw pos (keywordEach [] X.env))) := by rfl) :
    PE X (.Call (.Attribute o m apos) [] [] pos) (Rx.tMethSd C m sp dvs E ta tNil) := by
  refine ⟨fun pins s σ H Q I h => ?_⟩
  refine PySem.W.methodCall_KW (pl := pl) (thn (he.run pins s σ H _ I h) fun u s1 ⟨x, H1, I1, rx, a, dx, fs, ex, ea, l, q⟩ => ?_) ht
  subst ex
  obtain rfl : u = Value.ref a := rx
  refine getmeth_ok I1 ea c hm l ?_
  refine PySem.W.callWith_K0 (first := [.ref a]) I1.kIn hm.kp ?_
  exact Rx.run_fnE (us := [.ref a]) (vs := [.ref a]) F hr hb hd (hx σ) I1 (.cons rfl .nil) q
end
section
variable {X : Cx} {c : FC} {W : WX} {k kk : Nat} {C f : Addr} {fd : FuncData} {ps : List Str} {vs : List Value} {ds : List D} {ms : List AM} {m : Fn} {o e : Expr} {es : List Expr} {fo : Den} {fs : List Den} {n x : Str} {pos apos p : Pos}
theorem se_call (hK : X.K = c.K) (tk : Takes X W) (F : FnOk X.prog X.w X.K X.mg X.base (L2.CX X.prog X.w) k f fd ps (spD c.K kk m)) (hr : Room k X.A) (hg : Gl X x) (hm : X.mg x = some (.ref f)) (hk : PySem.W.keepIn X.K (.ref f) = true) (hb : Binds X.K fd ps vs) (hv : Vals (ds.map D.V) vs)
    (hms : ms.length = kk) (hds : ds.all D.isAtom = true) (ha : SA X c W (e :: es) fs) (hdb : (x == ("__debug__" : Str)) = false := by decide) (he : starEach (e :: es) X.env = (false, eval e X.env) :: starEach es X.env := by rfl) (hpl : (backTo pos (starEach es X.env)).any (·.1) = false := by rfl) :
    SE X c W (.Call (.Name x p) (e :: es) [] pos) (dCall m ms ds fs) :=
  se_of (pe_callSD F hr hg hm hk hb hv (fun σ => passAt tk σ) ha hdb he hpl) (ref_call hms hds ref_tDA)
theorem se_m0 {en : ME} {pl : Sem Bool} (tk : Takes X W) (cl : Cls X.K en.C) (hm : Meth X.K en.C n f) (F : FnOk X.prog X.w X.K X.mg X.base (L2.CX X.prog X.w) k f fd ps (spD c.K kk en.m)) (hr : Room k X.A) (hb : Binds X.K fd ps vs) (hv : Vals (en.ds.map D.V) vs)
    (hms : en.ms.length = kk) (hds : en.ds.all D.isAtom = true) (ho : SE X c W o fo)
    (ht : eval (.Call (.Attribute o n apos) [] [] pos) X.env = (do
      let ov ← eval o X.env
      standAt apos.atName
      let (f, first) ← holding [ov] (getMethod ov n pl)
      callWith pos f first (backTo pos (starEach [] X.env)) (backToKw pos (keywordEach [] X.env))) := by rfl) : SE X c W (.Call (.Attribute o n apos) [] [] pos) (dMeth n [en] fo []) :=
  se_of (pe_methS0 (pl := pl) ho cl hm F hr hb hv (fun σ => passAt tk σ) ht) (ref_meth hms hds ref_tD ref_nil)
theorem se_p1 {en : ME} {f p : Addr} (cl : Cls X.K en.C) (hp : PropOf X.K en.C n p f) (F : FnOk X.prog X.w X.K X.mg X.base (L2.CX X.prog X.w) k f fd ps (spD c.K kk en.m)) (hr : Room (k + 1) X.A) (hb : Binds X.K fd ps vs) (hv : Vals (en.ds.map D.V) vs)
    (hms : en.ms.length = kk) (hds : en.ds.all D.isAtom = true) (ho : SE X c W o fo) (hab : attributeBase o n X.env (eval o X.env) = eval o X.env) : SE X c W (.Attribute o n pos) (dProp [en] fo) :=
  se_of (pe_prop ho cl hp F hr hb hv passL hab) (ref_prop hms hds ref_tD)
/-- own field or own property, whichever the class has -/
def dOr (f g : Den) : Den := fun st => match f st with
  | .no => g st
  | r => r
theorem dOr_one {f g : Den} (st : ES) : dOr f g st = f st ∨ dOr f g st = g st := by
  unfold dOr
  cases f st with
  | no => exact .inr rfl
  | ok a s => exact .inl rfl
  | ex a b c d => exact .inl rfl
theorem se_orr {ec : Expr} {f g : Den} (h1 : SE X c W ec f) (h2 : SE X c W ec g) : SE X c W ec (dOr f g) := se_two h1 h2 dOr_one
theorem se_no {ec : Expr} : SE X c W ec (fun _ => .no) := ⟨fun pins s σ H Q I ⟨B, ι, st, fp, rs, g⟩ => g.elim⟩
theorem ss_no {s : Stmt} : SS X c W s (fun _ => .no) := ⟨fun pins s σ H D I ⟨B, ι, st, fp, rs, g⟩ => g.elim⟩
end
section
variable {X : Cx} {c : FC} {W : WX} {ec : Expr} {fo fx : Den}
theorem se_app (hK : X.K = c.K) (h : PE X ec (tBM X.K "list" rAppend (tD c W fo) (tCons (tD c W fx) tNil))) : SE X c W ec (dApp fo fx) := se_of h (hK ▸ ref_app ref_tD ref_tD)
end
end Fv
set_option Elab.async false
set_option linter.all false
set_option maxRecDepth 100000
set_option maxHeartbeats 4000000
namespace Fv
open PySem PySem.Spec PyProof.Rows L2 RkO
open Classical
theorem fn_okM {P : Program} {w : World} {K : PySem.W.Frag} {mg : Str → Option Value} {base : Heap} {x qual : Str} {stm : Stmt} {f : Addr} {fd : FuncData} {N ps : List Str} {np nl : Nat} {body : SDen} (k : Nat) {k' : Nat} (hk : k + 1 ≤ k') (Fd : L2.Fun K x qual stm f fd) (S : FnScope N ps (defScope stm)) (hp : ps.length = np) (hN : N.length = np + nl)
    (hb : ∀ (cdv : Value) (A : Around) (outer : List Env) (s : Shared) (H : Hp) (E : XK) (L : Addr → Prop) (μ : Nat → V), Room k (A.deeper (envOfC qual (defScope stm) s.heap.objs.size f cdv)) → Takes (cxOf (L2.CX P w) P w K mg base N qual (defScope stm) f cdv A outer s H E) (fun cls d _ H => E cls d H) →
      SSs (cxOf (L2.CX P w) P w K mg base N qual (defScope stm) f cdv A outer s H E) ⟨K, L, μ⟩ (fun cls d _ H => E cls d H) (defBody stm) body) :
    FnOk P w K mg base (L2.CX P w) k' f fd ps (spD K np (runFn np nl body)) := (fn_ok Fd S hp hN fun cdv A outer s H E L μ hr => hb cdv A outer s H E L μ hr (takes_of rfl rfl rfl rfl)).mono hk
def gNeg : List D → Option O
  | [.int i] => some (.dp (.int (-i)))
  | _ => none
def dNeg (f : Den) : Den := dOp vw gNeg [f]
section
variable {X : Cx} {c : FC} {W : WX} {a e : Expr} {fa : Den} {pos : Pos}
theorem callR_K {X : Cx} {K : PySem.W.Frag} {b : Value} {r : PySem.W.Frag → List V → Hp → VK → Prop} (hK : X.K = K) (h : CallR X b (r X.K)) : CallR X b (r K) := hK ▸ h
end
end Fv
set_option Elab.async false
set_option linter.all false
set_option maxRecDepth 100000
set_option maxHeartbeats 4000000
namespace Fv
open PySem PySem.Spec PyProof.Rows L2 RkO
open Classical
inductive IT where
  | ty (b : String) | own (C : Addr)
def IT.val : IT → Value
  | .ty b => .type b
  | .own C => .ref C
def IT.v : IT → V
  | .ty b => .ty b
  | .own C => .ref C
def D.tn : D → Option String
  | .non => some "NoneType"
  | .bl _ => some "bool"
  | .int _ => some "int"
  | .str _ => some "str"
  | .scr _ => some "list"
  | .lst _ => some "list"
  | .tup _ => some "tuple"
  | .dic _ => some "dict"
  | .dit _ => some "dict"
  | .obj _ _ _ => none
def isiB (C : Addr) : IT → Bool
  | .ty _ => false
  | .own E => decide (C = E)
def isi1 (tab : List Addr) (i : IT) (d : D) : Option Bool := match d.tn with
  | some a => match i with
    | .ty b => kitB a b
    | .own _ => some false
  | none => match d with
    | .obj C _ _ => if C ∈ tab then some (isiB C i) else none
    | _ => none
@[simp] def isiL (tab : List Addr) : List IT → D → Option Bool
  | [], _ => some false
  | i :: r, d => match isi1 tab i d with
    | some true => some true
    | some false => isiL tab r d
    | none => none
structure Own (K : PySem.W.Frag) (C : Addr) : Prop where
  cl : Cls K C
  ca : PySem.W.findIn K (.ref C) "__class__" = some (some (.builtin "object.__class__"))
  gc : PySem.W.specialIn K (.builtin "object.__class__") "__get__" = some (some (.builtin "getset_descriptor.__get__"))
  tc : PySem.W.takesIn K (.builtin "object.__class__") = some true
  mo : PySem.W.mroIn K C (.type "object") = some true
structure IsiOk (K : PySem.W.Frag) (tab : List Addr) (is : List IT) : Prop where
  own : ∀ C ∈ tab, Own K C
  no : ∀ i ∈ is, ∀ C ∈ tab, PySem.W.kitOne K (.ref C) i.val = some (isiB C i)
  bi : ∀ i ∈ is, ∀ E, i = .own E → ∀ a ∈ ["NoneType", "int", "bool", "str", "list", "tuple", "dict"], PySem.W.kitOne K (.type a) (.ref E) = some false
def dIsi (g : D → Option Bool) (f : Den) : Den := fun st => (f st).bind fun rv st1 => match pk st1 rv with
  | some d => match g d with
    | some b => .ok (.va (.dp (.bl b))) st1
    | none => .no
  | none => .no
section
variable {K : PySem.W.Frag} {ι : List Addr} {H : Hp} {d : D} {v : V} {tab : List Addr} {is : List IT}
theorem ty_of (ho : ∀ C ∈ tab, Own K C) (h : R K ι d H v) (e : d.tn ≠ none ∨ ∃ C n fs, d = .obj C n fs ∧ C ∈ tab) : ∃ t, TyX K H v t ∧ (∀ a, d.tn = some a → t = .type a) ∧ ∀ C n fs, d = .obj C n fs → t = .ref C := by
  cases d with
  | non => cases (show v = _ from h); exact ⟨_, .base .non, fun a z => by cases z; rfl, fun C n fs z => nomatch z⟩
  | bl b => cases (show v = _ from h); exact ⟨_, .base (.bl b), fun a z => by cases z; rfl, fun C n fs z => nomatch z⟩
  | int i => cases (show v = _ from h); exact ⟨_, .base (.int i), fun a z => by cases z; rfl, fun C n fs z => nomatch z⟩
  | str s => cases (show v = _ from h); exact ⟨_, .base (.str s), fun a z => by cases z; rfl, fun C n fs z => nomatch z⟩
  | scr ns =>
    obtain ⟨a, rfl, (h1 | ⟨o, h1⟩) | ⟨o, its, n, h1, h2, _⟩⟩ := h
    · exact ⟨_, .base (.lst h1), fun a z => by cases z; rfl, fun C n fs z => nomatch z⟩
    · exact ⟨_, .base (.frz h1), fun a z => by cases z; rfl, fun C n fs z => nomatch z⟩
    · exact ⟨_, .kList h1 h2, fun a z => by cases z; rfl, fun C n fs z => nomatch z⟩
  | lst ds => obtain ⟨a, xs, rfl, h1, _⟩ := h; exact ⟨_, .base (.lst h1), fun a z => by cases z; rfl, fun C n fs z => nomatch z⟩
  | tup ds => obtain ⟨a, xs, rfl, h1, _⟩ := h; exact ⟨_, .base (.tup h1), fun a z => by cases z; rfl, fun C n fs z => nomatch z⟩
  | dic ds => obtain ⟨a, xs, rfl, h1, _⟩ := h; exact ⟨_, .base (.dK h1), fun a z => by cases z; rfl, fun C n fs z => nomatch z⟩
  | dit ds => obtain ⟨a, xs, rfl, h1, _⟩ := h; exact ⟨_, .base (.dT h1), fun a z => by cases z; rfl, fun C n fs z => nomatch z⟩
  | obj C n fs =>
    obtain ⟨a, dx, xs, rfl, h1, _⟩ := h
    rcases e with e | ⟨C', n', fs', e, hC⟩
    · exact absurd rfl e
    · cases e
      have o := ho C hC
      exact ⟨_, .base (.ins h1 o.cl o.ca o.gc o.tc o.mo), fun a z => (nomatch z), fun C n fs z => by cases z; rfl⟩
theorem isi1_ok (ok : IsiOk K tab is) {i : IT} (hi : i ∈ is) {b : Bool} (e : isi1 tab i d = some b) {t : Value} (h1 : ∀ a, d.tn = some a → t = .type a) (h2 : ∀ C n fs, d = .obj C n fs → t = .ref C) : PySem.W.kitOne K t i.val = some b := by
  unfold isi1 at e
  cases ed : d.tn with
  | some a =>
    rw [ed] at e
    rw [h1 a ed]
    cases i with
    | ty b' => exact kit_ty e
    | own E =>
      cases e
      refine ok.bi _ hi E rfl a ?_
      cases d <;> cases ed <;> decide
  | none =>
    rw [ed] at e
    cases d with
    | obj C n fs =>
      simp only at e
      split at e
      · rename_i hC
        cases e
        rw [h2 _ _ _ rfl]
        exact ok.no i hi _ hC
      · cases e
    | _ => cases ed
theorem isi_ty {i : IT} {b : Bool} (e : isi1 tab i d = some b) : d.tn ≠ none ∨ ∃ C n fs, d = .obj C n fs ∧ C ∈ tab := by
  unfold isi1 at e
  cases ed : d.tn with
  | some a => exact .inl fun z => nomatch z
  | none =>
    rw [ed] at e
    cases d with
    | obj C n fs =>
      simp only at e
      split at e
      · rename_i hC
        exact .inr ⟨_, _, _, rfl, hC⟩
      · cases e
    | _ => cases ed
end
section
variable {c : FC} {W : WX} {fe : Den} {te : TE} {tab : List Addr}
theorem ref_isi {i : IT} (ok : IsiOk c.K tab [i]) (h : RefE c W te fe) : RefE c W (tCB (rIsi c.K) (tCons te (tCons (tC i.v) tNil))) (dIsi (isiL tab [i]) fe) := fun B ι st σ H fp rs Q gg => by
  unfold dIsi at gg
  refine h B ι st σ H fp rs _ ?_
  cases e1 : fe st with
  | no => rw [e1] at gg; exact gg
  | ex C gx d st1 => rw [e1] at gg; exact gg
  | ok rv st1 =>
    rw [e1] at gg
    simp only [bind_ok] at gg
    intro v H1 F ι1 fp1 p1 h1
    cases e2 : pk st1 rv with
    | none => rw [e2] at gg; exact gg.elim
    | some d =>
      rw [e2] at gg
      simp only at gg
      cases e3 : isiL tab [i] d with
      | none => rw [e3] at gg; exact gg.elim
      | some b =>
        rw [e3] at gg
        have hR := rv_pk p1.rel p1.fb rs.lb (fun a h => h) h1 e2
        have e4 : isi1 tab i d = some b := by
          simp only [isiL] at e3
          cases z : isi1 tab i d with
          | none => rw [z] at e3; cases e3
          | some x => rw [z] at e3; cases x <;> exact e3
        obtain ⟨t, ht, a1, a2⟩ := ty_of ok.own hR (isi_ty e4)
        refine ⟨v, i.v, t, i.val, b, rfl, by cases i <;> constructor, ht, isi1_ok ok List.mem_cons_self e4 a1 a2, ?_⟩
        exact gg (.bl b) H1 [] ι1 fp1 (p1.drop rs.lb) ⟨rfl, rfl⟩
end
section
variable {X : Cx} {c : FC} {W : WX} {e ce : Expr} {es : List Expr} {fe : Den} {tab : List Addr} {pos p : Pos}
theorem se_isi {i : IT} (ok : IsiOk c.K tab [i]) (hK : X.K = c.K) (hg : Gl X "isinstance") (hm : X.mg "isinstance" = none) (h : SE X c W e fe) (hc : PE X ce (tC i.v))
    (he : starEach [e, ce] X.env = (false, eval e X.env) :: starEach [ce] X.env := by rfl) (he2 : starEach [ce] X.env = (false, eval ce X.env) :: starEach [] X.env := by rfl) (hpl : (backTo pos (starEach [ce] X.env)).any (·.1) = false := by rfl) : SE X c W (.Call (.Name "isinstance" p) [e, ce] [] pos) (dIsi (isiL tab [i]) fe) :=
  se_of (pe_callB (callR_K (K := c.K) (r := rIsi) hK call_isi) hg hm (by decide +kernel) (pa_cons h (pa_cons hc pa_nil he2) he) (by decide) (by decide) he hpl) (ref_isi ok ref_tD)
theorem ss_setLc {i : Nat} {y : Str} {py : Pos} {elt tge iter : Expr} {ifs : List Expr} {scope : Scope} {own : List (Str × Nat)} {spos : Pos} {it : ES → Out (List D)} {tg : Tg} {t : ES → Out Bool} (hc : X.calm = true) (hN : X.N.Nodup) (hy : X.N[i]? = some y) (hyl : X.env.scope.names.lookup y = some .local)
    (hsw : swapsWith (.ListComp elt [⟨tge, iter, ifs, 0⟩] scope pos) (some (.Name y py)) spos.line X.env = pure true) (hi : SI X c W tge iter it) (ok : BlkOk X.N X.env.scope scope own)
    (hg : ∀ (s : Shared) (H : Hp) (C : Addr) (cl : List (Str × Addr)) (fp : List Addr), SG (X.blk s H scope (compEnvC scope cl C X.env) fp) c tge tg)
    (ht : ∀ (s : Shared) (H : Hp) (C : Addr) (cl : List (Str × Addr)) (fp : List Addr), PTs (X.blk s H scope (compEnvC scope cl C X.env) fp) ifs (tDT c (fun _ _ _ _ => False) t))
    (he : ∀ (s : Shared) (H : Hp) (C : Addr) (cl : List (Str × Addr)) (fp : List Addr), SE (X.blk s H scope (compEnvC scope cl C X.env) fp) c (fun _ _ _ _ => False) elt fe) (hs : ∀ x, foldedSetIterable iter X.env x = pure x := by intro _; rfl)
    (hvs : ∀ j ∈ tg.slots, j ∈ own.map (·.2) := by decide) : SS X c W (.Assign [.Name y py] (.ListComp elt [⟨tge, iter, ifs, 0⟩] scope pos) spos) (sSet i (dLc it tg t fe (own.map (·.2)))) :=
  ss_of (ps_setLc hc hN hy hyl hsw hi ok hg ht he hs) (ref_set (ref_lc ref_tDI (ref_tgG tg) ref_tDT ref_tD hvs))
end
end Fv
set_option Elab.async false
set_option linter.all false
set_option maxRecDepth 100000
set_option maxHeartbeats 4000000
namespace Fv
open PySem PySem.Spec PyProof.Rows L2 RkO
open Classical
section
variable {K : PySem.W.Frag} {C E : Addr}
theorem isi_self : PySem.W.kitOne K (.ref C) (IT.own C).val = some (isiB C (.own C)) := by
  show PySem.W.kitOne K (.ref C) (.ref C) = some (decide (C = C))
  rw [decide_eq_true rfl]
  unfold PySem.W.kitOne
  rw [if_pos (beq_self_eq_true _)]
theorem isi_ne (n : C ≠ E) (h : PySem.W.kitOne K (.ref C) (.ref E) = some false) : PySem.W.kitOne K (.ref C) (IT.own E).val = some (isiB C (.own E)) := by
  show _ = some (decide (C = E))
  rw [decide_eq_false n]
  exact h
theorem isi_bi {a : String} (h1 : PySem.W.kitOne K (.type "NoneType") (.ref E) = some false) (h2 : PySem.W.kitOne K (.type "int") (.ref E) = some false) (h3 : PySem.W.kitOne K (.type "bool") (.ref E) = some false) (h4 : PySem.W.kitOne K (.type "str") (.ref E) = some false)
    (h5 : PySem.W.kitOne K (.type "list") (.ref E) = some false) (h6 : PySem.W.kitOne K (.type "tuple") (.ref E) = some false) (h7 : PySem.W.kitOne K (.type "dict") (.ref E) = some false)
    (ha : a ∈ ["NoneType", "int", "bool", "str", "list", "tuple", "dict"]) : PySem.W.kitOne K (.type a) (.ref E) = some false := by
  simp only [List.mem_cons, List.not_mem_nil, or_false] at ha
  rcases ha with rfl | rfl | rfl | rfl | rfl | rfl | rfl <;> assumption
end
end Fv
set_option Elab.async false
set_option linter.all false
set_option maxRecDepth 100000
set_option maxHeartbeats 4000000
namespace Fv
open PySem PySem.Spec PyProof.Rows L2 RkO
open Classical
section
variable {c : FC} {W : WX} {ι ι' ι1 ι3 : List Addr} {B : Addr → Prop} {st st' st1 st2 st3 : ES} {σ σ' σ1 : L2.St} {H H' H1 H2 H3 : Hp} {fp fp' fp1 fp2 fp3 : Nat → List Addr} {F F' : List Addr} {te : TE} {fe fo fi fa fb : Den} {ta : TA}
/-- x[i] += e, of whole numbers -/
def sAugI (g : Int → Int → Int) (fo fi fe : Den) : SDen := fun st => onE (fo st) fun r0 st1 => match r0 with
  | .pl j p => onE (fi st1) fun ri st2 => match pk st2 ri with
    | some (.int k) => if keep (.pl j p) st1 st2 = true ∧ 0 ≤ k then match hereM st2 j p with
      | some (.lst os) => match os[k.toNat]? with
        | some (.dp (.int m)) => onE (fe st2) fun rv st3 => match pk st3 rv with
          | some (.int n) => if keep (.pl j p) st2 st3 = true then match hereM st3 j p with
            | some (.lst os3) => match ixN os3.length k with
              | some q => .nx (setAt st3 j p (.lst (os3.set q (.dp (.int (g m n))))))
              | none => .no
            | _ => .no
            else .no
          | _ => .no
        | _ => .no
      | _ => .no
      else .no
    | _ => .no
  | _ => .no
theorem tD_mono {σ : L2.St} {H : Hp} {Q Q' : VK} (h : tD c W fe σ H Q) (q : ∀ v H, Q v H → Q' v H) : tD c W fe σ H Q' := by
  obtain ⟨B, ι, st, fp, rs, g⟩ := h
  refine ⟨B, ι, st, fp, rs, ?_⟩
  cases e : fe st with
  | no => rw [e] at g; exact g
  | ex C gx d st1 => rw [e] at g; exact g
  | ok rv st1 => rw [e] at g; exact fun v H' F ι' fp' p h => q _ _ (g v H' F ι' fp' p h)
theorem ss_raise {X : Cx} {x g : Str} {C fI : Addr} {k : Nat} {fd : FuncData} {ps : List Str} {ds : List Value} {e : Expr} {p pos pos2 : Pos} (hc : X.calm = true) (tk : Takes X W) (T : OexC X.K C) (iC : PySem.W.findIn X.K (.ref C) "__init__" = some (some (.ref fI))) (tI : PySem.W.typeIn X.K (.ref fI) = some (.type "function"))
    (F1 : FnOk X.prog X.w X.K X.mg X.base CX0 k fI fd ps (Rx.spExc C g)) (hr : Room (k + 1) X.A) (hb : Binds X.K fd ps ds) (hd : Vals [] ds) (hg : Gl X x) (hm : X.mg x = some (.ref C)) (he : SE X c W e fe)
    (hdb : (x == ("__debug__" : Str)) = false := by decide) (hs : starEach [e] X.env = (false, eval e X.env) :: starEach [] X.env := by rfl) (hpl : (backTo pos2 (starEach [] X.env)).any (·.1) = false := by rfl) :
    SS X c W (.Raise (some (.Call (.Name x p) [e] [] pos2)) none pos) (sRaise C g fe) :=
  ss_of (ps_raise hc tk (pmk_oex (dvs := []) T iC tI F1 hr hb hd pass0 hg hm (pa_cons he pa_nil hs) hdb hs hpl)) (ref_raise ref_tD fun D σ H h => Rx.un_mk (tD_mono h fun v H1 q => Rx.exc_new (Q := fun cls d H => W cls d σ H) q))
def sPar2 (i j : Nat) (fa fb : Den) : SDen := fun st => onE (dArgs [fa, fb] st) fun rvs st1 => onE (settles rvs st1) fun os st2 => match toDs os with
  | [d, d'] => if free st2.ss[i]? = true ∧ free (put st2 i (.dp d)).ss[j]? = true then .nx (put (put st2 i (.dp d)) j (.dp d')) else .no
  | _ => .no
def gJoin : List D → Option O
  | [.str a, .lst ds] => match asStrs ds with
    | some ys => if (ys.map (·.length)).sum + ys.length * a.length ≤ 16777216 then some (.dp (.str (Txt.join a ys))) else none
    | none => none
  | [.str a, .tup ds] => match asStrs ds with
    | some ys => if (ys.map (·.length)).sum + ys.length * a.length ≤ 16777216 then some (.dp (.str (Txt.join a ys))) else none
    | none => none
  | _ => none
/-- s.m(e), s a text -/
def dM1 (g : List D → Option O) (fo fe : Den) : Den := fun st => (fo st).bind fun r0 st1 => match pk st1 r0 with
  | some (.str a) => (fe st1).bind fun r1 st2 => match vw st2 r1 with
    | some d => match g [.str a, d] with
      | some o => .ok (.va o) st2
      | none => .no
    | none => .no
  | _ => .no
end
end Fv
set_option Elab.async false
set_option linter.all false
set_option maxRecDepth 100000
set_option maxHeartbeats 4000000
namespace Fv
open PySem PySem.Spec PyProof.Rows L2 RkO
open Classical
end Fv
set_option Elab.async false
set_option linter.all false
set_option maxRecDepth 100000
set_option maxHeartbeats 4000000
namespace Fv
open PySem PySem.Spec PyProof.Rows L2 RkO
open Classical
end Fv
set_option Elab.async false
set_option linter.all false
set_option maxRecDepth 100000
set_option maxHeartbeats 4000000
namespace Fv
open PySem PySem.Spec PyProof.Rows L2 RkO Rx
open Classical
section
variable {X : Cx} {k : Nat} {f C : Addr} {fd : FuncData} {ps : List Str} {sp : Sp} {dvs : List V} {ds : List Value} {E : L2.St → XK} {x : Str} {p pos : Pos} {e : Expr} {es : List Expr} {t : TA} {CX : CXT}
/-- C(..), what is raised wished for at the caller's slots -/
def tMakeSD (C : Addr) (sp : Sp) (dvs : List V) (E : L2.St → XK) (t : TA) : TE := fun σ H Q => t σ H fun vs H1 => ∀ x dx, H1 x = none → H1 dx = none → dx ≠ x →
  sp (.ref x :: (vs ++ dvs)) (upd (upd H1 dx (.own x)) x (.ins C dx [])) (fun v H2 => v = .non ∧ Q (.ref x) H2) (E σ)
theorem run_makeSD {pins : List (Addr × Obj)} {σ : L2.St} {H : Hp} {s : Shared} {Q : VK} {us : List Value} {vs : List V} (M : Mk X.K C f) (F : FnOk X.prog X.w X.K X.mg X.base CX k f fd ps sp) (hr : Room (k + 1) X.A) (hb : Binds X.K fd ps ds) (hd : Vals dvs ds)
    (hx : PassesAt CX X σ (E σ)) (I : Inv X pins σ H s) (r : Vals vs us)
    (h : ∀ x dx, H x = none → H dx = none → dx ≠ x → sp (.ref x :: (vs ++ dvs)) (upd (upd H dx (.own x)) x (.ins C dx [])) (fun v H2 => v = .non ∧ Q (.ref x) H2) (E σ)) :
    wpAny (model X.prog X.w) X.A (call (.ref C) us) (EP X pins σ Q) X.xe s := by
  have hq := h (s.heap.objs.size + 1) s.heap.objs.size (I.hok.fresh (Nat.le_succ _)) (I.hok.fresh (Nat.le_refl _)) (Nat.ne_of_lt (Nat.lt_succ_self _))
  have I2 := Inv.made (C := C) I
  have r2 : Vals (V.ref (s.heap.objs.size + 1) :: (vs ++ dvs)) (Value.ref (s.heap.objs.size + 1) :: (us ++ ds)) := .cons rfl (r.append hd)
  have hl : (Value.ref (s.heap.objs.size + 1) :: us ++ ds).length = ps.length := by
    have e := r2.length
    rw [F.len _ _ _ _ hq] at e
    exact e.symm
  refine wpAny_call (make_map (f := f) I.kIn M.makes M.init (beq_iff_eq.mp M.fn) (codeAny_mono (F.run _ X.stack _ _ ⟨Value.ref (s.heap.objs.size + 1) :: us, []⟩ (Value.ref (s.heap.objs.size + 1) :: (us ++ ds)) _ _ (E σ) (hr.make C us [])
    (I2.env0.make C us []) (hb _ (Value.ref (s.heap.objs.size + 1) :: us) I2.kIn hl) r2 hq) fun r s' hq' => ?_))
  cases r with
  | error e => exact hx pins _ _ e s' I2 hq'
  | ok fl =>
    cases fl with
    | ret u =>
      obtain ⟨v, H', I3, rv, ev, q3⟩ := I2.after hq'
      subst ev
      exact ⟨rv, ⟨V.ref (s.heap.objs.size + 1), H', I3, rfl, q3⟩⟩
    | next => exact False.elim hq'
    | brk => exact False.elim hq'
    | cont => exact False.elim hq'
theorem pe_makeSD (M : Mk X.K C f) (F : FnOk X.prog X.w X.K X.mg X.base CX k f fd ps sp) (hr : Room (k + 1) X.A) (hg : Gl X x) (hm : X.mg x = some (.ref C)) (hb : Binds X.K fd ps ds) (hd : Vals dvs ds) (hx : ∀ σ, PassesAt CX X σ (E σ))
    (ha : PA X (e :: es) t) (hdb : (x == ("__debug__" : Str)) = false := by decide) (he : starEach (e :: es) X.env = (false, eval e X.env) :: starEach es X.env := by rfl) (hpl : (backTo pos (starEach es X.env)).any (·.1) = false := by rfl) :
    PE X (.Call (.Name x p) (e :: es) [] pos) (tMakeSD C sp dvs E t) := by
  refine ⟨fun pins s σ H Q I h => ?_⟩
  refine wpAny_Call_Name_kw (ld_glob I hg hm ?_ hdb)
  refine PySem.W.callWith_K (h₀ := X.base) I.ok.mod.kin M.kp (thn (ha.run pos pins s σ H _ I h) fun us s1 ⟨vs, H1, I1, r, q⟩ => ⟨I1.kIn, ?_⟩) he hpl
  exact run_makeSD M F hr hb hd (hx σ) I1 r q
end
/-- C(..): the new instance is lent to __init__ as a slot of its own -/
def dMake (C : Addr) (m : Fn) (ms : List AM) (ds : List D) (fs : List Den) : Den := fun st => (dArgs fs st).bind fun rvs st1 =>
  match callRV m (.chg :: ms) (.pl st1.ss.length [] :: (rvs ++ ds.map fun d => .va (.dp d))) ⟨st1.ss ++ [.ow (.obj C none [])], st1.n, st1.t + 1⟩ with
  | .ok (.va (.dp .non)) st2 => match st2.ss[st1.ss.length]? with
    | some (.ow o) => .ok (.va o) ⟨st2.ss.take st1.ss.length, st2.n, st2.t + 1⟩
    | _ => .no
  | .ex C g d st2 => match st2.ss[st1.ss.length]? with
    | some (.ow _) => .ex C g d ⟨st2.ss.take st1.ss.length, st2.n, st2.t + 1⟩
    | _ => .no
  | _ => .no
section
variable {c : FC} {W : WX} {ι ι' ι1 : List Addr} {B : Addr → Prop} {st st' st1 st2 : ES} {σ : L2.St} {H H' H1 H2 : Hp} {fp fp' fp1 fp2 : Nat → List Addr} {F F' : List Addr} {fs : List Den} {ta : TA}
theorem all_push (r0 : fp st.ss.length = []) : ∀ a, All B (fset fp st.ss.length F) a ↔ All (Un2 B F) fp a := fun a => by
  constructor
  · rintro (z | ⟨j, z⟩)
    · exact .inl (.inl z)
    · by_cases hj : j = st.ss.length
      · rw [hj, fset_same] at z; exact .inl (.inr z)
      · rw [fset_ne hj] at z; exact .inr ⟨j, z⟩
  · rintro ((z | z) | ⟨j, z⟩)
    · exact .inl z
    · exact .inr ⟨st.ss.length, by rw [fset_same]; exact z⟩
    · by_cases hj : j = st.ss.length
      · rw [hj, r0] at z; cases z
      · exact .inr ⟨j, by rw [fset_ne hj]; exact z⟩
theorem RelS.push {o : O} {v : V} {t : Nat} (r : RelS c ι (Un2 B F) st σ H fp) (nd : F.Nodup) (fb : ∀ a ∈ F, ¬ B a) (lb : ∀ a, c.L a → B a) (h : RO c.K ι (All (Un2 B F) fp) o F H v) :
    RelS c ι B ⟨st.ss ++ [.ow o], st.n, t⟩ (σ ++ [some v]) H (fset fp st.ss.length F) := by
  have r0 : fp st.ss.length = [] := r.out _ (by simp)
  have ea : All B (fset fp st.ss.length F) = All (Un2 B F) fp := funext fun a => propext (all_push r0 a)
  refine ⟨by simp [r.len], r.cnt, fun j => ?_, fun j k a h1 h2 => ?_, fun j a h1 z => ?_, lb, fun a z => r.bl a (.inl z), fun j s hs => ?_, fun j hj => ?_⟩
  · by_cases hj : j = st.ss.length
    · rw [hj, fset_same]; exact nd
    · rw [fset_ne hj]; exact r.nd j
  · by_cases hj : j = st.ss.length
    · by_cases hk : k = st.ss.length
      · rw [hj, hk]
      · rw [hj, fset_same] at h1
        rw [fset_ne hk] at h2
        exact absurd (.inr h1) (r.db k a h2)
    · by_cases hk : k = st.ss.length
      · rw [hk, fset_same] at h2
        rw [fset_ne hj] at h1
        exact absurd (.inr h2) (r.db j a h1)
      · rw [fset_ne hj] at h1
        rw [fset_ne hk] at h2
        exact r.dj j k a h1 h2
  · by_cases hj : j = st.ss.length
    · rw [hj, fset_same] at h1; exact fb a h1 z
    · rw [fset_ne hj] at h1; exact r.db j a h1 (.inl z)
  · rw [ea]
    have hs : (st.ss ++ [.ow o])[j]? = some s := hs
    by_cases hj : j = st.ss.length
    · subst hj
      rw [List.getElem?_append_right (Nat.le_refl _), Nat.sub_self] at hs
      cases hs
      rw [fset_same]
      refine ⟨v, ?_, h⟩
      rw [r.len, List.getElem?_append_right (Nat.le_refl _), Nat.sub_self]
      rfl
    · have hl : j < st.ss.length := by
        have := (List.getElem?_eq_some_iff.mp hs).1
        simp at this
        omega
      rw [List.getElem?_append_left hl] at hs
      rw [fset_ne hj, List.getElem?_append_left (by rw [← r.len]; exact hl)]
      exact r.sl j s hs
  · have hj : (st.ss ++ [.ow o])[j]? = none := hj
    have hl : ¬ j < st.ss.length + 1 := by
      intro z
      rw [List.getElem?_eq_none_iff] at hj
      simp at hj
      omega
    rw [fset_ne (by omega)]
    exact r.out j (List.getElem?_eq_none_iff.mpr (by omega))
theorem RelS.pop {v : V} {o : O} {t n : Nat} (r : RelS c ι (Un2 B []) st2 (σ ++ [some v]) H fp) (lb : ∀ a, c.L a → B a) (hn : n = σ.length) (ho : st2.ss[n]? = some (.ow o)) :
    RelS c ι (Un2 B (fp n)) ⟨st2.ss.take n, st2.n, t⟩ σ H (fset fp n []) ∧ RO c.K ι (All (Un2 B (fp n)) (fset fp n [])) o (fp n) H v ∧ (∀ a, All (Un2 B (fp n)) (fset fp n []) a ↔ All (Un2 B []) fp a) := by
  subst hn
  have el : st2.ss.length = σ.length + 1 := by have := r.len; simpa using this
  have ea : ∀ a, All (Un2 B (fp σ.length)) (fset fp σ.length []) a ↔ All (Un2 B []) fp a := fun a => by
    constructor
    · rintro ((z | z) | ⟨j, z⟩)
      · exact .inl (.inl z)
      · exact .inr ⟨_, z⟩
      · by_cases hj : j = σ.length
        · rw [hj, fset_same] at z; cases z
        · rw [fset_ne hj] at z; exact .inr ⟨j, z⟩
    · rintro ((z | z) | ⟨j, z⟩)
      · exact .inl (.inl z)
      · cases z
      · by_cases hj : j = σ.length
        · rw [hj] at z; exact .inl (.inr z)
        · exact .inr ⟨j, by rw [fset_ne hj]; exact z⟩
  have ea' : All (Un2 B (fp σ.length)) (fset fp σ.length []) = All (Un2 B []) fp := funext fun a => propext (ea a)
  refine ⟨⟨by show (st2.ss.take _).length = _; rw [List.length_take]; omega, r.cnt, fun j => ?_, fun j k a h1 h2 => ?_, fun j a h1 z => ?_, fun a z => .inl (lb a z), fun a z => ?_, fun j s hs => ?_, fun j hj => ?_⟩, ?_, ea⟩
  · by_cases hj : j = σ.length
    · rw [hj, fset_same]; exact List.nodup_nil
    · rw [fset_ne hj]; exact r.nd j
  · by_cases hj : j = σ.length
    · rw [hj, fset_same] at h1; cases h1
    · by_cases hk : k = σ.length
      · rw [hk, fset_same] at h2; cases h2
      · rw [fset_ne hj] at h1
        rw [fset_ne hk] at h2
        exact r.dj j k a h1 h2
  · by_cases hj : j = σ.length
    · rw [hj, fset_same] at h1; cases h1
    · rw [fset_ne hj] at h1
      rcases z with z | z
      · exact r.db j a h1 (.inl z)
      · exact hj (r.dj j σ.length a h1 z)
  · rcases z with z | z
    · exact r.bl a (.inl z)
    · exact r.fpl z
  · rw [ea']
    have hs : (st2.ss.take σ.length)[j]? = some s := hs
    have hl : j < σ.length := by
      have := (List.getElem?_eq_some_iff.mp hs).1
      rw [List.length_take] at this
      omega
    rw [List.getElem?_take, if_pos hl] at hs
    have := r.sl j s hs
    rw [List.getElem?_append_left hl] at this
    rw [fset_ne (by omega)]
    exact this
  · have hj : (st2.ss.take σ.length)[j]? = none := hj
    have hl : ¬ j < σ.length := by
      intro z
      rw [List.getElem?_eq_none_iff, List.length_take] at hj
      omega
    by_cases e : j = σ.length
    · rw [e, fset_same]
    · rw [fset_ne e]
      exact r.out j (List.getElem?_eq_none_iff.mpr (by omega))
  · rw [ea']
    obtain ⟨v', h1, h2⟩ := r.sl σ.length _ ho
    rw [List.getElem?_append_right (Nat.le_refl _), Nat.sub_self] at h1
    cases h1
    exact h2
theorem RVC.push {A : Addr → Prop} {w : Option V} {rv : RV} {v : V} (h : RVC c ι A σ rv F H v) : RVC c ι A (σ ++ [w]) rv F H v := by
  cases rv with
  | va o => exact h
  | pl i p =>
    obtain ⟨h1, u, h2, h3⟩ := h
    refine ⟨h1, u, ?_, h3⟩
    rw [List.getElem?_append_left (List.getElem?_eq_some_iff.mp h2).1]
    exact h2
theorem RVCs.push {A : Addr → Prop} {w : Option V} : ∀ {rvs : List RV} {Fs : List (List Addr)} {vs : List V}, RVCs c ι A σ rvs Fs H vs → RVCs c ι A (σ ++ [w]) rvs Fs H vs
  | [], _, _, h => h
  | rv :: rvs, _, _, h => by
    obtain ⟨F1, F2, v, r, rfl, rfl, h1, h2⟩ := h
    exact ⟨F1, F2, v, r, rfl, rfl, h1.push, RVCs.push h2⟩
theorem reach_same {v : V} (e : Same H H') : ∀ {p : List Stp} {u : V}, Reach H p u v → Reach H' p u v
  | [], _, h => h
  | .idx k :: p, _, h => by
    obtain ⟨a, xs, w, e1, e2, e3, e4⟩ := h
    exact ⟨a, xs, w, e1, e _ _ e2, e3, reach_same e e4⟩
  | .fld n :: p, _, h => by
    obtain ⟨a, C, dx, fs, w, e1, e2, e3, e4⟩ := h
    exact ⟨a, C, dx, fs, w, e1, e _ _ e2, e3, reach_same e e4⟩
theorem RVCs.ext {A A' : Addr → Prop} (al : ∀ a, A a → ∃ u, H a = some u) (e : Same H H') (sm : Same (hidP A H) (hidP A' H')) (hF : ∀ a ∈ F, ∃ u, H a = some u) : ∀ {rvs : List RV} {Fs : List (List Addr)} {vs : List V}, (∀ a ∈ Fs.flatten, a ∈ F) → RVCs c ι A σ rvs Fs H vs → RVCs c ι A' σ rvs Fs H' vs
  | [], _, _, _, h => h
  | rv :: rvs, _, _, hs, h => by
    obtain ⟨F1, F2, v, r, rfl, rfl, h1, h2⟩ := h
    refine ⟨F1, F2, v, r, rfl, rfl, ?_, RVCs.ext al e sm hF (fun a ha => hs a (by rw [List.flatten_cons]; exact List.mem_append_right _ ha)) h2⟩
    cases rv with
    | va o => exact RO.stay o h1 (Goes.refl _) (fun a ha => same_eq e (hF a (hs a (by rw [List.flatten_cons]; exact List.mem_append_left _ ha)))) sm
    | pl i p =>
      obtain ⟨z1, u, z2, z3⟩ := h1
      exact ⟨z1, u, z2, reach_same e z3⟩
theorem ref_make {C : Addr} {m : Fn} {k : Nat} {ms : List AM} {ds : List D} (hk : ms.length + 1 = k) (hd : ds.all D.isAtom = true) (ht : RefA c W ta (dArgs fs)) : RefE c W (tMakeSD C (spD c.K k m) (ds.map D.V) (WE W) ta) (dMake C m ms ds fs) := fun B ι st σ H fp rs Q gg => by
  refine ht B ι st σ H fp rs _ ?_
  unfold dMake at gg
  cases e1 : dArgs fs st with
  | no => rw [e1] at gg; exact gg
  | ex C gx d st1 => rw [e1] at gg; exact gg
  | ok rvs st1 =>
    rw [e1] at gg
    simp only [bind_ok] at gg
    intro vs H1 F ι1 fp1 p1 h1 x dx hx hdx hne
    obtain ⟨Fs, rfl, h2⟩ := h1.vc
    have h3 := h2.defs hd
    have e0 : Same H1 (upd (upd H1 dx (.own x)) x (.ins C dx [])) := (same_upd hdx).trans (same_upd (by rw [upd_ne (Ne.symm hne)]; exact hx))
    have fr := Post.fresh (c := c) (F := [x]) p1.rel (by simp) (fun a ha => by rw [List.mem_singleton.mp ha]; exact hx) e0 (fun a ha => by rw [List.mem_singleton.mp ha]; exact ⟨_, upd_same⟩)
    have nx : x ∉ Fs.flatten := fun z => by
      obtain ⟨u, z⟩ := p1.rel.bl x (.inr z)
      rw [hx] at z; cases z
    have r1 : RelS c ι1 (Un2 (Un2 B Fs.flatten) [x]) st1 σ (upd (upd H1 dx (.own x)) x (.ins C dx [])) fp1 := fr.rel
    have r2 := r1.push (o := .obj C none []) (v := .ref x) (t := st1.t + 1) (by simp) (fun a ha => by
      rw [List.mem_singleton.mp ha]
      exact fun z => fr.fb x (by simp) z) (fun a h => .inl (rs.lb a h)) ⟨x, [], dx, [], rfl, rfl, upd_same, (fun m q => nomatch q), rfl, rfl⟩
    have r0 : fp1 st1.ss.length = [] := p1.rel.out _ (by simp)
    have sm2 : Same (hidP (All (Un2 B Fs.flatten) fp1) H1) (hidP (All (Un2 B Fs.flatten) (fset fp1 st1.ss.length [x])) (upd (upd H1 dx (.own x)) x (.ins C dx []))) := by
      refine fr.sm.trans (hidP_sub fun a z => ?_)
      exact (all_push r0 a).mp z
    have px : Post c B fp H ι ⟨st.ss, st.n, st.t⟩ (σ ++ [some (.ref x)]) ⟨st1.ss ++ [.ow (.obj C none [])], st1.n, st1.t + 1⟩ Fs.flatten ι1 (fset fp1 st1.ss.length [x]) (upd (upd H1 dx (.own x)) x (.ins C dx [])) := by
      refine ⟨p1.fn, p1.fb, r2, p1.go, fun a ha => (same_eq e0 (p1.rel.bl a (.inl ha))).trans (p1.kb a ha), p1.sm.trans sm2, fun z => ?_, ?_⟩
      · have := p1.up
        simp only at z
        omega
      · have := p1.up
        show st.t ≤ st1.t + 1
        omega
    have h4 : RVCs c ι1 (All (Un2 B Fs.flatten) (fset fp1 st1.ss.length [x])) (σ ++ [some (.ref x)]) (.pl st1.ss.length [] :: (rvs ++ ds.map fun d => .va (.dp d))) ([] :: (Fs ++ ds.map fun _ => [])) (upd (upd H1 dx (.own x)) x (.ins C dx [])) (.ref x :: (vs ++ ds.map D.V)) := by
      refine ⟨[], _, .ref x, _, rfl, rfl, ⟨rfl, .ref x, ?_, rfl⟩, ?_⟩
      · rw [p1.rel.len, List.getElem?_append_right (Nat.le_refl _), Nat.sub_self]
        rfl
      · refine RVCs.push (RVCs.ext (F := Fs.flatten) (fun a z => p1.rel.alive z) e0 sm2 (fun a ha => p1.rel.bl a (.inr ha)) (fun a ha => ?_) h3)
        rw [flat_defs] at ha
        exact ha
    refine call_ok (c := c) (W := fun cls d _ H => W cls d σ H) (B := B) (fp := fp) (H := H) (ι := ι) (st := ⟨st.ss, st.n, st.t⟩) (ms := .chg :: ms) (Fs := [] :: (Fs ++ ds.map fun _ => [])) (by simp; exact hk) rs.lb (by rw [List.flatten_cons, flat_defs, List.nil_append]; exact px) (by rw [List.flatten_cons, flat_defs, List.nil_append]; exact h4) ?_
    cases e2 : callRV m (.chg :: ms) (.pl st1.ss.length [] :: (rvs ++ ds.map fun d => .va (.dp d))) ⟨st1.ss ++ [.ow (.obj C none [])], st1.n, st1.t + 1⟩ with
    | no => rw [e2] at gg; exact gg
    | ex C2 gx d st2 =>
      rw [e2] at gg
      simp only at gg
      intro dx2 H2 ι2 fp2 q
      split at gg
      · rename_i o ho
        have q0 : RelS c ι2 (Un2 B []) st2 (σ ++ [some (.ref x)]) H2 fp2 := by rw [un2_nil rfl]; exact q.rel
        obtain ⟨a1, a2, a3⟩ := q0.pop (t := st2.t + 1) rs.lb p1.rel.len ho
        have b1 : ∀ a, All B (fset fp2 st1.ss.length []) a → All B fp2 a := fun a z => by
          rcases z with z | ⟨j, z⟩
          · exact .inl z
          · by_cases hj : j = st1.ss.length
            · rw [hj, fset_same] at z; cases z
            · rw [fset_ne hj] at z; exact .inr ⟨j, z⟩
        obtain ⟨u, hu, hR⟩ := q.xd
        exact gg dx2 H2 ι2 (fset fp2 st1.ss.length []) ⟨a1.less (fun a z => .inl z) rs.lb, q.go, q.kb, q.sm.trans (hidP_sub b1), ⟨u, hu, R.mono _ hR (Goes.refl _) (hidP_sub b1)⟩, fun z => q.nx (b1 _ z)⟩
      · exact gg.elim
    | ok rv st2 =>
      rw [e2] at gg
      intro v H2 F2 ι2 fp2 q hv
      split at gg
      · rename_i rv' st2' e3
        cases e3
        obtain ⟨rfl, hvn⟩ := hv
        cases (show v = .non from hvn)
        refine ⟨rfl, ?_⟩
        split at gg
        · rename_i o ho
          obtain ⟨a1, a2, a3⟩ := q.rel.pop (t := st2.t + 1) rs.lb p1.rel.len ho
          refine gg (.ref x) H2 (fp2 st1.ss.length) ι2 (fset fp2 st1.ss.length []) ⟨q.rel.nd _, fun a ha z => q.rel.db _ a ha (.inl z), a1, q.go, q.kb, q.sm.trans (hidP_sub fun a z => (a3 a).mp z), fun z => ?_, ?_⟩ a2
          · have := q.up
            simp only at z this
            omega
          · have := q.up
            simp only at this
            show st.t ≤ st2.t + 1
            omega
        · exact gg.elim
      · rename_i e3
        cases e3
      · exact gg.elim
end
section
variable {X : Cx} {c : FC} {W : WX} {k kk : Nat} {f C : Addr} {fd : FuncData} {ps : List Str} {m : Fn} {ms : List AM} {ds : List D} {vs : List Value} {x : Str} {p pos : Pos} {e : Expr} {es : List Expr} {fs : List Den}
theorem se_make (hK : X.K = c.K) (tk : Takes X W) (M : Mk X.K C f) (F : FnOk X.prog X.w X.K X.mg X.base (L2.CX X.prog X.w) k f fd ps (spD c.K kk m)) (hr : Room (k + 1) X.A) (hg : Gl X x) (hm : X.mg x = some (.ref C)) (hb : Binds X.K fd ps vs) (hv : Vals (ds.map D.V) vs)
    (hms : ms.length + 1 = kk) (hds : ds.all D.isAtom = true) (ha : SA X c W (e :: es) fs) (hdb : (x == ("__debug__" : Str)) = false := by decide) (he : starEach (e :: es) X.env = (false, eval e X.env) :: starEach es X.env := by rfl) (hpl : (backTo pos (starEach es X.env)).any (·.1) = false := by rfl) :
    SE X c W (.Call (.Name x p) (e :: es) [] pos) (dMake C m ms ds fs) :=
  se_of (pe_makeSD M F hr hg hm hb hv (fun σ => passAt tk σ) ha hdb he hpl) (ref_make hms hds ref_tDA)
end
end Fv
set_option Elab.async false
set_option linter.all false
set_option maxRecDepth 100000
set_option maxHeartbeats 4000000
namespace Fv
open PySem PySem.Spec PyProof.Rows L2 RkO
open Classical
def loopC2 (tg : Tg) (tt : ES → Out Bool) (it1 : ES → Out (List D)) (tg1 : Tg) (tt1 : ES → Out Bool) (fe : Den) (vs vs1 : List Nat) : List D → ES → List O → Option (List O × ES)
  | [], st, acc => some (acc, st)
  | d :: ds, st, acc => match tgS tg d st with
    | none => none
    | some st1 => match tt st1 with
      | .ok true st2 => match it1 st2 with
        | .ok ds1 st3 => match loopC tg1 tt1 fe vs1 ds1 (wipeS st3 vs1) acc with
          | some (acc2, st4) => loopC2 tg tt it1 tg1 tt1 fe vs vs1 ds (wipeS st4 vs) acc2
          | none => none
        | _ => none
      | .ok false st2 => loopC2 tg tt it1 tg1 tt1 fe vs vs1 ds (wipeS st2 vs) acc
      | _ => none
def dLc2 (it : ES → Out (List D)) (tg : Tg) (tt : ES → Out Bool) (it1 : ES → Out (List D)) (tg1 : Tg) (tt1 : ES → Out Bool) (fe : Den) (vs vs1 : List Nat) : Den := fun st => (it st).bind fun ds st1 => match loopC2 tg tt it1 tg1 tt1 fe vs vs1 ds (wipeS st1 vs) [] with
  | some (os, st3) => if os.length ≤ 90000 then .ok (.va (.lst os)) (unwipe st1 st3 vs) else .no
  | none => .no
end Fv
set_option Elab.async false
set_option linter.all false
set_option maxRecDepth 100000
set_option maxHeartbeats 4000000
namespace Fv
open PySem PySem.Spec PyProof.Rows L2 RkO
open Classical
def dDk0 : Den := fun st => .ok (.va (.dic [])) st
theorem ref_dk0 {c : FC} {W : WX} : RefE c W tDNewK dDk0 := fun B ι st σ H fp r Q g p np => by
  obtain ⟨p3, h3⟩ := Post.made (o := .dic []) (v := .ref p) (F := [p]) r (by simp) (fun a ha => by rw [List.mem_singleton.mp ha]; exact np) (same_upd (o := .dK []) np) ⟨p, [], [], rfl, rfl, upd_same, rfl, rfl⟩
  exact g _ _ _ ι fp p3 h3
def gDin (f : Bool → Bool) : List D → Option O
  | [d, .dic kvs] => match d.key with
    | some k => some (.dp (.bl (f (getD_ kvs k).isSome)))
    | none => none
  | _ => none
theorem Rk.isSome {K : PySem.W.Frag} {ι : List Addr} {H : Hp} {kvs : List (Key × D)} {xs : List (Key × V)} {k : Key} (h : Rk K ι kvs H xs) : (valV xs k).isSome = (getD_ kvs k).isSome := by
  cases e : getD_ kvs k with
  | none => rw [(Rk.find h).2 e]; rfl
  | some d => obtain ⟨v, e1, _⟩ := (Rk.find h).1 d e; rw [e1]; rfl
section
variable {X : Cx} {c : FC} {W : WX} {a b e o i : Expr} {fa fb fd fk fx fe : Den} {pos apos cpos : Pos} {p p2 : Pos}
theorem se_dk0 : SE X c W (.Dict [] [] pos) dDk0 := se_of pe_dnewK ref_dk0
def gListK : List D → Option O
  | [.dic kvs] => some (.lst (dps (kvs.map fun kv => keyD kv.1)))
  | _ => none
theorem Rk.keys {K : PySem.W.Frag} {ι : List Addr} {H H' : Hp} : ∀ {kvs : List (Key × D)} {xs : List (Key × V)}, Rk K ι kvs H xs → Rs K ι (kvs.map fun kv => keyD kv.1) H' (xs.map fun kv => kV kv.1)
  | [], _, h => by rw [show _ = [] from h]; rfl
  | (k, d) :: kvs, _, ⟨x, r, e, h1, h2⟩ => by
    subst e
    refine ⟨_, _, rfl, ?_, Rk.keys h2⟩
    cases k <;> rfl
theorem ops_listK {K : PySem.W.Frag} : OpS K (fun xs H Q => ∃ (a : Addr) (kvs : List (Key × V)), xs = [.ref a] ∧ Rd H a (.dK kvs) ∧ ∀ p, H p = none → Q (.ref p) (upd H p (.lst (kvs.map fun kv => kV kv.1)))) gListK := fun ι A H vs ds o Q al hv e q => by
  unfold gListK at e
  split at e
  · rename_i kvs
    cases e
    obtain ⟨x, rfl, a, xs, rfl, h1, h2⟩ := hv.one
    exact ⟨a, xs, rfl, .inl h1, q.list h2.keys⟩
  · cases e
theorem se_listK (hc : X.calm = true) (hg : Gl X "list") (hm : X.mg "list" = none) (ha : SA X c W [e] [fe])
    (he : starEach [e] X.env = (false, eval e X.env) :: starEach [] X.env := by rfl) (hpl : (backTo pos (starEach [] X.env)).any (·.1) = false := by rfl) : SE X c W (.Call (.Name "list" p) [e] [] pos) (dOp vw gListK [fe]) :=
  se_callTy (call_listD hc) ops_listK hg hm (by decide +kernel) ha (by decide) (by decide) he hpl
def putD (kvs : List (Key × D)) (k : Key) (d : D) : List (Key × D) := if (kvs.any fun kv => decide (kv.1 = k)) then kvs.map fun kv => if kv.1 = k then (kv.1, d) else kv else kvs ++ [(k, d)]
section
variable {K : PySem.W.Frag} {ι : List Addr} {H : Hp}
theorem Rk.any {k : Key} : ∀ {kvs : List (Key × D)} {xs : List (Key × V)}, Rk K ι kvs H xs → (xs.any fun kv => decide (kv.1 = k)) = (kvs.any fun kv => decide (kv.1 = k))
  | [], _, h => by rw [show _ = [] from h]; rfl
  | (m, d) :: kvs, _, ⟨x, r, e, h1, h2⟩ => by subst e; rw [List.any_cons, List.any_cons, Rk.any h2]
theorem Rk.repl {k : Key} {d : D} {v : V} (hd : R K ι d H v) : ∀ {kvs : List (Key × D)} {xs : List (Key × V)}, Rk K ι kvs H xs → Rk K ι (kvs.map fun kv => if kv.1 = k then (kv.1, d) else kv) H (xs.map fun kv => if kv.1 = k then (kv.1, v) else kv)
  | [], _, h => by rw [show _ = [] from h]; rfl
  | (m, d0) :: kvs, _, ⟨x, r, e, h1, h2⟩ => by
    subst e
    rw [List.map_cons, List.map_cons]
    by_cases hm : m = k
    · simp only [if_pos hm]
      exact ⟨_, _, rfl, hd, Rk.repl hd h2⟩
    · simp only [if_neg hm]
      exact ⟨_, _, rfl, h1, Rk.repl hd h2⟩
theorem Rk.snoc {k : Key} {d : D} {v : V} (hd : R K ι d H v) : ∀ {kvs : List (Key × D)} {xs : List (Key × V)}, Rk K ι kvs H xs → Rk K ι (kvs ++ [(k, d)]) H (xs ++ [(k, v)])
  | [], _, h => by rw [show _ = [] from h]; exact ⟨_, _, rfl, hd, rfl⟩
  | (m, d0) :: kvs, _, ⟨x, r, e, h1, h2⟩ => by subst e; exact ⟨_, _, rfl, h1, Rk.snoc hd h2⟩
theorem Rk.put {k : Key} {d : D} {v : V} (hd : R K ι d H v) {kvs : List (Key × D)} {xs : List (Key × V)} (h : Rk K ι kvs H xs) : Rk K ι (putD kvs k d) H (putK xs k v) := by
  unfold putD putK
  rw [h.any]
  split
  · exact h.repl hd
  · exact h.snoc hd
end
end
def dDget2 (fd fk fx : Den) : Den := fun st => (fd st).bind fun r0 st1 => match pk st1 r0 with
  | some (.dic _) => (dArgs [fk, fx] st1).bind fun rvs st2 => if keep r0 st1 st2 = true then match vw st2 r0, vws vw st2 rvs with
      | some (.dic kvs), some [dk, dx] => match dk.key with
        | some k => match getD_ kvs k with
          | some d => .ok (.va (.dp d)) st2
          | none => match dx with
            | .int i => .ok (.va (.dp (.int i))) st2
            | .str i => .ok (.va (.dp (.str i))) st2
            | .non => .ok (.va (.dp .non)) st2
            | _ => .no
        | none => .no
      | _, _ => .no
    else .no
  | _ => .no
def putM (k : Key) (o : O) (kvs : List (Key × O)) : List (Key × O) := if (kvs.any fun kv => decide (kv.1 = k)) then kvs.map fun kv => if kv.1 = k then (kv.1, o) else kv else kvs ++ [(k, o)]
def sPutK (fv fo fi : Den) : SDen := fun st => keepE (dFz fv st) fun o st1 => onE (fo st1) fun r0 st2 => match r0 with
  | .pl j p => onE (fi st2) fun ri st3 => if keep (.pl j p) st2 st3 = true then match hereM st3 j p, pk st3 ri with
      | some (.dic kvs), some d => match d.key with
        | some k => if kvs.length < 90000 then .nx (setAt st3 j p (.dic (putM k (.dp o.toD) kvs))) else .no
        | none => .no
      | _, _ => .no
    else .no
  | _ => .no
def sDelK (fo fi : Den) : SDen := fun st => onE (fo st) fun r0 st2 => match r0 with
  | .pl j p => onE (fi st2) fun ri st3 => if keep (.pl j p) st2 st3 = true then match hereM st3 j p, pk st3 ri with
      | some (.dic kvs), some d => match d.key with
        | some k => if (kvs.any fun kv => decide (kv.1 = k)) = true then .nx (setAt st3 j p (.dic (kvs.filter fun kv => decide (kv.1 ≠ k)))) else .no
        | none => .no
      | _, _ => .no
    else .no
  | _ => .no
section
variable {K : PySem.W.Frag} {ι : List Addr} {H : Hp} {M : Addr → Prop} {n : Key} {d : D} {y : V}
theorem ROk.any : ∀ {os : List (Key × O)} {f : List Addr} {xs : List (Key × V)}, ROk K ι M os f H xs → (xs.any fun kv => decide (kv.1 = n)) = os.any fun kv => decide (kv.1 = n)
  | [], _, _, h => by rw [h.2]; rfl
  | (m, o0) :: os, _, _, h => by
    obtain ⟨f1, f2, x, r, rfl, rfl, h1, h2⟩ := h
    rw [List.any_cons, List.any_cons, ROk.any h2]
theorem ROk.len : ∀ {os : List (Key × O)} {f : List Addr} {xs : List (Key × V)}, ROk K ι M os f H xs → xs.length = os.length
  | [], _, _, h => by rw [h.2]; rfl
  | (m, o0) :: os, _, _, h => by
    obtain ⟨f1, f2, x, r, rfl, rfl, h1, h2⟩ := h
    rw [List.length_cons, List.length_cons, ROk.len h2]
theorem ROk.repl (g : R K ι d (hidP M H) y) : ∀ {os : List (Key × O)} {f : List Addr} {xs : List (Key × V)}, ROk K ι M os f H xs → f.Nodup → ∃ f', ROk K ι M (os.map fun kv => if kv.1 = n then (kv.1, .dp d) else kv) f' H (xs.map fun kv => if kv.1 = n then (kv.1, y) else kv) ∧ (∀ a ∈ f', a ∈ f) ∧ f'.Nodup
  | [], _, _, h, nd => by
    rw [h.2]
    exact ⟨[], ⟨rfl, rfl⟩, (fun a ha => nomatch ha), List.nodup_nil⟩
  | (m, o0) :: os, _, _, h, nd => by
    obtain ⟨f1, f2, x, r, rfl, rfl, h1, h2⟩ := h
    have nd' := List.nodup_append.mp nd
    obtain ⟨f', h', sub, ndf⟩ := ROk.repl g h2 nd'.2.1
    rw [List.map_cons, List.map_cons]
    by_cases hm : m = n
    · simp only [if_pos hm]
      exact ⟨f', ⟨[], f', y, _, rfl, rfl, ⟨rfl, g⟩, h'⟩, fun a ha => List.mem_append_right _ (sub a ha), ndf⟩
    · simp only [if_neg hm]
      refine ⟨f1 ++ f', ⟨f1, f', x, _, rfl, rfl, h1, h'⟩, fun a ha => ?_, List.nodup_append.mpr ⟨nd'.1, ndf, fun a ha b hb e => nd'.2.2 a ha b (sub b hb) e⟩⟩
      exact (List.mem_append.mp ha).elim (List.mem_append_left _) fun z => List.mem_append_right _ (sub a z)
theorem ROk.snoc (g : R K ι d (hidP M H) y) : ∀ {os : List (Key × O)} {f : List Addr} {xs : List (Key × V)}, ROk K ι M os f H xs → ROk K ι M (os ++ [(n, .dp d)]) f H (xs ++ [(n, y)])
  | [], _, _, h => by
    rw [h.1, h.2]
    exact ⟨[], [], y, [], rfl, rfl, ⟨rfl, g⟩, rfl, rfl⟩
  | (m, o0) :: os, _, _, h => by
    obtain ⟨f1, f2, x, r, rfl, rfl, h1, h2⟩ := h
    exact ⟨f1, f2, x, _, rfl, rfl, h1, ROk.snoc g h2⟩
theorem ROk.drop : ∀ {os : List (Key × O)} {f : List Addr} {xs : List (Key × V)}, ROk K ι M os f H xs → f.Nodup → ∃ f', ROk K ι M (os.filter fun kv => decide (kv.1 ≠ n)) f' H (dropK xs n) ∧ (∀ a ∈ f', a ∈ f) ∧ f'.Nodup
  | [], _, _, h, nd => by
    rw [h.2]
    exact ⟨[], ⟨rfl, rfl⟩, (fun a ha => nomatch ha), List.nodup_nil⟩
  | (m, o0) :: os, _, _, h, nd => by
    obtain ⟨f1, f2, x, r, rfl, rfl, h1, h2⟩ := h
    have nd' := List.nodup_append.mp nd
    obtain ⟨f', h', sub, ndf⟩ := ROk.drop h2 nd'.2.1
    unfold dropK at h' ⊢
    rw [List.filter_cons, List.filter_cons]
    by_cases hm : m = n
    · simp only [hm, ne_eq, not_true_eq_false, decide_false, Bool.false_eq_true, if_false]
      simp only [ne_eq] at h'
      exact ⟨f', h', fun a ha => List.mem_append_right _ (sub a ha), ndf⟩
    · simp only [hm, ne_eq, not_false_eq_true, decide_true, if_true]
      simp only [ne_eq] at h'
      refine ⟨f1 ++ f', ⟨f1, f', x, _, rfl, rfl, h1, h'⟩, fun a ha => ?_, List.nodup_append.mpr ⟨nd'.1, ndf, fun a ha b hb e => nd'.2.2 a ha b (sub b hb) e⟩⟩
      exact (List.mem_append.mp ha).elim (List.mem_append_left _) fun z => List.mem_append_right _ (sub a z)
end
end Fv
set_option Elab.async false
set_option linter.all false
set_option maxRecDepth 100000
set_option maxHeartbeats 4000000
namespace Fv
open PySem PySem.Spec PyProof.Rows L2 RkO Rx
open Classical
@[simp] def owA (ds : List D) : List Slot := ds.map fun d => .ow (.dp d)
theorem atom_V {K : PySem.W.Frag} {ι : List Addr} {H : Hp} {d : D} {v : V} (h : R K ι d H v) (a : d.isAtom = true) : v = d.V := by
  cases d with
  | non => exact h
  | bl b => exact h
  | int b => exact h
  | str b => exact h
  | _ => cases a
theorem spD_peek {K : PySem.W.Frag} {m : Fn} {ds : List D} {vs : List V} {ι : List Addr} {H : Hp} {r : D} {bs : List Slot} {n : Nat} {Q : VK} {E : XK} (hv : Rs K ι ds H vs) (em : m (owA ds) ι.length = .ok (.dp r) bs n) (ha : r.isAtom = true)
    (q : ∀ H', Same H H' → Q r.V H') : spD K ds.length m vs H Q E := by
  have e0 : ∀ a, ¬ All (fun _ => False) (fun _ : Nat => ([] : List Addr)) a := fun a z => z.elim id fun ⟨_, z⟩ => nomatch z
  have eH : hidP (All (fun _ => False) fun _ : Nat => ([] : List Addr)) H = H := funext fun b => hidP_f (e0 b)
  have sl : ∀ (ds : List D) (vs : List V), Rs K ι ds H vs → ∀ (i : Nat) (s : Slot), (owA ds)[i]? = some s → SlotR ⟨K, fun _ => False, fun i => vs.getD i .non⟩ ι (All (fun _ => False) fun _ : Nat => ([] : List Addr)) .non (vs.map some)[i]? s [] H := by
    intro ds
    induction ds with
    | nil => intro vs h i s e; simp [owA] at e
    | cons d ds ih =>
      intro vs h i s e
      obtain ⟨x, r, rfl, h1, h2⟩ := h
      cases i with
      | zero =>
        simp [owA] at e
        subst e
        exact ⟨x, rfl, rfl, by rw [eH]; exact h1⟩
      | succ i =>
        have := ih r h2 i s (by simpa [owA] using e)
        simp only [List.map_cons, List.getElem?_cons_succ]
        cases s with
        | un => exact this
        | ow o => exact this
        | bo o => exact this
        | mu o => exact this
  have hlen : vs.length = ds.length := hv.len
  refine ⟨ι, fun _ => False, owA ds, fun _ => [], by simp [owA], ?_, ?_⟩
  · refine ⟨by simp [owA, hlen], rfl, (fun _ => List.nodup_nil), (fun _ _ _ h => nomatch h), (fun _ _ h => nomatch h), (fun a h => h), (fun a h => False.elim h), (fun i s hs => ?_), (fun _ _ => rfl)⟩
    have := sl ds vs hv i s hs
    cases s with
    | un => exact this
    | ow o => exact this
    | bo o => exact this
    | mu o =>
      have : ∃ d, Slot.mu o = .ow (.dp d) := by
        unfold owA at hs
        rw [List.getElem?_map] at hs
        cases e : ds[i]? with
        | none => rw [e] at hs; cases hs
        | some d => rw [e] at hs; cases hs
      obtain ⟨_, e⟩ := this
      cases e
  · rw [em]
    intro v H' F ι' fp' p hro
    obtain ⟨rfl, hR⟩ := hro
    rw [atom_V hR ha]
    refine q H' ?_
    have := p.sm
    rw [eH] at this
    exact this.trans hidP_le
/-- an operation that may run a def -/
def dOpN (w : ES → RV → Option D) (g : Nat → List D → Option O) (fs : List Den) : Den := fun st => (dArgs fs st).bind fun rvs st' => match vws w st' rvs with
  | some ds => match g st'.n ds with
    | some o => .ok (.va o) st'
    | none => .no
  | none => .no
def OpN (K : PySem.W.Frag) (r : List V → Hp → VK → Prop) (g : Nat → List D → Option O) : Prop := ∀ (ι : List Addr) (A : Addr → Prop) H vs ds o Q, (∀ a, A a → ∃ u, H a = some u) → Rs K ι ds H vs → g ι.length ds = some o → Res K ι A H o Q → r vs H Q
section
variable {c : FC} {W : WX} {fs : List Den}
theorem ref_opN {r : List V → Hp → VK → Prop} {g : Nat → List D → Option O} {t : TA} {te : TE} (ht : RefA c W t (dArgs fs)) (ho : OpN c.K r g) (e : ∀ σ H Q, t σ H (fun vs H1 => r vs H1 Q) → te σ H Q) : RefE c W te (dOpN pk g fs) := fun B ι st σ H fp rs Q gg => by
  refine e σ H Q (ht B ι st σ H fp rs _ ?_)
  unfold dOpN at gg
  cases e1 : dArgs fs st with
  | no => rw [e1] at gg; exact gg
  | ex C gx d st1 => rw [e1] at gg; exact gg
  | ok rvs st1 =>
    rw [e1] at gg
    simp only [bind_ok] at gg
    intro vs H1 F ι1 fp1 p1 h1
    cases e2 : vws pk st1 rvs with
    | none => rw [e2] at gg; exact gg.elim
    | some ds =>
      rw [e2] at gg
      simp only at gg
      cases e3 : g st1.n ds with
      | none => rw [e3] at gg; exact gg.elim
      | some o =>
        rw [e3] at gg
        have p2 := p1.drop rs.lb
        have r2 : RelS c ι1 B st1 σ H1 fp1 := by
          have := p2.rel
          rwa [un2_nil rfl] at this
        refine ho ι1 (All B fp1) H1 vs ds o Q (fun a z => r2.alive z) (rvs_pk p1.rel p1.fb rs.lb (fun a h => h) h1 e2) (by rw [r2.cnt]; exact e3) fun v H' F' nd nf sm hr => ?_
        obtain ⟨p3, h3⟩ := Post.made r2 nd nf sm hr
        have p4 := p2.trans (F := []) (by rw [un2_nil rfl]; exact p3)
        refine gg v H' F' ι1 fp1 (by simpa using p4) h3
end
theorem Res.at {K : PySem.W.Frag} {ι : List Addr} {A : Addr → Prop} {H H' : Hp} {d : D} {Q : VK} (q : Res K ι A H (.dp d) Q) (e : Same H H') (ha : d.isAtom = true) : Q d.V H' := q d.V H' [] List.nodup_nil (fun _ h => nomatch h) e ⟨rfl, atom_R ha⟩
def gInO (C : Addr) (m : Fn) (f : Bool → Bool) (n : Nat) : List D → Option O
  | [x, .obj C' i fs] => if C' = C then match m (owA [.obj C' i fs, x]) n with
      | .ok (.dp (.bl b)) _ _ => some (.dp (.bl (f b)))
      | _ => none
    else none
  | _ => none
def gLenO (C : Addr) (m : Fn) (n : Nat) : List D → Option O
  | [.obj C' i fs] => if C' = C then match m (owA [.obj C' i fs]) n with
      | .ok (.dp (.int b)) _ _ => if 0 ≤ b ∧ b < 2 ^ 63 then some (.dp (.int b)) else none
      | _ => none
    else none
  | _ => none
def gIxO (C : Addr) (m : Fn) (n : Nat) : List D → Option O
  | [.obj C' i fs, x] => if C' = C then match m (owA [.obj C' i fs, x]) n with
      | .ok (.dp r) _ _ => if r.isAtom = true then some (.dp r) else none
      | _ => none
    else none
  | _ => none
def gEqO (C : Addr) (m : Fn) (f : Bool → Bool) (n : Nat) : List D → Option O
  | [.obj C1 i fs, .obj C2 j gs] => if C1 = C ∧ C2 = C then match m (owA [.obj C1 i fs, .obj C2 j gs]) n with
      | .ok (.dp (.bl b)) _ _ => some (.dp (.bl (f b)))
      | _ => none
    else none
  | _ => none
theorem not_first {K : PySem.W.Frag} {C : Addr} : PySem.W.notFirst K C (.ref C) = true := by
  unfold PySem.W.notFirst
  rw [beq_self_eq_true]
  rfl
section
variable {K : PySem.W.Frag} {C : Addr} {m : Fn}
theorem opN_len : OpN K (rLenO C (spD K 1 m) E0) (gLenO C m) := fun ι A H vs ds o Q al hv e q => by
  unfold gLenO at e
  split at e
  · rename_i C' i fs
    split at e
    · rename_i hC
      subst hC
      split at e
      · rename_i b bs n em
        split at e
        · rename_i hz
          cases e
          obtain ⟨v, rfl, h1⟩ := hv.one
          obtain ⟨a, dx, xs, rfl, hx, _⟩ := id h1
          exact ⟨a, dx, xs, rfl, hx, spD_peek (ds := [.obj C' i fs]) ⟨_, _, rfl, h1, rfl⟩ em rfl fun H' e => ⟨b, rfl, hz.1, hz.2, q.at e rfl⟩⟩
        · cases e
      · cases e
    · cases e
  · cases e
theorem opN_eq {f : Bool → Bool} {neg : Bool} (hf : ∀ b, f b = if neg then !b else b) : OpN K (r2l (rEqO K C neg (spD K 2 m) E0)) (gEqO C m f) := fun ι A H vs ds o Q al hv e q => by
  unfold gEqO at e
  split at e
  · rename_i C1 i fs C2 j gs
    split at e
    · rename_i hC
      obtain ⟨hC1, hC2⟩ := hC
      subst hC1
      subst hC2
      split at e
      · rename_i b bs n em
        cases e
        obtain ⟨v, w, rfl, h1, h2⟩ := hv.two
        obtain ⟨a, dx, xs, rfl, hx, _⟩ := id h1
        obtain ⟨a2, dx2, xs2, rfl, hx2, _⟩ := id h2
        refine ⟨a, dx, xs, a2, _, dx2, xs2, rfl, rfl, hx, hx2, not_first, spD_peek (ds := [.obj _ i fs, .obj _ j gs]) ⟨_, _, rfl, h1, _, _, rfl, h2, rfl⟩ em rfl fun H' e => ⟨b, rfl, ?_⟩⟩
        have := q.at e rfl
        rw [← hf]
        exact this
      · cases e
    · cases e
  · cases e
end
section
variable {X : Cx} {c : FC} {W : WX} {k : Nat} {f C : Addr} {fd : FuncData} {ps : List Str} {m : Fn} {a b e : Expr} {fa fb fe : Den} {pos p : Pos}
theorem se_lenO (hK : X.K = c.K) (hm : Meth X.K C "__len__" f) (F : FnOk X.prog X.w X.K X.mg X.base (L2.CX X.prog X.w) k f fd ps (spD c.K 1 m)) (hr : Room (k + 1) X.A) (hb : Binds X.K fd ps []) (hg : Gl X "len") (hm2 : X.mg "len" = none) (ha : SE X c W e fe)
    (he : starEach [e] X.env = (false, eval e X.env) :: starEach [] X.env := by rfl) (hpl : (backTo pos (starEach [] X.env)).any (·.1) = false := by rfl) : SE X c W (.Call (.Name "len" p) [e] [] pos) (dOpN pk (gLenO C m) [fe]) :=
  se_of (pe_callB (call_lenO hm F hr hb passL) hg hm2 (by decide +kernel) (pa_cons ha pa_nil he) (by decide) (by decide) he hpl) (ref_opN (t := tCons (tD c W fe) tNil) (ref_cons ref_tD ref_nil) opN_len fun _ _ _ h => h)
end
structure EE where
  C : Addr
  m : Fn
def FRes.isTrue : FRes → Bool
  | .ok (.dp (.bl true)) _ _ => true
  | _ => false
theorem FRes.isTrue_ok {r : FRes} (h : r.isTrue = true) : ∃ bs n, r = .ok (.dp (.bl true)) bs n := by
  unfold FRes.isTrue at h
  split at h
  · exact ⟨_, _, rfl⟩
  · cases h
def eqTab (tab : List EE) (n : Nat) (d e : D) : Bool := match d, e with
  | .obj C1 i fs, .obj C2 j gs => tab.any fun t => decide (C1 = t.C) && decide (C2 = t.C) && FRes.isTrue (t.m (owA [.obj C1 i fs, .obj C2 j gs]) n)
  | _, _ => false
/-- what one class's == says -/
def REq (K : PySem.W.Frag) (t : EE) (N : Nat) : Addr → Addr → Hp → Prop := fun a b H => ∃ (ι : List Addr) (d e : D) (bs : List Slot) (n' : Nat), ι.length = N ∧ R K ι d H (.ref a) ∧ R K ι e H (.ref b) ∧ t.m (owA [d, e]) N = .ok (.dp (.bl true)) bs n'
def DTab (K : PySem.W.Frag) (N : Nat) : List EE → Eqv
  | [] => fun _ _ _ => False
  | t :: tab => fun x y H => DIns t.C (REq K t N) x y H ∨ DTab K N tab x y H
theorem mon_tab {K : PySem.W.Frag} {N : Nat} : ∀ tab : List EE, Mon (DTab K N tab)
  | [] => fun _ _ _ _ _ h => h.elim
  | t :: tab => Mon.or (mon_ins fun a b H H' e ⟨ι, d, e', bs, n', h0, h1, h2, h3⟩ => ⟨ι, d, e', bs, n', h0, h1.mono d (Goes.refl _) e, h2.mono e' (Goes.refl _) e, h3⟩) (mon_tab tab)
/-- the methods of a table -/
structure EqOk (X : Cx) (k : Nat) (t : EE) : Prop where
  ex : ∃ (k' : Nat) (f : Addr) (fd : FuncData) (ps : List Str), k' ≤ k ∧ FnOk X.prog X.w X.K X.mg X.base (L2.CX X.prog X.w) k' f fd ps (spD X.K 2 t.m) ∧ PySem.W.findIn X.K (.ref t.C) "__eq__" = some (some (.ref f)) ∧ PySem.W.isFn X.K (.ref f) = true ∧ Binds X.K fd ps []
theorem eqG_tab {X : Cx} {N k : Nat} : ∀ {tab : List EE}, (∀ t ∈ tab, EqOk X k t) → EqG X k (DTab X.K N tab)
  | [], _ => fun A pins s σ H x y u v sb I rx ry d => d.elim
  | t :: tab, h => by
    obtain ⟨k', f, fd, ps, hk, F, h1, h2, h3⟩ := (h t List.mem_cons_self).ex
    refine EqG.or (EqG.mono (eqG_ins (E := E0) (F.imp fun vs H Q E z => ?_) h1 h2 h3 passL) hk) (eqG_tab fun t' ht => h t' (List.mem_cons_of_mem _ ht))
    obtain ⟨a, b, rfl, ⟨ι, d, e, bs, n', h0, r1, r2, em⟩, q⟩ := z
    exact spD_peek (ds := [d, e]) (ι := ι) (r := .bl true) ⟨_, _, rfl, r1, _, _, rfl, r2, rfl⟩ (by rw [h0]; exact em) rfl fun H' e => q H' e
theorem dtab_of {K : PySem.W.Frag} {ι : List Addr} {H : Hp} {d e : D} {x y : V} : ∀ {tab : List EE}, R K ι d H x → R K ι e H y → eqTab tab ι.length d e = true → DTab K ι.length tab x y H
  | [], h1, h2, h => by
    unfold eqTab at h
    split at h
    · simp at h
    · cases h
  | t :: tab, h1, h2, h => by
    cases d with
    | obj C1 i fs =>
      cases e with
      | obj C2 j gs =>
        simp only [eqTab, List.any_cons, Bool.or_eq_true] at h
        rcases h with h | h
        · rw [Bool.and_eq_true, Bool.and_eq_true] at h
          obtain ⟨⟨e1, e2⟩, em⟩ := h
          have e1 := of_decide_eq_true e1
          have e2 := of_decide_eq_true e2
          obtain ⟨bs, n', em⟩ := FRes.isTrue_ok em
          obtain ⟨a, dx, xs, rfl, hx, _⟩ := id h1
          obtain ⟨b, dy, ys, rfl, hy, _⟩ := id h2
          exact .inl ⟨a, b, dx, dy, xs, ys, rfl, rfl, e1 ▸ hx, e2 ▸ hy, ι, _, _, bs, n', rfl, h1, h2, em⟩
        · exact .inr (dtab_of h1 h2 (by simp only [eqTab]; exact h))
      | _ => simp [eqTab] at h
    | _ => simp [eqTab] at h
end Fv
set_option Elab.async false
set_option linter.all false
set_option maxRecDepth 100000
set_option maxHeartbeats 4000000
namespace Fv
open PySem PySem.Spec PyProof.Rows L2 RkO
open Classical
def dIxP (fa fb : Den) : Den := fun st => (dArgs [fa, fb] st).bind fun rvs st2 => match rvs with
  | [.pl i p, ri] => match here st2 i p, pk st2 ri with
    | some (.lst os), some (.int k) => match ixN os.length k with
      | some q => match os[q]? with
        | some (.dp d) => .ok (.va (.dp d)) st2
        | some _ => .ok (.pl i (p ++ [.idx q])) st2
        | none => .no
      | none => .no
    | _, _ => .no
  | _ => .no
section
variable {c : FC} {W : WX} {ι ι' ι1 : List Addr} {B : Addr → Prop} {st st' st1 st2 : ES} {σ σ' σ1 : L2.St} {H H' H1 H2 : Hp} {fp fp' fp1 fp2 : Nat → List Addr} {F F' G : List Addr} {ta tb te : TE} {fa fb fe : Den} {tA : TA} {fs : List Den}
def keepEs (x : Out (List RV)) (k : List O → ES → SOut) : SOut := onE x fun rvs st1 => onE (settles rvs st1) k
theorem RelS.put {o : O} {v : V} {i : Nat} (r : RelS c ι (Un2 B F) st σ H fp) (nd : F.Nodup) (fb : ∀ a ∈ F, ¬ B a) (hl : ∀ a, c.L a → B a) (h : RO c.K ι (All (Un2 B F) fp) o F H v) (hf : free st.ss[i]? = true) : RelS c ι B (Fv.put st i o) (σ.set i (some v)) H (fset fp i F) := by
  have hi : i < st.ss.length := by
    cases e : st.ss[i]? with
    | none => rw [e] at hf; cases hf
    | some s => exact (List.getElem?_eq_some_iff.mp e).1
  have hσ : i < σ.length := by rw [← r.len]; exact hi
  have sub : ∀ a, All B (fset fp i F) a → All (Un2 B F) fp a := fun a z => by
    rcases z with z | ⟨j, z⟩
    · exact .inl (.inl z)
    · by_cases hj : j = i
      · rw [hj, fset_same] at z; exact .inl (.inr z)
      · rw [fset_ne hj] at z; exact .inr ⟨j, z⟩
  refine ⟨by show (st.ss.set i _).length = _; rw [List.length_set, List.length_set]; exact r.len, r.cnt, fun j => ?_, fun j k a h1 h2 => ?_, fun j a h1 z => ?_, hl, fun a z => r.bl a (.inl z), fun j s hs => ?_, fun j hj => ?_⟩
  · by_cases hj : j = i
    · rw [hj, fset_same]; exact nd
    · rw [fset_ne hj]; exact r.nd j
  · by_cases hj : j = i
    · by_cases hk : k = i
      · rw [hj, hk]
      · rw [hj, fset_same] at h1
        rw [fset_ne hk] at h2
        exact absurd (.inr h1) (r.db k a h2)
    · by_cases hk : k = i
      · rw [hk, fset_same] at h2
        rw [fset_ne hj] at h1
        exact absurd (.inr h2) (r.db j a h1)
      · rw [fset_ne hj] at h1
        rw [fset_ne hk] at h2
        exact r.dj j k a h1 h2
  · by_cases hj : j = i
    · rw [hj, fset_same] at h1; exact fb a h1 z
    · rw [fset_ne hj] at h1; exact r.db j a h1 (.inl z)
  · have hs : (st.ss.set i (.ow o))[j]? = some s := hs
    by_cases hj : j = i
    · subst hj
      rw [List.getElem?_set_self hi] at hs
      cases hs
      rw [fset_same]
      exact ⟨v, by rw [List.getElem?_set_self hσ], h.stay _ (Goes.refl _) (fun _ _ => rfl) (hidP_sub sub)⟩
    · rw [List.getElem?_set_ne (Ne.symm hj)] at hs
      rw [fset_ne hj, List.getElem?_set_ne (Ne.symm hj)]
      exact (r.sl j s hs).stay (Goes.refl _) (fun _ _ => rfl) (fun _ _ => rfl) (hidP_sub sub)
  · have hj : (st.ss.set i (.ow o))[j]? = none := hj
    have hne : j ≠ i := fun z => by
      subst z
      rw [List.getElem?_set_self hi] at hj
      cases hj
    rw [List.getElem?_set_ne (Ne.symm hne)] at hj
    rw [fset_ne hne]
    exact r.out j hj
theorem un2_comm : Un2 (Un2 B F) G = Un2 (Un2 B G) F := by
  funext a
  refine propext ⟨fun z => ?_, fun z => ?_⟩
  · rcases z with (z | z) | z
    · exact .inl (.inl z)
    · exact .inr z
    · exact .inl (.inr z)
  · rcases z with (z | z) | z
    · exact .inl (.inl z)
    · exact .inr z
    · exact .inl (.inr z)
/-- the first of what came new is stored -/
theorem PostS.put1 {o : O} {v : V} {i : Nat} (p : PostS c B fp H ι (F ++ G) st1 σ ι1 fp1 H1) (h : RO c.K ι1 (All (Un2 B (F ++ G)) fp1) o F H1 v) (hl : ∀ a, c.L a → B a) (hf : free st1.ss[i]? = true) :
    PostS c B fp H ι G (Fv.put st1 i o) (σ.set i (some v)) ι1 (fset fp1 i F) H1 ∧ ∀ a, All (Un2 B G) (fset fp1 i F) a → All (Un2 B (F ++ G)) fp1 a := by
  have nd := List.nodup_append.mp p.fn
  have sub : ∀ a, All (Un2 B G) (fset fp1 i F) a → All (Un2 B (F ++ G)) fp1 a := fun a z => by
    rcases z with (z | z) | ⟨j, z⟩
    · exact .inl (.inl z)
    · exact .inl (.inr (List.mem_append_right _ z))
    · by_cases hj : j = i
      · rw [hj, fset_same] at z; exact .inl (.inr (List.mem_append_left _ z))
      · rw [fset_ne hj] at z; exact .inr ⟨j, z⟩
  refine ⟨⟨nd.2.1, fun a ha => p.fb a (List.mem_append_right _ ha), ?_, p.go, p.kb, p.sm.trans (hidP_sub sub)⟩, sub⟩
  have r : RelS c ι1 (Un2 (Un2 B G) F) st1 σ H1 fp1 := by rw [un2_comm, un2_app]; exact p.rel
  refine r.put nd.1 (fun a ha z => ?_) (fun a h => .inl (hl a h)) (by rw [un2_comm, un2_app]; exact h) hf
  rcases z with z | z
  · exact p.fb a (List.mem_append_left _ ha) z
  · exact nd.2.2 a ha a z rfl
def sParO (i j : Nat) (fs : List Den) : SDen := fun st => keepEs (dArgs fs st) fun os st2 => match os with
  | [o, u] => if free st2.ss[i]? = true ∧ free (put st2 i o).ss[j]? = true then .nx (put (put st2 i o) j u) else .no
  | _ => .no
def sPar3 (i j l : Nat) (fs : List Den) : SDen := fun st => keepEs (dArgs fs st) fun os st2 => match os with
  | [o, u, w] => if free st2.ss[i]? = true ∧ free (put st2 i o).ss[j]? = true ∧ free (put (put st2 i o) j u).ss[l]? = true then .nx (put (put (put st2 i o) j u) l w) else .no
  | _ => .no
theorem keptEs (ht : RefA c W tA (dArgs fs)) (rs : RelS c ι B st σ H fp) {k : List O → ES → SOut} {D : Ends} {Q : List V → Hp → Prop} (gg : GoS c W B fp H ι (keepEs (dArgs fs st) k) D)
    (go : ∀ vs H' F ι' fp' os st', Post c B fp H ι st σ st' F ι' fp' H' → ROs c.K ι' (All (Un2 B F) fp') os F H' vs → GoS c W B fp H ι (k os st') D → Q vs H') : tA σ H Q := by
  refine ht B ι st σ H fp rs _ ?_
  unfold keepEs at gg
  cases e1 : dArgs fs st with
  | no => rw [e1] at gg; exact gg
  | ex C gx d st1 => rw [e1] at gg; exact fun dx H' ι' fp' q => gg dx σ H' ι' fp' q
  | ok rvs st1 =>
    rw [e1] at gg
    simp only [onE_ok] at gg
    intro vs H1 F ι1 fp1 p1 h1
    rcases settles_no (rvs := rvs) (st := st1) with ⟨os, st2, e2⟩ | e2
    · rw [e2] at gg
      simp only [onE_ok] at gg
      obtain ⟨fp2, p2, h2, _⟩ := settles_ok p1 (fun a h => h) h1 e2
      exact go vs H1 F ι1 fp2 os st2 p2 h2 gg
    · rw [e2] at gg; exact gg.elim
theorem ref_parO {i j : Nat} (ht : RefA c W tA (dArgs fs)) : RefS c W (L2.tPar i j tA) (sParO i j fs) := fun B ι st σ H fp rs D gg => by
  refine keptEs ht rs (k := fun os st2 => match os with
    | [o, u] => if free st2.ss[i]? = true ∧ free (put st2 i o).ss[j]? = true then .nx (put (put st2 i o) j u) else .no
    | _ => .no) gg fun vs H1 F ι1 fp1 os st2 p1 h1 gg => ?_
  split at gg
  · rename_i o u
    split at gg
    · rename_i hf
      obtain ⟨f1, f2, x, r, rfl, rfl, hx, ⟨f3, f4, y, r2, rfl, rfl, hy, rfl, rfl⟩⟩ := h1
      rw [List.append_nil] at p1 hx hy
      refine ⟨x, y, rfl, ?_⟩
      obtain ⟨q1, sub⟩ := p1.s.put1 hx rs.lb hf.1
      have hy1 := hy.stay _ (Goes.refl _) (fun _ _ => rfl) (hidP_sub sub)
      have q2 := put_ok q1 hy1 rs.lb hf.2
      exact gg _ H1 ι1 _ q2
    · exact gg.elim
  · exact gg.elim
end
section
variable {X : Cx} {c : FC} {W : WX} {a b e : Expr} {fa fb fe : Den} {fs : List Den} {pos : Pos}
theorem ss_parO {i j : Nat} {x y : Str} {px py pt pos : Pos} {kt k2 pt2} (hc : X.calm = true) (hN : X.N.Nodup) (hi : X.N[i]? = some x) (hj : X.N[j]? = some y) (hij : i ≠ j) (hx : X.env.scope.names.lookup x = some .local) (hy : X.env.scope.names.lookup y = some .local)
    (ha : SA X c W [a, b] fs) (hw : swappedStores [.Tuple [.Name x px, .Name y py] kt pt] (.Tuple [a, b] k2 pt2) X.env = pure (some [x, y]))
    (hs : swapsWithSole [.Tuple [.Name x px, .Name y py] kt pt] (.Tuple [a, b] k2 pt2) pos.line X.env = pure false := by rfl) : SS X c W (.Assign [.Tuple [.Name x px, .Name y py] kt pt] (.Tuple [a, b] k2 pt2) pos) (sParO i j fs) :=
  ss_of (ps_par hc hN hi hj hij hx hy ha hw hs) (ref_parO ref_tDA)
end
section
variable {X : Cx} {c : FC} {W : WX} {a b e : Expr} {fa fb fe : Den} {fs : List Den} {pos p : Pos}
theorem ops_min2 {K : PySem.W.Frag} : OpS K (fun xs H Q => ∃ i j, xs = [.int i, .int j] ∧ Q (.int (if j < i then j else i)) H) gMin2 := fun ι A H vs ds o Q al hv e q => by
  unfold gMin2 gI at e
  split at e
  · rename_i i j
    cases e
    obtain ⟨x, y, rfl, h1, h3⟩ := hv.two
    cases (show x = _ from h1)
    cases (show y = _ from h3)
    exact ⟨i, j, rfl, q.atom fun _ => rfl⟩
  · cases e
theorem se_min2 (hc : X.calm = true) (hg : Gl X "min") (hm : X.mg "min" = none) (ha : SA X c W [a, b] fs)
    (he : starEach [a, b] X.env = (false, eval a X.env) :: starEach [b] X.env := by rfl) (hpl : (backTo pos (starEach [b] X.env)).any (·.1) = false := by rfl) : SE X c W (.Call (.Name "min" p) [a, b] [] pos) (dOp vw gMin2 fs) :=
  se_callB (call_min2 hc) ops_min2 hg hm (by decide +kernel) ha (by decide) (by decide) he hpl
end
def gMinD (f : Int → Int → Int) : List D → Option O
  | [.lst ds, d] => match asInts ds with
    | some [] => if d.isAtom = true then some (.dp d) else none
    | some (n :: ms) => some (.dp (.int (ms.foldl f n)))
    | none => none
  | _ => none
section
variable {X : Cx} {c : FC} {W : WX} {a b e : Expr} {fa fb fe : Den} {fs : List Den} {pos p kp : Pos}
def sAug (i : Nat) (f : Int → Int → Int) (fe : Den) : SDen := fun st => match st.ss[i]? with
  | some (.ow (.dp (.int m))) => onE (fe st) fun rv st1 => match pk st1 rv with
    | some (.int n) => if free st1.ss[i]? = true then .nx (put st1 i (.dp (.int (f m n)))) else .no
    | _ => .no
  | _ => .no
end
end Fv
set_option Elab.async false
set_option linter.all false
set_option maxRecDepth 100000
set_option maxHeartbeats 4000000
namespace Fv
open PySem PySem.Spec PyProof.Rows L2 RkO
open Classical
/-- pairs of a text and an int -/
def asSI : List D → Option (List (PySem.Str × Int))
  | [] => some []
  | .tup [.str s, .int i] :: r => (asSI r).map ((s, i) :: ·)
  | _ :: _ => none
def siD (p : PySem.Str × Int) : D := .tup [.str p.1, .int p.2]
@[simp] theorem asSI_map : ∀ ps : List (PySem.Str × Int), asSI (ps.map siD) = some ps
  | [] => rfl
  | p :: ps => by show (asSI (ps.map siD)).map _ = _; rw [asSI_map ps]; rfl
theorem Rs.perm {K : PySem.W.Frag} {ι : List Addr} {H : Hp} {xs ys : List V} (p : xs.Perm ys) : ∀ {ds : List D}, Rs K ι ds H xs → ∃ es, ds.Perm es ∧ Rs K ι es H ys := by
  induction p with
  | nil => exact fun h => ⟨_, .refl _, h⟩
  | cons x p ih =>
    intro ds h
    cases ds with
    | nil => cases h
    | cons d ds =>
      obtain ⟨x', r, e, h1, h2⟩ := h
      cases e
      obtain ⟨es, pe, he⟩ := ih h2
      exact ⟨d :: es, pe.cons d, _, _, rfl, h1, he⟩
  | swap x y l =>
    intro ds h
    cases ds with
    | nil => cases h
    | cons d ds =>
      obtain ⟨x', r, e, h1, h2⟩ := h
      cases e
      cases ds with
      | nil => cases h2
      | cons d2 ds =>
        obtain ⟨x2, r2, e, h3, h4⟩ := h2
        cases e
        exact ⟨d2 :: d :: ds, List.Perm.swap _ _ _, _, _, rfl, h3, _, _, rfl, h1, h4⟩
  | trans p1 p2 i1 i2 =>
    intro ds h
    obtain ⟨es, a1, a2⟩ := i1 h
    obtain ⟨es2, b1, b2⟩ := i2 a2
    exact ⟨es2, a1.trans b1, b2⟩
end Fv
set_option Elab.async false
set_option linter.all false
set_option maxRecDepth 100000
set_option maxHeartbeats 4000000
namespace Fv
open PySem PySem.Spec PyProof.Rows L2 RkO
open Classical
def eqKV (kb : List (Key × V)) : List (Key × V) → Bool
  | [] => true
  | (k, v) :: r => match valV kb k with
    | none => false
    | some y => eqV v y && eqKV kb r
theorem valV_mem {kb : List (Key × V)} {k : Key} {y : V} (h : valV kb k = some y) : ∃ p ∈ kb, p.2 = y := by
  unfold valV at h
  obtain ⟨p, hp, rfl⟩ := Option.map_eq_some_iff.mp h
  exact ⟨p, List.mem_of_find?_eq_some hp, rfl⟩
theorem hits_of {P : Program} {w : World} {A : Around} {s : Shared} {kb : List (Key × V)} {vb : List (Key × Value)} (rb : KV kb vb) (fb : ∀ p ∈ kb, flatV p.2 = true) : ∀ {ka : List (Key × V)} {va : List (Key × Value)}, KV ka va → (∀ p ∈ ka, flatV p.2 = true) → PySem.W.KeqHitsP P w A s vb va (eqKV kb ka)
  | [], _, r, _ => by cases r; exact .nil
  | (k, v) :: ka, _, r, fa => by
    cases r with
    | @cons p q ps qs h t =>
      obtain ⟨k', u⟩ := q
      obtain ⟨e1, e2⟩ := h
      cases (show k = k' from e1)
      have rv := rb.val k
      simp only [eqKV]
      cases ev : valV kb k with
      | none =>
        rw [ev] at rv
        cases eu : valueAt vb k with
        | none => exact .miss eu
        | some y => rw [eu] at rv; cases rv
      | some y =>
        rw [ev] at rv
        cases eu : valueAt vb k with
        | none => rw [eu] at rv; cases rv
        | some z =>
          rw [eu] at rv
          have ryz : RelV y z := rv
          obtain ⟨p, hp, hy⟩ := valV_mem ev
          refine .hit eu (fun E Q q => ?_) (hits_of rb fb t fun p hp => fa p (List.mem_cons_of_mem _ hp))
          exact eqAt_V (A := A) (s := s) e2 ryz (fa _ List.mem_cons_self) (hy ▸ fb p hp) P w E Q q
section
variable {X : Cx} {c : FC} {W : WX} {a b e : Expr} {fa fb fe : Den} {fs : List Den} {pos p : Pos}
def dUp (fo : Den) : Den := fun st => (fo st).bind fun r0 st1 => match pk st1 r0 with
  | some (.str a) => if a.length ≤ 1000 then .ok (.va (.dp (.str (Txt.upper a)))) st1 else .no
  | _ => .no
end
end Fv
set_option Elab.async false
set_option linter.all false
set_option maxRecDepth 100000
set_option maxHeartbeats 4000000
namespace Fv
open PySem PySem.Spec PyProof.Rows L2 RkO
open Classical
theorem eok_nil {X : Cx} {k : Nat} : ∀ t ∈ ([] : List EE), EqOk X k t := fun t h => nomatch h
theorem eok_cons {X : Cx} {k : Nat} {t : EE} {tab : List EE} (h : EqOk X k t) (r : ∀ t ∈ tab, EqOk X k t) : ∀ t' ∈ t :: tab, EqOk X k t' := fun t' ht => (List.mem_cons.mp ht).elim (fun e => e ▸ h) (r t')
end Fv
namespace Fv
open PySem PySem.Spec PyProof.Rows L2 RkO
open Classical
/-- a comparison, as a value and as a test -/
structure SC (X : Cx) (c : FC) (W : WX) (e : Expr) (f : Den) : Prop where
  v : SE X c W e f
  t : ST X c W e (tst f)
section
variable {X : Cx} {c : FC} {W : WX} {k : Nat} {f C : Addr} {fd : FuncData} {ps : List Str} {m : Fn} {a b e : Expr} {fa fb fe f1 f2 : Den} {pos p : Pos} {op : CmpOp} {g : List D → Option O} {tab : List EE}
theorem sc_R {r : R2} {h : Den} (ho : OpR X (compareOp op) r) (ha : SE X c W a fa) (hb : SE X c W b fb) (h1 : behindInMarks op b = false) (hr : RefE c W (tOp r (tD c W fa) (tD c W fb)) h) : SC X c W (.Compare a [op] [b] pos) h := ⟨se_of (pe_cmpR ho ha hb h1) hr, st_of (pt_cmpR ho ha hb h1) (ref_tst hr)⟩
theorem sc_cmpU (hc : Cmp X c.K op g) (ha : SE X c W a fa) (hb : SE X c W b fb) (h1 : behindInMarks op b = false) : SC X c W (.Compare a [op] [b] pos) (dCmp g fa fb) := ⟨se_cmpU hc ha hb h1, st_cmp hc ha hb h1⟩
theorem sc_eqO (hK : X.K = c.K) (hm : Meth X.K C "__eq__" f) (F : FnOk X.prog X.w X.K X.mg X.base (L2.CX X.prog X.w) k f fd ps (spD c.K 2 m)) (hr : Room k X.A) (hb : Binds X.K fd ps []) (ha : SE X c W a fa) (hb2 : SE X c W b fb) (h1 : behindInMarks .Eq b = false := by first | exact nobehind _ (by decide) (by decide) | rfl) :
    SC X c W (.Compare a [.Eq] [b] pos) (dOpN pk (gEqO C m id) [fa, fb]) :=
  sc_R (op_eqO hm F hr hb passL) ha hb2 h1 (ref_opN (r := r2l _) (t := tCons (tD c W fa) (tCons (tD c W fb) tNil)) (ref_cons ref_tD (ref_cons ref_tD ref_nil)) (hK ▸ opN_eq (neg := false) fun b => by simp) fun _ _ _ h => h)
end
end Fv
namespace Fv
open PySem PySem.Spec PyProof.Rows L2 RkO
theorem se_fz {X : Cx} {c : FC} {W : WX} {e : Expr} {f : Den} (h : SE X c W e f) : SE X c W e (dFz f) := se_of h (ref_fz ref_tD)
end Fv
set_option Elab.async false
set_option linter.all false
set_option maxRecDepth 100000
set_option maxHeartbeats 4000000
namespace Fv
open PySem PySem.Spec PyProof.Rows L2 RkO
def frzAt (i : Nat) (st : ES) : ES := match st.ss[i]? with
  | some (.ow o) => { st with ss := st.ss.set i (.ow (.dp o.toD)), t := st.t + 1 }
  | _ => st
def sFrz (i : Nat) (f : SDen) : SDen := fun st => match f st with
  | .nx st' => .nx (frzAt i st')
  | r => r
section
variable {c : FC} {W : WX} {X : Cx} {t : TS} {f : SDen} {i : Nat}
theorem ref_frz (h : RefS c W t f) : RefS c W t (sFrz i f) := fun B ι st σ H fp r D g => by
  refine h B ι st σ H fp r D ?_
  unfold sFrz at g
  cases e : f st with
  | nx st' =>
    rw [e] at g
    have g : GoS c W B fp H ι (.nx (frzAt i st')) D := g
    intro σ' H' ι' fp' p
    unfold frzAt at g
    cases hs : st'.ss[i]? with
    | none => rw [hs] at g; exact g σ' H' ι' fp' p
    | some s =>
      rw [hs] at g
      cases s with
      | ow o =>
        obtain ⟨v, h1, h2⟩ := p.rel.sl i _ hs
        have q := (p.rel0.freeze hs h1).1
        exact g σ' H' ι' _ (p.trans q.s)
      | un => exact g σ' H' ι' fp' p
      | bo o => exact g σ' H' ι' fp' p
      | mu o => exact g σ' H' ι' fp' p
  | bk st' => rw [e] at g; exact g
  | ct st' => rw [e] at g; exact g
  | rt rv st' => rw [e] at g; exact g
  | ex C gx d st' => rw [e] at g; exact g
  | no => rw [e] at g; exact g
theorem ss_frz {s : Stmt} (h : SS X c W s f) : SS X c W s (sFrz i f) := ss_of h (ref_frz ref_tDS)
end
end Fv
set_option Elab.async false
set_option linter.all false
set_option maxRecDepth 100000
set_option maxHeartbeats 4000000
namespace Fv
open PySem PySem.Spec PyProof.Rows L2 RkO Rx
open Classical
section
variable {c : FC} {W : WX} {ι ι' ι1 : List Addr} {B : Addr → Prop} {st st' st1 st2 : ES} {σ σ' σ1 : L2.St} {H H' H1 H2 : Hp} {fp fp' fp1 fp2 : Nat → List Addr} {F F' : List Addr} {te : TE} {fe : Den}
/-- o.reverse() -/
def dRvs (fo : Den) : Den := fun st => (fo st).bind fun r0 st1 => match r0 with
  | .pl i p => match hereM st1 i p with
    | some (.lst os) => if os.all O.isD = true then .ok (.va (.dp .non)) (setAt st1 i p (.lst (dps (toDs os).reverse))) else .no
    | _ => .no
  | _ => .no
/-- o.pop() -/
def dPop (fo : Den) : Den := fun st => (fo st).bind fun r0 st1 => match r0 with
  | .pl i p => match hereM st1 i p with
    | some (.lst os) => match (toDs os).getLast? with
      | some d => if os.all O.isD = true then .ok (.va (.dp d)) (setAt st1 i p (.lst (dps (toDs os).dropLast))) else .no
      | none => .no
    | _ => .no
  | _ => .no
/-- o.insert(i, x): both shared -/
def dIns (fo fi fx : Den) : Den := fun st => (fo st).bind fun r0 st1 => match r0 with
  | .pl i p => match hereM st1 i p with
    | some (.lst _) => (dArgs [fi, fx] st1).bind fun rvs st2 => if keep (.pl i p) st1 st2 = true then (settles rvs st2).bind fun os2 st3 => match os2, hereM st3 i p with
        | [.dp (.int q), .dp d], some (.lst os) => if os.all O.isD = true ∧ os.length < 100000 ∧ 0 ≤ q ∧ q < 2 ^ 63 then .ok (.va (.dp .non)) (setAt st3 i p (.lst (dps ((toDs os).take q.toNat ++ [d] ++ (toDs os).drop q.toNat)))) else .no
        | _, _ => .no
      else .no
    | _ => .no
  | _ => .no
end
end Fv
set_option Elab.async false
set_option linter.all false
set_option maxRecDepth 100000
set_option maxHeartbeats 4000000
namespace Fv
open PySem PySem.Spec PyProof.Rows L2 RkO Rx
open Classical
/-- nothing that came new is in it -/
def shd : RV → Bool
  | .va o => o.isD
  | .pl _ _ => true
def sPutOw (C : Addr) (m : Fn) (ms : List AM) (fv fo fi : Den) : SDen := fun st => onE (fv st) fun rv st1 => if shd rv = true then onE (fo st1) fun r0 st2 => match r0 with
    | .pl j p => onE (fi st2) fun ri st3 => if (shd ri && keep (.pl j p) st2 st3 && keep rv st1 st3) = true then match pk st3 (.pl j p) with
        | some (.obj C' _ _) => if C' = C then onE (callRV m ms [.pl j p, ri, rv] st3) fun _ st4 => .nx st4 else .no
        | _ => .no
      else .no
    | _ => .no
  else .no
end Fv
set_option Elab.async false
set_option linter.all false
set_option maxRecDepth 100000
set_option maxHeartbeats 4000000
namespace Fv
open PySem PySem.Spec PyProof.Rows L2 RkO Rx
open Classical
def dK (d : D) : Den := fun st => .ok (.va (.dp d)) st
section
variable {c : FC} {W : WX} {ι ι' ι1 : List Addr} {B : Addr → Prop} {st st' st1 st2 : ES} {σ σ' σ1 : L2.St} {H H' H1 H2 : Hp} {fp fp' fp1 fp2 : Nat → List Addr} {F F' : List Addr} {te : TE} {fe : Den}
def pDic (fo fi : Den) (d : D) : SDen := sPutK (dK d) fo fi
def pOwn (C : Addr) (m : Fn) (ms : List AM) (fo fi : Den) (d : D) : SDen := fun st => match sPutOw C m ms (dK d) fo fi st with
  | .nx st' => .nx st'
  | _ => .no
/-- p, q = (v, w): the values atoms -/
def sTwo (fe : Den) (s1 s2 : D → SDen) : SDen := fun st => onE (fe st) fun rv st1 => match rv with
  | .va (.dp (.tup [d1, d2])) => if d1.isAtom = true ∧ d2.isAtom = true then match s1 d1 st1 with
      | .nx st2 => match s2 d2 st2 with
        | .nx st3 => .nx st3
        | _ => .no
      | _ => .no
    else .no
  | _ => .no
end
end Fv
set_option Elab.async false
set_option linter.all false
set_option maxRecDepth 100000
set_option maxHeartbeats 4000000
namespace Fv
open PySem PySem.Spec PyProof.Rows L2 RkO Rx
open Classical
/-- except C as (slot i): x = [pre .., e.g] (ls), or x = e.g -/
structure HB where
  C : Addr
  g : Str
  i : Nat
  x : Nat
  pre : List D
  ls : Bool
def HB.o (h : HB) (d : D) : O := match h.ls with
  | true => .lst (h.pre.map O.dp ++ [.dp d])
  | false => .dp d
def HB.run (h : HB) (d : D) : SDen := fun st => match st.ss[h.i]? with
  | some .un => if (free st.ss[h.x]? && decide (h.x ≠ h.i) && h.pre.all D.isAtom && decide (h.pre.length ≤ 1000)) = true then .nx (put st h.x (h.o d)) else .no
  | _ => .no
def sTry (body : SDen) (exs : List Addr) (hs : List HB) : SDen := fun st => match body st with
  | .ex C g d st' => if C ∈ exs then (match hs.find? (fun h => decide (h.C = C)) with
    | some h => if h.g = g then h.run d st' else .no
    | none => .ex C g d st') else .no
  | r => r
theorem PostX.s {c : FC} {ι ι' : List Addr} {B : Addr → Prop} {st' : ES} {σ' : L2.St} {H H' : Hp} {fp fp' : Nat → List Addr} {g : Str} {d : D} {dx : Addr} (p : PostX c B fp H ι σ' g d st' dx ι' fp' H') : PostS c B fp H ι [] st' σ' ι' fp' H' :=
  ⟨List.nodup_nil, fun _ h => (nomatch h), by rw [un2_nil rfl]; exact p.rel, p.go, p.kb, by rw [un2_nil rfl]; exact p.sm⟩
end Fv
set_option Elab.async false
set_option linter.all false
set_option maxRecDepth 100000
set_option maxHeartbeats 4000000
namespace GQ
open PySem PySem.SeqAt
open AutoSeq1 (wpAny_loadPart')
open MeetsSeq MeetsSeq2 MeetsSeq3 SeqRoads2
section
variable {prog : Program} {w : World} {A : Around} {R : Result → Shared → Prop}
theorem ne_loopG (l b : Addr) (N : Nat) (I : Nat → Shared → Prop) (hl : ListI prog w A (fun e s' => R (.error e) s') l b N I)
    (fin : ∀ s, I N s → R (.ok (.ret (.bool false))) s) (k : Nat) :
    ∀ i : Nat, N - i = k → i ≤ N → ∀ s, I i s →
      wpAny (model prog w) A.in1 (Builtin.«list.__eq__.loop» ⟨[.ref l, .ref b, rawInt i, rawInt 3], []⟩) (FinOf prog w A R) (fun e s' => R (.error e) s') s := by
  induction k with
  | zero =>
    intro i hk hi s h
    obtain ⟨its, its2, n, n2, g1, g2, z1, z2, _⟩ := hl _ _ h
    have ei : i = N := by omega
    have hR : R (.ok (.ret (.bool false))) s := fin s (ei ▸ h)
    obtain ⟨hp, g, d, tk, os⟩ := s
    wp_walk using wpAny_loadPart' g1, wpAny_loadPart' g2
    have o1 : its[((i : Nat) : Int).toNat]? = none := by simp; omega
    have o2 : its2[((i : Nat) : Int).toNat]? = none := by simp; omega
    rw [o1, o2]
    wp_walk using wpAny_loadPart' g1, wpAny_loadPart' g2
    show R (.ok (.ret (.bool (its.size != its2.size)))) _
    rw [z1, z2]
    simpa using hR
  | succ k ih =>
    intro i hk hi s h
    obtain ⟨its, its2, n, n2, g1, g2, z1, z2, turn⟩ := hl _ _ h
    have l1 : i < its.size := by omega
    have l2 : i < its2.size := by omega
    have ht := turn l1 l2
    obtain ⟨hp, g, d, tk, os⟩ := s
    wp_walk using wpAny_loadPart' g1, wpAny_loadPart' g2
    have o1 : its[((i : Nat) : Int).toNat]? = some its[i] := by simp [l1]
    have o2 : its2[((i : Nat) : Int).toNat]? = some its2[i] := by simp [l2]
    have ec : ((i : Int) + 1) = ((i + 1 : Nat) : Int) := by omega
    rw [o1, o2]
    refine wpAny_bind (wpAny_mono ht (fun r s2 q2 => ?_) fun _ _ x => x)
    obtain ⟨rt, q2⟩ := q2
    subst rt
    have rec1 := ih (i + 1) (by omega) (by omega) s2 q2
    obtain ⟨hp2, g2', d2, tk2, os2⟩ := s2
    wp_walk
    rw [ec]
    exact ⟨plainId_quiet plain_eq_loop _, codeAny_builtin entry_eq_loop (by
      rw [Around.under_plainId plain_eq_loop _]
      exact rec1)⟩
theorem list_neG (l b : Addr) (N : Nat) (I : Nat → Shared → Prop) (hl : ListI prog w A (fun e s' => R (.error e) s') l b N I)
    (fin : ∀ s, I N s → R (.ok (.ret (.bool false))) s) {s : Shared} (h : I 0 s) :
    wpAny (model prog w) A.in1 (Builtin.«list.__ne__» ⟨[.ref l, .ref b], []⟩) (FinOf prog w A R) (fun e s' => R (.error e) s') s := by
  obtain ⟨its, its2, n, n2, g1, g2, z1, z2, _⟩ := hl _ _ h
  have rec0 := ne_loopG (A := A) (R := R) l b N I hl fin _ 0 rfl (Nat.zero_le _) s h
  obtain ⟨hp, g, d, tk, os⟩ := s
  have f3 := AutoSeq1.sub_list_list
  have sz : ¬ (its.size != its2.size) = true := by simp [z1, z2]
  wp_walk using wpAny_loadPart' g1, wpAny_loadPart' g2
  exact ⟨plainId_quiet plain_eq_loop _, codeAny_builtin entry_eq_loop (by
    rw [Around.under_plainId plain_eq_loop _]
    exact rec0)⟩
end
section
variable {prog : Program} {w : World} {A : Around} {E : Value → Shared → Prop} {s : Shared}
theorem rn_listG {l b : Addr} {N : Nat} {Q : Value → Shared → Prop} (hu : A.units < cLine) (I : Nat → Shared → Prop) (hl : ListI prog w A E l b N I)
    (fin : ∀ s, I N s → Q (.bool false) s) (h : I 0 s) : wpAny (model prog w) A (richCompare .NotEq (.ref l) (.ref b)) Q E s := by
  obtain ⟨its, its2, n, n2, g1, g2, _, _, _⟩ := hl _ _ h
  refine wpAny_richCompare_same_room (op := .NotEq) ⟨_, g1, rfl⟩ ⟨_, g2, rfl⟩ F.slot_list_ne (call_here F.slot_list_ne ⟨_, g1, rfl⟩ F.entry_list_ne (F.args_list_ne_2 _ _) ?_) hu
  exact list_neG (R := wants (fun v s' => v ≠ .notImplemented ∧ Q v s') E) l b N I hl (fun s' q => ⟨(fun x => nomatch x), fin s' q⟩) h
end
end GQ
namespace L2
open PySem PySem.Spec PyProof.Rows
def RnG (X : Cx) (n : Nat) (D : Eqv) : Prop :=
  ∀ (A : Around) (pins : List (Addr × Obj)) (s : Shared) (σ : St) (H : Hp) (x y : V) (u v : Value), Sub X n A → Inv X pins σ H s → RelV x u → RelV y v → D x y H →
    wpAny (model X.prog X.w) A (richCompare .NotEq u v) (fun r s' => r = .bool false ∧ ∃ H', Inv X pins σ H' s' ∧ Ext H H') X.xe s
section
variable {X : Cx} {n : Nat} {D : Eqv}
theorem rnG_list (hD : Mon D) (h : EqG X n D) : RnG X (n + 1) (DList D) := by
  intro A pins s σ H x y u v sb I rx ry d
  obtain ⟨a, b, xs, ys, rfl, rfl, ha, hb, p⟩ := d
  cases rx
  cases ry
  refine GQ.rn_listG (N := xs.length) sb.room.units0 (fun _ s' => LoopI X pins σ H s') (fun i s' q => ?_) (fun s' q => ⟨rfl, q⟩) ⟨H, I, Ext.rfl'⟩
  obtain ⟨H1, I1, e1⟩ := id q
  obtain ⟨z, its, k, r, e⟩ := I1.hok a _ (e1 _ _ ha)
  obtain ⟨z2, its2, k2, r2, e2⟩ := I1.hok b _ (e1 _ _ hb)
  exact ⟨its.toArray, its2.toArray, k, k2, e, e2, by rw [List.size_toArray, ← r.length], by rw [List.size_toArray, ← r2.length, ← p.1], fun h1 h2 => turnG hD h sb p r r2 i h1 h2 s' q⟩
def rNeG (D : Eqv) : R2 := fun x y H Q => D x y H ∧ ∀ H', Ext H H' → Q (.bl false) H'
theorem op_neG (h : RnG X n D) (hr : Room n X.A) : OpR X (compareOp .NotEq) (rNeG D) := by
  intro pins s σ H x y v u Q I rx ry hq
  obtain ⟨d, q⟩ := hq
  show wpAny (model X.prog X.w) X.A (richCompare .NotEq v u) (EP X pins σ Q) X.xe s
  refine wpAny_mono (h X.A pins s σ H x y v u ⟨hr, rfl⟩ I rx ry d) (fun r s' z => ?_) fun _ _ x => x
  obtain ⟨hr', H', I', e⟩ := z
  subst hr'
  exact ⟨.bl false, H', I', rfl, q H' e⟩
/-- two empty dicts -/
def DDic0 : Eqv := fun x y H => ∃ a b, x = .ref a ∧ y = .ref b ∧ H a = some (.dK []) ∧ H b = some (.dK [])
theorem mon_dic0 : Mon DDic0 := fun x y H H' e d => by
  obtain ⟨a, b, hx, hy, h1, h2⟩ := d
  exact ⟨a, b, hx, hy, e _ _ h1, e _ _ h2⟩
theorem rcG_dic0 : RcG X 0 DDic0 := by
  intro A pins s σ H x y u v sb I rx ry d
  obtain ⟨a, b, rfl, rfl, ha, hb⟩ := d
  cases rx
  cases ry
  obtain ⟨za, na, va, ra, da⟩ := dk_of I.hok ha
  obtain ⟨zb, nb, vb, rb, db⟩ := dk_of I.hok hb
  cases ra
  cases rb
  refine PySem.W.rcP_dicts na nb da db sb.room.units0 (fun _ => Fv.hits_of (ka := []) (kb := []) .nil (fun p hp => nomatch hp) .nil fun p hp => nomatch hp) _ _ ?_
  exact ⟨rfl, H, I, Ext.rfl'⟩
theorem eqG_dic0 : EqG X 0 DDic0 := rcG_dic0.eqG fun _ _ _ d => let ⟨a, b, hx, hy, _⟩ := d; ⟨a, b, hx, hy⟩
end
end L2
namespace Fv
open PySem PySem.Spec PyProof.Rows L2 RkO
open Classical
def EX0 (K : PySem.W.Frag) (N : Nat) (tab : List EE) : Eqv := fun x y H => DFlat x y H ∨ (DTab K N tab x y H ∨ DDic0 x y H)
def EX (K : PySem.W.Frag) (N : Nat) (tab : List EE) : Nat → Eqv
  | 0 => EX0 K N tab
  | k + 1 => fun x y H => EX0 K N tab x y H ∨ (DList (EX K N tab k) x y H ∨ DTup K (EX K N tab k) x y H)
theorem mon_EX0 {K : PySem.W.Frag} {N : Nat} {tab : List EE} : Mon (EX0 K N tab) := Mon.or mon_flat (Mon.or (mon_tab tab) mon_dic0)
theorem mon_EX {K : PySem.W.Frag} {N : Nat} {tab : List EE} : ∀ k, Mon (EX K N tab k)
  | 0 => mon_EX0
  | k + 1 => Mon.or mon_EX0 (Mon.or (mon_list (mon_EX k)) (mon_tup (mon_EX k)))
theorem eqG_EX0 {X : Cx} {N k : Nat} {tab : List EE} (h : ∀ t ∈ tab, EqOk X k t) : EqG X k (EX0 X.K N tab) := EqG.or (EqG.mono eqG_flat (Nat.zero_le _)) (EqG.or (eqG_tab h) (EqG.mono eqG_dic0 (Nat.zero_le _)))
theorem eqG_EX {X : Cx} {N k : Nat} {tab : List EE} (h : ∀ t ∈ tab, EqOk X k t) : ∀ j, EqG X (k + j) (EX X.K N tab j)
  | 0 => eqG_EX0 h
  | j + 1 => EqG.or (EqG.mono (eqG_EX0 h) (by omega)) (EqG.or (eqG_list (mon_EX j) (eqG_EX h j)) (eqG_tup (mon_EX j) (eqG_EX h j)))
def all2 (f : D → D → Bool) : List D → List D → Bool
  | [], [] => true
  | d :: ds, e :: es => f d e && all2 f ds es
  | _, _ => false
def eqF (d e : D) : Bool := match d.flatV, e.flatV with
  | some v, some u => eqV v u
  | _, _ => false
def eqN (d e : D) : Bool := match d, e with
  | .dic [], .dic [] => true
  | _, _ => false
def eqX0 (tab : List EE) (n : Nat) (d e : D) : Bool := eqF d e || (eqTab tab n d e || eqN d e)
def eqX (tab : List EE) (n : Nat) : Nat → D → D → Bool
  | 0, d, e => eqX0 tab n d e
  | k + 1, .lst ds, .lst es => all2 (eqX tab n k) ds es
  | k + 1, .tup ds, .tup es => all2 (eqX tab n k) ds es
  | k + 1, d, e => eqX0 tab n d e
section
variable {K : PySem.W.Frag} {ι : List Addr} {H : Hp} {tab : List EE}
theorem ex0_of {d e : D} {x y : V} (h1 : R K ι d H x) (h2 : R K ι e H y) (h : eqX0 tab ι.length d e = true) : EX0 K ι.length tab x y H := by
  unfold eqX0 at h
  rw [Bool.or_eq_true, Bool.or_eq_true] at h
  rcases h with h | h | h
  · unfold eqF at h
    split at h
    · rename_i v u e1 e2
      obtain ⟨rfl, f1⟩ := h1.flatV e1
      obtain ⟨rfl, f2⟩ := h2.flatV e2
      exact .inl ⟨f1, f2, h⟩
    · cases h
  · exact .inr (.inl (dtab_of h1 h2 h))
  · unfold eqN at h
    split at h
    · obtain ⟨a, xs, rfl, e1, z1⟩ := h1
      obtain ⟨b, ys, rfl, e2, z2⟩ := h2
      rw [show xs = [] from z1] at e1
      rw [show ys = [] from z2] at e2
      exact .inr (.inr ⟨a, b, rfl, rfl, e1, e2⟩)
    · cases h
theorem prs_all2 {f : D → D → Bool} {E : Eqv} (hf : ∀ d e x y, R K ι d H x → R K ι e H y → f d e = true → E x y H) : ∀ {ds es : List D} {xs ys : List V}, Rs K ι ds H xs → Rs K ι es H ys → all2 f ds es = true → Prs E xs ys H
  | [], [], _, _, h1, h2, _ => by rw [show _ = [] from h1, show _ = [] from h2]; exact Prs.nil
  | d :: ds, e :: es, _, _, ⟨x, r, e1, a1, a2⟩, ⟨y, r', e2, b1, b2⟩, h => by
    subst e1 e2
    simp only [all2, Bool.and_eq_true] at h
    exact (prs_all2 hf a2 b2 h.2).cons (hf _ _ _ _ a1 b1 h.1)
  | [], _ :: _, _, _, _, _, h => by simp [all2] at h
  | _ :: _, [], _, _, _, _, h => by simp [all2] at h
theorem ex_of : ∀ (k : Nat) (d e : D) (x y : V), R K ι d H x → R K ι e H y → eqX tab ι.length k d e = true → EX K ι.length tab k x y H
  | 0, d, e, x, y, h1, h2, h => ex0_of h1 h2 h
  | k + 1, d, e, x, y, h1, h2, h => by
    unfold eqX at h
    split at h
    · rename_i h'; cases h'
    · rename_i k' ds es hk
      cases hk
      obtain ⟨a, xs, rfl, e1, r1⟩ := h1
      obtain ⟨b, ys, rfl, e2, r2⟩ := h2
      exact .inr (.inl ⟨a, b, xs, ys, rfl, rfl, e1, e2, prs_all2 (fun d e x y => ex_of k d e x y) r1 r2 h⟩)
    · rename_i k' ds es hk
      cases hk
      obtain ⟨a, xs, rfl, e1, r1⟩ := h1
      obtain ⟨b, ys, rfl, e2, r2⟩ := h2
      exact .inr (.inr ⟨a, b, xs, ys, rfl, rfl, tupS e1, tupS e2, prs_all2 (fun d e x y => ex_of k d e x y) r1 r2 h⟩)
    · exact .inl (ex0_of h1 h2 h)
end
def gEqX (tab : List EE) (f : Bool → Bool) (n : Nat) : List D → Option O
  | [.lst ds, .lst es] => if all2 (eqX tab n 3) ds es = true then some (.dp (.bl (f true))) else none
  | _ => none
theorem not_first_ty {K : PySem.W.Frag} {C : Addr} : ∀ a ∈ ["NoneType", "bool", "int", "str", "list", "tuple", "dict"], PySem.W.notFirst K C (.type a) = true := by
  intro a ha
  simp only [List.mem_cons, List.not_mem_nil, or_false] at ha
  rcases ha with rfl | rfl | rfl | rfl | rfl | rfl | rfl <;> rfl
theorem not_first_of {K : PySem.W.Frag} {C C' : Addr} (h : C' = C ∨ PySem.W.subIn K (.ref C') (.ref C) = some false) : PySem.W.notFirst K C (.ref C') = true := by
  rcases h with rfl | h
  · exact not_first
  · unfold PySem.W.notFirst
    rw [h]
    simp
def rEqA (K : PySem.W.Frag) (C : Addr) (neg : Bool) (sp : Sp) (E : XK) : R2 := fun x y H Q => ∃ a dx fs t, x = .ref a ∧ H a = some (.ins C dx fs) ∧ TyX K H y t ∧ PySem.W.notFirst K C t = true ∧
  sp [x, y] H (fun z H' => ∃ b, z = .bl b ∧ Q (.bl (if neg then !b else b)) H') E
section
variable {X : Cx} {CX : CXT} {C f : Addr} {k : Nat} {fd : FuncData} {ps : List Str} {sp : Sp} {E : XK}
theorem op_eqA (hm : Meth X.K C "__eq__" f) (F : FnOk X.prog X.w X.K X.mg X.base CX k f fd ps sp) (hr : Room k X.A) (hb : Binds X.K fd ps []) (hx : Passes CX X E) : OpR X (compareOp .Eq) (rEqA X.K C false sp E) := by
  intro pins s σ H x y v u Q I rx ry h
  obtain ⟨a, dx, fs, t, rfl, ha, ty, hn, q⟩ := h
  cases (show v = Value.ref a from rx)
  obtain ⟨mA, O, _⟩ := ins_get I.hok ha
  obtain ⟨od, J, _⟩ := O.look
  obtain ⟨Z, kt, hz, _⟩ := kit_of I ry ty
  obtain ⟨m, hF⟩ := I.fr
  show wpAny _ _ (richCompare .Eq (.ref a) u) _ _ _
  refine PySem.W.cmp_K (op := .Eq) (tb := t) hr.units0 hF I.ok.mod.kin J (kt.ty _ _ I.kIn hz) hn hm.at_ hm.fn ?_
  refine wpAny_mono (run_here (us := [.ref a, u]) (vs := [.ref a, y]) F hr rfl hb hx I (.cons rfl (.cons ry .nil)) q) (fun w s' z => ?_) fun _ _ x => x
  obtain ⟨z', H', I', rz, r, rfl, qz⟩ := z
  cases (show w = Value.bool r from rz)
  exact ⟨.bl r, H', I', rfl, qz⟩
end
def D.isIn (oth : List Addr) : D → Bool
  | .obj C _ _ => decide (C ∈ oth)
  | _ => true
def gEqA (C : Addr) (oth : List Addr) (m : Fn) (f : Bool → Bool) (n : Nat) : List D → Option O
  | [.obj C1 i fs, e] => if C1 = C ∧ e.isIn oth = true then match m (owA [.obj C1 i fs, e]) n with
      | .ok (.dp (.bl b)) _ _ => some (.dp (.bl (f b)))
      | _ => none
    else none
  | _ => none
theorem opN_eqA {K : PySem.W.Frag} {C : Addr} {oth : List Addr} {m : Fn} {f : Bool → Bool} {neg : Bool} (hf : ∀ b, f b = if neg then !b else b) (ho : ∀ C' ∈ oth, Own K C' ∧ (C' = C ∨ PySem.W.subIn K (.ref C') (.ref C) = some false)) : OpN K (r2l (rEqA K C neg (spD K 2 m) E0)) (gEqA C oth m f) := fun ι A H vs ds o Q al hv e q => by
  unfold gEqA at e
  split at e
  · rename_i C1 i fs e2
    split at e
    · rename_i hC
      obtain ⟨hC1, hC2⟩ := hC
      subst hC1
      split at e
      · rename_i b bs n em
        cases e
        obtain ⟨v, w, rfl, h1, h2⟩ := hv.two
        obtain ⟨a, dx, xs, rfl, hx, _⟩ := id h1
        have tk : e2.tn ≠ none ∨ ∃ C n fs, e2 = .obj C n fs ∧ C ∈ oth := by
          cases e2 with
          | obj C2 j gs => exact .inr ⟨_, _, _, rfl, by simpa [D.isIn] using hC2⟩
          | _ => exact .inl fun z => nomatch z
        obtain ⟨t, ty, t1, t2⟩ := ty_of (fun C hC => (ho C hC).1) h2 tk
        refine ⟨a, dx, xs, t, rfl, hx, ty, ?_, spD_peek (ds := [.obj _ i fs, e2]) ⟨_, _, rfl, h1, _, _, rfl, h2, rfl⟩ em rfl fun H' e => ⟨b, rfl, ?_⟩⟩
        · cases e2 with
          | obj C2 j gs =>
            rw [t2 _ _ _ rfl]
            exact not_first_of (ho _ (by simpa [D.isIn] using hC2)).2
          | _ => rw [t1 _ rfl]; exact not_first_ty _ (by simp)
        · have := q.at e rfl
          rw [← hf]
          exact this
      · cases e
    · cases e
  · cases e
section
variable {X : Cx} {c : FC} {W : WX} {k : Nat} {f C : Addr} {oth : List Addr} {fd : FuncData} {ps : List Str} {m : Fn} {a b : Expr} {fa fb : Den} {pos : Pos}
theorem sc_eqA (hK : X.K = c.K) (ho : ∀ C' ∈ oth, Own c.K C' ∧ (C' = C ∨ PySem.W.subIn c.K (.ref C') (.ref C) = some false)) (hm : Meth X.K C "__eq__" f) (F : FnOk X.prog X.w X.K X.mg X.base (L2.CX X.prog X.w) k f fd ps (spD c.K 2 m)) (hr : Room k X.A) (hb : Binds X.K fd ps []) (ha : SE X c W a fa) (hb2 : SE X c W b fb) (h1 : behindInMarks .Eq b = false := by first | exact nobehind _ (by decide) (by decide) | rfl) :
    SC X c W (.Compare a [.Eq] [b] pos) (dOpN pk (gEqA C oth m id) [fa, fb]) :=
  sc_R (op_eqA hm F hr hb passL) ha hb2 h1 (ref_opN (r := r2l _) (t := tCons (tD c W fa) (tCons (tD c W fb) tNil)) (ref_cons ref_tD (ref_cons ref_tD ref_nil)) (hK ▸ opN_eqA (neg := false) (fun b => by simp) (hK ▸ ho)) fun _ _ _ h => h)
end
def gEqDS : List D → Option O
  | [.dic _, .str _] => some (.dp (.bl false))
  | [.lst _, .str _] => some (.dp (.bl false))
  | [.tup _, .str _] => some (.dp (.bl false))
  | _ => none
end Fv
set_option Elab.async false
set_option linter.all false
set_option maxRecDepth 100000
set_option maxHeartbeats 4000000
namespace Fv
open PySem PySem.Spec PyProof.Rows L2 RkO
open Classical
def gIsS (yes no : List Addr) : D → Option Bool
  | .obj C _ _ => if C ∈ yes then some true else if C ∈ no then some false else none
  | _ => some false
end Fv
set_option Elab.async false
set_option linter.all false
set_option maxRecDepth 100000
set_option maxHeartbeats 4000000
namespace L2
open PySem PySem.Spec PyProof.Rows
abbrev EqvB := V → V → Bool → Hp → Prop
def MonB (D : EqvB) : Prop := ∀ x y b H H', Ext H H' → D x y b H → D x y b H'
def EqB (X : Cx) (n : Nat) (D : EqvB) : Prop :=
  ∀ (A : Around) (pins : List (Addr × Obj)) (s : Shared) (σ : St) (H : Hp) (x y : V) (u v : Value) (b : Bool), Sub X n A → Inv X pins σ H s → RelV x u → RelV y v → D x y b H →
    wpAny (model X.prog X.w) A (eqBool u v) (fun r s' => r = b ∧ ∃ H', Inv X pins σ H' s' ∧ Ext H H') X.xe s
section
variable {X : Cx} {n m : Nat} {D D' : EqvB}
theorem EqB.mono (h : EqB X n D) (hn : n ≤ m) : EqB X m D := fun A pins s σ H x y u v b sb => h A pins s σ H x y u v b (sb.mono hn)
theorem EqB.or (h : EqB X n D) (h' : EqB X n D') : EqB X n (fun x y b H => D x y b H ∨ D' x y b H) := fun A pins s σ H x y u v b sb I rx ry d => by
  rcases d with d | d
  · exact h A pins s σ H x y u v b sb I rx ry d
  · exact h' A pins s σ H x y u v b sb I rx ry d
theorem MonB.or (h : MonB D) (h' : MonB D') : MonB (fun x y b H => D x y b H ∨ D' x y b H) := fun x y b H H' e d => d.elim (fun d => .inl (h x y b H H' e d)) fun d => .inr (h' x y b H H' e d)
end
end L2
namespace Fv
open PySem PySem.Spec PyProof.Rows L2 RkO
open Classical
mutual
/-- told by the heap alone -/
def D.std : D → Bool
  | .non => true
  | .bl _ => true
  | .int _ => true
  | .str _ => true
  | .scr _ => false
  | .lst ds => stds ds
  | .tup ds => stds ds
  | .dic _ => false
  | .dit _ => false
  | .obj _ n fs => n.isNone && stdf fs
def stds : List D → Bool
  | [] => true
  | d :: ds => d.std && stds ds
def stdf : List (Str × D) → Bool
  | [] => true
  | (_, d) :: ds => d.std && stdf ds
end
section
variable {K : PySem.W.Frag} {ι ι' : List Addr} {H : Hp}
mutual
theorem R.inj : ∀ (d e : D) {x : V}, R K ι d H x → R K ι' e H x → d.std = true → e.std = true → d = e
  | d, .scr _, _, _, _, _, h => by simp [D.std] at h
  | d, .dic _, _, _, _, _, h => by simp [D.std] at h
  | d, .dit _, _, _, _, _, h => by simp [D.std] at h
  | .scr _, _, _, _, _, h, _ => by simp [D.std] at h
  | .dic _, _, _, _, _, h, _ => by simp [D.std] at h
  | .dit _, _, _, _, _, h, _ => by simp [D.std] at h
  | .non, .non, _, _, _, _, _ => rfl
  | .non, .bl _, _, h, g, _, _ => by rw [show _ = _ from h] at g; cases (show _ = _ from g)
  | .non, .int _, _, h, g, _, _ => by rw [show _ = _ from h] at g; cases (show _ = _ from g)
  | .non, .str _, _, h, g, _, _ => by rw [show _ = _ from h] at g; cases (show _ = _ from g)
  | .non, .lst _, _, h, g, _, _ => by obtain ⟨a, xs, e, _⟩ := g; rw [show _ = _ from h] at e; cases e
  | .non, .tup _, _, h, g, _, _ => by obtain ⟨a, xs, e, _⟩ := g; rw [show _ = _ from h] at e; cases e
  | .non, .obj _ _ _, _, h, g, _, _ => by obtain ⟨a, dx, xs, e, _⟩ := g; rw [show _ = _ from h] at e; cases e
  | .bl _, .non, _, h, g, _, _ => by rw [show _ = _ from h] at g; cases (show _ = _ from g)
  | .bl _, .bl _, _, h, g, _, _ => by rw [show _ = _ from h] at g; cases (show _ = _ from g); rfl
  | .bl _, .int _, _, h, g, _, _ => by rw [show _ = _ from h] at g; cases (show _ = _ from g)
  | .bl _, .str _, _, h, g, _, _ => by rw [show _ = _ from h] at g; cases (show _ = _ from g)
  | .bl _, .lst _, _, h, g, _, _ => by obtain ⟨a, xs, e, _⟩ := g; rw [show _ = _ from h] at e; cases e
  | .bl _, .tup _, _, h, g, _, _ => by obtain ⟨a, xs, e, _⟩ := g; rw [show _ = _ from h] at e; cases e
  | .bl _, .obj _ _ _, _, h, g, _, _ => by obtain ⟨a, dx, xs, e, _⟩ := g; rw [show _ = _ from h] at e; cases e
  | .int _, .non, _, h, g, _, _ => by rw [show _ = _ from h] at g; cases (show _ = _ from g)
  | .int _, .bl _, _, h, g, _, _ => by rw [show _ = _ from h] at g; cases (show _ = _ from g)
  | .int _, .int _, _, h, g, _, _ => by rw [show _ = _ from h] at g; cases (show _ = _ from g); rfl
  | .int _, .str _, _, h, g, _, _ => by rw [show _ = _ from h] at g; cases (show _ = _ from g)
  | .int _, .lst _, _, h, g, _, _ => by obtain ⟨a, xs, e, _⟩ := g; rw [show _ = _ from h] at e; cases e
  | .int _, .tup _, _, h, g, _, _ => by obtain ⟨a, xs, e, _⟩ := g; rw [show _ = _ from h] at e; cases e
  | .int _, .obj _ _ _, _, h, g, _, _ => by obtain ⟨a, dx, xs, e, _⟩ := g; rw [show _ = _ from h] at e; cases e
  | .str _, .non, _, h, g, _, _ => by rw [show _ = _ from h] at g; cases (show _ = _ from g)
  | .str _, .bl _, _, h, g, _, _ => by rw [show _ = _ from h] at g; cases (show _ = _ from g)
  | .str _, .int _, _, h, g, _, _ => by rw [show _ = _ from h] at g; cases (show _ = _ from g)
  | .str _, .str _, _, h, g, _, _ => by rw [show _ = _ from h] at g; cases (show _ = _ from g); rfl
  | .str _, .lst _, _, h, g, _, _ => by obtain ⟨a, xs, e, _⟩ := g; rw [show _ = _ from h] at e; cases e
  | .str _, .tup _, _, h, g, _, _ => by obtain ⟨a, xs, e, _⟩ := g; rw [show _ = _ from h] at e; cases e
  | .str _, .obj _ _ _, _, h, g, _, _ => by obtain ⟨a, dx, xs, e, _⟩ := g; rw [show _ = _ from h] at e; cases e
  | .lst _, .non, _, h, g, _, _ => by obtain ⟨a, xs, e, _⟩ := h; rw [show _ = _ from g] at e; cases e
  | .lst _, .bl _, _, h, g, _, _ => by obtain ⟨a, xs, e, _⟩ := h; rw [show _ = _ from g] at e; cases e
  | .lst _, .int _, _, h, g, _, _ => by obtain ⟨a, xs, e, _⟩ := h; rw [show _ = _ from g] at e; cases e
  | .lst _, .str _, _, h, g, _, _ => by obtain ⟨a, xs, e, _⟩ := h; rw [show _ = _ from g] at e; cases e
  | .lst ds, .lst es, _, h, g, s1, s2 => by
    obtain ⟨a, xs, rfl, h1, h2⟩ := h
    obtain ⟨b, ys, e, g1, g2⟩ := g
    cases e
    rw [h1] at g1
    cases g1
    rw [Rs.inj ds es h2 g2 (by simpa [D.std] using s1) (by simpa [D.std] using s2)]
  | .lst _, .tup _, _, h, g, _, _ => by
    obtain ⟨a, xs, rfl, h1, h2⟩ := h
    obtain ⟨b, ys, e, g1, g2⟩ := g
    cases e
    rw [h1] at g1
    cases g1
  | .lst _, .obj _ _ _, _, h, g, _, _ => by
    obtain ⟨a, xs, rfl, h1, h2⟩ := h
    obtain ⟨b, dx, ys, e, g1, g2⟩ := g
    cases e
    rw [h1] at g1
    cases g1
  | .tup _, .non, _, h, g, _, _ => by obtain ⟨a, xs, e, _⟩ := h; rw [show _ = _ from g] at e; cases e
  | .tup _, .bl _, _, h, g, _, _ => by obtain ⟨a, xs, e, _⟩ := h; rw [show _ = _ from g] at e; cases e
  | .tup _, .int _, _, h, g, _, _ => by obtain ⟨a, xs, e, _⟩ := h; rw [show _ = _ from g] at e; cases e
  | .tup _, .str _, _, h, g, _, _ => by obtain ⟨a, xs, e, _⟩ := h; rw [show _ = _ from g] at e; cases e
  | .tup ds, .tup es, _, h, g, s1, s2 => by
    obtain ⟨a, xs, rfl, h1, h2⟩ := h
    obtain ⟨b, ys, e, g1, g2⟩ := g
    cases e
    rw [h1] at g1
    cases g1
    rw [Rs.inj ds es h2 g2 (by simpa [D.std] using s1) (by simpa [D.std] using s2)]
  | .tup _, .lst _, _, h, g, _, _ => by
    obtain ⟨a, xs, rfl, h1, h2⟩ := h
    obtain ⟨b, ys, e, g1, g2⟩ := g
    cases e
    rw [h1] at g1
    cases g1
  | .tup _, .obj _ _ _, _, h, g, _, _ => by
    obtain ⟨a, xs, rfl, h1, h2⟩ := h
    obtain ⟨b, dx, ys, e, g1, g2⟩ := g
    cases e
    rw [h1] at g1
    cases g1
  | .obj _ _ _, .non, _, h, g, _, _ => by obtain ⟨a, dx, xs, e, _⟩ := h; rw [show _ = _ from g] at e; cases e
  | .obj _ _ _, .bl _, _, h, g, _, _ => by obtain ⟨a, dx, xs, e, _⟩ := h; rw [show _ = _ from g] at e; cases e
  | .obj _ _ _, .int _, _, h, g, _, _ => by obtain ⟨a, dx, xs, e, _⟩ := h; rw [show _ = _ from g] at e; cases e
  | .obj _ _ _, .str _, _, h, g, _, _ => by obtain ⟨a, dx, xs, e, _⟩ := h; rw [show _ = _ from g] at e; cases e
  | .obj _ _ _, .lst _, _, h, g, _, _ => by
    obtain ⟨a, dx, xs, rfl, h1, _⟩ := h
    obtain ⟨b, ys, e, g1, _⟩ := g
    cases e
    rw [h1] at g1
    cases g1
  | .obj _ _ _, .tup _, _, h, g, _, _ => by
    obtain ⟨a, dx, xs, rfl, h1, _⟩ := h
    obtain ⟨b, ys, e, g1, _⟩ := g
    cases e
    rw [h1] at g1
    cases g1
  | .obj C n fs, .obj C2 m gs, _, h, g, s1, s2 => by
    obtain ⟨a, dx, xs, rfl, h1, _, h2⟩ := h
    obtain ⟨b, dy, ys, e, g1, _, g2⟩ := g
    cases e
    rw [h1] at g1
    cases g1
    simp only [D.std, Bool.and_eq_true] at s1 s2
    rw [Rf.inj fs gs h2 g2 s1.2 s2.2]
    have e1 := s1.1
    have e2 := s2.1
    cases n with
    | some n => cases e1
    | none => cases m with
      | some m => cases e2
      | none => rfl
theorem Rs.inj : ∀ (ds es : List D) {xs : List V}, Rs K ι ds H xs → Rs K ι' es H xs → stds ds = true → stds es = true → ds = es
  | [], [], _, _, _, _, _ => rfl
  | [], e :: es, _, h, g, _, _ => by obtain ⟨y, r, e, _⟩ := g; rw [show _ = [] from h] at e; cases e
  | d :: ds, [], _, h, g, _, _ => by obtain ⟨y, r, e, _⟩ := h; rw [show _ = [] from g] at e; cases e
  | d :: ds, e :: es, _, ⟨x, r, e1, a1, a2⟩, ⟨y, r', e2, b1, b2⟩, s1, s2 => by
    rw [e1] at e2
    cases e2
    simp only [stds, Bool.and_eq_true] at s1 s2
    rw [R.inj d e a1 b1 s1.1 s2.1, Rs.inj ds es a2 b2 s1.2 s2.2]
theorem Rf.inj : ∀ (ds es : List (Str × D)) {xs : List (Str × V)}, Rf K ι ds H xs → Rf K ι' es H xs → stdf ds = true → stdf es = true → ds = es
  | [], [], _, _, _, _, _ => rfl
  | [], (k, e) :: es, _, h, g, _, _ => by obtain ⟨y, r, e, _⟩ := g; rw [show _ = [] from h] at e; cases e
  | (k, d) :: ds, [], _, h, g, _, _ => by obtain ⟨y, r, e, _⟩ := h; rw [show _ = [] from g] at e; cases e
  | (k, d) :: ds, (k', e) :: es, _, ⟨x, r, e1, a1, a2⟩, ⟨y, r', e2, b1, b2⟩, s1, s2 => by
    rw [e1] at e2
    cases e2
    simp only [stdf, Bool.and_eq_true] at s1 s2
    rw [R.inj d e a1 b1 s1.1 s2.1, Rf.inj ds es a2 b2 s1.2 s2.2]
end
end
end Fv
namespace Fv
open PySem PySem.Spec PyProof.Rows L2 RkO
open Classical
def FRes.bool? : FRes → Option Bool
  | .ok (.dp (.bl b)) _ _ => some b
  | _ => none
def eqTB (tab : List EE) (n : Nat) : D → D → Option Bool
  | .obj C1 i fs, .obj C2 j gs => match tab.find? (fun t => decide (t.C = C1)) with
    | some t => if C2 ∈ tab.map EE.C then match (t.m (owA [.obj C1 i fs, .obj C2 j gs]) n).bool? with
        | some true => some true
        | some false => if (D.std (.obj C1 i fs) && D.std (.obj C2 j gs) && FRes.isTrue (t.m (owA [.obj C1 i fs, .obj C1 i fs]) n)) = true then some false else none
        | none => none
      else none
    | none => none
  | _, _ => none
def eqsTB (tab : List EE) (n : Nat) : List D → List D → Option Bool
  | [], [] => some true
  | d :: ds, e :: es => match eqTB tab n d e with
    | some true => eqsTB tab n ds es
    | some false => some false
    | none => none
  | _, _ => some false
def gEqOB (tab : List EE) (n : Nat) : List D → Option O
  | [.lst ds, .lst es] => if ds.length = es.length then (eqsTB tab n ds es).map fun b => .dp (.bl b) else some (.dp (.bl false))
  | _ => none
end Fv
set_option Elab.async false
set_option linter.all false
set_option maxRecDepth 100000
set_option maxHeartbeats 4000000
namespace PySem.W
open PySem PySem.Spec PyProof.Rows
end PySem.W
namespace L2
open PySem PySem.Spec PyProof.Rows
/-- a text and a list, a tuple, a dict -/
def DStrX : EqvB := fun y x b H => b = false ∧ (∃ z, y = .str z) ∧ ∃ a, x = .ref a ∧ ((∃ xs, H a = some (.lst xs)) ∨ (∃ xs, H a = some (.tup xs)) ∨ ∃ kvs, H a = some (.dK kvs))
section
variable {X : Cx} {n : Nat}
/-- a text and an instance -/
def DStrI (C : Addr) (R : Addr → Str → Bool → Hp → Prop) : EqvB := fun y x b H => ∃ z a dx fs, y = .str z ∧ x = .ref a ∧ H a = some (.ins C dx fs) ∧ R a z b H
end
end L2
namespace Fv
open PySem PySem.Spec PyProof.Rows L2 RkO
open Classical
def D.isStr : D → Bool
  | .str _ => true
  | _ => false
def gInX (tab : List EE) (n : Nat) : List D → Option O
  | [.obj C i fs, .lst ys] => if (ys.all fun y => y.isStr && tab.any fun t => decide (t.C = C) && decide ((t.m (owA [.obj C i fs, y]) n).bool? = some false)) = true then some (.dp (.bl false)) else none
  | [.lst _, .lst ys] => if ys.all D.isStr = true then some (.dp (.bl false)) else none
  | [.tup _, .lst ys] => if ys.all D.isStr = true then some (.dp (.bl false)) else none
  | [.dic _, .lst ys] => if ys.all D.isStr = true then some (.dp (.bl false)) else none
  | _ => none
def RStr (K : PySem.W.Frag) (t : EE) (N : Nat) : Addr → Str → Bool → Hp → Prop := fun a z b H => ∃ (ι : List Addr) (d : D) (bs : List Slot) (n' : Nat), ι.length = N ∧ R K ι d H (.ref a) ∧ t.m (owA [d, .str z]) N = .ok (.dp (.bl b)) bs n'
def DSt (K : PySem.W.Frag) (N : Nat) : List EE → EqvB
  | [] => DStrX
  | t :: tab => fun x y b H => DStrI t.C (RStr K t N) x y b H ∨ DSt K N tab x y b H
section
variable {K : PySem.W.Frag} {ι : List Addr} {H : Hp}
theorem DSt.plain {N : Nat} {x y : V} {b : Bool} (d : DStrX x y b H) : ∀ {tab : List EE}, DSt K N tab x y b H
  | [] => d
  | _ :: tab => .inr (DSt.plain d (tab := tab))
end
end Fv
set_option Elab.async false
set_option linter.all false
set_option maxRecDepth 100000
set_option maxHeartbeats 4000000
namespace RkO
open PySem PySem.Spec PyProof.Rows L2
section
variable {X : Cx} {CX : CXT} {f C : Addr} {fd : FuncData} {ps : List Str} {k : Nat} {sp : Sp} {E : L2.St → XK}
theorem run_hereS {A : Around} {pins : List (Addr × Obj)} {σ : L2.St} {H : Hp} {s : Shared} {Q : VK} {us : List Value} {vs : List V} (F : FnOk X.prog X.w X.K X.mg X.base CX k f fd ps sp) (hr : Room k A) (hfr : A.frames = X.A.frames) (hb : Binds X.K fd ps [])
    (hx : PassesAt CX X σ (E σ)) (I : Inv X pins σ H s) (r : Vals vs us) (h : sp vs H Q (E σ)) : wpAny (model X.prog X.w) A (call (.ref f) us) (EP X pins σ Q) X.xe s := by
  have hl : us.length = ps.length := by rw [← r.length]; exact F.len _ _ _ _ h
  have e0 : Env0 X.prog X.w X.K X.mg X.base A X.stack s H := by
    have e := I.env0
    exact ⟨by rw [hfr]; exact e.frames, e.mod, e.bs, e.bsz, e.funs, e.frf, e.hok, e.bare⟩
  refine wpAny_call (codeAny_mono (F.run A X.stack s H ⟨us, []⟩ us vs Q (E σ) hr e0 (by
    have := hb s us I.kIn (by simpa using hl)
    simpa using this) r h) fun r s' hq => ?_)
  cases r with
  | error e => exact hx pins H s e s' I hq
  | ok fl =>
    cases fl with
    | ret u => exact I.after hq
    | next => exact False.elim hq
    | brk => exact False.elim hq
    | cont => exact False.elim hq
end
end RkO
namespace Fv
open PySem PySem.Spec PyProof.Rows L2 RkO
open Classical
/-- o[i], o of the class C -/
def dIxC (C : Addr) (m : Fn) (ms : List AM) (fo fi : Den) : Den := fun st => (fo st).bind fun r0 st1 => (fi st1).bind fun r1 st2 => if keep r0 st1 st2 = true then match pk st2 r0 with
  | some (.obj C' _ _) => if C' = C then callRV m ms [r0, r1] st2 else .no
  | _ => .no
  else .no
end Fv
set_option Elab.async false
set_option linter.all false
set_option maxRecDepth 100000
set_option maxHeartbeats 4000000
namespace Fv
open PySem PySem.Spec PyProof.Rows L2 RkO
open Classical
end Fv
set_option Elab.async false
set_option linter.all false
set_option maxRecDepth 100000
set_option maxHeartbeats 4000000
namespace Fv
open PySem PySem.Spec PyProof.Rows L2 RkO
open Classical
def gFn (m : Fn) (k : Nat) (n : Nat) (ds : List D) : Option O := if ds.length = k then match m (owA ds) n with
  | .ok (.dp r) _ _ => if r.isAtom = true then some (.dp r) else none
  | _ => none
  else none
theorem opN_fn {K : PySem.W.Frag} {m : Fn} {k : Nat} : OpN K (fun vs H Q => spD K k m (vs ++ []) H Q E0) (gFn m k) := fun ι A H vs ds o Q al hv e q => by
  unfold gFn at e
  split at e
  · rename_i hk
    split at e
    · rename_i r bs n em
      split at e
      · rename_i ha
        cases e
        subst hk
        show spD K ds.length m (vs ++ []) H Q E0
        rw [List.append_nil]
        exact spD_peek hv em ha fun H' s => q.at s ha
      · cases e
    · cases e
  · cases e
section
variable {X : Cx} {c : FC} {W : WX} {k kk : Nat} {f : Addr} {fd : FuncData} {ps : List Str} {m : Fn} {e : Expr} {es : List Expr} {fs : List Den} {x : Str} {pos p : Pos}
theorem passAt0 {σ : L2.St} : PassesAt (L2.CX X.prog X.w) X σ E0 := fun _ _ _ _ _ _ h => by
  obtain ⟨_, _, _, _, _, _, _, _, _, _, _, _, z⟩ := h
  exact z.elim
theorem se_callPk (hK : X.K = c.K) (F : FnOk X.prog X.w X.K X.mg X.base (L2.CX X.prog X.w) k f fd ps (spD c.K kk m)) (hr : Room k X.A) (hg : Gl X x) (hm : X.mg x = some (.ref f)) (hk : PySem.W.keepIn X.K (.ref f) = true) (hb : Binds X.K fd ps [])
    (ha : SA X c W (e :: es) fs) (hdb : (x == ("__debug__" : Str)) = false := by decide) (he : starEach (e :: es) X.env = (false, eval e X.env) :: starEach es X.env := by rfl) (hpl : (backTo pos (starEach es X.env)).any (·.1) = false := by rfl) :
    SE X c W (.Call (.Name x p) (e :: es) [] pos) (dOpN pk (gFn m kk) fs) :=
  se_of (pe_callSD F hr hg hm hk hb .nil (E := fun _ => E0) (fun _ => passAt0) ha hdb he hpl) (ref_opN ref_tDA opN_fn fun _ _ _ h => h)
end
end Fv
set_option Elab.async false
set_option linter.all false
set_option maxRecDepth 100000
set_option maxHeartbeats 4000000
namespace RkO
open PySem PySem.Spec PyProof.Rows L2
section
variable {X : Cx} {CX : CXT} {f C : Addr} {fd : FuncData} {ps : List Str} {k : Nat} {sp : Sp} {E : L2.St → XK}
def tBinS (C : Addr) (sp : Sp) (E : L2.St → XK) (ta tb : TE) : TE := fun σ H Q => ta σ H fun x H1 => tb σ H1 fun y H2 => ∃ a dx fs b dy gs, x = .ref a ∧ y = .ref b ∧ H2 a = some (.ins C dx fs) ∧ H2 b = some (.ins C dy gs) ∧ sp [.ref a, .ref b] H2 (fun z H3 => (∃ p, z = .ref p) ∧ Q z H3) (E σ)
theorem pe_binS {op : Operator} {nm : Str} {a b : Expr} {ta tb : TE} {pos : Pos} (hnm : PySem.dunder op.info.2 = nm) (hm : Meth X.K C nm f) (hsf : PySem.W.selfFirst X.K C = true) (F : FnOk X.prog X.w X.K X.mg X.base CX k f fd ps sp) (hr : Room k X.A) (hb : Binds X.K fd ps []) (hx : ∀ σ, PassesAt CX X σ (E σ)) (ha : PE X a ta) (hi : PE X b tb) : PE X (.BinOp a op b pos) (tBinS C sp E ta tb) := by
  subst hnm
  refine ⟨fun pins s σ H Q I h => wpAny_BinOp (binT (R := fun x y H2 => ∃ a dx fs b dy gs, x = .ref a ∧ y = .ref b ∧ H2 a = some (.ins C dx fs) ∧ H2 b = some (.ins C dy gs) ∧ sp [.ref a, .ref b] H2 (fun z H3 => (∃ p, z = .ref p) ∧ Q z H3) (E σ)) ha hi I h fun v u s2 x y H2 I2 rx ry q => ?_)⟩
  obtain ⟨o, dx, fs, o2, dy, gs, rfl, rfl, ho, ho2, q⟩ := q
  cases (show v = Value.ref o from rx)
  cases (show u = Value.ref o2 from ry)
  obtain ⟨mA, O, _⟩ := ins_get I2.hok ho
  obtain ⟨od, J, _⟩ := O.look
  obtain ⟨mB, O', _⟩ := ins_get I2.hok ho2
  obtain ⟨od', J', _⟩ := O'.look
  obtain ⟨m, hF⟩ := I2.fr
  refine PySem.W.binop_K hF I2.ok.mod.kin J J'.type hsf hm.at_ hm.fn (wpAny_mono (run_hereS (A := X.A) (us := [.ref o, .ref o2]) (vs := [.ref o, .ref o2]) F hr rfl hb (hx σ) I2 (.cons rfl (.cons rfl .nil)) q) (fun r s' z => ?_) fun _ _ e => e)
  obtain ⟨z, H', I', rz, ⟨p, rfl⟩, q⟩ := z
  cases (show r = Value.ref p from rz)
  exact ⟨.ref p, H', I', rfl, q⟩
end
end RkO
namespace Fv
open PySem PySem.Spec PyProof.Rows L2 RkO
open Classical
@[simp] def O.isRef : O → Bool
  | .dp (.obj _ _ _) => true
  | .obj _ _ _ => true
  | _ => false
/-- o * p, both of the class C -/
def dBin (C : Addr) (m : Fn) (ms : List AM) (fo fi : Den) : Den := fun st => (fo st).bind fun r0 st1 => (fi st1).bind fun r1 st2 => if keep r0 st1 st2 = true then match pk st2 r0, pk st2 r1 with
  | some (.obj C' _ _), some (.obj C2 _ _) => if C' = C ∧ C2 = C then match callRV m ms [r0, r1] st2 with
    | .ok (.va o) st3 => if o.isRef = true then .ok (.va o) st3 else .no
    | .ex D g d st3 => .ex D g d st3
    | _ => .no
  else .no
  | _, _ => .no
  else .no
section
variable {c : FC} {W : WX} {X : Cx} {f C : Addr} {fd : FuncData} {ps : List Str} {k : Nat} {m : Fn} {ms : List AM} {te ti : TE} {fo fi : Den} {a b : Expr} {pos : Pos}
theorem ref_bin (hk : ms.length = 2) (ho : RefE c W te fo) (ht : RefE c W ti fi) : RefE c W (tBinS C (spD c.K 2 m) (WE W) te ti) (dBin C m ms fo fi) := fun B ι st σ H fp rs Q gg => by
  refine ho B ι st σ H fp rs _ ?_
  unfold dBin at gg
  cases e1 : fo st with
  | no => rw [e1] at gg; exact gg
  | ex C gx d st1 => rw [e1] at gg; exact gg
  | ok r0 st1 =>
    rw [e1] at gg
    simp only [bind_ok] at gg
    intro v H1 F ι1 fp1 p1 h1
    refine ht _ ι1 st1 σ H1 fp1 p1.rel _ ?_
    cases e2 : fi st1 with
    | no => rw [e2] at gg; exact gg
    | ex C gx d st2 =>
      rw [e2] at gg
      exact fun dx H' ι' fp' q => gg dx H' ι' fp' (p1.thenX rs.lb q)
    | ok r1 st2 =>
      rw [e2] at gg
      simp only [bind_ok] at gg
      intro y H2 F2 ι2 fp2 p2 h2
      by_cases kp : keep r0 st1 st2 = true
      · rw [if_pos kp] at gg
        have h3 := RVR.stay h1 (fun a h => h) p1.rel p2 kp
        rw [un2_app] at h2
        have p3 := p1.trans p2
        split at gg
        · rename_i C' nn flds C2 nn2 flds2 ep ep2
          split at gg
          · rename_i hC
            obtain ⟨hC, hC2⟩ := hC
            subst hC
            subst hC2
            have hR := rv_pk p3.rel p3.fb rs.lb (fun a h => List.mem_append_left _ h) h3 ep
            have hR2 := rv_pk p3.rel p3.fb rs.lb (fun a h => List.mem_append_right _ h) h2 ep2
            obtain ⟨a, dx, xs, rfl, hx, _, _⟩ := hR
            obtain ⟨b, dy, ys, rfl, hy, _, _⟩ := hR2
            refine ⟨a, dx, xs, b, dy, ys, rfl, rfl, hx, hy, ?_⟩
            refine call_ok (rvs := [r0, r1]) hk rs.lb (Fs := [F, F2]) (by simpa using p3) ?_ ?_
            · have e0 : ([F, F2] : List (List Addr)).flatten = F ++ F2 := by simp
              rw [e0]
              exact ⟨F, [F2], _, [.ref b], rfl, rfl, h3.vc, F2, [], .ref b, [], rfl, rfl, h2.vc, rfl, rfl⟩
            · cases ec : callRV m ms [r0, r1] st2 with
              | no => rw [ec] at gg; exact gg
              | ex D gx d st3 => rw [ec] at gg; exact gg
              | ok rv st3 =>
                rw [ec] at gg
                cases rv with
                | pl i p => exact gg.elim
                | va o =>
                  simp only at gg
                  split at gg
                  · rename_i hi
                    intro z H3 F3 ι3 fp3 p4 h4
                    refine ⟨?_, gg z H3 F3 ι3 fp3 p4 h4⟩
                    cases o with
                    | obj C n fs => obtain ⟨p, _, _, _, _, e, _⟩ := h4; exact ⟨p, e⟩
                    | dp d =>
                      cases d with
                      | obj C n fs => obtain ⟨_, p, _, _, e, _⟩ := h4; exact ⟨p, e⟩
                      | _ => cases hi
                    | _ => cases hi
                  · exact gg.elim
          · exact gg.elim
        · exact gg.elim
      · rw [if_neg kp] at gg
        exact gg.elim
theorem se_binC {op : Operator} {nm : Str} (hK : X.K = c.K) (tk : Takes X W) (hnm : PySem.dunder op.info.2 = nm) (hm : Meth X.K C nm f) (hsf : PySem.W.selfFirst X.K C = true) (F : FnOk X.prog X.w X.K X.mg X.base (L2.CX X.prog X.w) k f fd ps (spD c.K 2 m)) (hr : Room k X.A) (hb : Binds X.K fd ps []) (hms : ms.length = 2) (ha : SE X c W a fo) (hb2 : SE X c W b fi) :
    SE X c W (.BinOp a op b pos) (dBin C m ms fo fi) :=
  se_of (pe_binS hnm hm hsf F hr hb (fun σ => passAt tk σ) ha hb2) (ref_bin hms ref_tD ref_tD)
end
end Fv
set_option Elab.async false
set_option linter.all false
set_option maxRecDepth 100000
set_option maxHeartbeats 4000000
namespace Rk
open PySem PySem.Spec PyProof.Rows L2 RkO Fv
section
variable {K : PySem.W.Frag} {mg : Str → Option Value} {P : Program} {w : World} {base : Heap}
theorem own_Leaf (T : Txt K mg) : Own K T.a_Leaf := ⟨T.c_Leaf, T.ca_Leaf, T.gc, T.tc, T.mo_Leaf⟩
theorem own_Tower (T : Txt K mg) : Own K T.a_Tower := ⟨T.c_Tower, T.ca_Tower, T.gc, T.tc, T.mo_Tower⟩
theorem isiok_bool (T : Txt K mg) : IsiOk K [T.a_Leaf, T.a_Tower] [.ty "bool"] := ⟨fun C hC => (List.mem_cons.mp hC).elim (fun hC => by rw [hC]; exact (own_Leaf T)) (fun hC => (by rw [List.mem_singleton.mp hC]; exact (own_Tower T))), fun i hi => (by cases List.mem_singleton.mp hi; exact (fun C hC => (List.mem_cons.mp hC).elim (fun hC => by rw [hC]; exact T.is_Leaf_bool) (fun hC => (by rw [List.mem_singleton.mp hC]; exact T.is_Tower_bool)))), fun i hi => (by cases List.mem_singleton.mp hi; exact (fun E hE => nomatch hE))⟩
theorem isiok_int (T : Txt K mg) : IsiOk K [T.a_Leaf, T.a_Tower] [.ty "int"] := ⟨fun C hC => (List.mem_cons.mp hC).elim (fun hC => by rw [hC]; exact (own_Leaf T)) (fun hC => (by rw [List.mem_singleton.mp hC]; exact (own_Tower T))), fun i hi => (by cases List.mem_singleton.mp hi; exact (fun C hC => (List.mem_cons.mp hC).elim (fun hC => by rw [hC]; exact T.is_Leaf_int) (fun hC => (by rw [List.mem_singleton.mp hC]; exact T.is_Tower_int)))), fun i hi => (by cases List.mem_singleton.mp hi; exact (fun E hE => nomatch hE))⟩
theorem isiok_str (T : Txt K mg) : IsiOk K [T.a_Leaf, T.a_Tower] [.ty "str"] := ⟨fun C hC => (List.mem_cons.mp hC).elim (fun hC => by rw [hC]; exact (own_Leaf T)) (fun hC => (by rw [List.mem_singleton.mp hC]; exact (own_Tower T))), fun i hi => (by cases List.mem_singleton.mp hi; exact (fun C hC => (List.mem_cons.mp hC).elim (fun hC => by rw [hC]; exact T.is_Leaf_str) (fun hC => (by rw [List.mem_singleton.mp hC]; exact T.is_Tower_str)))), fun i hi => (by cases List.mem_singleton.mp hi; exact (fun E hE => nomatch hE))⟩
theorem isiok_Leaf (T : Txt K mg) : IsiOk K [T.a_Leaf, T.a_Tower] [.own T.a_Leaf] := ⟨fun C hC => (List.mem_cons.mp hC).elim (fun hC => by rw [hC]; exact (own_Leaf T)) (fun hC => (by rw [List.mem_singleton.mp hC]; exact (own_Tower T))), fun i hi => (by cases List.mem_singleton.mp hi; exact (fun C hC => (List.mem_cons.mp hC).elim (fun hC => by rw [hC]; exact (isi_self)) (fun hC => (by rw [List.mem_singleton.mp hC]; exact (isi_ne T.dx_Tower_Leaf T.is_Tower_Leaf))))), fun i hi => (by cases List.mem_singleton.mp hi; exact (fun E hE a ha => by cases hE; exact isi_bi T.ib_NoneType_Leaf T.ib_int_Leaf T.ib_bool_Leaf T.ib_str_Leaf T.ib_list_Leaf T.ib_tuple_Leaf T.ib_dict_Leaf ha))⟩
theorem isiok_tuple (T : Txt K mg) : IsiOk K [T.a_Leaf, T.a_Tower] [.ty "tuple"] := ⟨fun C hC => (List.mem_cons.mp hC).elim (fun hC => by rw [hC]; exact (own_Leaf T)) (fun hC => (by rw [List.mem_singleton.mp hC]; exact (own_Tower T))), fun i hi => (by cases List.mem_singleton.mp hi; exact (fun C hC => (List.mem_cons.mp hC).elim (fun hC => by rw [hC]; exact T.is_Leaf_tuple) (fun hC => (by rw [List.mem_singleton.mp hC]; exact T.is_Tower_tuple)))), fun i hi => (by cases List.mem_singleton.mp hi; exact (fun E hE => nomatch hE))⟩
theorem isiok_list (T : Txt K mg) : IsiOk K [T.a_Leaf, T.a_Tower] [.ty "list"] := ⟨fun C hC => (List.mem_cons.mp hC).elim (fun hC => by rw [hC]; exact (own_Leaf T)) (fun hC => (by rw [List.mem_singleton.mp hC]; exact (own_Tower T))), fun i hi => (by cases List.mem_singleton.mp hi; exact (fun C hC => (List.mem_cons.mp hC).elim (fun hC => by rw [hC]; exact T.is_Leaf_list) (fun hC => (by rw [List.mem_singleton.mp hC]; exact T.is_Tower_list)))), fun i hi => (by cases List.mem_singleton.mp hi; exact (fun E hE => nomatch hE))⟩
theorem isiok_Tower (T : Txt K mg) : IsiOk K [T.a_Leaf, T.a_Tower] [.own T.a_Tower] := ⟨fun C hC => (List.mem_cons.mp hC).elim (fun hC => by rw [hC]; exact (own_Leaf T)) (fun hC => (by rw [List.mem_singleton.mp hC]; exact (own_Tower T))), fun i hi => (by cases List.mem_singleton.mp hi; exact (fun C hC => (List.mem_cons.mp hC).elim (fun hC => by rw [hC]; exact (isi_ne T.dx_Leaf_Tower T.is_Leaf_Tower)) (fun hC => (by rw [List.mem_singleton.mp hC]; exact (isi_self))))), fun i hi => (by cases List.mem_singleton.mp hi; exact (fun E hE a ha => by cases hE; exact isi_bi T.ib_NoneType_Tower T.ib_int_Tower T.ib_bool_Tower T.ib_str_Tower T.ib_list_Tower T.ib_tuple_Tower T.ib_dict_Tower ha))⟩
theorem ok_InvalidLevels_init (T : Txt K mg) : FnOk P w K mg base CX0 1 T.f_InvalidLevels_init T.d_InvalidLevels_init ["self", "value"] (Rx.spExc T.a_InvalidLevels "value") := by
  refine T.F_InvalidLevels_init.ok sc_InvalidLevels_init (fun vs H Q E h => ?_) (fun cdv A outer s H vs Q E hr h => ?_)
  · obtain ⟨_, _, rfl, _⟩ := h
    rfl
  obtain ⟨a, v, rfl, ha, q⟩ := h
  refine ⟨_, pss_one (ps_ost (pv 0) (pv 1)), ?_⟩
  exact ⟨_, rfl, _, rfl, a, T.a_InvalidLevels, rfl, T.Ex_InvalidLevels, T.n_InvalidLevels_value, .inl ⟨ha, fun dx hn hd => q dx hn hd⟩⟩
noncomputable def m_is_whole (T : Txt K mg) (n : Nat) : Fn := runFn 1 0
   (sRet (dAn (dIsi (isiL [T.a_Leaf, T.a_Tower] [.ty "int"]) (dVar 0)) (dNo (dIsi (isiL [T.a_Leaf, T.a_Tower] [.ty "bool"]) (dVar 0)))))
theorem ok_is_whole (T : Txt K mg) (n : Nat) : FnOk P w K mg base (L2.CX P w) (1 + n) T.f_is_whole T.d_is_whole ["value"] (spD K 1 (m_is_whole T n)) := by
    unfold m_is_whole
    refine fn_okM (0 + n) (by omega) T.F_is_whole sc_is_whole rfl rfl fun cdv A outer s H E L μ hr tk => ?_
    exact (sss_one (ss_ret (se_and (se_isi (isiok_int T) rfl (by rfl) T.m_isinstance (se_var 0) (pe_bltn (v := .ty "int") (by rfl) T.m_int (by decide +kernel) rfl)) (se_one (se_not (se_isi (isiok_bool T) rfl (by rfl) T.m_isinstance (se_var 0) (pe_bltn (v := .ty "bool") (by rfl) T.m_bool (by decide +kernel) rfl)))))))
noncomputable def m_is_name (T : Txt K mg) (n : Nat) : Fn := runFn 1 1
   (sSeq (sIf (tOrr (tNo (tst (dIsi (isiL [T.a_Leaf, T.a_Tower] [.ty "str"]) (dVar 0)))) (tNo (tst (dChain gLe gLe (dC (.int 1)) (dOp pk gLen [(dVar 0)]) (dC (.int 8)))))) (sRet (dC (.bl false))) sNx)
    (sRet (dOp vw gAll [(dLc (itU (dVar 0)) (.nm 1) tYs (dChain gLe gLe (dC (.str "a")) (dVar 1) (dC (.str "z"))) [1])])))
theorem ok_is_name (T : Txt K mg) (n : Nat) : FnOk P w K mg base (L2.CX P w) (1 + n) T.f_is_name T.d_is_name ["value"] (spD K 1 (m_is_name T n)) := by
    unfold m_is_name
    refine fn_okM (0 + n) (by omega) T.F_is_name sc_is_name rfl rfl fun cdv A outer s H E L μ hr tk => ?_
    exact (sss_cons (ss_if (SW.st (sw_or (st_not (st_val (se_isi (isiok_str T) rfl (by rfl) T.m_isinstance (se_var 0) (pe_bltn (v := .ty "str") (by rfl) T.m_str (by decide +kernel) rfl)))) (sw_or1 (st_not (st_chain cmp_le cmp_le se_int (se_len rfl (by rfl) T.m_len (sa_cons (se_var 0) sa_nil)) se_int))))) (sss_one (ss_ret se_bl)) sss_nil)
    (sss_one (ss_ret (se_callB (callR_K (K := K) (r := rAll) rfl (cr_all rfl)) ops_all (by rfl) T.m_all (by decide +kernel) (sa_cons (se_lc (own := [("letter", 1)]) rfl sc_is_name.nd (si_val rfl (se_var 0)) (blkOk_by (own := [("letter", 1)]) (N := ["value", "letter"]) (sc := defScope s_is_name) (by decide +kernel)) (fun _ _ _ _ _ => (sg_name (i := 1) sc_is_name.nd rfl (.inl rfl))) (fun _ _ _ _ _ => sts_nil) (fun _ _ _ _ _ => (se_chain cmp_le cmp_le se_str (se_var 1) se_str))) sa_nil)))))
noncomputable def m_Leaf_init (T : Txt K mg) (n : Nat) : Fn := runFn 2 0
   (sSeq (sIf (tNo (tst (dCall (m_is_name T n) [.val] [] [(dVar 1)]))) (fun _ => .no) sNx)
    (sFldS [T.a_Leaf] "_name" (dVar 1) (dVar 0)))
theorem ok_Leaf_init (T : Txt K mg) (n : Nat) : FnOk P w K mg base (L2.CX P w) (3 + n) T.f_Leaf_init T.d_Leaf_init ["self", "name"] (spD K 2 (m_Leaf_init T n)) := by
    have G_is_name := ok_is_name (P := P) (w := w) (base := base) T n
    unfold m_Leaf_init
    refine fn_okM (2 + n) (by omega) T.F_Leaf_init sc_Leaf_init rfl rfl fun cdv A outer s H E L μ hr tk => ?_
    exact (sss_cons (ss_if (st_not (st_val (se_call (ms := [.val]) (ds := []) rfl tk G_is_name (hr.mono (by omega)) rfl T.m_is_name T.F_is_name.kp T.b_is_name .nil rfl rfl (sa_cons (se_var 1) sa_nil)))) (sss_one ss_no) sss_nil)
    (sss_one (ss_fld [T.a_Leaf] rfl (fun C hC => by rw [List.mem_singleton.mp hC]; exact ⟨T.c_Leaf, T.n_Leaf_name⟩) (se_var 0) (se_var 1) rfl)))
noncomputable def m_Leaf_len (T : Txt K mg) (n : Nat) : Fn := runFn 1 0
   (sRet (dC (.int 1)))
theorem ok_Leaf_len (T : Txt K mg) (n : Nat) : FnOk P w K mg base (L2.CX P w) (1 + n) T.f_Leaf_len T.d_Leaf_len ["self"] (spD K 1 (m_Leaf_len T n)) := by
    unfold m_Leaf_len
    refine fn_okM (0 + n) (by omega) T.F_Leaf_len sc_Leaf_len rfl rfl fun cdv A outer s H E L μ hr tk => ?_
    exact (sss_one (ss_ret se_int))
noncomputable def m_Leaf_eq (T : Txt K mg) (n : Nat) : Fn := runFn 2 0
   (sRet (dAn (dIsi (isiL [T.a_Leaf, T.a_Tower] [.own T.a_Leaf]) (dVar 1)) (dCmp (gEqD id) (dFld [T.a_Leaf] "_name" (dVar 0)) (dFld [T.a_Leaf] "_name" (dVar 1)))))
theorem ok_Leaf_eq (T : Txt K mg) (n : Nat) : FnOk P w K mg base (L2.CX P w) (1 + n) T.f_Leaf_eq T.d_Leaf_eq ["self", "other"] (spD K 2 (m_Leaf_eq T n)) := by
    unfold m_Leaf_eq
    refine fn_okM (0 + n) (by omega) T.F_Leaf_eq sc_Leaf_eq rfl rfl fun cdv A outer s H E L μ hr tk => ?_
    exact (sss_one (ss_ret (se_and (se_isi (isiok_Leaf T) rfl (by rfl) T.m_isinstance (se_var 1) (pe_glob (v := .ref T.a_Leaf) rfl T.m_Leaf rfl)) (se_one (SC.v (sc_cmpU (cmp_eq hr.units rfl) (se_fld [T.a_Leaf] rfl (fun C hC => by rw [List.mem_singleton.mp hC]; exact ⟨T.c_Leaf, T.n_Leaf_name⟩) (se_var 0) rfl) (se_fld [T.a_Leaf] rfl (fun C hC => by rw [List.mem_singleton.mp hC]; exact ⟨T.c_Leaf, T.n_Leaf_name⟩) (se_var 1) rfl) (nomark _)))))))
noncomputable def m_is_level (T : Txt K mg) (n : Nat) : Fn := runFn 1 2
   (sSeq (sIf (tOrr (tNo (tst (dIsi (isiL [T.a_Leaf, T.a_Tower] [.ty "tuple"]) (dVar 0)))) (tst (dCmp (gEqD not) (dOp pk gLen [(dVar 0)]) (dC (.int 2))))) (sRet (dC (.bl false))) sNx)
    (sSeq (sUnp (.tp [(.nm 1), (.nm 2)]) (dVar 0))
    (sRet (dAn (dCall (m_is_whole T n) [.val] [] [(dVar 1)]) (dAn (dCall (m_is_whole T n) [.val] [] [(dVar 2)]) (dChain gLe gLe (dC (.int 1)) (dVar 2) (dVar 1)))))))
theorem ok_is_level (T : Txt K mg) (n : Nat) : FnOk P w K mg base (L2.CX P w) (3 + n) T.f_is_level T.d_is_level ["value"] (spD K 1 (m_is_level T n)) := by
    have G_is_whole := ok_is_whole (P := P) (w := w) (base := base) T n
    unfold m_is_level
    refine fn_okM (2 + n) (by omega) T.F_is_level sc_is_level rfl rfl fun cdv A outer s H E L μ hr tk => ?_
    exact (sss_cons (ss_if (SW.st (sw_or (st_not (st_val (se_isi (isiok_tuple T) rfl (by rfl) T.m_isinstance (se_var 0) (pe_bltn (v := .ty "tuple") (by rfl) T.m_tuple (by decide +kernel) rfl)))) (sw_or1 (SC.t (sc_cmpU (cmp_ne hr.units rfl) (se_len rfl (by rfl) T.m_len (sa_cons (se_var 0) sa_nil)) se_int (nomark _)))))) (sss_one (ss_ret se_bl)) sss_nil)
    (sss_cons (ss_unp (se_var 0) (sg_tup rfl rfl (sgs_cons (sg_name (i := 1) sc_is_level.nd rfl (.inl rfl)) (sgs_cons (sg_name (i := 2) sc_is_level.nd rfl (.inl rfl)) sgs_nil))))
    (sss_one (ss_ret (se_and (se_call (ms := [.val]) (ds := []) rfl tk G_is_whole (hr.mono (by omega)) rfl T.m_is_whole T.F_is_whole.kp T.b_is_whole .nil rfl rfl (sa_cons (se_var 1) sa_nil)) (se_and (se_call (ms := [.val]) (ds := []) rfl tk G_is_whole (hr.mono (by omega)) rfl T.m_is_whole T.F_is_whole.kp T.b_is_whole .nil rfl rfl (sa_cons (se_var 2) sa_nil)) (se_one (se_chain cmp_le cmp_le se_int (se_var 2) (se_var 1)))))))))
noncomputable def m_are_levels (T : Txt K mg) (n : Nat) : Fn := runFn 1 1
   (sSeq (sIf (tOrr (tNo (tst (dIsi (isiL [T.a_Leaf, T.a_Tower] [.ty "list"]) (dVar 0)))) (tst (dCmp (gEqD id) (dOr (dOp pk gLen [(dVar 0)]) (dOpN pk (gLenO T.a_Leaf (m_Leaf_len T n)) [(dVar 0)])) (dC (.int 0))))) (sRet (dC (.bl false))) sNx)
    (sRet (dOp vw gAll [(dLc (itU (dVar 0)) (.nm 1) tYs (dCall (m_is_level T n) [.val] [] [(dVar 1)]) [1])])))
theorem ok_are_levels (T : Txt K mg) (n : Nat) : FnOk P w K mg base (L2.CX P w) (5 + n) T.f_are_levels T.d_are_levels ["value"] (spD K 1 (m_are_levels T n)) := by
    have G_Leaf_len := ok_Leaf_len (P := P) (w := w) (base := base) T n
    have G_is_level := ok_is_level (P := P) (w := w) (base := base) T n
    unfold m_are_levels
    refine fn_okM (4 + n) (by omega) T.F_are_levels sc_are_levels rfl rfl fun cdv A outer s H E L μ hr tk => ?_
    exact (sss_cons (ss_if (SW.st (sw_or (st_not (st_val (se_isi (isiok_list T) rfl (by rfl) T.m_isinstance (se_var 0) (pe_bltn (v := .ty "list") (by rfl) T.m_list (by decide +kernel) rfl)))) (sw_or1 (SC.t (sc_cmpU (cmp_eq hr.units rfl) (se_orr (se_len rfl (by rfl) T.m_len (sa_cons (se_var 0) sa_nil)) (se_lenO rfl T.M_Leaf_len G_Leaf_len (hr.mono (by omega)) T.b_Leaf_len (by rfl) T.m_len (se_var 0))) se_int (nomark _)))))) (sss_one (ss_ret se_bl)) sss_nil)
    (sss_one (ss_ret (se_callB (callR_K (K := K) (r := rAll) rfl (cr_all rfl)) ops_all (by rfl) T.m_all (by decide +kernel) (sa_cons (se_lc (own := [("item", 1)]) rfl sc_are_levels.nd (si_val rfl (se_var 0)) (blkOk_by (own := [("item", 1)]) (N := ["value", "item"]) (sc := defScope s_are_levels) (by decide +kernel)) (fun _ _ _ _ _ => (sg_name (i := 1) sc_are_levels.nd rfl (.inl rfl))) (fun _ _ _ _ _ => sts_nil) (fun _ _ _ _ _ => (se_call (ms := [.val]) (ds := []) rfl takes0 G_is_level (hr.mono (by omega)) rfl T.m_is_level T.F_is_level.kp T.b_is_level .nil rfl rfl (sa_cons (se_var 1) sa_nil)))) sa_nil)))))
noncomputable def m_Tower_init (T : Txt K mg) (n : Nat) : Fn := runFn 2 0
   (sSeq (sIf (tNo (tst (dOr (dCall (m_are_levels T n) [.val] [] [(dVar 1)]) (dOpN pk (gFn (m_are_levels T n) 1) [(dVar 1)])))) (sRaise T.a_InvalidLevels "value" (dVar 1)) sNx)
    (sFldS [T.a_Tower] "_levels" (dOr (dOp vw gList [(dVar 1)]) (dOp vw gListK [(dVar 1)])) (dVar 0)))
theorem ok_Tower_init (T : Txt K mg) (n : Nat) : FnOk P w K mg base (L2.CX P w) (7 + n) T.f_Tower_init T.d_Tower_init ["self", "levels"] (spD K 2 (m_Tower_init T n)) := by
    have G_are_levels := ok_are_levels (P := P) (w := w) (base := base) T n
    obtain ⟨ds_InvalidLevels, hbI_InvalidLevels, bI_InvalidLevels⟩ := T.F_InvalidLevels_init.binds1 (ps := ["self", "value"]) 2 1 (List.cons_ne_nil _ _) rfl fun _ _ _ _ _ _ _ us its hl hi => by obtain ⟨_, _, rfl⟩ := lenK2 hl; obtain ⟨_, rfl⟩ := lenK1 hi; exact ⟨_, rfl, rfl⟩
    unfold m_Tower_init
    refine fn_okM (6 + n) (by omega) T.F_Tower_init sc_Tower_init rfl rfl fun cdv A outer s H E L μ hr tk => ?_
    exact (sss_cons (ss_if (st_not (st_val (se_orr (se_call (ms := [.val]) (ds := []) rfl tk G_are_levels (hr.mono (by omega)) rfl T.m_are_levels T.F_are_levels.kp T.b_are_levels .nil rfl rfl (sa_cons (se_var 1) sa_nil)) (se_callPk rfl G_are_levels (hr.mono (by omega)) rfl T.m_are_levels T.F_are_levels.kp T.b_are_levels (sa_cons (se_var 1) sa_nil))))) (sss_one (ss_raise rfl tk T.Ex_InvalidLevels T.at_InvalidLevels T.tf_InvalidLevels (ok_InvalidLevels_init (P := P) (w := w) (base := base) T) (hr.mono (by omega)) bI_InvalidLevels hbI_InvalidLevels rfl T.m_InvalidLevels (se_var 1))) sss_nil)
    (sss_one (ss_fld [T.a_Tower] rfl (fun C hC => by rw [List.mem_singleton.mp hC]; exact ⟨T.c_Tower, T.n_Tower_levels⟩) (se_var 0) (se_orr (se_callTy call_list_of ops_list (by rfl) T.m_list (by decide +kernel) (sa_cons (se_var 1) sa_nil)) (se_listK rfl (by rfl) T.m_list (sa_cons (se_var 1) sa_nil))) rfl)))
noncomputable def m_Tower_levels (T : Txt K mg) (n : Nat) : Fn := runFn 1 0
   (sRet (dOp vw gList [(dFld [T.a_Tower] "_levels" (dVar 0))]))
theorem ok_Tower_levels (T : Txt K mg) (n : Nat) : FnOk P w K mg base (L2.CX P w) (1 + n) T.f_Tower_levels T.d_Tower_levels ["self"] (spD K 1 (m_Tower_levels T n)) := by
    unfold m_Tower_levels
    refine fn_okM (0 + n) (by omega) T.F_Tower_levels sc_Tower_levels rfl rfl fun cdv A outer s H E L μ hr tk => ?_
    exact (sss_one (ss_ret (se_callTy call_list_of ops_list (by rfl) T.m_list (by decide +kernel) (sa_cons (se_fld [T.a_Tower] rfl (fun C hC => by rw [List.mem_singleton.mp hC]; exact ⟨T.c_Tower, T.n_Tower_levels⟩) (se_var 0) rfl) sa_nil))))
noncomputable def m_product (T : Txt K mg) (n : Nat) : Fn := runFn 1 2
   (sSeq (sSet 1 (dC (.int 1)))
    (sSeq (sFor (itU (dVar 0)) (.nm 2) (sSet 1 (dMul (dVar 1) (dVar 2))))
    (sRet (dVar 1))))
theorem ok_product (T : Txt K mg) (n : Nat) : FnOk P w K mg base (L2.CX P w) (1 + n) T.f_product T.d_product ["numbers"] (spD K 1 (m_product T n)) := by
    unfold m_product
    refine fn_okM (0 + n) (by omega) T.F_product sc_product rfl rfl fun cdv A outer s H E L μ hr tk => ?_
    exact (sss_cons (ss_set (i := 1) sc_product.nd rfl (Or.inl rfl) se_int)
    (sss_cons (ss_for PassesOwn.leaving rfl (si_val rfl (se_var 0)) (sg_name (i := 2) sc_product.nd rfl (.inl rfl)) (sss_one (ss_set (i := 1) sc_product.nd rfl (Or.inl rfl) (se_mul (se_var 1) (se_var 2)))))
    (sss_one (ss_ret (se_var 1)))))
noncomputable def m_Tower_size (T : Txt K mg) (n : Nat) : Fn := runFn 1 2
   (sRet (dCall (m_product T n) [.val] [] [(dFz (dLc (itU (dFld [T.a_Tower] "_levels" (dVar 0))) (.tp [(.nm 1), (.nm 2)]) tYs (dVar 1) [1, 2]))]))
theorem ok_Tower_size (T : Txt K mg) (n : Nat) : FnOk P w K mg base (L2.CX P w) (3 + n) T.f_Tower_size T.d_Tower_size ["self"] (spD K 1 (m_Tower_size T n)) := by
    have G_product := ok_product (P := P) (w := w) (base := base) T n
    unfold m_Tower_size
    refine fn_okM (2 + n) (by omega) T.F_Tower_size sc_Tower_size rfl rfl fun cdv A outer s H E L μ hr tk => ?_
    exact (sss_one (ss_ret (se_call (ms := [.val]) (ds := []) rfl tk G_product (hr.mono (by omega)) rfl T.m_product T.F_product.kp T.b_product .nil rfl rfl (sa_cons (se_fz (se_lc (own := [("count", 1), ("rank", 2)]) rfl sc_Tower_size.nd (si_val rfl (se_fld [T.a_Tower] rfl (fun C hC => by rw [List.mem_singleton.mp hC]; exact ⟨T.c_Tower, T.n_Tower_levels⟩) (se_var 0) rfl)) (blkOk_by (own := [("count", 1), ("rank", 2)]) (N := ["self", "count", "rank"]) (sc := defScope s_Tower_size) (by decide +kernel)) (fun _ _ _ _ _ => (sg_tup rfl rfl (sgs_cons (sg_name (i := 1) sc_Tower_size.nd rfl (.inl rfl)) (sgs_cons (sg_name (i := 2) sc_Tower_size.nd rfl (.inl rfl)) sgs_nil)))) (fun _ _ _ _ _ => sts_nil) (fun _ _ _ _ _ => (se_var 1)))) sa_nil))))
noncomputable def m_Tower_least (T : Txt K mg) (n : Nat) : Fn := runFn 1 2
   (sRet (dCall (m_product T n) [.val] [] [(dFz (dLc (itU (dFld [T.a_Tower] "_levels" (dVar 0))) (.tp [(.nm 1), (.nm 2)]) tYs (dVar 2) [1, 2]))]))
theorem ok_Tower_least (T : Txt K mg) (n : Nat) : FnOk P w K mg base (L2.CX P w) (3 + n) T.f_Tower_least T.d_Tower_least ["self"] (spD K 1 (m_Tower_least T n)) := by
    have G_product := ok_product (P := P) (w := w) (base := base) T n
    unfold m_Tower_least
    refine fn_okM (2 + n) (by omega) T.F_Tower_least sc_Tower_least rfl rfl fun cdv A outer s H E L μ hr tk => ?_
    exact (sss_one (ss_ret (se_call (ms := [.val]) (ds := []) rfl tk G_product (hr.mono (by omega)) rfl T.m_product T.F_product.kp T.b_product .nil rfl rfl (sa_cons (se_fz (se_lc (own := [("count", 1), ("rank", 2)]) rfl sc_Tower_least.nd (si_val rfl (se_fld [T.a_Tower] rfl (fun C hC => by rw [List.mem_singleton.mp hC]; exact ⟨T.c_Tower, T.n_Tower_levels⟩) (se_var 0) rfl)) (blkOk_by (own := [("count", 1), ("rank", 2)]) (N := ["self", "count", "rank"]) (sc := defScope s_Tower_least) (by decide +kernel)) (fun _ _ _ _ _ => (sg_tup rfl rfl (sgs_cons (sg_name (i := 1) sc_Tower_least.nd rfl (.inl rfl)) (sgs_cons (sg_name (i := 2) sc_Tower_least.nd rfl (.inl rfl)) sgs_nil)))) (fun _ _ _ _ _ => sts_nil) (fun _ _ _ _ _ => (se_var 2)))) sa_nil))))
noncomputable def m_Tower_greatest (T : Txt K mg) (n : Nat) : Fn := runFn 1 2
   (sRet (dSub (dAdd (dProp [⟨T.a_Tower, m_Tower_size T n, [.val], []⟩] (dVar 0)) (dC (.int 1))) (dCall (m_product T n) [.val] [] [(dFz (dLc (itU (dFld [T.a_Tower] "_levels" (dVar 0))) (.tp [(.nm 1), (.nm 2)]) tYs (dSub (dAdd (dVar 1) (dC (.int 1))) (dVar 2)) [1, 2]))])))
theorem ok_Tower_greatest (T : Txt K mg) (n : Nat) : FnOk P w K mg base (L2.CX P w) (5 + n) T.f_Tower_greatest T.d_Tower_greatest ["self"] (spD K 1 (m_Tower_greatest T n)) := by
    have G_Tower_size := ok_Tower_size (P := P) (w := w) (base := base) T n
    have G_product := ok_product (P := P) (w := w) (base := base) T n
    unfold m_Tower_greatest
    refine fn_okM (4 + n) (by omega) T.F_Tower_greatest sc_Tower_greatest rfl rfl fun cdv A outer s H E L μ hr tk => ?_
    exact (sss_one (ss_ret (se_sub (se_add rfl (se_p1 (en := ⟨T.a_Tower, m_Tower_size T n, [.val], []⟩) T.c_Tower T.P_Tower_size G_Tower_size (hr.mono (by omega)) T.b_Tower_size .nil rfl rfl (se_var 0) rfl) se_int) (se_call (ms := [.val]) (ds := []) rfl tk G_product (hr.mono (by omega)) rfl T.m_product T.F_product.kp T.b_product .nil rfl rfl (sa_cons (se_fz (se_lc (own := [("count", 1), ("rank", 2)]) rfl sc_Tower_greatest.nd (si_val rfl (se_fld [T.a_Tower] rfl (fun C hC => by rw [List.mem_singleton.mp hC]; exact ⟨T.c_Tower, T.n_Tower_levels⟩) (se_var 0) rfl)) (blkOk_by (own := [("count", 1), ("rank", 2)]) (N := ["self", "count", "rank"]) (sc := defScope s_Tower_greatest) (by decide +kernel)) (fun _ _ _ _ _ => (sg_tup rfl rfl (sgs_cons (sg_name (i := 1) sc_Tower_greatest.nd rfl (.inl rfl)) (sgs_cons (sg_name (i := 2) sc_Tower_greatest.nd rfl (.inl rfl)) sgs_nil)))) (fun _ _ _ _ _ => sts_nil) (fun _ _ _ _ _ => (se_sub (se_add rfl (se_var 1) se_int) (se_var 2))))) sa_nil)))))
noncomputable def m_Tower_eq (T : Txt K mg) (n : Nat) : Fn := runFn 2 0
   (sRet (dAn (dIsi (isiL [T.a_Leaf, T.a_Tower] [.own T.a_Tower]) (dVar 1)) (dCmp (gEqD id) (dFld [T.a_Tower] "_levels" (dVar 0)) (dFld [T.a_Tower] "_levels" (dVar 1)))))
theorem ok_Tower_eq (T : Txt K mg) (n : Nat) : FnOk P w K mg base (L2.CX P w) (1 + n) T.f_Tower_eq T.d_Tower_eq ["self", "other"] (spD K 2 (m_Tower_eq T n)) := by
    unfold m_Tower_eq
    refine fn_okM (0 + n) (by omega) T.F_Tower_eq sc_Tower_eq rfl rfl fun cdv A outer s H E L μ hr tk => ?_
    exact (sss_one (ss_ret (se_and (se_isi (isiok_Tower T) rfl (by rfl) T.m_isinstance (se_var 1) (pe_glob (v := .ref T.a_Tower) rfl T.m_Tower rfl)) (se_one (SC.v (sc_cmpU (cmp_eq hr.units rfl) (se_fld [T.a_Tower] rfl (fun C hC => by rw [List.mem_singleton.mp hC]; exact ⟨T.c_Tower, T.n_Tower_levels⟩) (se_var 0) rfl) (se_fld [T.a_Tower] rfl (fun C hC => by rw [List.mem_singleton.mp hC]; exact ⟨T.c_Tower, T.n_Tower_levels⟩) (se_var 1) rfl) (nomark _)))))))
noncomputable def m_Tower_mul (T : Txt K mg) (n : Nat) : Fn := runFn 2 0
   (sSeq (sIf (tNo (tst (dIsi (isiL [T.a_Leaf, T.a_Tower] [.own T.a_Tower]) (dVar 1)))) (sRet (fun _ => .no)) sNx)
    (sRet (dMake T.a_Tower (m_Tower_init T n) [.val] [] [(dFz (dAdd (dFld [T.a_Tower] "_levels" (dVar 0)) (dFld [T.a_Tower] "_levels" (dVar 1))))])))
theorem ok_Tower_mul (T : Txt K mg) (n : Nat) : FnOk P w K mg base (L2.CX P w) (9 + n) T.f_Tower_mul T.d_Tower_mul ["self", "other"] (spD K 2 (m_Tower_mul T n)) := by
    have G_Tower_init := ok_Tower_init (P := P) (w := w) (base := base) T n
    unfold m_Tower_mul
    refine fn_okM (8 + n) (by omega) T.F_Tower_mul sc_Tower_mul rfl rfl fun cdv A outer s H E L μ hr tk => ?_
    exact (sss_cons (ss_if (st_not (st_val (se_isi (isiok_Tower T) rfl (by rfl) T.m_isinstance (se_var 1) (pe_glob (v := .ref T.a_Tower) rfl T.m_Tower rfl)))) (sss_one (ss_ret se_no)) sss_nil)
    (sss_one (ss_ret (se_make (ms := [.val]) (ds := []) rfl tk T.M_Tower G_Tower_init (hr.mono (by omega)) rfl T.m_Tower T.b_Tower_init .nil rfl rfl (sa_cons (se_fz (se_add rfl (se_fld [T.a_Tower] rfl (fun C hC => by rw [List.mem_singleton.mp hC]; exact ⟨T.c_Tower, T.n_Tower_levels⟩) (se_var 0) rfl) (se_fld [T.a_Tower] rfl (fun C hC => by rw [List.mem_singleton.mp hC]; exact ⟨T.c_Tower, T.n_Tower_levels⟩) (se_var 1) rfl))) sa_nil)))))
noncomputable def m_Tower_mirror (T : Txt K mg) (n : Nat) : Fn := runFn 1 2
   (sRet (dMake T.a_Tower (m_Tower_init T n) [.val] [] [(dFz (dLc (itU (dFld [T.a_Tower] "_levels" (dVar 0))) (.tp [(.nm 1), (.nm 2)]) tYs (dTup [(dVar 1), (dSub (dAdd (dVar 1) (dC (.int 1))) (dVar 2))]) [1, 2]))]))
theorem ok_Tower_mirror (T : Txt K mg) (n : Nat) : FnOk P w K mg base (L2.CX P w) (9 + n) T.f_Tower_mirror T.d_Tower_mirror ["self"] (spD K 1 (m_Tower_mirror T n)) := by
    have G_Tower_init := ok_Tower_init (P := P) (w := w) (base := base) T n
    unfold m_Tower_mirror
    refine fn_okM (8 + n) (by omega) T.F_Tower_mirror sc_Tower_mirror rfl rfl fun cdv A outer s H E L μ hr tk => ?_
    exact (sss_one (ss_ret (se_make (ms := [.val]) (ds := []) rfl tk T.M_Tower G_Tower_init (hr.mono (by omega)) rfl T.m_Tower T.b_Tower_init .nil rfl rfl (sa_cons (se_fz (se_lc (own := [("count", 1), ("rank", 2)]) rfl sc_Tower_mirror.nd (si_val rfl (se_fld [T.a_Tower] rfl (fun C hC => by rw [List.mem_singleton.mp hC]; exact ⟨T.c_Tower, T.n_Tower_levels⟩) (se_var 0) rfl)) (blkOk_by (own := [("count", 1), ("rank", 2)]) (N := ["self", "count", "rank"]) (sc := defScope s_Tower_mirror) (by decide +kernel)) (fun _ _ _ _ _ => (sg_tup rfl rfl (sgs_cons (sg_name (i := 1) sc_Tower_mirror.nd rfl (.inl rfl)) (sgs_cons (sg_name (i := 2) sc_Tower_mirror.nd rfl (.inl rfl)) sgs_nil)))) (fun _ _ _ _ _ => sts_nil) (fun _ _ _ _ _ => (se_tup (sa_cons (se_var 1) (sa_cons (se_sub (se_add rfl (se_var 1) se_int) (se_var 2)) sa_nil)))))) sa_nil))))
noncomputable def m_law_purse (T : Txt K mg) (n : Nat) : Fn := runFn 2 1
   (sSeq (sSet 2 (dOp vw gInt [(dOp vw gSum [(dSl (dVar 0) (some (dVar 1)) (some (dAdd (dVar 1) (dC (.int 1)))))])]))
    (sRet (dLst [(dMul (dOp vw gInt [(dCmp gGe (dVar 2) (dPow (dC (.int 10)) (dC (.int 18))))]) (dMod (dVar 2) (dPow (dPow (dC (.int 10)) (dC (.int 60))) (dC (.int 10))))), (dMod (dVar 2) (dC (.int 2147483629))), (dMul (dC (.int 1000)) (dVar 1))])))
theorem ok_law_purse (T : Txt K mg) (n : Nat) : FnOk P w K mg base (L2.CX P w) (1 + n) T.f_law_purse T.d_law_purse ["script", "at"] (spD K 2 (m_law_purse T n)) := by
    unfold m_law_purse
    refine fn_okM (0 + n) (by omega) T.F_law_purse sc_law_purse rfl rfl fun cdv A outer s H E L μ hr tk => ?_
    exact (sss_cons (ss_set (i := 2) sc_law_purse.nd rfl (Or.inl rfl) (se_callTy call_int1 ops_int (by rfl) T.m_int (by decide +kernel) (sa_cons (se_callB (callR_K (K := K) (r := rSum) rfl (cr_sum rfl)) ops_sum (by rfl) T.m_sum (by decide +kernel) (sa_cons (se_sl rfl (se_var 0) (so_some (se_var 1)) (so_some (se_add rfl (se_var 1) se_int))) sa_nil)) sa_nil)))
    (sss_one (ss_ret (se_lst (sa_cons (se_mul (se_callTy call_int1 ops_int (by rfl) T.m_int (by decide +kernel) (sa_cons (SC.v (sc_cmpU cmp_ge (se_var 2) (se_pow se_int se_int) (nomark _))) sa_nil)) (se_mod (se_var 2) (se_pow (se_pow se_int se_int) se_int))) (sa_cons (se_mod (se_var 2) se_int) (sa_cons (se_mul se_int (se_var 1)) sa_nil)))))))
noncomputable def m_law_draw (T : Txt K mg) (n : Nat) : Fn := runFn 2 2
   (sSeq (sIf (tst (dCmp gGt (dIx (dVar 0) (dC (.int 0))) (dC (.int 0)))) (sSeq (sSet 2 (dMod (dIx (dVar 0) (dC (.int 0))) (dVar 1)))
    (sSeq (sSub (dDiv (dIx (dVar 0) (dC (.int 0))) (dVar 1)) (dVar 0) (dC (.int 0)))
    (sRet (dVar 2)))) sNx)
    (sSeq (sSub (dAdd (dIx (dVar 0) (dC (.int 2))) (dC (.int 1))) (dVar 0) (dC (.int 2)))
    (sSeq (sSet 3 (dMod (dAdd (dAdd (dMul (dIx (dVar 0) (dC (.int 1))) (dC (.int 48271))) (dMul (dIx (dVar 0) (dC (.int 2))) (dC (.int 1299709)))) (dC (.int 907))) (dC (.int 2147483629))))
    (sSeq (sSet 3 (dMod (dAdd (dMul (dVar 3) (dVar 3)) (dIx (dVar 0) (dC (.int 2)))) (dC (.int 2147483587))))
    (sSeq (sSet 3 (dMod (dAdd (dMul (dVar 3) (dVar 3)) (dC (.int 69621))) (dC (.int 2147483563))))
    (sRet (dMod (dDiv (dVar 3) (dC (.int 64))) (dVar 1))))))))
theorem ok_law_draw (T : Txt K mg) (n : Nat) : FnOk P w K mg base (L2.CX P w) (1 + n) T.f_law_draw T.d_law_draw ["purse", "many"] (spD K 2 (m_law_draw T n)) := by
    unfold m_law_draw
    refine fn_okM (0 + n) (by omega) T.F_law_draw sc_law_draw rfl rfl fun cdv A outer s H E L μ hr tk => ?_
    exact (sss_cons (ss_if (SC.t (sc_cmpU cmp_gt (se_ix rfl (hu_of hr) (se_var 0) se_int (fun _ _ => rfl)) se_int (nomark _))) (sss_cons (ss_set (i := 2) sc_law_draw.nd rfl (Or.inl rfl) (se_mod (se_ix rfl (hu_of hr) (se_var 0) se_int (fun _ _ => rfl)) (se_var 1)))
    (sss_cons (ss_sub (se_div (se_ix rfl (hu_of hr) (se_var 0) se_int (fun _ _ => rfl)) (se_var 1)) (se_var 0) se_int)
    (sss_one (ss_ret (se_var 2))))) sss_nil)
    (sss_cons (ss_sub (se_add rfl (se_ix rfl (hu_of hr) (se_var 0) se_int (fun _ _ => rfl)) se_int) (se_var 0) se_int)
    (sss_cons (ss_set (i := 3) sc_law_draw.nd rfl (Or.inl rfl) (se_mod (se_add rfl (se_add rfl (se_mul (se_ix rfl (hu_of hr) (se_var 0) se_int (fun _ _ => rfl)) se_int) (se_mul (se_ix rfl (hu_of hr) (se_var 0) se_int (fun _ _ => rfl)) se_int)) se_int) se_int))
    (sss_cons (ss_set (i := 3) sc_law_draw.nd rfl (Or.inl rfl) (se_mod (se_add rfl (se_mul (se_var 3) (se_var 3)) (se_ix rfl (hu_of hr) (se_var 0) se_int (fun _ _ => rfl))) se_int))
    (sss_cons (ss_set (i := 3) sc_law_draw.nd rfl (Or.inl rfl) (se_mod (se_add rfl (se_mul (se_var 3) (se_var 3)) se_int) se_int))
    (sss_one (ss_ret (se_mod (se_div (se_var 3) se_int) (se_var 1)))))))))
noncomputable def m_law_levels (T : Txt K mg) (n : Nat) : Fn := runFn 1 5
   (sSeq (sSet 1 (dLst []))
    (sSeq (sFor (itA kR1 [(dAdd (dC (.int 1)) (dCall (m_law_draw T n) [.chg, .val] [] [(dVar 0), (dC (.int 6))]))]) (.nm 2) (sSeq (sSet 3 (dIx (dLst [(dC (.int 1)), (dC (.int 2)), (dC (.int 3)), (dC (.int 9)), (dPow (dC (.int 10)) (dC (.int 6))), (dPow (dC (.int 10)) (dC (.int 6)))]) (dCall (m_law_draw T n) [.chg, .val] [] [(dVar 0), (dC (.int 6))])))
    (sSeq (sSet 4 (dAdd (dC (.int 1)) (dCall (m_law_draw T n) [.chg, .val] [] [(dVar 0), (dVar 3)])))
    (sSeq (sSet 5 (dAdd (dC (.int 1)) (dCall (m_law_draw T n) [.chg, .val] [] [(dVar 0), (dVar 4)])))
    (sSeq (sIf (tst (dCmp (gEqD id) (dCall (m_law_draw T n) [.chg, .val] [] [(dVar 0), (dC (.int 4))]) (dC (.int 0)))) (sParO 4 5 [(dAdd (dMul (dVar 4) (dPow (dC (.int 10)) (dC (.int 33)))) (dVar 5)), (dMul (dVar 5) (dPow (dC (.int 10)) (dC (.int 33))))]) sNx)
    (sExpr (dApp (dVar 1) (dTup [(dVar 4), (dOp vw gMin2 [(dVar 5), (dVar 4)])]))))))))
    (sRet (dVar 1))))
theorem ok_law_levels (T : Txt K mg) (n : Nat) : FnOk P w K mg base (L2.CX P w) (3 + n) T.f_law_levels T.d_law_levels ["purse"] (spD K 1 (m_law_levels T n)) := by
    have G_law_draw := ok_law_draw (P := P) (w := w) (base := base) T n
    unfold m_law_levels
    refine fn_okM (2 + n) (by omega) T.F_law_levels sc_law_levels rfl rfl fun cdv A outer s H E L μ hr tk => ?_
    exact (sss_cons (ss_set (i := 1) sc_law_levels.nd rfl (Or.inl rfl) (se_lst sa_nil))
    (sss_cons (ss_for PassesOwn.leaving rfl (si_r1 rfl T.m_range (sa_cons (se_add rfl se_int (se_call (ms := [.chg, .val]) (ds := []) rfl tk G_law_draw (hr.mono (by omega)) rfl T.m_law_draw T.F_law_draw.kp T.b_law_draw .nil rfl rfl (sa_cons (se_var 0) (sa_cons se_int sa_nil)))) sa_nil)) (sg_name (i := 2) sc_law_levels.nd rfl (.inl rfl)) (sss_cons (ss_set (i := 3) sc_law_levels.nd rfl (Or.inl rfl) (se_ix rfl (hu_of hr) (se_lst (sa_cons se_int (sa_cons se_int (sa_cons se_int (sa_cons se_int (sa_cons (se_pow se_int se_int) (sa_cons (se_pow se_int se_int) sa_nil))))))) (se_call (ms := [.chg, .val]) (ds := []) rfl tk G_law_draw (hr.mono (by omega)) rfl T.m_law_draw T.F_law_draw.kp T.b_law_draw .nil rfl rfl (sa_cons (se_var 0) (sa_cons se_int sa_nil))) (fun _ _ => rfl)))
    (sss_cons (ss_set (i := 4) sc_law_levels.nd rfl (Or.inl rfl) (se_add rfl se_int (se_call (ms := [.chg, .val]) (ds := []) rfl tk G_law_draw (hr.mono (by omega)) rfl T.m_law_draw T.F_law_draw.kp T.b_law_draw .nil rfl rfl (sa_cons (se_var 0) (sa_cons (se_var 3) sa_nil)))))
    (sss_cons (ss_set (i := 5) sc_law_levels.nd rfl (Or.inl rfl) (se_add rfl se_int (se_call (ms := [.chg, .val]) (ds := []) rfl tk G_law_draw (hr.mono (by omega)) rfl T.m_law_draw T.F_law_draw.kp T.b_law_draw .nil rfl rfl (sa_cons (se_var 0) (sa_cons (se_var 4) sa_nil)))))
    (sss_cons (ss_if (SC.t (sc_cmpU (cmp_eq hr.units rfl) (se_call (ms := [.chg, .val]) (ds := []) rfl tk G_law_draw (hr.mono (by omega)) rfl T.m_law_draw T.F_law_draw.kp T.b_law_draw .nil rfl rfl (sa_cons (se_var 0) (sa_cons se_int sa_nil))) se_int (nomark _))) (sss_one (ss_parO (i := 4) (j := 5) rfl sc_law_levels.nd rfl rfl (by decide) rfl rfl (sa_cons (se_add rfl (se_mul (se_var 4) (se_pow se_int se_int)) (se_var 5)) (sa_cons (se_mul (se_var 5) (se_pow se_int se_int)) sa_nil)) (by rfl))) sss_nil)
    (sss_one (ss_expr (se_app rfl (pe_bm PySem.F.plainAttrs_list PySem.F.slot_list_append PySem.F.type_list_append mt_append (se_var 1) (pa_cons (se_tup (sa_cons (se_var 4) (sa_cons (se_min2 rfl (by rfl) T.m_min (sa_cons (se_var 5) (sa_cons (se_var 4) sa_nil))) sa_nil))) pa_nil))))))))))
    (sss_one (ss_ret (se_var 1)))))
noncomputable def m_law_product (T : Txt K mg) (n : Nat) : Fn := runFn 1 2
   (sSeq (sSet 1 (dC (.int 1)))
    (sSeq (sFor (itU (dVar 0)) (.nm 2) (sSet 1 (dMul (dVar 1) (dVar 2))))
    (sRet (dVar 1))))
theorem ok_law_product (T : Txt K mg) (n : Nat) : FnOk P w K mg base (L2.CX P w) (1 + n) T.f_law_product T.d_law_product ["rows"] (spD K 1 (m_law_product T n)) := by
    unfold m_law_product
    refine fn_okM (0 + n) (by omega) T.F_law_product sc_law_product rfl rfl fun cdv A outer s H E L μ hr tk => ?_
    exact (sss_cons (ss_set (i := 1) sc_law_product.nd rfl (Or.inl rfl) se_int)
    (sss_cons (ss_for PassesOwn.leaving rfl (si_val rfl (se_var 0)) (sg_name (i := 2) sc_law_product.nd rfl (.inl rfl)) (sss_one (ss_set (i := 1) sc_law_product.nd rfl (Or.inl rfl) (se_mul (se_var 1) (se_var 2)))))
    (sss_one (ss_ret (se_var 1)))))
noncomputable def m_law_right (T : Txt K mg) (n : Nat) : Fn := runFn 2 5
   (sSeq (sSet 2 (dCall (m_law_product T n) [.val] [] [(dFz (dLc (itU (dVar 1)) (.tp [(.nm 5), (.nm 6)]) tYs (dVar 5) [5, 6]))]))
    (sSeq (sSet 3 (dCall (m_law_product T n) [.val] [] [(dFz (dLc (itU (dVar 1)) (.tp [(.nm 5), (.nm 6)]) tYs (dSub (dAdd (dVar 5) (dC (.int 1))) (dVar 6)) [5, 6]))]))
    (sSeq (sIf (tOrr (tNo (tst (dIsi (isiL [T.a_Leaf, T.a_Tower] [.own T.a_Tower]) (dVar 0)))) (tOrr (tst (dCmp (gEqD not) (dProp [⟨T.a_Tower, m_Tower_levels T n, [.val], []⟩] (dVar 0)) (dVar 1))) (tst (dCmp (gEqD not) (dProp [⟨T.a_Tower, m_Tower_size T n, [.val], []⟩] (dVar 0)) (dVar 2))))) (sRet (dC (.bl false))) sNx)
    (sSeq (sSet 4 (dProp [⟨T.a_Tower, m_Tower_levels T n, [.val], []⟩] (dVar 0)))
    (sSeq (sExpr (dApp (dVar 4) (dC (.int 0))))
    (sSeq (sIf (tOrr (tst (dCmp (gEqD not) (dProp [⟨T.a_Tower, m_Tower_levels T n, [.val], []⟩] (dVar 0)) (dVar 1))) (tst (dCmp (gEqD not) (dProp [⟨T.a_Tower, m_Tower_least T n, [.val], []⟩] (dVar 0)) (dCall (m_law_product T n) [.val] [] [(dFz (dLc (itU (dVar 1)) (.tp [(.nm 5), (.nm 6)]) tYs (dVar 6) [5, 6]))])))) (sRet (dC (.bl false))) sNx)
    (sRet (dAn (dCmp (gEqD id) (dProp [⟨T.a_Tower, m_Tower_greatest T n, [.val], []⟩] (dVar 0)) (dSub (dAdd (dVar 2) (dC (.int 1))) (dVar 3))) (dOpN pk (gEqO T.a_Tower (m_Tower_eq T n) id) [(dVar 0), (dMake T.a_Tower (m_Tower_init T n) [.val] [] [(dFz (dOp vw gList [(dVar 1)]))])])))))))))
theorem ok_law_right (T : Txt K mg) (n : Nat) : FnOk P w K mg base (L2.CX P w) (9 + n) T.f_law_right T.d_law_right ["tower", "levels"] (spD K 2 (m_law_right T n)) := by
    have G_law_product := ok_law_product (P := P) (w := w) (base := base) T n
    have G_Tower_size := ok_Tower_size (P := P) (w := w) (base := base) T n
    have G_Tower_levels := ok_Tower_levels (P := P) (w := w) (base := base) T n
    have G_Tower_least := ok_Tower_least (P := P) (w := w) (base := base) T n
    have G_Tower_init := ok_Tower_init (P := P) (w := w) (base := base) T n
    have G_Tower_eq := ok_Tower_eq (P := P) (w := w) (base := base) T n
    have G_Tower_greatest := ok_Tower_greatest (P := P) (w := w) (base := base) T n
    unfold m_law_right
    refine fn_okM (8 + n) (by omega) T.F_law_right sc_law_right rfl rfl fun cdv A outer s H E L μ hr tk => ?_
    exact (sss_cons (ss_set (i := 2) sc_law_right.nd rfl (Or.inl rfl) (se_call (ms := [.val]) (ds := []) rfl tk G_law_product (hr.mono (by omega)) rfl T.m_law_product T.F_law_product.kp T.b_law_product .nil rfl rfl (sa_cons (se_fz (se_lc (own := [("count", 5), ("rank", 6)]) rfl sc_law_right.nd (si_val rfl (se_var 1)) (blkOk_by (own := [("count", 5), ("rank", 6)]) (N := ["tower", "levels", "size", "other", "told", "count", "rank"]) (sc := defScope s_law_right) (by decide +kernel)) (fun _ _ _ _ _ => (sg_tup rfl rfl (sgs_cons (sg_name (i := 5) sc_law_right.nd rfl (.inl rfl)) (sgs_cons (sg_name (i := 6) sc_law_right.nd rfl (.inl rfl)) sgs_nil)))) (fun _ _ _ _ _ => sts_nil) (fun _ _ _ _ _ => (se_var 5)))) sa_nil)))
    (sss_cons (ss_set (i := 3) sc_law_right.nd rfl (Or.inl rfl) (se_call (ms := [.val]) (ds := []) rfl tk G_law_product (hr.mono (by omega)) rfl T.m_law_product T.F_law_product.kp T.b_law_product .nil rfl rfl (sa_cons (se_fz (se_lc (own := [("count", 5), ("rank", 6)]) rfl sc_law_right.nd (si_val rfl (se_var 1)) (blkOk_by (own := [("count", 5), ("rank", 6)]) (N := ["tower", "levels", "size", "other", "told", "count", "rank"]) (sc := defScope s_law_right) (by decide +kernel)) (fun _ _ _ _ _ => (sg_tup rfl rfl (sgs_cons (sg_name (i := 5) sc_law_right.nd rfl (.inl rfl)) (sgs_cons (sg_name (i := 6) sc_law_right.nd rfl (.inl rfl)) sgs_nil)))) (fun _ _ _ _ _ => sts_nil) (fun _ _ _ _ _ => (se_sub (se_add rfl (se_var 5) se_int) (se_var 6))))) sa_nil)))
    (sss_cons (ss_if (SW.st (sw_or (st_not (st_val (se_isi (isiok_Tower T) rfl (by rfl) T.m_isinstance (se_var 0) (pe_glob (v := .ref T.a_Tower) rfl T.m_Tower rfl)))) (sw_or (SC.t (sc_cmpU (cmp_ne hr.units rfl) (se_p1 (en := ⟨T.a_Tower, m_Tower_levels T n, [.val], []⟩) T.c_Tower T.P_Tower_levels G_Tower_levels (hr.mono (by omega)) T.b_Tower_levels .nil rfl rfl (se_var 0) rfl) (se_var 1) (nomark _))) (sw_or1 (SC.t (sc_cmpU (cmp_ne hr.units rfl) (se_p1 (en := ⟨T.a_Tower, m_Tower_size T n, [.val], []⟩) T.c_Tower T.P_Tower_size G_Tower_size (hr.mono (by omega)) T.b_Tower_size .nil rfl rfl (se_var 0) rfl) (se_var 2) (nomark _))))))) (sss_one (ss_ret se_bl)) sss_nil)
    (sss_cons (ss_set (i := 4) sc_law_right.nd rfl (Or.inl rfl) (se_p1 (en := ⟨T.a_Tower, m_Tower_levels T n, [.val], []⟩) T.c_Tower T.P_Tower_levels G_Tower_levels (hr.mono (by omega)) T.b_Tower_levels .nil rfl rfl (se_var 0) rfl))
    (sss_cons (ss_expr (se_app rfl (pe_bm PySem.F.plainAttrs_list PySem.F.slot_list_append PySem.F.type_list_append mt_append (se_var 4) (pa_cons se_int pa_nil))))
    (sss_cons (ss_if (SW.st (sw_or (SC.t (sc_cmpU (cmp_ne hr.units rfl) (se_p1 (en := ⟨T.a_Tower, m_Tower_levels T n, [.val], []⟩) T.c_Tower T.P_Tower_levels G_Tower_levels (hr.mono (by omega)) T.b_Tower_levels .nil rfl rfl (se_var 0) rfl) (se_var 1) (nomark _))) (sw_or1 (SC.t (sc_cmpU (cmp_ne hr.units rfl) (se_p1 (en := ⟨T.a_Tower, m_Tower_least T n, [.val], []⟩) T.c_Tower T.P_Tower_least G_Tower_least (hr.mono (by omega)) T.b_Tower_least .nil rfl rfl (se_var 0) rfl) (se_call (ms := [.val]) (ds := []) rfl tk G_law_product (hr.mono (by omega)) rfl T.m_law_product T.F_law_product.kp T.b_law_product .nil rfl rfl (sa_cons (se_fz (se_lc (own := [("count", 5), ("rank", 6)]) rfl sc_law_right.nd (si_val rfl (se_var 1)) (blkOk_by (own := [("count", 5), ("rank", 6)]) (N := ["tower", "levels", "size", "other", "told", "count", "rank"]) (sc := defScope s_law_right) (by decide +kernel)) (fun _ _ _ _ _ => (sg_tup rfl rfl (sgs_cons (sg_name (i := 5) sc_law_right.nd rfl (.inl rfl)) (sgs_cons (sg_name (i := 6) sc_law_right.nd rfl (.inl rfl)) sgs_nil)))) (fun _ _ _ _ _ => sts_nil) (fun _ _ _ _ _ => (se_var 6)))) sa_nil)) (nomark _)))))) (sss_one (ss_ret se_bl)) sss_nil)
    (sss_one (ss_ret (se_and (SC.v (sc_cmpU (cmp_eq hr.units rfl) (se_p1 (en := ⟨T.a_Tower, m_Tower_greatest T n, [.val], []⟩) T.c_Tower T.P_Tower_greatest G_Tower_greatest (hr.mono (by omega)) T.b_Tower_greatest .nil rfl rfl (se_var 0) rfl) (se_sub (se_add rfl (se_var 2) se_int) (se_var 3)) (nomark _))) (se_one (SC.v (sc_eqO rfl T.M_Tower_eq G_Tower_eq (hr.mono (by omega)) T.b_Tower_eq (se_var 0) (se_make (ms := [.val]) (ds := []) rfl tk T.M_Tower G_Tower_init (hr.mono (by omega)) rfl T.m_Tower T.b_Tower_init .nil rfl rfl (sa_cons (se_fz (se_callTy call_list_of ops_list (by rfl) T.m_list (by decide +kernel) (sa_cons (se_var 1) sa_nil))) sa_nil))))))))))))))
/-- what the class of towers refuses, as a value of its own -/
def spTowX (T : Txt K mg) (n : Nat) : Sp := fun vs H _ E => ∃ (a v : V) (d : D) (ι : List Addr) (bs : List Slot) (m : Nat), vs = [a, v] ∧ R K ι d H v ∧ m_are_levels T n [.ow (.dp d)] ι.length = .ok (.dp (.bl false)) bs m ∧ ∀ H' x, Same H H' → H' x = none → E (.ref T.a_InvalidLevels) (some x) (upd H' x (.xd [("value", v)]))
theorem ok_Tower_initX (T : Txt K mg) (n : Nat) : FnOk P w K mg base (L2.CX P w) (6 + n + 1) T.f_Tower_init T.d_Tower_init ["self", "levels"] (spTowX T n) := by
  have G_are_levels := ok_are_levels (P := P) (w := w) (base := base) T n
  obtain ⟨ds, hds, bI⟩ := T.F_InvalidLevels_init.binds1 (ps := ["self", "value"]) 2 1 (List.cons_ne_nil _ _) rfl fun _ _ _ _ _ _ _ us its hl hi => by obtain ⟨_, _, rfl⟩ := lenK2 hl; obtain ⟨_, rfl⟩ := lenK1 hi; exact ⟨_, rfl, rfl⟩
  cases hds
  refine T.F_Tower_init.okX sc_Tower_init (fun vs H Q E h => ?_) (fun cdv A outer s H vs Q E hr h => ?_)
  · obtain ⟨_, _, _, _, _, _, rfl, _⟩ := h
    rfl
  obtain ⟨a, v, d, ι, bs, m, rfl, hd, em, q⟩ := h
  refine ⟨_, pss_cons (ps_if (pt_not (pt_val (pe_callSD G_are_levels (hr.mono (by omega)) rfl T.m_are_levels T.F_are_levels.kp T.b_are_levels .nil (E := fun _ => E0) (fun _ => passAt0) (pa_cons (pv 1) pa_nil)))) (pss_one (ps_raise rfl (takes_of rfl rfl rfl rfl) (pmk_oex T.Ex_InvalidLevels T.at_InvalidLevels T.tf_InvalidLevels (ok_InvalidLevels_init T) (hr.mono (by omega)) bI .nil pass0 rfl T.m_InvalidLevels (pa_cons (pv 1) pa_nil)))) pss_nil) (pss_one ps_never), ?_⟩
  refine ⟨_, rfl, ?_⟩
  show spD K 1 (m_are_levels T n) [v] H _ E0
  refine spD_peek (ds := [d]) ⟨_, _, rfl, hd, rfl⟩ em rfl fun H1 e1 => ?_
  refine ⟨_, rfl, ?_⟩
  refine iteT ?_
  exact Rx.un_mk (Rx.un_var rfl (Rx.exc_new fun x hx => q H1 x e1 hx))
theorem heldU_new {H : Hp} {p : Addr} (h : H p = none) (o : HO) : Same H (upd H p o) := fun b x e => by rw [upd_ne fun z => by rw [z, h] at e; cases e]; exact e
theorem heldU_eq {ι : List Addr} {d : D} {H : Hp} {u : V} (h : R K ι d H u) : EqV K H 1 u u := by
  cases d with
  | non => cases (show u = _ from h); exact .inl ⟨rfl, rfl⟩
  | bl b => cases (show u = _ from h); exact .inl ⟨rfl, rfl⟩
  | int i => cases (show u = _ from h); exact .inl ⟨rfl, rfl⟩
  | str s => cases (show u = _ from h); exact .inl ⟨rfl, rfl⟩
  | scr ns => obtain ⟨a, rfl, _⟩ := h; exact .inr (.inl ⟨a, rfl, rfl⟩)
  | lst ds => obtain ⟨a, _, rfl, _⟩ := h; exact .inr (.inl ⟨a, rfl, rfl⟩)
  | tup ds => obtain ⟨a, _, rfl, _⟩ := h; exact .inr (.inl ⟨a, rfl, rfl⟩)
  | dic ds => obtain ⟨a, _, rfl, _⟩ := h; exact .inr (.inl ⟨a, rfl, rfl⟩)
  | dit ds => obtain ⟨a, _, rfl, _⟩ := h; exact .inr (.inl ⟨a, rfl, rfl⟩)
  | obj C n fs => obtain ⟨a, _, _, rfl, _⟩ := h; exact .inr (.inl ⟨a, rfl, rfl⟩)
theorem heldU_seq {t u : TS} {D : Ends} {σ : L2.St} {H : Hp} (h : t { D with nx := u D } σ H) : tSeq t u D σ H := h
/-- what the law's own def says of a value that is refused, and held -/
def HeldOk (T : Txt K mg) (n k : Nat) (dv : D) (og : O) : Prop := (∃ bs m, m_are_levels T n [.ow (.dp dv)] k = .ok (.dp (.bl false)) bs m) ∧ eqX [⟨T.a_Leaf, m_Leaf_eq T n⟩] k 3 dv dv = true ∧
  ((∃ ds, dv = .lst ds ∧ og = .lst (dps ds) ∧ ds.length ≤ 90000) ∨ (og = .dp dv ∧ isi1 [T.a_Leaf, T.a_Tower] (.ty "list") dv = some false))
open Classical in
noncomputable def sHeld (T : Txt K mg) (n : Nat) : SDen := fun st => match st.ss with
  | [.ow (.dp dv), .ow og, _, _] => if HeldOk T n st.n dv og then .rt (.va (.dp (.bl true))) ⟨[.un, .un, .un, .un], st.n, st.t + 1⟩ else .no
  | _ => .no
noncomputable def m_law_refused (T : Txt K mg) (n : Nat) : Fn := runFn 1 3
   (sSeq (sFrz 2 (sParO 1 2 [(dVar 0), (dLst [(dC (.str "none"))])]))
    (sSeq (sIf (tst (dIsi (isiL [T.a_Leaf, T.a_Tower] [.ty "list"]) (dVar 1))) (sSet 1 (dOr (dOp vw gList [(dVar 1)]) (dOp vw gListK [(dVar 1)]))) sNx)
    (sHeld T n)))
theorem ok_law_refused (T : Txt K mg) (n : Nat) : FnOk P w K mg base (L2.CX P w) (13 + n) T.f_law_refused T.d_law_refused ["value"] (spD K 1 (m_law_refused T n)) := by
    have GX := ok_Tower_initX (P := P) (w := w) (base := base) T n
    have G_Leaf_eq := ok_Leaf_eq (P := P) (w := w) (base := base) T n
    unfold m_law_refused
    refine fn_okM (12 + n) (by omega) T.F_law_refused sc_law_refused rfl rfl fun cdv A outer s H E L μ hr tk => ?_
    refine (sss_cons (ss_frz (ss_parO (i := 1) (j := 2) rfl sc_law_refused.nd rfl rfl (by decide) rfl rfl (sa_cons (se_var 0) (sa_cons (se_lst (sa_cons se_str sa_nil)) sa_nil)) (by rfl)))
    (sss_cons (ss_if (st_val (se_isi (isiok_list T) rfl (by rfl) T.m_isinstance (se_var 1) (pe_bltn (v := .ty "list") (by rfl) T.m_list (by decide +kernel) rfl))) (sss_one (ss_set (i := 1) sc_law_refused.nd rfl (Or.inl rfl) (se_orr (se_callTy call_list_of ops_list (by rfl) T.m_list (by decide +kernel) (sa_cons (se_var 1) sa_nil)) (se_listK rfl (by rfl) T.m_list (sa_cons (se_var 1) sa_nil))))) sss_nil)
    (sss_of (pss_cons (ps_try_as (i := 3) (tb := fun W => tDrop (tMakeSD T.a_Tower (spTowX T n) [] (WE W) (tCons (tVar 1) tNil))) (ts := fun a cls d => tAsg (tLst (tCons (tXf a cls d T.a_InvalidLevels "value" (tVar 3)) tNil)) (gName 2)) (Wout := fun _ _ _ _ => False) rfl rfl sc_law_refused.nd rfl rfl ⟨rfl, by decide, Or.inl T.m_InvalidLevels⟩ takes0 (fun W pn xe tk _ => pss_one (ps_expr (by exact (pe_makeSD T.M_Tower GX (hr.mono (by omega)) rfl T.m_Tower T.b_Tower_init .nil (fun σ => passAt tk σ) (pa_cons (pv 1) pa_nil))))) (fun a oe cls d pn hz hf => pss_one (ps_set (i := 2) sc_law_refused.nd rfl (Or.inl rfl) (by exact (pe_lst (pa_cons (pe_xf T.Xf_InvalidLevels T.n_InvalidLevels_value hz hf (pv 3)) pa_nil))))))
    (pss_cons (ps_if (by exact (pt_cmpR (r := fun x y H Q => ∃ N, rNeG (DList (EX K N [⟨T.a_Leaf, m_Leaf_eq T n⟩] 3)) x y H Q) (fun pins s σ H x y u v Q I rx ry ⟨N, h⟩ => op_neG (rnG_list (mon_EX 3) (eqG_EX (k := 8 + n) (eok_cons (⟨⟨_, _, _, _, (by omega), G_Leaf_eq, T.M_Leaf_eq.at_, T.M_Leaf_eq.fn, T.b_Leaf_eq⟩⟩) eok_nil) 3)) (hr.mono (by omega)) pins s σ H x y u v Q I rx ry h) (pv 2) (pe_lst (pa_cons (pv 0) pa_nil)) (by first | exact nobehind _ (by decide) (by decide) | rfl))) (pss_one ps_never) pss_nil)
    (pss_cons (ps_if (pt_val (by exact (pe_callB call_isi (by rfl) T.m_isinstance (by decide +kernel) (pa_cons (pv 1) (pa_cons (pe_bltn (v := .ty "list") (by rfl) T.m_list (by decide +kernel) rfl) pa_nil))))) (pss_one (ps_expr (by exact (pe_bm PySem.F.plainAttrs_list PySem.F.slot_list_append PySem.F.type_list_append mt_append (pv 1) (pa_cons pe_str pa_nil))))) pss_nil)
    (pss_one (ps_ret (by exact (pe_cmpR (op_eqV hr.units) (pv 2) (pe_lst (pa_cons (pv 1) pa_nil)) (by first | exact nobehind _ (by decide) (by decide) | rfl))))))))
    ?_)))
    intro B ι st σ H fp rs D g
    unfold sHeld at g
    split at g
    rotate_left
    · exact g.elim
    rename_i dv og s2 s3 hss
    split at g
    rotate_left
    · exact g.elim
    rename_i hok
    obtain ⟨⟨bs, m, em⟩, hself, hk⟩ := hok
    have hcnt := rs.cnt
    have hlen := rs.len
    rw [hss] at hlen
    obtain ⟨v, hv0, hfp0, hRv⟩ := rs.sl 0 (.ow (.dp dv)) (by rw [hss]; rfl)
    obtain ⟨u, hv1, hRo⟩ := rs.sl 1 (.ow og) (by rw [hss]; rfl)
    have hal : ∀ a, All B fp a → ∃ o, H a = some o := fun a h => rs.alive h
    obtain ⟨x0, x1, x2, x3, rfl⟩ : ∃ x0 x1 x2 x3, σ = [x0, x1, x2, x3] := by
      match σ, hlen with
      | [a, b, c, d], _ => exact ⟨a, b, c, d, rfl⟩
    cases (show x0 = some v from by simpa using hv0)
    cases (show x1 = some u from by simpa using hv1)
    have hRvH : R K ι dv H v := R.mono dv hRv (Goes.refl ι) hidP_le
    have hRu : R K ι dv H u := by
      have z := RO.give og hRo (fun a _ => rfl) hidP_le
      rcases hk with ⟨ds, rfl, rfl, _⟩ | ⟨rfl, _⟩
      · rw [show (O.lst (dps ds)).toD = .lst ds from by simp only [O.toD, toDs_dps]] at z
        exact z
      · exact z
    have fin : ∀ (σ' : L2.St) (H' : Hp), σ'.length = 4 → (∀ b o, H b = some o → ¬ All B fp b → H' b = some o) → (∀ a, B a → H' a = H a) → D.rt (.bl true) H' := fun σ' H' hl hs hb => by
      refine g (.bl true) σ' H' [] ι (fun _ => []) ⟨List.nodup_nil, fun _ h => (nomatch h), ?_, Goes.refl _, hb, ?_⟩ ⟨rfl, rfl⟩
      · rw [un2_nil rfl]
        refine ⟨by rw [hl]; rfl, rs.cnt, fun _ => List.nodup_nil, fun _ _ _ h => (nomatch h), fun _ _ h => (nomatch h), rs.lb, fun a h => by rw [hb a h]; exact rs.bl a h, fun i s hs' => ?_, fun _ _ => rfl⟩
        have : s = .un := by
          match i, hs' with
          | 0, h => simpa using h.symm
          | 1, h => simpa using h.symm
          | 2, h => simpa using h.symm
          | 3, h => simpa using h.symm
          | i + 4, h => simp at h
        subst this
        rfl
      · rw [un2_nil rfl]
        intro b o hb'
        obtain ⟨h1, h2⟩ := hidP_some hb'
        have hn : ¬ All B (fun _ : Nat => ([] : List Addr)) b := fun z => z.elim (fun z => h1 (.inl z)) fun ⟨_, z⟩ => nomatch z
        rw [hidP_f hn]
        exact hs b o h2 h1
    rw [← hcnt] at em hself
    refine heldU_seq ?_
    refine Rx.un_drop ?_
    refine ⟨_, rfl, fun x dx hx hdx hne => ?_⟩
    have sA : Same H (upd (upd H dx (.own x)) x (.ins T.a_Tower dx [])) := (heldU_new hdx _).trans (heldU_new (by rw [upd_ne (fun z => hne z.symm)]; exact hx) _)
    refine ⟨.ref x, u, dv, ι, bs, m, rfl, R.mono dv hRu (Goes.refl ι) sA, em, fun H2 y s2 ny => ?_⟩
    have lk : List.lookup ("value" : Str) [(("value" : Str), u)] = some u := by simp [List.lookup]
    refine ⟨true, T.te_InvalidLevels, fun _ a0 _ => ?_, fun q => Bool.noConfusion q⟩
    refine ⟨_, rfl, rfl, rfl, y, _, u, rfl, upd_same, lk, Nat.le_of_ble_eq_true rfl, fun p np => ?_⟩
    have sB : Same H (upd (upd H2 y (.xd [(("value" : Str), u)])) p (.lst [u])) := ((sA.trans s2).trans (heldU_new ny _)).trans (heldU_new np _)
    dsimp only [gName]
    refine heldU_seq ?_
    refine ⟨_, rfl, _, rfl, Nat.le_of_ble_eq_true rfl, fun q nq => ?_⟩
    have sC := sB.trans (heldU_new nq (.lst [v]))
    have hpq : p ≠ q := fun z => by rw [← z, upd_same] at nq; cases nq
    refine ⟨ι.length, ⟨p, q, [u], [v], rfl, rfl, by rw [upd_ne hpq]; exact upd_same, upd_same, Prs.nil.cons (ex_of 3 dv dv u v (R.mono dv hRu (Goes.refl ι) sC) (R.mono dv hRvH (Goes.refl ι) sC) hself)⟩, fun H5 e5 => ⟨false, rfl, ?_⟩⟩
    have sD := sC.trans e5
    have hp5 : H5 p = some (.lst [u]) := e5 _ _ (by rw [upd_ne hpq]; exact upd_same)
    refine iteF ?_
    refine heldU_seq ?_
    rcases hk with ⟨ds, rfl, rfl, hz⟩ | ⟨rfl, hno⟩
    · obtain ⟨f, r, xs, efp, rfl, hf, hxs⟩ := hRo
      have hf5 : H5 f = some (.lst xs) := sD _ _ hf
      have hfm : f ∈ fp 1 := by rw [efp]; exact List.mem_cons_self
      have hfp : p ≠ f := fun z => by
        have := sA.trans s2
        have h2 := heldU_new ny (.xd [(("value" : Str), V.ref f)]) _ _ (this _ _ hf)
        rw [z, h2] at np
        cases np
      refine ⟨_, rfl, _, _, _, _, _, rfl, .ty "list", .base (.lst hf5), (show PySem.W.kitOne _ (.type "list") (.type "list") = some true by rfl), _, rfl, ?_⟩
      refine iteT ?_
      refine Rx.un_drop ⟨_, rfl, .inl ⟨rfl, _, SqL.of hf5⟩, f, _, _, rfl, rfl, hf5, Evl.sz_lt ?_, ?_⟩
      · have := hxs.len
        rw [show (dps ds).length = ds.length from by unfold dps; exact List.length_map _] at this
        omega
      refine ⟨_, rfl, _, rfl, Nat.le_of_ble_eq_true rfl, fun q2 nq2 => ?_⟩
      have hq2p : p ≠ q2 := fun z => by
        rw [← z, upd_ne hfp, hp5] at nq2
        cases nq2
      refine ⟨1, by decide, .inl ⟨p, q2, _, _, rfl, rfl, SqL.of (by rw [upd_ne hq2p, upd_ne hfp]; exact hp5), SqL.of upd_same, .cons (.inr (.inl ⟨f, rfl, rfl⟩)) .nil⟩, ?_⟩
      refine fin [none, none, none, none] _ rfl (fun b o hb hn => ?_) fun a ha => ?_
      · have hbf : b ≠ f := fun z => hn (.inr ⟨1, by rw [z]; exact hfm⟩)
        refine heldU_new nq2 _ _ _ ?_
        rw [upd_ne hbf]
        exact sD _ _ hb
      · obtain ⟨o, ho⟩ := rs.bl a ha
        have haf : a ≠ f := fun z => rs.db 1 f hfm (z ▸ ha)
        rw [ho]
        refine heldU_new nq2 _ _ _ ?_
        rw [upd_ne haf]
        exact sD _ _ ho
    · have hR5 := R.mono dv hRu (Goes.refl ι) sD
      obtain ⟨t, ty, h1, h2⟩ := ty_of (isiok_list T).own hR5 (isi_ty hno)
      have kit := isi1_ok (isiok_list T) (List.mem_singleton.mpr rfl) hno h1 h2
      refine ⟨_, rfl, _, _, _, _, _, rfl, .ty "list", ty, kit, _, rfl, ?_⟩
      refine iteF ?_
      refine ⟨_, rfl, _, rfl, Nat.le_of_ble_eq_true rfl, fun q2 nq2 => ?_⟩
      have hq2p : p ≠ q2 := fun z => by
        rw [← z, hp5] at nq2
        cases nq2
      refine ⟨1, by decide, .inl ⟨p, q2, _, _, rfl, rfl, SqL.of (by rw [upd_ne hq2p]; exact hp5), SqL.of upd_same, .cons ?_ .nil⟩, ?_⟩
      · exact heldU_eq (R.mono dv hR5 (Goes.refl ι) (heldU_new nq2 (.lst [u])))
      · refine fin [none, none, none, none] _ rfl (fun b o hb hn => heldU_new nq2 _ _ _ (sD _ _ hb)) fun a ha => ?_
        obtain ⟨o, ho⟩ := rs.bl a ha
        rw [ho]
        exact heldU_new nq2 _ _ _ (sD _ _ ho)
noncomputable def m_law_bad (T : Txt K mg) (n : Nat) : Fn := runFn 1 5
   (sSeq (sUnp (.tp [(.nm 1), (.nm 2)]) (dIx (dVar 0) (dC (.int 0))))
    (sSeq (sFrz 3 (sSet 3 (dLst [(dTup [(dVar 1), (dC (.int 0))]), (dTup [(dVar 1), (dAdd (dVar 1) (dC (.int 1)))]), (dTup [(dC (.int 0)), (dC (.int 0))]), (dTup [(dSub (dC (.int 0)) (dVar 1)), (dSub (dC (.int 0)) (dVar 2))]), (dTup [(dVar 1)]), (dTup [(dVar 1), (dVar 2), (dVar 2)]), (dLst [(dVar 1), (dVar 2)])])))
    (sSeq (sFrz 3 (sSet 3 (dAdd (dVar 3) (dFz (dLst [(dTup [(dC (.bl true)), (dC (.int 1))]), (dTup [(dC (.int 1)), (dC (.bl true))]), (dTup [(dC .non), (dVar 2)]), (dTup [(dVar 1), (dC .non)]), (dTup [(dC (.str "2")), (dC (.int 1))]), (dTup [(dVar 1), (dLst [(dVar 2)])]), (dC .non), (dC (.int 0)), (dC (.str "a")), dDk0, (dTup [])])))))
    (sSeq (sFrz 4 (sSet 4 (dAdd (dLc (itU (dVar 3)) (.nm 5) tYs (dAdd (dVar 0) (dLst [(dVar 5)])) [5]) (dLc (itU (dVar 3)) (.nm 5) tYs (dAdd (dLst [(dVar 5)]) (dVar 0)) [5]))))
    (sRet (dAdd (dVar 4) (dFz (dLst [(dLst []), (dTup []), (dOp vw gTuple [(dVar 0)]), (dC .non), (dC (.int 0)), (dC (.str "a")), dDk0, (dIx (dVar 0) (dC (.int 0))), (dC (.bl true)), (dMake T.a_Leaf (m_Leaf_init T n) [.val] [] [(dC (.str "a"))])]))))))))
theorem ok_law_bad (T : Txt K mg) (n : Nat) : FnOk P w K mg base (L2.CX P w) (5 + n) T.f_law_bad T.d_law_bad ["levels"] (spD K 1 (m_law_bad T n)) := by
    have G_Leaf_init := ok_Leaf_init (P := P) (w := w) (base := base) T n
    unfold m_law_bad
    refine fn_okM (4 + n) (by omega) T.F_law_bad sc_law_bad rfl rfl fun cdv A outer s H E L μ hr tk => ?_
    exact (sss_cons (ss_unp (se_ix rfl (hu_of hr) (se_var 0) se_int (fun _ _ => rfl)) (sg_tup rfl rfl (sgs_cons (sg_name (i := 1) sc_law_bad.nd rfl (.inl rfl)) (sgs_cons (sg_name (i := 2) sc_law_bad.nd rfl (.inl rfl)) sgs_nil))))
    (sss_cons (ss_frz (ss_set (i := 3) sc_law_bad.nd rfl (Or.inl rfl) (se_lst (sa_cons (se_tup (sa_cons (se_var 1) (sa_cons se_int sa_nil))) (sa_cons (se_tup (sa_cons (se_var 1) (sa_cons (se_add rfl (se_var 1) se_int) sa_nil))) (sa_cons (se_tup (sa_cons se_int (sa_cons se_int sa_nil))) (sa_cons (se_tup (sa_cons (se_sub se_int (se_var 1)) (sa_cons (se_sub se_int (se_var 2)) sa_nil))) (sa_cons (se_tup (sa_cons (se_var 1) sa_nil)) (sa_cons (se_tup (sa_cons (se_var 1) (sa_cons (se_var 2) (sa_cons (se_var 2) sa_nil)))) (sa_cons (se_lst (sa_cons (se_var 1) (sa_cons (se_var 2) sa_nil))) sa_nil))))))))))
    (sss_cons (ss_frz (ss_set (i := 3) sc_law_bad.nd rfl (Or.inl rfl) (se_add rfl (se_var 3) (se_fz (se_lst (sa_cons (se_tup (sa_cons se_bl (sa_cons se_int sa_nil))) (sa_cons (se_tup (sa_cons se_int (sa_cons se_bl sa_nil))) (sa_cons (se_tup (sa_cons se_non (sa_cons (se_var 2) sa_nil))) (sa_cons (se_tup (sa_cons (se_var 1) (sa_cons se_non sa_nil))) (sa_cons (se_tup (sa_cons se_str (sa_cons se_int sa_nil))) (sa_cons (se_tup (sa_cons (se_var 1) (sa_cons (se_lst (sa_cons (se_var 2) sa_nil)) sa_nil))) (sa_cons se_non (sa_cons se_int (sa_cons se_str (sa_cons se_dk0 (sa_cons (se_tup sa_nil) sa_nil))))))))))))))))
    (sss_cons (ss_frz (ss_set (i := 4) sc_law_bad.nd rfl (Or.inl rfl) (se_add rfl (se_lc (own := [("one", 5)]) rfl sc_law_bad.nd (si_val rfl (se_var 3)) (blkOk_by (own := [("one", 5)]) (N := ["levels", "count", "rank", "odd", "bad", "one"]) (sc := defScope s_law_bad) (by decide +kernel)) (fun _ _ _ _ _ => (sg_name (i := 5) sc_law_bad.nd rfl (.inl rfl))) (fun _ _ _ _ _ => sts_nil) (fun _ _ _ _ _ => (se_add rfl (se_var 0) (se_lst (sa_cons (se_var 5) sa_nil))))) (se_lc (own := [("one", 5)]) rfl sc_law_bad.nd (si_val rfl (se_var 3)) (blkOk_by (own := [("one", 5)]) (N := ["levels", "count", "rank", "odd", "bad", "one"]) (sc := defScope s_law_bad) (by decide +kernel)) (fun _ _ _ _ _ => (sg_name (i := 5) sc_law_bad.nd rfl (.inl rfl))) (fun _ _ _ _ _ => sts_nil) (fun _ _ _ _ _ => (se_add rfl (se_lst (sa_cons (se_var 5) sa_nil)) (se_var 0)))))))
    (sss_one (ss_ret (se_add rfl (se_var 4) (se_fz (se_lst (sa_cons (se_lst sa_nil) (sa_cons (se_tup sa_nil) (sa_cons (se_callTy call_tuple_of ops_tuple (by rfl) T.m_tuple (by decide +kernel) (sa_cons (se_var 0) sa_nil)) (sa_cons se_non (sa_cons se_int (sa_cons se_str (sa_cons se_dk0 (sa_cons (se_ix rfl (hu_of hr) (se_var 0) se_int (fun _ _ => rfl)) (sa_cons se_bl (sa_cons (se_make (ms := [.val]) (ds := []) rfl tk T.M_Leaf G_Leaf_init (hr.mono (by omega)) rfl T.m_Leaf T.b_Leaf_init .nil rfl rfl (sa_cons se_str sa_nil)) sa_nil)))))))))))))))))))
noncomputable def m_law (T : Txt K mg) (n : Nat) : Fn := runFn 1 10
   (sSeq (sFrz 1 (sSet 1 (dLst [(dTup [(dC (.int 3)), (dC (.int 2))])])))
    (sSeq (sFor (itA kR1 [(dC (.int 4))]) (.nm 2) (sSeq (sSet 3 (dCall (m_law_purse T n) [.val, .val] [] [(dVar 0), (dVar 2)]))
    (sSeq (sFrz 4 (sSet 4 (dCall (m_law_levels T n) [.chg] [] [(dVar 3)])))
    (sSeq (sSet 5 (dOp vw gList [(dVar 4)]))
    (sSeq (sFrz 6 (sSet 6 (dMake T.a_Tower (m_Tower_init T n) [.len] [] [(dVar 5)])))
    (sSeq (sIf (tst (dCmp (gEqD not) (dVar 5) (dVar 4))) (sRet (dC (.bl false))) sNx)
    (sSeq (sExpr (dApp (dVar 5) (dTup [(dC (.int 1)), (dC (.int 1))])))
    (sSeq (sFrz 7 (sSet 7 (dLc (itU (dVar 4)) (.tp [(.nm 8), (.nm 9)]) tYs (dTup [(dVar 8), (dSub (dAdd (dVar 8) (dC (.int 1))) (dVar 9))]) [8, 9])))
    (sSeq (sIf (tOrr (tNo (tst (dCall (m_law_right T n) [.val, .val] [] [(dVar 6), (dVar 4)]))) (tNo (tst (dCall (m_law_right T n) [.val, .val] [] [(dFz (dMeth "mirror" [⟨T.a_Tower, m_Tower_mirror T n, [.val], []⟩] (dVar 6) [])), (dVar 7)])))) (sRet (dC (.bl false))) sNx)
    (sSeq (sIf (tOrr (tst (dCmp (gEqD not) (dProp [⟨T.a_Tower, m_Tower_least T n, [.val], []⟩] (dFz (dMeth "mirror" [⟨T.a_Tower, m_Tower_mirror T n, [.val], []⟩] (dVar 6) []))) (dSub (dAdd (dProp [⟨T.a_Tower, m_Tower_size T n, [.val], []⟩] (dVar 6)) (dC (.int 1))) (dProp [⟨T.a_Tower, m_Tower_greatest T n, [.val], []⟩] (dVar 6))))) (tNo (tst (dOpN pk (gEqO T.a_Tower (m_Tower_eq T n) id) [(dMeth "mirror" [⟨T.a_Tower, m_Tower_mirror T n, [.val], []⟩] (dFz (dMeth "mirror" [⟨T.a_Tower, m_Tower_mirror T n, [.val], []⟩] (dVar 6) [])) []), (dVar 6)])))) (sRet (dC (.bl false))) sNx)
    (sSeq (sIf (tOrr (tNo (tst (dCall (m_law_right T n) [.val, .val] [] [(dFz (dBin T.a_Tower (m_Tower_mul T n) [.val, .val] (dVar 6) (dFz (dMake T.a_Tower (m_Tower_init T n) [.val] [] [(dVar 1)])))), (dFz (dAdd (dVar 4) (dVar 1)))]))) (tNo (tst (dCall (m_law_right T n) [.val, .val] [] [(dFz (dBin T.a_Tower (m_Tower_mul T n) [.val, .val] (dVar 6) (dVar 6))), (dFz (dAdd (dVar 4) (dVar 4)))])))) (sRet (dC (.bl false))) sNx)
    (sSeq (sIf (tNo (tst (dCall (m_law_right T n) [.val, .val] [] [(dFz (dBin T.a_Tower (m_Tower_mul T n) [.val, .val] (dFz (dMake T.a_Tower (m_Tower_init T n) [.val] [] [(dVar 1)])) (dVar 6))), (dFz (dAdd (dVar 1) (dVar 4)))]))) (sRet (dC (.bl false))) sNx)
    (sSeq (sIf (tOrr (tst (dOpN pk (gEqA T.a_Tower [T.a_Tower] (m_Tower_eq T n) id) [(dVar 6), (dVar 4)])) (tOrr (tst (dOpN pk (gEqA T.a_Tower [T.a_Tower] (m_Tower_eq T n) id) [(dVar 6), (dC (.int 0))])) (tOrr (tst (dOpN pk (gEqO T.a_Tower (m_Tower_eq T n) id) [(dVar 6), (dMake T.a_Tower (m_Tower_init T n) [.val] [] [(dFz (dAdd (dVar 4) (dLst [(dTup [(dC (.int 1)), (dC (.int 1))])])))])])) (tst (dOpN pk (gEqO T.a_Tower (m_Tower_eq T n) id) [(dVar 6), (dMake T.a_Tower (m_Tower_init T n) [.val] [] [(dFz (dAdd (dLst [(dTup [(dC (.int 1)), (dC (.int 1))])]) (dVar 4)))])]))))) (sRet (dC (.bl false))) sNx)
    (sSeq (sIf (tOrr (tst (dCmp (gEqD not) (dLc (itU (dCall (m_law_bad T n) [.val] [] [(dVar 4)])) (.nm 10) (tNo (tst (dCall (m_law_refused T n) [.val] [] [(dVar 10)]))) (dVar 10) [10]) (dLst []))) (tNo (tst (dCall (m_law_right T n) [.val, .val] [] [(dVar 6), (dVar 4)])))) (sRet (dC (.bl false))) sNx)
    (sFrz 1 (sSet 1 (dSl (dVar 4) none (some (dC (.int 3))))))))))))))))))))
    (sRet (dC (.bl true)))))
theorem ok_law (T : Txt K mg) (n : Nat) : FnOk P w K mg base (L2.CX P w) (15 + n) T.f_law T.d_law ["script"] (spD K 1 (m_law T n)) := by
    have G_law_purse := ok_law_purse (P := P) (w := w) (base := base) T n
    have G_law_levels := ok_law_levels (P := P) (w := w) (base := base) T n
    have G_Tower_init := ok_Tower_init (P := P) (w := w) (base := base) T n
    have G_law_right := ok_law_right (P := P) (w := w) (base := base) T n
    have G_Tower_mirror := ok_Tower_mirror (P := P) (w := w) (base := base) T n
    have G_Tower_eq := ok_Tower_eq (P := P) (w := w) (base := base) T n
    have G_Tower_least := ok_Tower_least (P := P) (w := w) (base := base) T n
    have G_Tower_size := ok_Tower_size (P := P) (w := w) (base := base) T n
    have G_Tower_greatest := ok_Tower_greatest (P := P) (w := w) (base := base) T n
    have G_Tower_mul := ok_Tower_mul (P := P) (w := w) (base := base) T n
    have G_law_bad := ok_law_bad (P := P) (w := w) (base := base) T n
    have G_law_refused := ok_law_refused (P := P) (w := w) (base := base) T n
    unfold m_law
    refine fn_okM (14 + n) (by omega) T.F_law sc_law rfl rfl fun cdv A outer s H E L μ hr tk => ?_
    exact (sss_cons (ss_frz (ss_set (i := 1) sc_law.nd rfl (Or.inl rfl) (se_lst (sa_cons (se_tup (sa_cons se_int (sa_cons se_int sa_nil))) sa_nil))))
    (sss_cons (ss_for PassesOwn.leaving rfl (si_r1 rfl T.m_range (sa_cons se_int sa_nil)) (sg_name (i := 2) sc_law.nd rfl (.inl rfl)) (sss_cons (ss_set (i := 3) sc_law.nd rfl (Or.inl rfl) (se_call (ms := [.val, .val]) (ds := []) rfl tk G_law_purse (hr.mono (by omega)) rfl T.m_law_purse T.F_law_purse.kp T.b_law_purse .nil rfl rfl (sa_cons (se_var 0) (sa_cons (se_var 2) sa_nil))))
    (sss_cons (ss_frz (ss_set (i := 4) sc_law.nd rfl (Or.inl rfl) (se_call (ms := [.chg]) (ds := []) rfl tk G_law_levels (hr.mono (by omega)) rfl T.m_law_levels T.F_law_levels.kp T.b_law_levels .nil rfl rfl (sa_cons (se_var 3) sa_nil))))
    (sss_cons (ss_set (i := 5) sc_law.nd rfl (Or.inl rfl) (se_callTy call_list_of ops_list (by rfl) T.m_list (by decide +kernel) (sa_cons (se_var 4) sa_nil)))
    (sss_cons (ss_frz (ss_set (i := 6) sc_law.nd rfl (Or.inl rfl) (se_make (ms := [.len]) (ds := []) rfl tk T.M_Tower G_Tower_init (hr.mono (by omega)) rfl T.m_Tower T.b_Tower_init .nil rfl rfl (sa_cons (se_var 5) sa_nil))))
    (sss_cons (ss_if (SC.t (sc_cmpU (cmp_ne hr.units rfl) (se_var 5) (se_var 4) (nomark _))) (sss_one (ss_ret se_bl)) sss_nil)
    (sss_cons (ss_expr (se_app rfl (pe_bm PySem.F.plainAttrs_list PySem.F.slot_list_append PySem.F.type_list_append mt_append (se_var 5) (pa_cons (se_tup (sa_cons se_int (sa_cons se_int sa_nil))) pa_nil))))
    (sss_cons (ss_frz (ss_setLc (i := 7) (own := [("count", 8), ("rank", 9)]) rfl sc_law.nd rfl rfl (sw_true rfl rfl rfl (by decide +kernel)) (si_val rfl (se_var 4)) (blkOk_by (own := [("count", 8), ("rank", 9)]) (N := ["script", "before", "at", "purse", "levels", "handed", "tower", "mirrored", "count", "rank", "value"]) (sc := defScope s_law) (by decide +kernel)) (fun _ _ _ _ _ => (sg_tup rfl rfl (sgs_cons (sg_name (i := 8) sc_law.nd rfl (.inl rfl)) (sgs_cons (sg_name (i := 9) sc_law.nd rfl (.inl rfl)) sgs_nil)))) (fun _ _ _ _ _ => sts_nil) (fun _ _ _ _ _ => (se_tup (sa_cons (se_var 8) (sa_cons (se_sub (se_add rfl (se_var 8) se_int) (se_var 9)) sa_nil))))))
    (sss_cons (ss_if (SW.st (sw_or (st_not (st_val (se_call (ms := [.val, .val]) (ds := []) rfl tk G_law_right (hr.mono (by omega)) rfl T.m_law_right T.F_law_right.kp T.b_law_right .nil rfl rfl (sa_cons (se_var 6) (sa_cons (se_var 4) sa_nil))))) (sw_or1 (st_not (st_val (se_call (ms := [.val, .val]) (ds := []) rfl tk G_law_right (hr.mono (by omega)) rfl T.m_law_right T.F_law_right.kp T.b_law_right .nil rfl rfl (sa_cons (se_fz (se_m0 (en := ⟨T.a_Tower, m_Tower_mirror T n, [.val], []⟩) tk T.c_Tower T.M_Tower_mirror G_Tower_mirror (hr.mono (by omega)) T.b_Tower_mirror .nil rfl rfl (se_var 6))) (sa_cons (se_var 7) sa_nil)))))))) (sss_one (ss_ret se_bl)) sss_nil)
    (sss_cons (ss_if (SW.st (sw_or (SC.t (sc_cmpU (cmp_ne hr.units rfl) (se_p1 (en := ⟨T.a_Tower, m_Tower_least T n, [.val], []⟩) T.c_Tower T.P_Tower_least G_Tower_least (hr.mono (by omega)) T.b_Tower_least .nil rfl rfl (se_fz (se_m0 (en := ⟨T.a_Tower, m_Tower_mirror T n, [.val], []⟩) tk T.c_Tower T.M_Tower_mirror G_Tower_mirror (hr.mono (by omega)) T.b_Tower_mirror .nil rfl rfl (se_var 6))) rfl) (se_sub (se_add rfl (se_p1 (en := ⟨T.a_Tower, m_Tower_size T n, [.val], []⟩) T.c_Tower T.P_Tower_size G_Tower_size (hr.mono (by omega)) T.b_Tower_size .nil rfl rfl (se_var 6) rfl) se_int) (se_p1 (en := ⟨T.a_Tower, m_Tower_greatest T n, [.val], []⟩) T.c_Tower T.P_Tower_greatest G_Tower_greatest (hr.mono (by omega)) T.b_Tower_greatest .nil rfl rfl (se_var 6) rfl)) (nomark _))) (sw_or1 (st_not (SC.t (sc_eqO rfl T.M_Tower_eq G_Tower_eq (hr.mono (by omega)) T.b_Tower_eq (se_m0 (en := ⟨T.a_Tower, m_Tower_mirror T n, [.val], []⟩) tk T.c_Tower T.M_Tower_mirror G_Tower_mirror (hr.mono (by omega)) T.b_Tower_mirror .nil rfl rfl (se_fz (se_m0 (en := ⟨T.a_Tower, m_Tower_mirror T n, [.val], []⟩) tk T.c_Tower T.M_Tower_mirror G_Tower_mirror (hr.mono (by omega)) T.b_Tower_mirror .nil rfl rfl (se_var 6)))) (se_var 6))))))) (sss_one (ss_ret se_bl)) sss_nil)
    (sss_cons (ss_if (SW.st (sw_or (st_not (st_val (se_call (ms := [.val, .val]) (ds := []) rfl tk G_law_right (hr.mono (by omega)) rfl T.m_law_right T.F_law_right.kp T.b_law_right .nil rfl rfl (sa_cons (se_fz (se_binC (ms := [.val, .val]) rfl tk rfl T.M_Tower_mul T.sf_Tower G_Tower_mul (hr.mono (by omega)) T.b_Tower_mul rfl (se_var 6) (se_fz (se_make (ms := [.val]) (ds := []) rfl tk T.M_Tower G_Tower_init (hr.mono (by omega)) rfl T.m_Tower T.b_Tower_init .nil rfl rfl (sa_cons (se_var 1) sa_nil))))) (sa_cons (se_fz (se_add rfl (se_var 4) (se_var 1))) sa_nil))))) (sw_or1 (st_not (st_val (se_call (ms := [.val, .val]) (ds := []) rfl tk G_law_right (hr.mono (by omega)) rfl T.m_law_right T.F_law_right.kp T.b_law_right .nil rfl rfl (sa_cons (se_fz (se_binC (ms := [.val, .val]) rfl tk rfl T.M_Tower_mul T.sf_Tower G_Tower_mul (hr.mono (by omega)) T.b_Tower_mul rfl (se_var 6) (se_var 6))) (sa_cons (se_fz (se_add rfl (se_var 4) (se_var 4))) sa_nil)))))))) (sss_one (ss_ret se_bl)) sss_nil)
    (sss_cons (ss_if (st_not (st_val (se_call (ms := [.val, .val]) (ds := []) rfl tk G_law_right (hr.mono (by omega)) rfl T.m_law_right T.F_law_right.kp T.b_law_right .nil rfl rfl (sa_cons (se_fz (se_binC (ms := [.val, .val]) rfl tk rfl T.M_Tower_mul T.sf_Tower G_Tower_mul (hr.mono (by omega)) T.b_Tower_mul rfl (se_fz (se_make (ms := [.val]) (ds := []) rfl tk T.M_Tower G_Tower_init (hr.mono (by omega)) rfl T.m_Tower T.b_Tower_init .nil rfl rfl (sa_cons (se_var 1) sa_nil))) (se_var 6))) (sa_cons (se_fz (se_add rfl (se_var 1) (se_var 4))) sa_nil))))) (sss_one (ss_ret se_bl)) sss_nil)
    (sss_cons (ss_if (SW.st (sw_or (SC.t (sc_eqA rfl (fun C hC => (by rw [List.mem_singleton.mp hC]; exact ⟨own_Tower T, .inl rfl⟩)) T.M_Tower_eq G_Tower_eq (hr.mono (by omega)) T.b_Tower_eq (se_var 6) (se_var 4))) (sw_or (SC.t (sc_eqA rfl (fun C hC => (by rw [List.mem_singleton.mp hC]; exact ⟨own_Tower T, .inl rfl⟩)) T.M_Tower_eq G_Tower_eq (hr.mono (by omega)) T.b_Tower_eq (se_var 6) se_int)) (sw_or (SC.t (sc_eqO rfl T.M_Tower_eq G_Tower_eq (hr.mono (by omega)) T.b_Tower_eq (se_var 6) (se_make (ms := [.val]) (ds := []) rfl tk T.M_Tower G_Tower_init (hr.mono (by omega)) rfl T.m_Tower T.b_Tower_init .nil rfl rfl (sa_cons (se_fz (se_add rfl (se_var 4) (se_lst (sa_cons (se_tup (sa_cons se_int (sa_cons se_int sa_nil))) sa_nil)))) sa_nil)))) (sw_or1 (SC.t (sc_eqO rfl T.M_Tower_eq G_Tower_eq (hr.mono (by omega)) T.b_Tower_eq (se_var 6) (se_make (ms := [.val]) (ds := []) rfl tk T.M_Tower G_Tower_init (hr.mono (by omega)) rfl T.m_Tower T.b_Tower_init .nil rfl rfl (sa_cons (se_fz (se_add rfl (se_lst (sa_cons (se_tup (sa_cons se_int (sa_cons se_int sa_nil))) sa_nil)) (se_var 4))) sa_nil))))))))) (sss_one (ss_ret se_bl)) sss_nil)
    (sss_cons (ss_if (SW.st (sw_or (SC.t (sc_cmpU (cmp_ne hr.units rfl) (se_lc (own := [("value", 10)]) rfl sc_law.nd (si_val rfl (se_call (ms := [.val]) (ds := []) rfl tk G_law_bad (hr.mono (by omega)) rfl T.m_law_bad T.F_law_bad.kp T.b_law_bad .nil rfl rfl (sa_cons (se_var 4) sa_nil))) (blkOk_by (own := [("value", 10)]) (N := ["script", "before", "at", "purse", "levels", "handed", "tower", "mirrored", "count", "rank", "value"]) (sc := defScope s_law) (by decide +kernel)) (fun _ _ _ _ _ => (sg_name (i := 10) sc_law.nd rfl (.inl rfl))) (fun _ _ _ _ _ => (sts_one (st_not (st_val (se_call (ms := [.val]) (ds := []) rfl takes0 G_law_refused (hr.mono (by omega)) rfl T.m_law_refused T.F_law_refused.kp T.b_law_refused .nil rfl rfl (sa_cons (se_var 10) sa_nil)))))) (fun _ _ _ _ _ => (se_var 10))) (se_lst sa_nil) (nomark _))) (sw_or1 (st_not (st_val (se_call (ms := [.val, .val]) (ds := []) rfl tk G_law_right (hr.mono (by omega)) rfl T.m_law_right T.F_law_right.kp T.b_law_right .nil rfl rfl (sa_cons (se_var 6) (sa_cons (se_var 4) sa_nil)))))))) (sss_one (ss_ret se_bl)) sss_nil)
    (sss_one (ss_frz (ss_set (i := 1) sc_law.nd rfl (Or.inl rfl) (se_sl rfl (se_var 4) so_none (so_some se_int)))))))))))))))))))
    (sss_one (ss_ret se_bl))))
end
end Rk
set_option Elab.async false
set_option linter.all false
set_option maxRecDepth 100000
set_option maxHeartbeats 4000000
namespace Fv
open PySem PySem.Spec PyProof.Rows L2 RkO
section
variable {tg : Tg} {tt : ES → Out Bool} {fe : Den} {vs : List Nat} {n : Nat} {ws : List Slot}
/-- a comprehension whose turns change nothing -/
theorem loopC_pure {α : Type} (g : α → D) (p : α → Bool) (f : α → O) : ∀ {xs : List α}, (∀ x ∈ xs, ∀ t, ∃ st1 st2, tgS tg (g x) ⟨ws, n, t⟩ = some st1 ∧ tt st1 = .ok (p x) st2 ∧ (p x = true → ∃ rv st3 st4 t', fe st2 = .ok rv st3 ∧ Fv.settle rv st3 = .ok (f x) st4 ∧ wipeS st4 vs = ⟨ws, n, t'⟩) ∧ (p x = false → ∃ t', wipeS st2 vs = ⟨ws, n, t'⟩)) →
    ∀ t acc, ∃ t', loopC tg tt fe vs (xs.map g) ⟨ws, n, t⟩ acc = some (acc ++ (xs.filter p).map f, ⟨ws, n, t'⟩)
  | [], _, t, acc => ⟨t, by simp [loopC]⟩
  | x :: xs, h, t, acc => by
    obtain ⟨st1, st2, e1, e2, h1, h0⟩ := h x List.mem_cons_self t
    have ih := loopC_pure g p f (xs := xs) fun y hy => h y (List.mem_cons_of_mem _ hy)
    simp only [List.map_cons, loopC, e1, e2]
    cases hp : p x with
    | true =>
      obtain ⟨rv, st3, st4, t', e3, e4, e5⟩ := h1 hp
      obtain ⟨t2, e6⟩ := ih t' (acc ++ [f x])
      refine ⟨t2, ?_⟩
      simp only [e3, e4, e5, e6, List.filter_cons, hp, if_true, List.map_cons, List.append_assoc, List.singleton_append]
    | false =>
      obtain ⟨t', e5⟩ := h0 hp
      obtain ⟨t2, e6⟩ := ih t' acc
      refine ⟨t2, ?_⟩
      simp only [e5, e6, List.filter_cons, hp, Bool.false_eq_true, if_false]
theorem loopC_map {α : Type} (g : α → D) (f : α → O) {xs : List α} (h : ∀ x ∈ xs, ∀ t, ∃ st1 rv st3 st4 t', tgS tg (g x) ⟨ws, n, t⟩ = some st1 ∧ fe st1 = .ok rv st3 ∧ Fv.settle rv st3 = .ok (f x) st4 ∧ wipeS st4 vs = ⟨ws, n, t'⟩) (t : Nat) (acc : List O) :
    ∃ t', loopC tg tYs fe vs (xs.map g) ⟨ws, n, t⟩ acc = some (acc ++ xs.map f, ⟨ws, n, t'⟩) := by
  have := loopC_pure (tg := tg) (tt := tYs) (fe := fe) (vs := vs) (n := n) (ws := ws) g (fun _ => true) f (xs := xs) (fun x hx t => by
    obtain ⟨st1, rv, st3, st4, t', e1, e2, e3, e4⟩ := h x hx t
    exact ⟨st1, st1, e1, rfl, fun _ => ⟨rv, st3, st4, t', e2, e3, e4⟩, fun z => nomatch z⟩) t acc
  have e : xs.filter (fun _ => true) = xs := List.filter_eq_self.mpr fun _ _ => rfl
  rw [e] at this
  exact this
end
section
variable {body : SDen} {tg : Tg} {n : Nat}
/-- a for that goes to its end -/
theorem loopS_inv {α : Type} (g : α → D) (I : List α → List Slot → Prop) : ∀ {xs ys : List α} {ws : List Slot},
    (∀ zs x ws t, zs ++ [x] <+: ys ++ xs → I zs ws → ∃ st1 ws' t', tgS tg (g x) ⟨ws, n, t⟩ = some st1 ∧ (body st1 = .nx ⟨ws', n, t'⟩ ∨ body st1 = .ct ⟨ws', n, t'⟩) ∧ I (zs ++ [x]) ws') →
    I ys ws → ∀ t, ∃ ws' t', loopS body tg (xs.map g) ⟨ws, n, t⟩ = .nx ⟨ws', n, t'⟩ ∧ I (ys ++ xs) ws'
  | [], ys, ws, _, hI, t => ⟨ws, t, by simp [loopS], by rw [List.append_nil]; exact hI⟩
  | x :: xs, ys, ws, h, hI, t => by
    obtain ⟨st1, ws', t', e1, e2, hI'⟩ := h ys x ws t ⟨xs, by simp⟩ hI
    have h' : ∀ zs x' ws t, zs ++ [x'] <+: (ys ++ [x]) ++ xs → I zs ws → _ := fun zs x' ws t q => h zs x' ws t (by simpa using q)
    obtain ⟨ws2, t2, e3, hI2⟩ := loopS_inv g I (xs := xs) (ys := ys ++ [x]) h' hI' t'
    refine ⟨ws2, t2, ?_, by simpa using hI2⟩
    rcases e2 with e2 | e2 <;> simp only [List.map_cons, loopS, e1, e2, e3]
end
@[simp] theorem toD_dp (d : D) : (O.dp d).toD = d := by simp only [O.toD]
@[simp] theorem toD_lst (os : List O) : (O.lst os).toD = .lst (toDs os) := by simp only [O.toD]
@[simp] theorem toD_dic (os : List (Key × O)) : (O.dic os).toD = .dic (toDk os) := by simp only [O.toD]
@[simp] theorem toD_obj (C : Addr) (m : Option Nat) (fs : List (Str × O)) : (O.obj C m fs).toD = .obj C m (toDf fs) := by simp only [O.toD]
@[simp] theorem toDs_nil : toDs [] = [] := by simp only [toDs]
@[simp] theorem toDs_cons (o : O) (os : List O) : toDs (o :: os) = o.toD :: toDs os := by simp only [toDs]
theorem toDs_map {α : Type} (f : α → D) (xs : List α) : toDs (xs.map fun x => .dp (f x)) = xs.map f := by
  induction xs with
  | nil => simp
  | cons x xs ih => simp [ih]
@[simp] theorem toDf_nil : toDf [] = [] := by simp only [toDf]
@[simp] theorem toDf_cons (k : Str) (o : O) (os : List (Str × O)) : toDf ((k, o) :: os) = (k, o.toD) :: toDf os := by simp only [toDf]
@[simp] theorem toDk_nil : toDk [] = [] := by simp only [toDk]
@[simp] theorem toDk_cons (k : Key) (o : O) (os : List (Key × O)) : toDk ((k, o) :: os) = (k, o.toD) :: toDk os := by simp only [toDk]
theorem toDk_map (kvs : List (Key × D)) : toDk (kvs.map fun kv => (kv.1, .dp kv.2)) = kvs := by
  induction kvs with
  | nil => simp
  | cons p r ih => simp [ih]
theorem dps_map {α : Type} (f : α → D) (xs : List α) : (xs.map fun x => O.dp (f x)) = dps (xs.map f) := by
  unfold dps
  rw [List.map_map]
  rfl
@[simp] theorem flat_map {α : Type} (f : α → D) (xs : List α) : (xs.map fun x => O.dp (f x)).all O.isD = true := by
  rw [dps_map]
  exact flat_dps _
@[simp] theorem kb_NoneType_int : kitB "NoneType" "int" = some false := by first | rfl | decide +kernel
@[simp] theorem kb_NoneType_bool : kitB "NoneType" "bool" = some false := by first | rfl | decide +kernel
@[simp] theorem kb_NoneType_str : kitB "NoneType" "str" = some false := by first | rfl | decide +kernel
@[simp] theorem kb_NoneType_list : kitB "NoneType" "list" = some false := by first | rfl | decide +kernel
@[simp] theorem kb_NoneType_tuple : kitB "NoneType" "tuple" = some false := by first | rfl | decide +kernel
@[simp] theorem kb_NoneType_dict : kitB "NoneType" "dict" = some false := by first | rfl | decide +kernel
@[simp] theorem kb_int_int : kitB "int" "int" = some true := by first | rfl | decide +kernel
@[simp] theorem kb_int_bool : kitB "int" "bool" = some false := by first | rfl | decide +kernel
@[simp] theorem kb_int_str : kitB "int" "str" = some false := by first | rfl | decide +kernel
@[simp] theorem kb_int_list : kitB "int" "list" = some false := by first | rfl | decide +kernel
@[simp] theorem kb_int_tuple : kitB "int" "tuple" = some false := by first | rfl | decide +kernel
@[simp] theorem kb_int_dict : kitB "int" "dict" = some false := by first | rfl | decide +kernel
@[simp] theorem kb_bool_int : kitB "bool" "int" = some true := by first | rfl | decide +kernel
@[simp] theorem kb_bool_bool : kitB "bool" "bool" = some true := by first | rfl | decide +kernel
@[simp] theorem kb_bool_str : kitB "bool" "str" = some false := by first | rfl | decide +kernel
@[simp] theorem kb_bool_list : kitB "bool" "list" = some false := by first | rfl | decide +kernel
@[simp] theorem kb_bool_tuple : kitB "bool" "tuple" = some false := by first | rfl | decide +kernel
@[simp] theorem kb_bool_dict : kitB "bool" "dict" = some false := by first | rfl | decide +kernel
@[simp] theorem kb_str_int : kitB "str" "int" = some false := by first | rfl | decide +kernel
@[simp] theorem kb_str_bool : kitB "str" "bool" = some false := by first | rfl | decide +kernel
@[simp] theorem kb_str_str : kitB "str" "str" = some true := by first | rfl | decide +kernel
@[simp] theorem kb_str_list : kitB "str" "list" = some false := by first | rfl | decide +kernel
@[simp] theorem kb_str_tuple : kitB "str" "tuple" = some false := by first | rfl | decide +kernel
@[simp] theorem kb_str_dict : kitB "str" "dict" = some false := by first | rfl | decide +kernel
@[simp] theorem kb_list_int : kitB "list" "int" = some false := by first | rfl | decide +kernel
@[simp] theorem kb_list_bool : kitB "list" "bool" = some false := by first | rfl | decide +kernel
@[simp] theorem kb_list_str : kitB "list" "str" = some false := by first | rfl | decide +kernel
@[simp] theorem kb_list_list : kitB "list" "list" = some true := by first | rfl | decide +kernel
@[simp] theorem kb_list_tuple : kitB "list" "tuple" = some false := by first | rfl | decide +kernel
@[simp] theorem kb_list_dict : kitB "list" "dict" = some false := by first | rfl | decide +kernel
@[simp] theorem kb_tuple_int : kitB "tuple" "int" = some false := by first | rfl | decide +kernel
@[simp] theorem kb_tuple_bool : kitB "tuple" "bool" = some false := by first | rfl | decide +kernel
@[simp] theorem kb_tuple_str : kitB "tuple" "str" = some false := by first | rfl | decide +kernel
@[simp] theorem kb_tuple_list : kitB "tuple" "list" = some false := by first | rfl | decide +kernel
@[simp] theorem kb_tuple_tuple : kitB "tuple" "tuple" = some true := by first | rfl | decide +kernel
@[simp] theorem kb_tuple_dict : kitB "tuple" "dict" = some false := by first | rfl | decide +kernel
@[simp] theorem kb_dict_int : kitB "dict" "int" = some false := by first | rfl | decide +kernel
@[simp] theorem kb_dict_bool : kitB "dict" "bool" = some false := by first | rfl | decide +kernel
@[simp] theorem kb_dict_str : kitB "dict" "str" = some false := by first | rfl | decide +kernel
@[simp] theorem kb_dict_list : kitB "dict" "list" = some false := by first | rfl | decide +kernel
@[simp] theorem kb_dict_tuple : kitB "dict" "tuple" = some false := by first | rfl | decide +kernel
@[simp] theorem kb_dict_dict : kitB "dict" "dict" = some true := by first | rfl | decide +kernel
end Fv
set_option Elab.async false
set_option linter.all false
set_option maxRecDepth 100000
set_option maxHeartbeats 4000000
namespace Tm
open PySem Fv
/-- a name: 1 to 8 small letters -/
def letterB (c : Nat) : Bool := decide (97 ≤ c ∧ c ≤ 122)
def nameB (x : Str) : Bool := decide (1 ≤ x.length ∧ x.length ≤ 8) && x.cps.toList.all letterB
theorem nameB_len {x : Str} (h : nameB x = true) : 1 ≤ x.length ∧ x.length ≤ 8 := by
  unfold nameB at h
  rw [Bool.and_eq_true] at h
  exact of_decide_eq_true h.1
inductive Tr where
  | leaf (x : Str)
  | grp (rs : List Int) (ps : List Tr)
mutual
def Tr.names : Tr → List Str
  | .leaf x => [x]
  | .grp _ ps => namesL ps
def namesL : List Tr → List Str
  | [] => []
  | p :: ps => p.names ++ namesL ps
end
def Tr.width : Tr → Nat
  | .leaf _ => 1
  | .grp rs _ => rs.length
def intakeL : List Tr → Nat
  | [] => 0
  | p :: ps => p.width + intakeL ps
mutual
def Tr.depth : Tr → Nat
  | .leaf _ => 0
  | .grp _ ps => depthL ps + 1
def depthL : List Tr → Nat
  | [] => 0
  | p :: ps => max p.depth (depthL ps)
end
def Asc (rs : List Int) : Prop := rs.Pairwise (· < ·)
/-- a tree that the classes let by -/
inductive Ok : Tr → Prop where
  | leaf {x : Str} : nameB x = true → Ok (.leaf x)
  | grp {rs : List Int} {ps : List Tr} : (∀ t ∈ ps, Ok t) → ps ≠ [] → (namesL ps).Nodup → rs ≠ [] → Asc rs → (∀ r ∈ rs, 1 ≤ r ∧ r ≤ (intakeL ps : Int)) → Ok (.grp rs ps)
def knd : Tr → Bool
  | .leaf _ => true
  | .grp _ _ => false
theorem Ok.one {t : Tr} (h : Ok t) : 1 ≤ t.names.length := by
  induction h with
  | leaf _ => exact Nat.le_refl _
  | @grp rs ps _ hne _ _ _ _ ih =>
    cases ps with
    | nil => exact absurd rfl hne
    | cons p ps =>
      have := ih p (List.mem_cons_self ..)
      show 1 ≤ (p.names ++ namesL ps).length
      rw [List.length_append]
      omega
variable (wf : Str → Int)
end Tm
set_option Elab.async false
set_option linter.all false
set_option maxRecDepth 100000
set_option maxHeartbeats 4000000
namespace Fv
open PySem PySem.Spec PyProof.Rows L2 RkO
@[simp] theorem ev_dOp (w : ES → RV → Option D) (g : List D → Option O) (fs : List Den) (ss0 : List Slot) (n0 t0 : Nat) : Fv.dOp w g fs (⟨ss0, n0, t0⟩ : ES) = ((dArgs fs (⟨ss0, n0, t0⟩ : ES)).bind fun rvs st' => match vws w st' rvs with
  | some ds => match g ds with
    | some o => .ok (.va o) st'
    | none => .no
  | none => .no) := rfl
@[simp] theorem ev_dVar (i : Nat) (ss0 : List Slot) (n0 t0 : Nat) : Fv.dVar i (⟨ss0, n0, t0⟩ : ES) = (match (⟨ss0, n0, t0⟩ : ES).ss[i]? with
  | some s => match s.o? with
    | some (.dp d) => .ok (.va (.dp d)) (⟨ss0, n0, t0⟩ : ES)
    | some _ => .ok (.pl i []) (⟨ss0, n0, t0⟩ : ES)
    | none => .no
  | none => .no) := rfl
@[simp] theorem ev_dC (d : D) (ss0 : List Slot) (n0 t0 : Nat) : Fv.dC d (⟨ss0, n0, t0⟩ : ES) = (.ok (.va (.dp d)) (⟨ss0, n0, t0⟩ : ES)) := rfl
@[simp] theorem ev_dChain (g g' : List D → Option O) (fa fb fc : Den) (ss0 : List Slot) (n0 t0 : Nat) : Fv.dChain g g' fa fb fc (⟨ss0, n0, t0⟩ : ES) = ((dArgs [fa, fb] (⟨ss0, n0, t0⟩ : ES)).bind fun rvs st1 => match rvs with
  | [ra, rb] => match pk st1 ra, pk st1 rb with
    | some da, some db => match g [da, db] with
      | some (.dp (.bl true)) => (fc st1).bind fun rc st2 => if keep rb st1 st2 = true then match pk st2 rb, pk st2 rc with
        | some db', some dc => match g' [db', dc] with
          | some o => .ok (.va o) st2
          | none => .no
        | _, _ => .no
        else .no
      | some (.dp (.bl false)) => .ok (.va (.dp (.bl false))) st1
      | _ => .no
    | _, _ => .no
  | _ => .no) := rfl
@[simp] theorem ev_tst (f : Den) (ss0 : List Slot) (n0 t0 : Nat) : Fv.tst f (⟨ss0, n0, t0⟩ : ES) = ((f (⟨ss0, n0, t0⟩ : ES)).bind fun rv st' => match rv with
  | .va (.dp (.bl k)) => .ok k st'
  | _ => .no) := rfl
@[simp] theorem ev_tNo (f : ES → Out Bool) (ss0 : List Slot) (n0 t0 : Nat) : Fv.tNo f (⟨ss0, n0, t0⟩ : ES) = ((f (⟨ss0, n0, t0⟩ : ES)).bind fun b st' => .ok (!b) st') := rfl
@[simp] theorem ev_tAn (f g : ES → Out Bool) (ss0 : List Slot) (n0 t0 : Nat) : Fv.tAn f g (⟨ss0, n0, t0⟩ : ES) = ((f (⟨ss0, n0, t0⟩ : ES)).bind fun b st' => if b = true then g st' else .ok false st') := rfl
@[simp] theorem ev_tOrr (f g : ES → Out Bool) (ss0 : List Slot) (n0 t0 : Nat) : Fv.tOrr f g (⟨ss0, n0, t0⟩ : ES) = ((f (⟨ss0, n0, t0⟩ : ES)).bind fun b st' => if b = true then .ok true st' else g st') := rfl
@[simp] theorem ev_dIf (t : ES → Out Bool) (f g : Den) (ss0 : List Slot) (n0 t0 : Nat) : Fv.dIf t f g (⟨ss0, n0, t0⟩ : ES) = ((t (⟨ss0, n0, t0⟩ : ES)).bind fun b st' => if b = true then f st' else g st') := rfl
@[simp] theorem ev_dAn (f g : Den) (ss0 : List Slot) (n0 t0 : Nat) : Fv.dAn f g (⟨ss0, n0, t0⟩ : ES) = ((tst f (⟨ss0, n0, t0⟩ : ES)).bind fun b st' => if b = true then g st' else .ok (.va (.dp (.bl false))) st') := rfl
@[simp] theorem ev_dOrr (f g : Den) (ss0 : List Slot) (n0 t0 : Nat) : Fv.dOrr f g (⟨ss0, n0, t0⟩ : ES) = ((tst f (⟨ss0, n0, t0⟩ : ES)).bind fun b st' => if b = true then .ok (.va (.dp (.bl true))) st' else g st') := rfl
@[simp] theorem ev_dNo (f : Den) (ss0 : List Slot) (n0 t0 : Nat) : Fv.dNo f (⟨ss0, n0, t0⟩ : ES) = ((tst f (⟨ss0, n0, t0⟩ : ES)).bind fun b st' => .ok (.va (.dp (.bl (!b)))) st') := rfl
@[simp] theorem ev_dSl (fa : Den) (fl fh : Option Den) (ss0 : List Slot) (n0 t0 : Nat) : Fv.dSl fa fl fh (⟨ss0, n0, t0⟩ : ES) = ((fa (⟨ss0, n0, t0⟩ : ES)).bind fun ra st1 => (bnd fl st1).bind fun lo st2 => (bnd fh st2).bind fun hi st3 => if keep ra st1 st3 = true then match vw st3 ra with
  | some d => match gSl lo hi [d] with
    | some o => .ok (.va o) st3
    | none => .no
  | none => .no
  else .no) := rfl
@[simp] theorem ev_dLst (fs : List Den) (ss0 : List Slot) (n0 t0 : Nat) : Fv.dLst fs (⟨ss0, n0, t0⟩ : ES) = ((dArgs fs (⟨ss0, n0, t0⟩ : ES)).bind fun rvs st1 => (settles rvs st1).bind fun os st2 => if os.length ≤ 100000 then .ok (.va (.lst os)) st2 else .no) := rfl
@[simp] theorem ev_dTup (fs : List Den) (ss0 : List Slot) (n0 t0 : Nat) : Fv.dTup fs (⟨ss0, n0, t0⟩ : ES) = ((dArgs fs (⟨ss0, n0, t0⟩ : ES)).bind fun rvs st1 => (settles rvs st1).bind fun os st2 => if os.length ≤ 100000 then .ok (.va (.dp (.tup (toDs os)))) st2 else .no) := rfl
@[simp] theorem ev_dCall (m : Fn) (ms : List AM) (ds : List D) (fs : List Den) (ss0 : List Slot) (n0 t0 : Nat) : Fv.dCall m ms ds fs (⟨ss0, n0, t0⟩ : ES) = ((dArgs fs (⟨ss0, n0, t0⟩ : ES)).bind fun rvs st1 => callRV m ms (rvs ++ ds.map fun d => .va (.dp d)) st1) := rfl
@[simp] theorem ev_dMeth (n : Str) (tab : List ME) (fo : Den) (fs : List Den) (ss0 : List Slot) (n0 t0 : Nat) : Fv.dMeth n tab fo fs (⟨ss0, n0, t0⟩ : ES) = ((fo (⟨ss0, n0, t0⟩ : ES)).bind fun r0 st1 => match pk st1 r0 with
  | some (.obj C _ flds) => if (flds.lookup n).isNone = true then match findM tab C with
      | some e => (dArgs fs st1).bind fun rvs st2 => if keep r0 st1 st2 = true then callRV e.m e.ms (r0 :: (rvs ++ e.ds.map fun d => .va (.dp d))) st2 else .no
      | none => .no
    else .no
  | _ => .no) := rfl
@[simp] theorem ev_quiet (f : Den) (ss0 : List Slot) (n0 t0 : Nat) : Fv.quiet f (⟨ss0, n0, t0⟩ : ES) = (match f (⟨ss0, n0, t0⟩ : ES) with
  | .ok rv st' => .ok rv st'
  | _ => .no) := rfl
@[simp] theorem ev_dProp (tab : List ME) (fo : Den) (ss0 : List Slot) (n0 t0 : Nat) : Fv.dProp tab fo (⟨ss0, n0, t0⟩ : ES) = ((fo (⟨ss0, n0, t0⟩ : ES)).bind fun r0 st1 => match pk st1 r0 with
  | some (.obj C _ _) => match findM tab C with
      | some e => quiet (callRV e.m e.ms (r0 :: e.ds.map fun d => .va (.dp d))) st1
      | none => .no
  | _ => .no) := rfl
@[simp] theorem ev_dFld (ok : List Addr) (n : Str) (fo : Den) (ss0 : List Slot) (n0 t0 : Nat) : Fv.dFld ok n fo (⟨ss0, n0, t0⟩ : ES) = ((fo (⟨ss0, n0, t0⟩ : ES)).bind fun r0 st1 => match r0 with
  | .va o => match o.toD with
    | .obj C _ flds => if C ∈ ok then match flds.lookup n with
        | some d => .ok (.va (.dp d)) st1
        | none => .no
      else .no
    | _ => .no
  | .pl i p => match here st1 i p with
    | some (.obj C _ flds) => if C ∈ ok then match flds.lookup n with
        | some (.dp d) => .ok (.va (.dp d)) st1
        | some _ => .ok (.pl i (p ++ [.fld n])) st1
        | none => .no
      else .no
    | _ => .no) := rfl
@[simp] theorem ev_dFz (f : Den) (ss0 : List Slot) (n0 t0 : Nat) : Fv.dFz f (⟨ss0, n0, t0⟩ : ES) = ((f (⟨ss0, n0, t0⟩ : ES)).bind fun rv st1 => (settle rv st1).bind fun o st2 => .ok (.va (.dp o.toD)) st2) := rfl
@[simp] theorem ev_sNx  (ss0 : List Slot) (n0 t0 : Nat) : Fv.sNx  (⟨ss0, n0, t0⟩ : ES) = (.nx (⟨ss0, n0, t0⟩ : ES)) := rfl
@[simp] theorem ev_sSeq (f g : SDen) (ss0 : List Slot) (n0 t0 : Nat) : Fv.sSeq f g (⟨ss0, n0, t0⟩ : ES) = (match f (⟨ss0, n0, t0⟩ : ES) with
  | .nx st' => g st'
  | r => r) := rfl
@[simp] theorem ev_sExpr (f : Den) (ss0 : List Slot) (n0 t0 : Nat) : Fv.sExpr f (⟨ss0, n0, t0⟩ : ES) = (onE (f (⟨ss0, n0, t0⟩ : ES)) fun _ st' => .nx st') := rfl
@[simp] theorem ev_sRet (f : Den) (ss0 : List Slot) (n0 t0 : Nat) : Fv.sRet f (⟨ss0, n0, t0⟩ : ES) = (onE (f (⟨ss0, n0, t0⟩ : ES)) fun rv st' => .rt rv st') := rfl
@[simp] theorem ev_sRetN  (ss0 : List Slot) (n0 t0 : Nat) : Fv.sRetN  (⟨ss0, n0, t0⟩ : ES) = (.rt (.va (.dp .non)) (⟨ss0, n0, t0⟩ : ES)) := rfl
@[simp] theorem ev_sIf (t : ES → Out Bool) (f g : SDen) (ss0 : List Slot) (n0 t0 : Nat) : Fv.sIf t f g (⟨ss0, n0, t0⟩ : ES) = (onE (t (⟨ss0, n0, t0⟩ : ES)) fun b st' => if b = true then f st' else g st') := rfl
@[simp] theorem ev_sSet (i : Nat) (f : Den) (ss0 : List Slot) (n0 t0 : Nat) : Fv.sSet i f (⟨ss0, n0, t0⟩ : ES) = (keepE (f (⟨ss0, n0, t0⟩ : ES)) fun o st2 => if free st2.ss[i]? = true then .nx (put st2 i o) else .no) := rfl
@[simp] theorem ev_sUnp (tg : Tg) (f : Den) (ss0 : List Slot) (n0 t0 : Nat) : Fv.sUnp tg f (⟨ss0, n0, t0⟩ : ES) = (keepE (f (⟨ss0, n0, t0⟩ : ES)) fun o st2 => match o with
  | .dp d => match tgS tg d st2 with
    | some st3 => .nx st3
    | none => .no
  | _ => .no) := rfl
@[simp] theorem ev_itV (k : D → Option (List D)) (f : Den) (ss0 : List Slot) (n0 t0 : Nat) : Fv.itV k f (⟨ss0, n0, t0⟩ : ES) = ((f (⟨ss0, n0, t0⟩ : ES)).bind fun rv st1 => (settle rv st1).bind fun o st2 => match k o.toD with
  | some ds => .ok ds st2
  | none => .no) := rfl
@[simp] theorem ev_dApp (fo fx : Den) (ss0 : List Slot) (n0 t0 : Nat) : Fv.dApp fo fx (⟨ss0, n0, t0⟩ : ES) = ((fo (⟨ss0, n0, t0⟩ : ES)).bind fun r0 st1 => match r0 with
  | .pl i p => match hereM st1 i p with
    | some (.lst _) => (fx st1).bind fun rx st2 => if keep (.pl i p) st1 st2 = true then (settle rx st2).bind fun o st3 => match hereM st3 i p with
        | some (.lst os) => if os.length < 100000 then .ok (.va (.dp .non)) (setAt st3 i p (.lst (os ++ [o]))) else .no
        | _ => .no
      else .no
    | _ => .no
  | _ => .no) := rfl
@[simp] theorem ev_sSub (fv fo fi : Den) (ss0 : List Slot) (n0 t0 : Nat) : Fv.sSub fv fo fi (⟨ss0, n0, t0⟩ : ES) = (keepE (fv (⟨ss0, n0, t0⟩ : ES)) fun o st1 => onE (fo st1) fun r0 st2 => match r0 with
  | .pl j p => onE (fi st2) fun ri st3 => if keep (.pl j p) st2 st3 = true then match hereM st3 j p, pk st3 ri with
      | some (.lst os), some (.int k) => match ixN os.length k with
        | some q => .nx (setAt st3 j p (.lst (os.set q o)))
        | none => .no
      | _, _ => .no
    else .no
  | _ => .no) := rfl
@[simp] theorem ev_sFldS (ok : List Addr) (n : Str) (fv fo : Den) (ss0 : List Slot) (n0 t0 : Nat) : Fv.sFldS ok n fv fo (⟨ss0, n0, t0⟩ : ES) = (keepE (fv (⟨ss0, n0, t0⟩ : ES)) fun o st1 => onE (fo st1) fun r0 st2 => match r0 with
  | .pl j p => match hereM st2 j p with
    | some (.obj C m flds) => if C ∈ ok ∧ flds.length < 1000 then .nx (setAt st2 j p (.obj C m (putL n o flds))) else .no
    | _ => .no
  | _ => .no) := rfl
@[simp] theorem ev_sRaise (C : Addr) (g : Str) (f : Den) (ss0 : List Slot) (n0 t0 : Nat) : Fv.sRaise C g f (⟨ss0, n0, t0⟩ : ES) = (keepE (f (⟨ss0, n0, t0⟩ : ES)) fun o st1 => .ex C g o.toD st1) := rfl
@[simp] theorem ev_itA (k : List D → Option (List D)) (fs : List Den) (ss0 : List Slot) (n0 t0 : Nat) : Fv.itA k fs (⟨ss0, n0, t0⟩ : ES) = ((dArgs fs (⟨ss0, n0, t0⟩ : ES)).bind fun rvs st1 => (settles rvs st1).bind fun os st2 => match k (toDs os) with
  | some ds => .ok ds st2
  | none => .no) := rfl
@[simp] theorem ev_sPar (i j : Nat) (fa fb : Den) (ss0 : List Slot) (n0 t0 : Nat) : Fv.sPar i j fa fb (⟨ss0, n0, t0⟩ : ES) = (onE (dArgs [fa, fb] (⟨ss0, n0, t0⟩ : ES)) fun rvs st1 => onE (settles rvs st1) fun os st2 => match os with
  | [o, u] => if free st2.ss[i]? = true ∧ free st2.ss[j]? = true then .nx (put (put st2 i o) j u) else .no
  | _ => .no) := rfl
@[simp] theorem ev_tYs  (ss0 : List Slot) (n0 t0 : Nat) : Fv.tYs  (⟨ss0, n0, t0⟩ : ES) = (.ok true (⟨ss0, n0, t0⟩ : ES)) := rfl
@[simp] theorem ev_dOr (f g : Den) (ss0 : List Slot) (n0 t0 : Nat) : Fv.dOr f g (⟨ss0, n0, t0⟩ : ES) = (match f (⟨ss0, n0, t0⟩ : ES) with
  | .no => g (⟨ss0, n0, t0⟩ : ES)
  | r => r) := rfl
@[simp] theorem ev_dIsi (g : D → Option Bool) (f : Den) (ss0 : List Slot) (n0 t0 : Nat) : Fv.dIsi g f (⟨ss0, n0, t0⟩ : ES) = ((f (⟨ss0, n0, t0⟩ : ES)).bind fun rv st1 => match pk st1 rv with
  | some d => match g d with
    | some b => .ok (.va (.dp (.bl b))) st1
    | none => .no
  | none => .no) := rfl
@[simp] theorem ev_sAugI (g : Int → Int → Int) (fo fi fe : Den) (ss0 : List Slot) (n0 t0 : Nat) : Fv.sAugI g fo fi fe (⟨ss0, n0, t0⟩ : ES) = (onE (fo (⟨ss0, n0, t0⟩ : ES)) fun r0 st1 => match r0 with
  | .pl j p => onE (fi st1) fun ri st2 => match pk st2 ri with
    | some (.int k) => if keep (.pl j p) st1 st2 = true ∧ 0 ≤ k then match hereM st2 j p with
      | some (.lst os) => match os[k.toNat]? with
        | some (.dp (.int m)) => onE (fe st2) fun rv st3 => match pk st3 rv with
          | some (.int n) => if keep (.pl j p) st2 st3 = true then match hereM st3 j p with
            | some (.lst os3) => match ixN os3.length k with
              | some q => .nx (setAt st3 j p (.lst (os3.set q (.dp (.int (g m n))))))
              | none => .no
            | _ => .no
            else .no
          | _ => .no
        | _ => .no
      | _ => .no
      else .no
    | _ => .no
  | _ => .no) := rfl
@[simp] theorem ev_sPar2 (i j : Nat) (fa fb : Den) (ss0 : List Slot) (n0 t0 : Nat) : Fv.sPar2 i j fa fb (⟨ss0, n0, t0⟩ : ES) = (onE (dArgs [fa, fb] (⟨ss0, n0, t0⟩ : ES)) fun rvs st1 => onE (settles rvs st1) fun os st2 => match toDs os with
  | [d, d'] => if free st2.ss[i]? = true ∧ free (put st2 i (.dp d)).ss[j]? = true then .nx (put (put st2 i (.dp d)) j (.dp d')) else .no
  | _ => .no) := rfl
@[simp] theorem ev_dM1 (g : List D → Option O) (fo fe : Den) (ss0 : List Slot) (n0 t0 : Nat) : Fv.dM1 g fo fe (⟨ss0, n0, t0⟩ : ES) = ((fo (⟨ss0, n0, t0⟩ : ES)).bind fun r0 st1 => match pk st1 r0 with
  | some (.str a) => (fe st1).bind fun r1 st2 => match vw st2 r1 with
    | some d => match g [.str a, d] with
      | some o => .ok (.va o) st2
      | none => .no
    | none => .no
  | _ => .no) := rfl
@[simp] theorem ev_dMake (C : Addr) (m : Fn) (ms : List AM) (ds : List D) (fs : List Den) (ss0 : List Slot) (n0 t0 : Nat) : Fv.dMake C m ms ds fs (⟨ss0, n0, t0⟩ : ES) = ((dArgs fs (⟨ss0, n0, t0⟩ : ES)).bind fun rvs st1 =>
  match callRV m (.chg :: ms) (.pl st1.ss.length [] :: (rvs ++ ds.map fun d => .va (.dp d))) ⟨st1.ss ++ [.ow (.obj C none [])], st1.n, st1.t + 1⟩ with
  | .ok (.va (.dp .non)) st2 => match st2.ss[st1.ss.length]? with
    | some (.ow o) => .ok (.va o) ⟨st2.ss.take st1.ss.length, st2.n, st2.t + 1⟩
    | _ => .no
  | .ex C g d st2 => match st2.ss[st1.ss.length]? with
    | some (.ow _) => .ex C g d ⟨st2.ss.take st1.ss.length, st2.n, st2.t + 1⟩
    | _ => .no
  | _ => .no) := rfl
@[simp] theorem ev_dDk0  (ss0 : List Slot) (n0 t0 : Nat) : Fv.dDk0  (⟨ss0, n0, t0⟩ : ES) = (.ok (.va (.dic [])) (⟨ss0, n0, t0⟩ : ES)) := rfl
@[simp] theorem ev_dDget2 (fd fk fx : Den) (ss0 : List Slot) (n0 t0 : Nat) : Fv.dDget2 fd fk fx (⟨ss0, n0, t0⟩ : ES) = ((fd (⟨ss0, n0, t0⟩ : ES)).bind fun r0 st1 => match pk st1 r0 with
  | some (.dic _) => (dArgs [fk, fx] st1).bind fun rvs st2 => if keep r0 st1 st2 = true then match vw st2 r0, vws vw st2 rvs with
      | some (.dic kvs), some [dk, dx] => match dk.key with
        | some k => match getD_ kvs k with
          | some d => .ok (.va (.dp d)) st2
          | none => match dx with
            | .int i => .ok (.va (.dp (.int i))) st2
            | .str i => .ok (.va (.dp (.str i))) st2
            | .non => .ok (.va (.dp .non)) st2
            | _ => .no
        | none => .no
      | _, _ => .no
    else .no
  | _ => .no) := rfl
@[simp] theorem ev_sPutK (fv fo fi : Den) (ss0 : List Slot) (n0 t0 : Nat) : Fv.sPutK fv fo fi (⟨ss0, n0, t0⟩ : ES) = (keepE (dFz fv (⟨ss0, n0, t0⟩ : ES)) fun o st1 => onE (fo st1) fun r0 st2 => match r0 with
  | .pl j p => onE (fi st2) fun ri st3 => if keep (.pl j p) st2 st3 = true then match hereM st3 j p, pk st3 ri with
      | some (.dic kvs), some d => match d.key with
        | some k => if kvs.length < 90000 then .nx (setAt st3 j p (.dic (putM k (.dp o.toD) kvs))) else .no
        | none => .no
      | _, _ => .no
    else .no
  | _ => .no) := rfl
@[simp] theorem ev_sDelK (fo fi : Den) (ss0 : List Slot) (n0 t0 : Nat) : Fv.sDelK fo fi (⟨ss0, n0, t0⟩ : ES) = (onE (fo (⟨ss0, n0, t0⟩ : ES)) fun r0 st2 => match r0 with
  | .pl j p => onE (fi st2) fun ri st3 => if keep (.pl j p) st2 st3 = true then match hereM st3 j p, pk st3 ri with
      | some (.dic kvs), some d => match d.key with
        | some k => if (kvs.any fun kv => decide (kv.1 = k)) = true then .nx (setAt st3 j p (.dic (kvs.filter fun kv => decide (kv.1 ≠ k)))) else .no
        | none => .no
      | _, _ => .no
    else .no
  | _ => .no) := rfl
@[simp] theorem ev_dOpN (w : ES → RV → Option D) (g : Nat → List D → Option O) (fs : List Den) (ss0 : List Slot) (n0 t0 : Nat) : Fv.dOpN w g fs (⟨ss0, n0, t0⟩ : ES) = ((dArgs fs (⟨ss0, n0, t0⟩ : ES)).bind fun rvs st' => match vws w st' rvs with
  | some ds => match g st'.n ds with
    | some o => .ok (.va o) st'
    | none => .no
  | none => .no) := rfl
@[simp] theorem ev_dIxP (fa fb : Den) (ss0 : List Slot) (n0 t0 : Nat) : Fv.dIxP fa fb (⟨ss0, n0, t0⟩ : ES) = ((dArgs [fa, fb] (⟨ss0, n0, t0⟩ : ES)).bind fun rvs st2 => match rvs with
  | [.pl i p, ri] => match here st2 i p, pk st2 ri with
    | some (.lst os), some (.int k) => match ixN os.length k with
      | some q => match os[q]? with
        | some (.dp d) => .ok (.va (.dp d)) st2
        | some _ => .ok (.pl i (p ++ [.idx q])) st2
        | none => .no
      | none => .no
    | _, _ => .no
  | _ => .no) := rfl
@[simp] theorem ev_sParO (i j : Nat) (fs : List Den) (ss0 : List Slot) (n0 t0 : Nat) : Fv.sParO i j fs (⟨ss0, n0, t0⟩ : ES) = (keepEs (dArgs fs (⟨ss0, n0, t0⟩ : ES)) fun os st2 => match os with
  | [o, u] => if free st2.ss[i]? = true ∧ free (put st2 i o).ss[j]? = true then .nx (put (put st2 i o) j u) else .no
  | _ => .no) := rfl
@[simp] theorem ev_sPar3 (i j l : Nat) (fs : List Den) (ss0 : List Slot) (n0 t0 : Nat) : Fv.sPar3 i j l fs (⟨ss0, n0, t0⟩ : ES) = (keepEs (dArgs fs (⟨ss0, n0, t0⟩ : ES)) fun os st2 => match os with
  | [o, u, w] => if free st2.ss[i]? = true ∧ free (put st2 i o).ss[j]? = true ∧ free (put (put st2 i o) j u).ss[l]? = true then .nx (put (put (put st2 i o) j u) l w) else .no
  | _ => .no) := rfl
@[simp] theorem ev_sAug (i : Nat) (f : Int → Int → Int) (fe : Den) (ss0 : List Slot) (n0 t0 : Nat) : Fv.sAug i f fe (⟨ss0, n0, t0⟩ : ES) = (match (⟨ss0, n0, t0⟩ : ES).ss[i]? with
  | some (.ow (.dp (.int m))) => onE (fe (⟨ss0, n0, t0⟩ : ES)) fun rv st1 => match pk st1 rv with
    | some (.int n) => if free st1.ss[i]? = true then .nx (put st1 i (.dp (.int (f m n)))) else .no
    | _ => .no
  | _ => .no) := rfl
@[simp] theorem ev_dUp (fo : Den) (ss0 : List Slot) (n0 t0 : Nat) : Fv.dUp fo (⟨ss0, n0, t0⟩ : ES) = ((fo (⟨ss0, n0, t0⟩ : ES)).bind fun r0 st1 => match pk st1 r0 with
  | some (.str a) => if a.length ≤ 1000 then .ok (.va (.dp (.str (Txt.upper a)))) st1 else .no
  | _ => .no) := rfl
@[simp] theorem ev_sFrz (i : Nat) (f : SDen) (ss0 : List Slot) (n0 t0 : Nat) : Fv.sFrz i f (⟨ss0, n0, t0⟩ : ES) = (match f (⟨ss0, n0, t0⟩ : ES) with
  | .nx st' => .nx (frzAt i st')
  | r => r) := rfl
@[simp] theorem ev_dAdd (fa fb : Den) (ss0 : List Slot) (n0 t0 : Nat) : dAdd fa fb (⟨ss0, n0, t0⟩ : ES) = dOp vw gAdd [fa, fb] (⟨ss0, n0, t0⟩ : ES) := rfl
@[simp] theorem ev_dSub (fa fb : Den) (ss0 : List Slot) (n0 t0 : Nat) : dSub fa fb (⟨ss0, n0, t0⟩ : ES) = dOp vw (gI fun i j => some (i - j)) [fa, fb] (⟨ss0, n0, t0⟩ : ES) := rfl
@[simp] theorem ev_dMul (fa fb : Den) (ss0 : List Slot) (n0 t0 : Nat) : dMul fa fb (⟨ss0, n0, t0⟩ : ES) = dOp vw gMul [fa, fb] (⟨ss0, n0, t0⟩ : ES) := rfl
@[simp] theorem ev_dDiv (fa fb : Den) (ss0 : List Slot) (n0 t0 : Nat) : dDiv fa fb (⟨ss0, n0, t0⟩ : ES) = dOp vw (gI fun i j => if 0 < j ∧ j.natAbs.log2 < 9000 then some (i / j) else none) [fa, fb] (⟨ss0, n0, t0⟩ : ES) := rfl
@[simp] theorem ev_dMod (fa fb : Den) (ss0 : List Slot) (n0 t0 : Nat) : dMod fa fb (⟨ss0, n0, t0⟩ : ES) = dOp vw (gI fun i j => if 0 < j then some (i % j) else none) [fa, fb] (⟨ss0, n0, t0⟩ : ES) := rfl
@[simp] theorem ev_dPow (fa fb : Den) (ss0 : List Slot) (n0 t0 : Nat) : dPow fa fb (⟨ss0, n0, t0⟩ : ES) = dOp vw gPow [fa, fb] (⟨ss0, n0, t0⟩ : ES) := rfl
@[simp] theorem ev_dCmp (g : List D → Option O) (fa fb : Den) (ss0 : List Slot) (n0 t0 : Nat) : dCmp g fa fb (⟨ss0, n0, t0⟩ : ES) = dOp pk g [fa, fb] (⟨ss0, n0, t0⟩ : ES) := rfl
@[simp] theorem ev_dIx (fa fb : Den) (ss0 : List Slot) (n0 t0 : Nat) : dIx fa fb (⟨ss0, n0, t0⟩ : ES) = dOp vw (gor gIx gDget) [fa, fb] (⟨ss0, n0, t0⟩ : ES) := rfl
@[simp] theorem ev_dRev (fa : Den) (ss0 : List Slot) (n0 t0 : Nat) : dRev fa (⟨ss0, n0, t0⟩ : ES) = dOp vw gRev [fa] (⟨ss0, n0, t0⟩ : ES) := rfl
@[simp] theorem ev_itU (f : Den) (ss0 : List Slot) (n0 t0 : Nat) : itU f (⟨ss0, n0, t0⟩ : ES) = itV (kOr kLst (kOr kTup kStr)) f (⟨ss0, n0, t0⟩ : ES) := rfl
@[simp] theorem ev_callRV (m : Fn) (ms : List AM) (rvs : List RV) (ss0 : List Slot) (n0 t0 : Nat) : callRV m ms rvs (⟨ss0, n0, t0⟩ : ES) = ((pass1 ms rvs (⟨ss0, n0, t0⟩ : ES)).bind fun rvs st2 => match mkSlots st2 ms rvs with
  | none => .no
  | some args => if okM ms rvs = true then match m args st2.n with
      | .ok o bs n => .ok (.va o) (back st2 (muts ms rvs 0) bs n)
      | .ex C g d bs n => .ex C g d (back st2 (muts ms rvs 0) bs n)
      | .no => .no
    else .no) := rfl
@[simp] theorem ev_dArgs0 (ss0 : List Slot) (n0 t0 : Nat) : dArgs [] (⟨ss0, n0, t0⟩ : ES) = .ok [] (⟨ss0, n0, t0⟩ : ES) := rfl
@[simp] theorem ev_dArgs (f : Den) (fs : List Den) (ss0 : List Slot) (n0 t0 : Nat) : dArgs (f :: fs) (⟨ss0, n0, t0⟩ : ES) = ((f (⟨ss0, n0, t0⟩ : ES)).bind fun rv st1 => (dArgs fs st1).bind fun rvs st2 => if keep rv st1 st2 = true then .ok (rv :: rvs) st2 else .no) := rfl
@[simp] theorem ev_keepE (x : Out RV) (k : O → ES → SOut) : keepE x k = onE x fun rv st1 => onE (Fv.settle rv st1) k := rfl
def retF (np : Nat) : SOut → FRes
  | .nx st => if np ≤ st.ss.length then .ok (.dp .non) (fin np st.ss) st.n else .no
  | .rt (.va o) st => if np ≤ st.ss.length then .ok o (fin np st.ss) st.n else .no
  | .rt (.pl i []) st => match st.ss[i]? with
    | some (.ow o) => if np ≤ st.ss.length then .ok o (fin np st.ss) st.n else .no
    | _ => .no
  | .ex C g d st => if np ≤ st.ss.length then .ex C g d (fin np st.ss) st.n else .no
  | _ => .no
@[simp] theorem retF_nx (np : Nat) (ss : List Slot) (n t : Nat) : retF np (.nx ⟨ss, n, t⟩) = if np ≤ ss.length then .ok (.dp .non) (fin np ss) n else .no := rfl
@[simp] theorem retF_va (np : Nat) (o : O) (ss : List Slot) (n t : Nat) : retF np (.rt (.va o) ⟨ss, n, t⟩) = if np ≤ ss.length then .ok o (fin np ss) n else .no := rfl
@[simp] theorem retF_pl (np i : Nat) (ss : List Slot) (n t : Nat) : retF np (.rt (.pl i []) ⟨ss, n, t⟩) = match ss[i]? with
    | some (.ow o) => if np ≤ ss.length then .ok o (fin np ss) n else .no
    | _ => .no := rfl
@[simp] theorem retF_ex (np : Nat) (C : Addr) (g : Str) (d : D) (ss : List Slot) (n t : Nat) : retF np (.ex C g d ⟨ss, n, t⟩) = if np ≤ ss.length then .ex C g d (fin np ss) n else .no := rfl
@[simp] theorem ev_runFn (np nl : Nat) (body : SDen) (args : List Slot) (n : Nat) : runFn np nl body args n = if args.length = np then retF np (body ⟨args ++ List.replicate nl .un, n, 0⟩) else .no := by
  unfold runFn retF
  rfl
@[simp] theorem g_add (i j : Int) : gAdd [.int i, .int j] = some (.dp (.int (i + j))) := rfl
@[simp] theorem g_addS (i j : Str) : gAdd [.str i, .str j] = if i.length + j.length ≤ 100000 then some (.dp (.str (i ++ j))) else none := by
  show (match gSadd [.str i, .str j] with | some o => some o | none => _) = _
  simp only [gSadd]
  split <;> rename_i h
  · rw [← h]
  · split at h
    · cases h
    · rename_i hn; rw [if_neg hn]; rfl
@[simp] theorem g_addL (i j : List D) : gAdd [.lst i, .lst j] = if i.length + j.length ≤ 100000 then some (.lst (dps (i ++ j))) else none := by
  show (match gCat [.lst i, .lst j] with | some o => some o | none => _) = _
  simp only [gCat]
  split <;> rename_i h
  · rw [← h]
  · split at h
    · cases h
    · rename_i hn; rw [if_neg hn]; rfl
@[simp] theorem g_I (f : Int → Int → Option Int) (i j : Int) : gI f [.int i, .int j] = (f i j).map fun k => .dp (.int k) := rfl
@[simp] theorem g_le (i j : Int) : gLe [.int i, .int j] = some (.dp (.bl (decide (i ≤ j)))) := rfl
@[simp] theorem g_gt (i j : Int) : gGt [.int i, .int j] = some (.dp (.bl (decide (j < i)))) := rfl
@[simp] theorem g_ge (i j : Int) : gGe [.int i, .int j] = some (.dp (.bl (decide (j ≤ i)))) := rfl
@[simp] theorem g_leS (i j : Str) : gLe [.str i, .str j] = some (.dp (.bl (!decide (j.cps.toList < i.cps.toList)))) := rfl
@[simp] theorem g_mul (i j : Int) : gMul [.int i, .int j] = if i.natAbs.log2 + j.natAbs.log2 < 1000000 then some (.dp (.int (i * j))) else none := by
  show (match gMulI [.int i, .int j] with | some o => some o | none => none) = _
  simp only [gMulI, g_I]
  split <;> rename_i h
  · rw [← h]; split <;> simp
  · split at h <;> simp_all
@[simp] theorem g_ixL (ds : List D) (i : Int) : gor gIx gDget [.lst ds, .int i] = (atI ds i).map .dp := by
  show (match (atI ds i).map O.dp with | some o => some o | none => none) = _
  cases atI ds i <;> rfl
@[simp] theorem g_ixT (ds : List D) (i : Int) : gor gIx gDget [.tup ds, .int i] = (atI ds i).map .dp := by
  show (match (atI ds i).map O.dp with | some o => some o | none => none) = _
  cases atI ds i <;> rfl
@[simp] theorem g_ixS (z : Str) (i : Int) (h : z.length ≤ 100000) : gor gIx gDget [.str z, .int i] = (atI z.cps.toList i).map fun c => .dp (.str ⟨#[c]⟩) := by
  show (match (if z.length ≤ 100000 then _ else none : Option O) with | some o => some o | none => none) = _
  rw [if_pos h]
  cases atI z.cps.toList i <;> rfl
@[simp] theorem g_ixD (kvs : List (Key × D)) (s : Str) : gor gIx gDget [.dic kvs, .str s] = (getD_ kvs (.inr s)).map .dp := by
  show (match (none : Option O) with | some o => some o | none => _) = _
  rfl
theorem ix0 {α : Type} (x : α) (xs : List α) : atI (x :: xs) 0 = some x := by
  unfold atI ixN
  simp
theorem ix1 {α : Type} (x y : α) (xs : List α) : atI (x :: y :: xs) 1 = some y := by
  unfold atI ixN
  rw [if_pos (by decide), if_pos (by simp only [List.length_cons]; omega)]
  rfl
theorem ix2 {α : Type} (x y z : α) (xs : List α) : atI (x :: y :: z :: xs) 2 = some z := by
  unfold atI ixN
  rw [if_pos (by decide), if_pos (by simp only [List.length_cons]; omega)]
  rfl
theorem ix_nat {α : Type} {xs : List α} {i : Nat} (h : i < xs.length) : atI xs (i : Int) = xs[i]? := by
  unfold atI ixN
  simp [h]
@[simp] theorem settle_va (o : O) (st : ES) : Fv.settle (.va o) st = .ok o st := rfl
@[simp] theorem settle_pl (i : Nat) (ss : List Slot) (n t : Nat) : Fv.settle (.pl i []) ⟨ss, n, t⟩ = match ss[i]? with
  | some (.ow o) => .ok (.dp o.toD) ⟨ss.set i (.ow (.dp o.toD)), n, t + 1⟩
  | _ => .no := rfl
@[simp] theorem keep_va (o : O) (st st' : ES) : keep (.va o) st st' = true := rfl
@[simp] theorem keep_nil (i : Nat) (st st' : ES) : keep (.pl i []) st st' = true := rfl
@[simp] theorem keep_cons (i : Nat) (s : Stp) (p : List Stp) (ss n t ss' n' t') : keep (.pl i (s :: p)) ⟨ss, n, t⟩ ⟨ss', n', t'⟩ = (t' == t) := rfl
@[simp] theorem vw_va (o : O) (st : ES) : vw st (.va o) = some o.toD := rfl
@[simp] theorem vw_pl (ss n t i p) : vw ⟨ss, n, t⟩ (.pl i p) = match here ⟨ss, n, t⟩ i p with
    | some o => if o.flat = true then some o.toD else none
    | none => none := rfl
@[simp] theorem pk_va (o : O) (st : ES) : pk st (.va o) = some o.toD := rfl
@[simp] theorem pk_pl (ss n t i p) : pk ⟨ss, n, t⟩ (.pl i p) = match here ⟨ss, n, t⟩ i p with
    | some o => some o.toD
    | none => none := rfl
@[simp] theorem here_mk (ss n t i p) : here ⟨ss, n, t⟩ i p = match ss[i]? with
  | some s => match s.o? with
    | some o => o.get p
    | none => none
  | none => none := rfl
@[simp] theorem hereM_mk (ss n t i p) : hereM ⟨ss, n, t⟩ i p = match ss[i]? with
  | some (.ow o) => o.get p
  | some (.mu o) => o.get p
  | _ => none := rfl
@[simp] theorem mkSlot_val (st : ES) (o : O) : mkSlot st .val (.va o) = some (.ow o) := rfl
@[simp] theorem mkSlot_len (st : ES) (o : O) : mkSlot st .len (.va o) = some (.ow o) := rfl
@[simp] theorem mkSlot_lenP (ss n t i p) : mkSlot ⟨ss, n, t⟩ .len (.pl i p) = (here ⟨ss, n, t⟩ i p).map .bo := rfl
@[simp] theorem mkSlot_chg (ss n t i p) : mkSlot ⟨ss, n, t⟩ .chg (.pl i p) = match ss[i]? with
    | some (.ow o) => (o.get p).map .mu
    | some (.mu o) => (o.get p).map .mu
    | _ => none := rfl
@[simp] theorem ev_keepEs (x : Out (List RV)) (k : List O → ES → SOut) : keepEs x k = onE x fun rvs st1 => onE (settles rvs st1) k := rfl
@[simp] theorem g_inO (C m f n x i fs) : gInO C m f n [x, .obj C i fs] = match m (owA [.obj C i fs, x]) n with
      | .ok (.dp (.bl b)) _ _ => some (.dp (.bl (f b)))
      | _ => none := by first | (simp [gInO]; done) | (simp [gInO]; rfl)
@[simp] theorem g_ixO (C m n x i fs) : gIxO C m n [.obj C i fs, x] = match m (owA [.obj C i fs, x]) n with
      | .ok (.dp r) _ _ => if r.isAtom = true then some (.dp r) else none
      | _ => none := by first | (simp [gIxO]; done) | (simp [gIxO]; rfl)
@[simp] theorem g_eqO (C m f n j i fs gs) : gEqO C m f n [.obj C i fs, .obj C j gs] = match m (owA [.obj C i fs, .obj C j gs]) n with
      | .ok (.dp (.bl b)) _ _ => some (.dp (.bl (f b)))
      | _ => none := by first | (simp [gEqO]; done) | (simp [gEqO]; rfl)
@[simp] theorem frz_mk (i ss n t) : frzAt i ⟨ss, n, t⟩ = match ss[i]? with
  | some (.ow o) => ⟨ss.set i (.ow (.dp o.toD)), n, t + 1⟩
  | _ => ⟨ss, n, t⟩ := rfl
@[simp] theorem ev_dNeg (f : Den) (ss n t) : dNeg f ⟨ss, n, t⟩ = dOp vw gNeg [f] ⟨ss, n, t⟩ := rfl
@[simp] theorem free_un : free (some .un) = true := rfl
@[simp] theorem free_ow (o : O) : free (some (.ow o)) = true := rfl
@[simp] theorem free_bo (o : O) : free (some (.bo o)) = true := rfl
@[simp] theorem free_mu (o : O) : free (some (.mu o)) = false := rfl
@[simp] theorem put_mk (ss n t i o) : Fv.put ⟨ss, n, t⟩ i o = ⟨ss.set i (.ow o), n, t⟩ := rfl
@[simp] theorem setAt_mk (ss n t i p o) : setAt ⟨ss, n, t⟩ i p o = ⟨ss.mapIdx fun j s => if j = i then s.upd p o else s, n, t + 1⟩ := rfl
@[simp] theorem wipeS_mk (ss n t vs) : wipeS ⟨ss, n, t⟩ vs = ⟨ss.mapIdx fun i s => if i ∈ vs then .un else s, n, t⟩ := rfl
@[simp] theorem unwipe_mk (ss n t ss' n' t' vs) : unwipe ⟨ss, n, t⟩ ⟨ss', n', t'⟩ vs = ⟨ss'.mapIdx fun i s => if i ∈ vs then ss.getD i .un else s, n', t + 1⟩ := rfl
@[simp] theorem o_un : Slot.o? .un = none := rfl
@[simp] theorem o_ow (o : O) : Slot.o? (.ow o) = some o := rfl
@[simp] theorem o_bo (o : O) : Slot.o? (.bo o) = some o := rfl
@[simp] theorem o_mu (o : O) : Slot.o? (.mu o) = some o := rfl
@[simp] theorem upd_ow (o : O) (p o2) : Slot.upd (.ow o) p o2 = .ow (o.put p o2) := rfl
@[simp] theorem upd_mu (o : O) (p o2) : Slot.upd (.mu o) p o2 = .mu (o.put p o2) := rfl
@[simp] theorem upd_un (p o2) : Slot.upd .un p o2 = .un := rfl
@[simp] theorem upd_bo (o : O) (p o2) : Slot.upd (.bo o) p o2 = .bo o := rfl
@[simp] theorem muO_mu (o : O) : Slot.muO (some (.mu o)) = some o := rfl
@[simp] theorem back_nil (ss n t bs n') : back ⟨ss, n, t⟩ [] bs n' = ⟨ss, n', t⟩ := by
  show (⟨ss.mapIdx fun i s => s, n', t⟩ : ES) = _
  have e : (ss.mapIdx fun i s => s) = ss := by
    apply List.ext_getElem? ; intro i; simp
  rw [e]
@[simp] theorem back_cons (ss n t q pl bs n') : back ⟨ss, n, t⟩ (q :: pl) bs n' = ⟨ss.mapIdx fun i s => back1 (q :: pl) bs i s, n', t + 1⟩ := rfl
@[simp] theorem fin_0 (ss) : fin 0 ss = [] := rfl
@[simp] theorem fin_mu (np o ss) : fin (np + 1) (.mu o :: ss) = .mu o :: fin np ss := rfl
@[simp] theorem fin_ow (np o ss) : fin (np + 1) (.ow o :: ss) = .un :: fin np ss := rfl
@[simp] theorem fin_bo (np o ss) : fin (np + 1) (.bo o :: ss) = .un :: fin np ss := rfl
@[simp] theorem fin_un (np ss) : fin (np + 1) (.un :: ss) = .un :: fin np ss := rfl
@[simp] theorem flat_dp (d : D) : O.flat (.dp d) = true := rfl
@[simp] theorem flat_lst (os : List O) : O.flat (.lst os) = os.all O.isD := rfl
@[simp] theorem flat_dic (os) : O.flat (.dic os) = os.all fun p => p.2.isD := rfl
@[simp] theorem flat_obj (C m os) : O.flat (.obj C m os) = os.all fun p => p.2.isD := rfl
@[simp] theorem isD_dp (d : D) : O.isD (.dp d) = true := rfl
@[simp] theorem isD_lst (d) : O.isD (.lst d) = false := rfl
@[simp] theorem isD_dic (d) : O.isD (.dic d) = false := rfl
@[simp] theorem isD_obj (C m d) : O.isD (.obj C m d) = false := rfl
@[simp] theorem g_lenL (ds) : gLen [.lst ds] = some (.dp (.int ds.length)) := rfl
@[simp] theorem g_lenT (ds) : gLen [.tup ds] = some (.dp (.int ds.length)) := rfl
@[simp] theorem g_lenR (ds) : gLen [.scr ds] = some (.dp (.int ds.length)) := rfl
@[simp] theorem g_lenK (ds) : gLen [.dic ds] = some (.dp (.int ds.length)) := rfl
@[simp] theorem g_lenS (z) : gLen [.str z] = if z.length ≤ 100000 then some (.dp (.int z.length)) else none := rfl
@[simp] theorem g_intI (i) : gInt [.int i] = some (.dp (.int i)) := rfl
@[simp] theorem g_intB (b) : gInt [.bl b] = some (.dp (.int (if b then 1 else 0))) := rfl
@[simp] theorem g_listL (ds) : gList [.lst ds] = some (.lst (dps ds)) := rfl
@[simp] theorem g_listT (ds) : gList [.tup ds] = some (.lst (dps ds)) := rfl
@[simp] theorem g_tuple (ds) : gTuple [.lst ds] = some (.dp (.tup ds)) := rfl
@[simp] theorem g_sum (ds) : gSum [.lst ds] = (asInts ds).map fun ns => .dp (.int ns.sum) := rfl
@[simp] theorem g_sumR (ns) : gSum [.scr ns] = some (.dp (.int ns.sum)) := rfl
@[simp] theorem g_all (ds) : gAll [.lst ds] = (asBls ds).map fun bs => .dp (.bl (bs.all id)) := rfl
@[simp] theorem g_any (ds) : gAny [.lst ds] = (asBls ds).map fun bs => .dp (.bl (bs.any id)) := rfl
@[simp] theorem g_is (f d) : gIs f [d, .non] = some (.dp (.bl (f d.isNon))) := rfl
@[simp] theorem isNon_non : D.isNon .non = true := rfl
@[simp] theorem isNon_int (i) : D.isNon (.int i) = false := rfl
@[simp] theorem isNon_lst (i) : D.isNon (.lst i) = false := rfl
@[simp] theorem isNon_str (i) : D.isNon (.str i) = false := rfl
@[simp] theorem isNon_obj (C m i) : D.isNon (.obj C m i) = false := rfl
@[simp] theorem g_dinS (f x kvs) : gDin f [.str x, .dic kvs] = some (.dp (.bl (f (getD_ kvs (.inr x)).isSome))) := rfl
@[simp] theorem g_dinI (f x kvs) : gDin f [.int x, .dic kvs] = some (.dp (.bl (f (getD_ kvs (.inl x)).isSome))) := rfl
@[simp] theorem key_str (s) : D.key (.str s) = some (.inr s) := rfl
@[simp] theorem key_int (s) : D.key (.int s) = some (.inl s) := rfl
@[simp] theorem kU_lst (ds) : kOr kLst (kOr kTup kStr) (.lst ds) = some ds := rfl
@[simp] theorem kU_tup (ds) : kOr kLst (kOr kTup kStr) (.tup ds) = some ds := rfl
@[simp] theorem kU_str (z) : kOr kLst (kOr kTup kStr) (.str z) = if z.length ≤ 100000 then some (z.cps.toList.map fun c => .str ⟨#[c]⟩) else none := by
  show (match (none : Option (List D)) with | some x => some x | none => match (none : Option (List D)) with | some x => some x | none => kStr (.str z)) = _
  rfl
@[simp] theorem kZ_lst (a b) : kkOr kZipL kZipT [.lst a, .lst b] = some (zipD a b) := rfl
@[simp] theorem kZ_tup (a b) : kkOr kZipL kZipT [.tup a, .tup b] = some (zipD a b) := rfl
@[simp] theorem kR1_int (j : Int) : kR1 [.int j] = if -(2 ^ 62) ≤ j ∧ j < 2 ^ 62 then some ((List.range j.toNat).map fun i : Nat => .int (i : Int)) else none := rfl
@[simp] theorem g_neg (i : Int) : gNeg [.int i] = some (.dp (.int (-i))) := rfl
@[simp] theorem isi_int (tab b) (i : Int) : isi1 tab (.ty b) (.int i) = kitB "int" b := rfl
@[simp] theorem isi_bl (tab b i) : isi1 tab (.ty b) (.bl i) = kitB "bool" b := rfl
@[simp] theorem isi_non (tab b) : isi1 tab (.ty b) .non = kitB "NoneType" b := rfl
@[simp] theorem isi_str (tab b i) : isi1 tab (.ty b) (.str i) = kitB "str" b := rfl
@[simp] theorem isi_lst (tab b i) : isi1 tab (.ty b) (.lst i) = kitB "list" b := rfl
@[simp] theorem isi_tup (tab b i) : isi1 tab (.ty b) (.tup i) = kitB "tuple" b := rfl
@[simp] theorem isi_dic (tab b i) : isi1 tab (.ty b) (.dic i) = kitB "dict" b := rfl
@[simp] theorem isi_objT (tab b C m f) : isi1 tab (.ty b) (.obj C m f) = if C ∈ tab then some false else none := rfl
@[simp] theorem isi_objO (tab E C m f) : isi1 tab (.own E) (.obj C m f) = if C ∈ tab then some (decide (C = E)) else none := rfl
@[simp] theorem isi_strO (tab E s) : isi1 tab (.own E) (.str s) = some false := rfl
@[simp] theorem isi_intO (tab E) (s : Int) : isi1 tab (.own E) (.int s) = some false := rfl
@[simp] theorem bnd_none (ss n t) : bnd none ⟨ss, n, t⟩ = .ok none ⟨ss, n, t⟩ := rfl
@[simp] theorem bnd_some (f ss n t) : bnd (some f) ⟨ss, n, t⟩ = (f ⟨ss, n, t⟩).bind fun rv st' => match rv with
    | .va (.dp (.int i)) => .ok (some i) st'
    | _ => .no := rfl
@[simp] theorem tgS_nm (i d ss n t) : tgS (.nm i) d ⟨ss, n, t⟩ = if free ss[i]? = true then some (Fv.put ⟨ss, n, t⟩ i (.dp d)) else none := rfl
@[simp] theorem tgS_tp (ts ds ss n t) : tgS (.tp ts) (.tup ds) ⟨ss, n, t⟩ = tgSs ts ds ⟨ss, n, t⟩ := rfl
@[simp] theorem tgSs_nil (ss n t) : tgSs [] [] ⟨ss, n, t⟩ = some ⟨ss, n, t⟩ := rfl
@[simp] theorem tgSs_cons (a ts d ds ss n t) : tgSs (a :: ts) (d :: ds) ⟨ss, n, t⟩ = match tgS a d ⟨ss, n, t⟩ with
      | some st1 => tgSs ts ds st1
      | none => none := rfl
def lcK (tg : Tg) (tt : ES → Out Bool) (fe : Den) (vs : List Nat) (ds : List D) (st1 : ES) : Out RV := if ds.length ≤ 90000 then match loopC tg tt fe vs ds (wipeS st1 vs) [] with
  | some (os, st3) => .ok (.va (.lst os)) (unwipe st1 st3 vs)
  | none => .no
  else .no
@[simp] theorem ev_lc (it tg tt fe vs ss n t) : dLc it tg tt fe vs ⟨ss, n, t⟩ = (it ⟨ss, n, t⟩).bind (lcK tg tt fe vs) := rfl
def lcK2 (tg : Tg) (tt : ES → Out Bool) (it1 : ES → Out (List D)) (tg1 : Tg) (tt1 : ES → Out Bool) (fe : Den) (vs vs1 : List Nat) (ds : List D) (st1 : ES) : Out RV := match loopC2 tg tt it1 tg1 tt1 fe vs vs1 ds (wipeS st1 vs) [] with
  | some (os, st3) => if os.length ≤ 90000 then .ok (.va (.lst os)) (unwipe st1 st3 vs) else .no
  | none => .no
@[simp] theorem ev_lc2 (it tg tt it1 tg1 tt1 fe vs vs1 ss n t) : dLc2 it tg tt it1 tg1 tt1 fe vs vs1 ⟨ss, n, t⟩ = (it ⟨ss, n, t⟩).bind (lcK2 tg tt it1 tg1 tt1 fe vs vs1) := rfl
@[simp] theorem ev_for (it tg body ss n t) : sFor it tg body ⟨ss, n, t⟩ = onE (it ⟨ss, n, t⟩) (loopS body tg) := rfl
/-- a value, what is held after it -/
def OkT (x : Out RV) (o : O) (ss : List Slot) (n : Nat) : Prop := ∃ t', x = .ok (.va o) ⟨ss, n, t'⟩
def OkB (x : Out Bool) (o : Bool) (ss : List Slot) (n : Nat) : Prop := ∃ t', x = .ok o ⟨ss, n, t'⟩
@[simp] theorem okT (o' o ss' ss n' n t) : OkT (.ok (.va o') ⟨ss', n', t⟩) o ss n ↔ o' = o ∧ ss' = ss ∧ n' = n := ⟨fun ⟨t', e⟩ => by cases e; exact ⟨rfl, rfl, rfl⟩, fun ⟨a, b, c⟩ => by subst a b c; exact ⟨t, rfl⟩⟩
@[simp] theorem okB (o' o ss' ss n' n t) : OkB (.ok o' ⟨ss', n', t⟩) o ss n ↔ o' = o ∧ ss' = ss ∧ n' = n := ⟨fun ⟨t', e⟩ => by cases e; exact ⟨rfl, rfl, rfl⟩, fun ⟨a, b, c⟩ => by subst a b c; exact ⟨t, rfl⟩⟩
/-- a statement goes on -/
def OkS (x : SOut) (ss : List Slot) (n : Nat) : Prop := ∃ t', x = .nx ⟨ss, n, t'⟩ ∨ x = .ct ⟨ss, n, t'⟩
@[simp] theorem okS (ss' ss n' n t) : OkS (.nx ⟨ss', n', t⟩) ss n ↔ ss' = ss ∧ n' = n := ⟨fun ⟨t', e⟩ => by rcases e with e | e <;> cases e; exact ⟨rfl, rfl⟩, fun ⟨a, b⟩ => by subst a b; exact ⟨t, .inl rfl⟩⟩
theorem lc_nm {α : Type} {fe : Den} {i : Nat} {ss ws : List Slot} {n t : Nat} {ds : List D} (xs : List α) (g : α → D) (f : α → O) (hds : ds = xs.map g) (hz : xs.length ≤ 90000) (h0 : ∀ t, wipeS ⟨ss, n, t⟩ [i] = ⟨ws, n, t⟩) (hf : free ws[i]? = true)
    (hw : ∀ o t, wipeS ⟨ws.set i (.ow (.dp o)), n, t⟩ [i] = ⟨ws, n, t⟩) (hu : ∀ t t', unwipe ⟨ss, n, t⟩ ⟨ws, n, t'⟩ [i] = ⟨ss, n, t + 1⟩) (h : ∀ x ∈ xs, ∀ t, OkT (fe ⟨ws.set i (.ow (.dp (g x))), n, t⟩) (f x) (ws.set i (.ow (.dp (g x)))) n) :
    lcK (.nm i) tYs fe [i] ds ⟨ss, n, t⟩ = .ok (.va (.lst (xs.map f))) ⟨ss, n, t + 1⟩ := by
  subst hds
  obtain ⟨t', e⟩ := loopC_map (tg := .nm i) (fe := fe) (vs := [i]) (n := n) (ws := ws) g f (xs := xs) (fun x hx t => by
    obtain ⟨t', e⟩ := h x hx t
    refine ⟨⟨ws.set i (.ow (.dp (g x))), n, t⟩, _, _, _, t', ?_, e, rfl, hw _ _⟩
    show (if free ws[i]? = true then some (put ⟨ws, n, t⟩ i (.dp (g x))) else none) = _
    rw [if_pos hf]
    rfl) t []
  unfold lcK
  rw [if_pos (by rw [List.length_map]; exact hz), h0, e]
  show Out.ok _ (unwipe _ _ _) = _
  rw [hu, List.nil_append]
/-- .. the targets a pair -/
theorem lc_tp {α : Type} {fe : Den} {i j : Nat} {ss ws : List Slot} {n t : Nat} {ds : List D} (xs : List α) (g g' : α → D) (f : α → O) (hds : ds = xs.map fun x => .tup [g x, g' x]) (hz : xs.length ≤ 90000) (h0 : ∀ t, wipeS ⟨ss, n, t⟩ [i, j] = ⟨ws, n, t⟩) (hf : free ws[i]? = true) (hf1 : ∀ o, free (ws.set i (.ow (.dp o)))[j]? = true)
    (hw : ∀ o o' t, wipeS ⟨(ws.set i (.ow (.dp o))).set j (.ow (.dp o')), n, t⟩ [i, j] = ⟨ws, n, t⟩) (hu : ∀ t t', unwipe ⟨ss, n, t⟩ ⟨ws, n, t'⟩ [i, j] = ⟨ss, n, t + 1⟩) (h : ∀ x ∈ xs, ∀ t, OkT (fe ⟨(ws.set i (.ow (.dp (g x)))).set j (.ow (.dp (g' x))), n, t⟩) (f x) ((ws.set i (.ow (.dp (g x)))).set j (.ow (.dp (g' x)))) n) :
    lcK (.tp [.nm i, .nm j]) tYs fe [i, j] ds ⟨ss, n, t⟩ = .ok (.va (.lst (xs.map f))) ⟨ss, n, t + 1⟩ := by
  subst hds
  obtain ⟨t', e⟩ := loopC_map (tg := .tp [.nm i, .nm j]) (fe := fe) (vs := [i, j]) (n := n) (ws := ws) (fun x => .tup [g x, g' x]) f (xs := xs) (fun x hx t => by
    obtain ⟨t', e⟩ := h x hx t
    refine ⟨⟨(ws.set i (.ow (.dp (g x)))).set j (.ow (.dp (g' x))), n, t⟩, _, _, _, t', ?_, e, rfl, hw _ _ _⟩
    simp [hf, hf1]) t []
  unfold lcK
  rw [if_pos (by rw [List.length_map]; exact hz), h0, e]
  show Out.ok _ (unwipe _ _ _) = _
  rw [hu, List.nil_append]
/-- .. with a test -/
theorem lc_if {α : Type} {tt : ES → Out Bool} {fe : Den} {i : Nat} {ss ws : List Slot} {n t : Nat} {ds : List D} (xs : List α) (g : α → D) (p : α → Bool) (f : α → O) (hds : ds = xs.map g) (hz : xs.length ≤ 90000) (h0 : ∀ t, wipeS ⟨ss, n, t⟩ [i] = ⟨ws, n, t⟩) (hf : free ws[i]? = true)
    (hw : ∀ o t, wipeS ⟨ws.set i (.ow (.dp o)), n, t⟩ [i] = ⟨ws, n, t⟩) (hu : ∀ t t', unwipe ⟨ss, n, t⟩ ⟨ws, n, t'⟩ [i] = ⟨ss, n, t + 1⟩) (ht : ∀ x ∈ xs, ∀ t, OkB (tt ⟨ws.set i (.ow (.dp (g x))), n, t⟩) (p x) (ws.set i (.ow (.dp (g x)))) n)
    (h : ∀ x ∈ xs, p x = true → ∀ t, OkT (fe ⟨ws.set i (.ow (.dp (g x))), n, t⟩) (f x) (ws.set i (.ow (.dp (g x)))) n) :
    lcK (.nm i) tt fe [i] ds ⟨ss, n, t⟩ = .ok (.va (.lst ((xs.filter p).map f))) ⟨ss, n, t + 1⟩ := by
  subst hds
  obtain ⟨t', e⟩ := loopC_pure (tg := .nm i) (tt := tt) (fe := fe) (vs := [i]) (n := n) (ws := ws) g p f (xs := xs) (fun x hx t => by
    obtain ⟨t1, e1⟩ := ht x hx t
    refine ⟨⟨ws.set i (.ow (.dp (g x))), n, t⟩, _, ?_, e1, fun hp => ?_, fun hp => ⟨t1, hw _ _⟩⟩
    · show (if free ws[i]? = true then some (put ⟨ws, n, t⟩ i (.dp (g x))) else none) = _
      rw [if_pos hf]
      rfl
    · obtain ⟨t', e⟩ := h x hx hp t1
      exact ⟨_, _, _, t', e, rfl, hw _ _⟩) t []
  unfold lcK
  rw [if_pos (by rw [List.length_map]; exact hz), h0, e]
  show Out.ok _ (unwipe _ _ _) = _
  rw [hu, List.nil_append]
theorem loop_inv {α : Type} {tg : Tg} {body : SDen} {ss : List Slot} {n t : Nat} {ds : List D} {L : SOut} (hL : loopS body tg ds ⟨ss, n, t⟩ = L) (xs : List α) (g : α → D) (I : List α → List Slot → Prop) (hds : ds = xs.map g) (hI : I [] ss)
    (h : ∀ zs x ws t, zs ++ [x] <+: xs → I zs ws → ∃ st1 ws', tgS tg (g x) ⟨ws, n, t⟩ = some st1 ∧ OkS (body st1) ws' n ∧ I (zs ++ [x]) ws') : ∃ ws' t', L = .nx ⟨ws', n, t'⟩ ∧ I xs ws' := by
  subst hds hL
  obtain ⟨ws', t2, e2, h2⟩ := loopS_inv (body := body) (tg := tg) (n := n) g I (xs := xs) (ys := []) (fun zs x ws t q a => by
    obtain ⟨st1, ws', e, ⟨t', e'⟩, b⟩ := h zs x ws t q a
    exact ⟨st1, ws', t', e, e', b⟩) hI t
  exact ⟨ws', t2, e2, h2⟩
end Fv
set_option Elab.async false
set_option linter.all false
set_option maxRecDepth 100000
set_option maxHeartbeats 1000000
namespace Fv
open PySem PySem.Spec PyProof.Rows L2 RkO Tm
theorem pys_map {α : Type} (g : α → D) (h : α → PyData) : ∀ {xs : List α}, (∀ x ∈ xs, (g x).py = some (h x)) → pys (xs.map g) = some (xs.map h)
  | [], _ => by simp [pys]
  | x :: xs, a => by
    simp [pys, a x List.mem_cons_self, pys_map g h (xs := xs) fun y hy => a y (List.mem_cons_of_mem _ hy)]
@[simp] theorem py_int (i : Int) : (D.int i).py = some (.int i) := by simp only [D.py]
@[simp] theorem py_str (i : Str) : (D.str i).py = some (.str i) := by simp only [D.py]
@[simp] theorem py_non : D.non.py = some .none := by simp only [D.py]
@[simp] theorem pys_nil : pys [] = some [] := by simp only [pys]
@[simp] theorem py_ints (xs : List Int) : (D.lst (xs.map D.int)).py = some (.list (xs.map PyData.int)) := by
  simp only [D.py, pys_map D.int PyData.int (xs := xs) fun _ _ => py_int _]
@[simp] theorem py_strs (xs : List Str) : (D.lst (xs.map D.str)).py = some (.list (xs.map PyData.str)) := by
  simp only [D.py, pys_map D.str PyData.str (xs := xs) fun _ _ => py_str _]
@[simp] theorem py_lnil : (D.lst []).py = some (.list []) := by simp only [D.py, pys]
theorem eqvAll_ints : ∀ xs ys : List Int, PyData.eqvAll (xs.map PyData.int) (ys.map PyData.int) = decide (xs = ys)
  | [], [] => by simp [PyData.eqvAll]
  | [], _ :: _ => by simp [PyData.eqvAll]
  | _ :: _, [] => by simp [PyData.eqvAll]
  | x :: xs, y :: ys => by
    simp only [List.map_cons, PyData.eqvAll, PyData.eqv, eqvAll_ints xs ys, List.cons.injEq]
    by_cases a : x = y <;> by_cases b : xs = ys <;> simp [a, b]
theorem lay_map {α : Type} (h : α → PyData) : ∀ {xs : List α}, (∀ x ∈ xs, (h x).canLay0 = true) → PyData.canLayAll0 (xs.map h) = true
  | [], _ => by simp [PyData.canLayAll0]
  | x :: xs, a => by
    simp [PyData.canLayAll0, a x List.mem_cons_self, lay_map h (xs := xs) fun y hy => a y (List.mem_cons_of_mem _ hy)]
theorem dep_map {α : Type} {N : Nat} (h : α → PyData) : ∀ {xs : List α}, (∀ x ∈ xs, (h x).depth ≤ N) → PyData.depthAll (xs.map h) ≤ N
  | [], _ => by simp [PyData.depthAll]
  | x :: xs, a => by
    have h1 := a x List.mem_cons_self
    have h2 := dep_map h (xs := xs) fun y hy => a y (List.mem_cons_of_mem _ hy)
    simp only [List.map_cons, PyData.depthAll]
    omega
@[simp] theorem shp_int (i : Int) : SeqAt.shaped (.int i) = true := by simp [SeqAt.shaped, PyData.canLay0, PyData.depth]
@[simp] theorem shp_non : SeqAt.shaped .none = true := by simp [SeqAt.shaped, PyData.canLay0, PyData.depth]
@[simp] theorem shp_lnil : SeqAt.shaped (.list []) = true := by simp [SeqAt.shaped, PyData.canLay0, PyData.depth, PyData.canLayAll0, PyData.depthAll]
theorem shp_str {x : Str} (h : PyData.strOk x = true) : SeqAt.shaped (.str x) = true := by simp [SeqAt.shaped, PyData.canLay0, PyData.depth, h]
@[simp] theorem shp_ints (xs : List Int) : SeqAt.shaped (.list (xs.map PyData.int)) = true := by
  have h1 := lay_map PyData.int (xs := xs) fun _ _ => by simp [PyData.canLay0]
  have h2 := dep_map (N := 0) PyData.int (xs := xs) fun _ _ => by simp [PyData.depth]
  simp only [SeqAt.shaped, PyData.canLay0, PyData.depth, h1, Bool.true_and]
  exact decide_eq_true (by omega)
@[simp] theorem g_eqI (f : Bool → Bool) (i j : Int) : gEqD f [.int i, .int j] = some (.dp (.bl (f (decide (i = j))))) := by
  simp [gEqD, PyData.eqv]
  rw [show (i == j) = decide (i = j) from by by_cases h : i = j <;> simp [h]]
theorem g_eqS (f : Bool → Bool) {i j : Str} (h1 : PyData.strOk i = true) (h2 : PyData.strOk j = true) : gEqD f [.str i, .str j] = some (.dp (.bl (f (decide (i = j))))) := by
  simp [gEqD, PyData.eqv, shp_str h1, shp_str h2]
  rw [show (i == j) = decide (i = j) from by by_cases h : i = j <;> simp [h]]
@[simp] theorem g_eqLI (f : Bool → Bool) (i j : List Int) : gEqD f [.lst (i.map D.int), .lst (j.map D.int)] = some (.dp (.bl (f (decide (i = j))))) := by
  simp [gEqD, PyData.eqv, eqvAll_ints]
theorem g_eqNil (f : Bool → Bool) {ds : List D} {p : PyData} (h : (D.lst ds).py = some p) (hs : SeqAt.shaped p = true) : gEqD f [.lst ds, .lst []] = some (.dp (.bl (f (ds.isEmpty)))) := by
  have e : PyData.eqv p (.list []) = ds.isEmpty := by
    simp only [D.py] at h
    cases e : pys ds with
    | none => rw [e] at h; cases h
    | some ps =>
      rw [e] at h
      cases h
      cases ds with
      | nil => simp only [pys] at e; cases e; simp [PyData.eqv, PyData.eqvAll]
      | cons d ds =>
        simp only [pys] at e
        cases e1 : d.py with
        | none => rw [e1] at e; cases e
        | some q =>
          rw [e1] at e
          cases e2 : pys ds with
          | none => rw [e2] at e; cases e
          | some qs => rw [e2] at e; cases e; simp [PyData.eqv, PyData.eqvAll]
  simp [gEqD, h, hs, e]
@[simp] theorem g_eqNilI (f : Bool → Bool) (xs : List Int) : gEqD f [.lst (xs.map D.int), .lst []] = some (.dp (.bl (f (xs.isEmpty)))) := by
  rw [g_eqNil f (py_ints xs) (shp_ints xs)]
  cases xs <;> rfl
@[simp] theorem flatVs_ints : ∀ xs : List Int, flatVs (xs.map D.int) = some (xs.map V.int)
  | [] => rfl
  | x :: xs => by simp [flatVs, D.flatV, flatVs_ints xs]
@[simp] theorem flatVs_strs : ∀ xs : List Str, flatVs (xs.map D.str) = some (xs.map V.str)
  | [] => rfl
  | x :: xs => by simp [flatVs, D.flatV, flatVs_strs xs]
@[simp] theorem inV_int (x : Int) (xs : List Int) : inV (.int x) (xs.map V.int) = decide (x ∈ xs) := by
  unfold inV
  rw [List.any_map, Bool.eq_iff_iff]
  simp [eqV]
@[simp] theorem inV_str (x : Str) (xs : List Str) : inV (.str x) (xs.map V.str) = decide (x ∈ xs) := by
  unfold inV
  rw [List.any_map, Bool.eq_iff_iff]
  simp [eqV]
@[simp] theorem g_inI (f : Bool → Bool) (x : Int) (xs : List Int) : gor (gInL f) (gInS f) [.int x, .lst (xs.map D.int)] = some (.dp (.bl (f (decide (x ∈ xs))))) := by
  simp [gor, gInL, D.flatV, inV_int]
@[simp] theorem g_inS (f : Bool → Bool) (x : Str) (xs : List Str) : gor (gInL f) (gInS f) [.str x, .lst (xs.map D.str)] = some (.dp (.bl (f (decide (x ∈ xs))))) := by
  simp [gor, gInL, D.flatV, inV_str]
@[simp] theorem g_inS1 (f : Bool → Bool) (x y : Str) : gor (gInL f) (gInS f) [.str x, .lst [.str y]] = some (.dp (.bl (f (decide (x = y))))) := by
  have := g_inS f x [y]
  simpa using this
theorem asBls_all {α : Type} (g : α → Bool) (xs : List α) : asBls (xs.map fun x => D.bl (g x)) = some (xs.map g) := by
  rw [← asBls_map (xs.map g), List.map_map]; rfl
end Fv
namespace Fv
open PySem PySem.Spec PyProof.Rows L2 RkO Tm
theorem cutD_map {α : Type} (g : α → D) (xs : List α) (lo hi : Option Int) : cutD (xs.map g) lo hi = ((xs.drop (HT.sIx xs.length 0 lo)).take (HT.sIx xs.length xs.length hi - HT.sIx xs.length 0 lo)).map g := by
  unfold cutD
  rw [List.length_map, ← List.map_drop, ← List.map_take]
theorem cut_head {α : Type} (g : α → D) (xs : List α) (k : Nat) : cutD (xs.map g) none (some (k : Int)) = (xs.take k).map g := by
  rw [cutD_map, HT.sIx_nat, HT.sIx_none, List.drop_zero]
  congr 1
  show xs.take (min k xs.length - 0) = _
  rw [Nat.sub_zero]
  rcases Nat.le_total k xs.length with h | h
  · rw [Nat.min_eq_left h]
  · rw [Nat.min_eq_right h, List.take_length, List.take_of_length_le h]
@[simp] theorem gSl_lst (lo hi ds) : gSl lo hi [.lst ds] = some (.lst (dps (cutD ds lo hi))) := rfl
@[simp] theorem gSl_str (lo hi z) : gSl lo hi [.str z] = if z.length ≤ 100000 then some (.dp (.str (cutS z lo hi))) else none := rfl
theorem at_map {α β : Type} (g : α → β) (xs : List α) (i : Int) : atI (xs.map g) i = (atI xs i).map g := by
  unfold atI
  rw [List.length_map]
  cases ixN xs.length i with
  | none => rfl
  | some j => show (xs.map g)[j]? = (xs[j]?).map g; rw [List.getElem?_map]
@[simp] theorem toDs_len : ∀ os : List O, (toDs os).length = os.length
  | [] => by simp
  | o :: os => by simp [toDs_len os]
end Fv
namespace Fv
open PySem PySem.Spec PyProof.Rows L2 RkO Tm
theorem toDs_mapG {α : Type} (f : α → O) : ∀ xs : List α, toDs (xs.map f) = xs.map fun x => (f x).toD
  | [] => by simp
  | x :: xs => by simp [toDs_mapG f xs]
def minO (f : Int → Int → Int) : List Int → Int
  | [] => 0
  | n :: ms => ms.foldl f n
@[simp] theorem g_minD (f : Int → Int → Int) (ws : List Int) : gMinD f [.lst (ws.map D.int), .int 0] = some (.dp (.int (minO f ws))) := by
  cases ws with
  | nil => rfl
  | cons w ws =>
    unfold gMinD
    simp [minO]
    have := asInts_map (w :: ws)
    rw [List.map_cons] at this
    simp [this]
theorem ix_get {α : Type} {xs : List α} {i : Int} (d : α) (h0 : 0 ≤ i) (h : i < xs.length) : atI xs i = some (xs.getD i.toNat d) := by
  unfold atI ixN
  rw [if_pos h0, if_pos h]
  show xs[i.toNat]? = _
  rw [List.getD_eq_getElem?_getD, List.getElem?_eq_getElem (by omega)]
  rfl
abbrev kvD (ps : List (Str × Int)) : List (Key × D) := ps.map fun p => ((.inr p.1 : Key), D.int p.2)
@[simp] theorem toDk_kv (ps : List (Str × Int)) : toDk (ps.map fun p => ((.inr p.1 : Key), O.dp (.int p.2))) = kvD ps := by
  have := toDk_map (kvD ps)
  rw [List.map_map] at this
  exact this
end Fv
namespace Fv
open PySem PySem.Spec PyProof.Rows L2 RkO Tm
@[simp high] theorem g_addSS (i j : List Str) : gAdd [.lst (i.map D.str), .lst (j.map D.str)] = if i.length + j.length ≤ 100000 then some (.lst (dps ((i ++ j).map D.str))) else none := by
  rw [g_addL, List.map_append, List.length_map, List.length_map]
@[simp high] theorem g_addII (i j : List Int) : gAdd [.lst (i.map D.int), .lst (j.map D.int)] = if i.length + j.length ≤ 100000 then some (.lst (dps ((i ++ j).map D.int))) else none := by
  rw [g_addL, List.map_append, List.length_map, List.length_map]
end Fv
namespace Fv
open PySem PySem.Spec PyProof.Rows L2 RkO Tm
theorem g_pow {i j : Int} (h : 0 ≤ j ∧ j ≤ 1000000 ∧ i.natAbs < 2 ^ 64) : gPow [.int i, .int j] = some (.dp (.int (i ^ j.toNat))) := by
  unfold gPow
  rw [g_I, if_pos ⟨h.1, .inl h.2⟩]
  rfl
@[simp] theorem g_pow18 : gPow [.int 10, .int 18] = some (.dp (.int 1000000000000000000)) := g_pow (by decide)
@[simp] theorem g_pow6 : gPow [.int 10, .int 6] = some (.dp (.int 1000000)) := g_pow (by decide)
@[simp] theorem g_pow60 : gPow [.int 10, .int 60] = some (.dp (.int 1000000000000000000000000000000000000000000000000000000000000)) := g_pow (by decide)
@[simp] theorem g_pow33 : gPow [.int 10, .int 33] = some (.dp (.int 1000000000000000000000000000000000)) := g_pow (by decide)
@[simp] theorem g_pow30 : gPow [.int 10, .int 30] = some (.dp (.int 1000000000000000000000000000000)) := g_pow (by decide)
@[simp] theorem g_pow40 : gPow [.int 10, .int 40] = some (.dp (.int 10000000000000000000000000000000000000000)) := g_pow (by decide)
def bigP : Int := 10 ^ 600
theorem bigP_pos : 0 < bigP := by decide +kernel
@[simp] theorem g_pow600 : gPow [.int 1000000000000000000000000000000000000000000000000000000000000, .int 10] = some (.dp (.int bigP)) := by
  unfold gPow
  rw [g_I, if_pos ⟨by decide, .inr (by decide +kernel)⟩]
  exact congrArg (fun x => some (O.dp (D.int x))) (by decide +kernel : ((1000000000000000000000000000000000000000000000000000000000000 : Int) ^ (10 : Int).toNat) = bigP)
@[simp] theorem gSl_scr (lo hi ns) : gSl lo hi [.scr ns] = some (.lst (dps (cutD (ns.map .int) lo hi))) := rfl
theorem lg {i : Int} {k : Nat} (h1 : -(2 ^ k : Nat) < i) (h2 : i < (2 ^ k : Nat)) (hk : 0 < k) : i.natAbs.log2 < k := by
  have : i.natAbs < 2 ^ k := by omega
  rcases Nat.eq_zero_or_pos i.natAbs with h | h
  · rw [h]; exact hk
  · exact (Nat.log2_lt (by omega)).mpr this
theorem mul_ok {i j : Int} (h1 : -(2 ^ 4000 : Nat) < i) (h2 : i < (2 ^ 4000 : Nat)) (h3 : -(2 ^ 4000 : Nat) < j) (h4 : j < (2 ^ 4000 : Nat)) : i.natAbs.log2 + j.natAbs.log2 < 1000000 := by
  have := lg h1 h2 (by decide)
  have := lg h3 h4 (by decide)
  omega
theorem big_lt : bigP < (2 ^ 4000 : Nat) := by decide +kernel
theorem small4 : (1000000000000000000000000000000000000000000000000000000000000 : Int) < (2 ^ 4000 : Nat) := by decide +kernel
theorem mul_small {i j : Int} (h1 : -1000000000000000000000000000000000000000000000000000000000000 < i) (h2 : i < 1000000000000000000000000000000000000000000000000000000000000) (h3 : -1000000000000000000000000000000000000000000000000000000000000 < j) (h4 : j < 1000000000000000000000000000000000000000000000000000000000000) : i.natAbs.log2 + j.natAbs.log2 < 1000000 := by
  have := small4
  generalize ((2 ^ 4000 : Nat) : Int) = B at *
  exact mul_ok (by omega) (by omega) (by omega) (by omega)
end Fv
namespace Fv
open PySem PySem.Spec PyProof.Rows L2 RkO Tm
end Fv
namespace Fv
open PySem PySem.Spec PyProof.Rows L2 RkO Tm
@[simp] theorem g_eqNN (f : Bool → Bool) : gEqD f [.lst [], .lst []] = some (.dp (.bl (f true))) := g_eqNilI f []
end Fv
namespace Fv
open PySem PySem.Spec PyProof.Rows L2 RkO Tm
theorem dps_app (a b : List D) : dps (a ++ b) = dps a ++ dps b := List.map_append
theorem dps_one (d : D) : dps [d] = [.dp d] := rfl
@[simp] theorem dps_len (a : List D) : (dps a).length = a.length := List.length_map _
end Fv
set_option Elab.async false
set_option linter.all false
set_option maxRecDepth 100000
set_option maxHeartbeats 1000000
namespace Rk
open PySem PySem.Spec PyProof.Rows L2 RkO Fv Tm
section
variable {K : PySem.W.Frag} {mg : Str → Option Value}
@[simp] theorem sq__levels___name : (Str.ofString "_levels" = Str.ofString "_name") = False := eq_false (by decide +kernel)
@[simp] theorem sb__levels___name : (Str.ofString "_levels" == Str.ofString "_name") = false := by decide +kernel
@[simp] theorem sq__levels__greatest : (Str.ofString "_levels" = Str.ofString "greatest") = False := eq_false (by decide +kernel)
@[simp] theorem sb__levels__greatest : (Str.ofString "_levels" == Str.ofString "greatest") = false := by decide +kernel
@[simp] theorem sq__levels__least : (Str.ofString "_levels" = Str.ofString "least") = False := eq_false (by decide +kernel)
@[simp] theorem sb__levels__least : (Str.ofString "_levels" == Str.ofString "least") = false := by decide +kernel
@[simp] theorem sq__levels__levels : (Str.ofString "_levels" = Str.ofString "levels") = False := eq_false (by decide +kernel)
@[simp] theorem sb__levels__levels : (Str.ofString "_levels" == Str.ofString "levels") = false := by decide +kernel
@[simp] theorem sq__levels__mirror : (Str.ofString "_levels" = Str.ofString "mirror") = False := eq_false (by decide +kernel)
@[simp] theorem sb__levels__mirror : (Str.ofString "_levels" == Str.ofString "mirror") = false := by decide +kernel
@[simp] theorem sq__levels__size : (Str.ofString "_levels" = Str.ofString "size") = False := eq_false (by decide +kernel)
@[simp] theorem sb__levels__size : (Str.ofString "_levels" == Str.ofString "size") = false := by decide +kernel
@[simp] theorem sq__levels__value : (Str.ofString "_levels" = Str.ofString "value") = False := eq_false (by decide +kernel)
@[simp] theorem sb__levels__value : (Str.ofString "_levels" == Str.ofString "value") = false := by decide +kernel
@[simp] theorem sq__name___levels : (Str.ofString "_name" = Str.ofString "_levels") = False := eq_false (by decide +kernel)
@[simp] theorem sb__name___levels : (Str.ofString "_name" == Str.ofString "_levels") = false := by decide +kernel
@[simp] theorem sq__name__greatest : (Str.ofString "_name" = Str.ofString "greatest") = False := eq_false (by decide +kernel)
@[simp] theorem sb__name__greatest : (Str.ofString "_name" == Str.ofString "greatest") = false := by decide +kernel
@[simp] theorem sq__name__least : (Str.ofString "_name" = Str.ofString "least") = False := eq_false (by decide +kernel)
@[simp] theorem sb__name__least : (Str.ofString "_name" == Str.ofString "least") = false := by decide +kernel
@[simp] theorem sq__name__levels : (Str.ofString "_name" = Str.ofString "levels") = False := eq_false (by decide +kernel)
@[simp] theorem sb__name__levels : (Str.ofString "_name" == Str.ofString "levels") = false := by decide +kernel
@[simp] theorem sq__name__mirror : (Str.ofString "_name" = Str.ofString "mirror") = False := eq_false (by decide +kernel)
@[simp] theorem sb__name__mirror : (Str.ofString "_name" == Str.ofString "mirror") = false := by decide +kernel
@[simp] theorem sq__name__size : (Str.ofString "_name" = Str.ofString "size") = False := eq_false (by decide +kernel)
@[simp] theorem sb__name__size : (Str.ofString "_name" == Str.ofString "size") = false := by decide +kernel
@[simp] theorem sq__name__value : (Str.ofString "_name" = Str.ofString "value") = False := eq_false (by decide +kernel)
@[simp] theorem sb__name__value : (Str.ofString "_name" == Str.ofString "value") = false := by decide +kernel
@[simp] theorem sq_greatest___levels : (Str.ofString "greatest" = Str.ofString "_levels") = False := eq_false (by decide +kernel)
@[simp] theorem sb_greatest___levels : (Str.ofString "greatest" == Str.ofString "_levels") = false := by decide +kernel
@[simp] theorem sq_greatest___name : (Str.ofString "greatest" = Str.ofString "_name") = False := eq_false (by decide +kernel)
@[simp] theorem sb_greatest___name : (Str.ofString "greatest" == Str.ofString "_name") = false := by decide +kernel
@[simp] theorem sq_greatest__least : (Str.ofString "greatest" = Str.ofString "least") = False := eq_false (by decide +kernel)
@[simp] theorem sb_greatest__least : (Str.ofString "greatest" == Str.ofString "least") = false := by decide +kernel
@[simp] theorem sq_greatest__levels : (Str.ofString "greatest" = Str.ofString "levels") = False := eq_false (by decide +kernel)
@[simp] theorem sb_greatest__levels : (Str.ofString "greatest" == Str.ofString "levels") = false := by decide +kernel
@[simp] theorem sq_greatest__mirror : (Str.ofString "greatest" = Str.ofString "mirror") = False := eq_false (by decide +kernel)
@[simp] theorem sb_greatest__mirror : (Str.ofString "greatest" == Str.ofString "mirror") = false := by decide +kernel
@[simp] theorem sq_greatest__size : (Str.ofString "greatest" = Str.ofString "size") = False := eq_false (by decide +kernel)
@[simp] theorem sb_greatest__size : (Str.ofString "greatest" == Str.ofString "size") = false := by decide +kernel
@[simp] theorem sq_greatest__value : (Str.ofString "greatest" = Str.ofString "value") = False := eq_false (by decide +kernel)
@[simp] theorem sb_greatest__value : (Str.ofString "greatest" == Str.ofString "value") = false := by decide +kernel
@[simp] theorem sq_least___levels : (Str.ofString "least" = Str.ofString "_levels") = False := eq_false (by decide +kernel)
@[simp] theorem sb_least___levels : (Str.ofString "least" == Str.ofString "_levels") = false := by decide +kernel
@[simp] theorem sq_least___name : (Str.ofString "least" = Str.ofString "_name") = False := eq_false (by decide +kernel)
@[simp] theorem sb_least___name : (Str.ofString "least" == Str.ofString "_name") = false := by decide +kernel
@[simp] theorem sq_least__greatest : (Str.ofString "least" = Str.ofString "greatest") = False := eq_false (by decide +kernel)
@[simp] theorem sb_least__greatest : (Str.ofString "least" == Str.ofString "greatest") = false := by decide +kernel
@[simp] theorem sq_least__levels : (Str.ofString "least" = Str.ofString "levels") = False := eq_false (by decide +kernel)
@[simp] theorem sb_least__levels : (Str.ofString "least" == Str.ofString "levels") = false := by decide +kernel
@[simp] theorem sq_least__mirror : (Str.ofString "least" = Str.ofString "mirror") = False := eq_false (by decide +kernel)
@[simp] theorem sb_least__mirror : (Str.ofString "least" == Str.ofString "mirror") = false := by decide +kernel
@[simp] theorem sq_least__size : (Str.ofString "least" = Str.ofString "size") = False := eq_false (by decide +kernel)
@[simp] theorem sb_least__size : (Str.ofString "least" == Str.ofString "size") = false := by decide +kernel
@[simp] theorem sq_least__value : (Str.ofString "least" = Str.ofString "value") = False := eq_false (by decide +kernel)
@[simp] theorem sb_least__value : (Str.ofString "least" == Str.ofString "value") = false := by decide +kernel
@[simp] theorem sq_levels___levels : (Str.ofString "levels" = Str.ofString "_levels") = False := eq_false (by decide +kernel)
@[simp] theorem sb_levels___levels : (Str.ofString "levels" == Str.ofString "_levels") = false := by decide +kernel
@[simp] theorem sq_levels___name : (Str.ofString "levels" = Str.ofString "_name") = False := eq_false (by decide +kernel)
@[simp] theorem sb_levels___name : (Str.ofString "levels" == Str.ofString "_name") = false := by decide +kernel
@[simp] theorem sq_levels__greatest : (Str.ofString "levels" = Str.ofString "greatest") = False := eq_false (by decide +kernel)
@[simp] theorem sb_levels__greatest : (Str.ofString "levels" == Str.ofString "greatest") = false := by decide +kernel
@[simp] theorem sq_levels__least : (Str.ofString "levels" = Str.ofString "least") = False := eq_false (by decide +kernel)
@[simp] theorem sb_levels__least : (Str.ofString "levels" == Str.ofString "least") = false := by decide +kernel
@[simp] theorem sq_levels__mirror : (Str.ofString "levels" = Str.ofString "mirror") = False := eq_false (by decide +kernel)
@[simp] theorem sb_levels__mirror : (Str.ofString "levels" == Str.ofString "mirror") = false := by decide +kernel
@[simp] theorem sq_levels__size : (Str.ofString "levels" = Str.ofString "size") = False := eq_false (by decide +kernel)
@[simp] theorem sb_levels__size : (Str.ofString "levels" == Str.ofString "size") = false := by decide +kernel
@[simp] theorem sq_levels__value : (Str.ofString "levels" = Str.ofString "value") = False := eq_false (by decide +kernel)
@[simp] theorem sb_levels__value : (Str.ofString "levels" == Str.ofString "value") = false := by decide +kernel
@[simp] theorem sq_mirror___levels : (Str.ofString "mirror" = Str.ofString "_levels") = False := eq_false (by decide +kernel)
@[simp] theorem sb_mirror___levels : (Str.ofString "mirror" == Str.ofString "_levels") = false := by decide +kernel
@[simp] theorem sq_mirror___name : (Str.ofString "mirror" = Str.ofString "_name") = False := eq_false (by decide +kernel)
@[simp] theorem sb_mirror___name : (Str.ofString "mirror" == Str.ofString "_name") = false := by decide +kernel
@[simp] theorem sq_mirror__greatest : (Str.ofString "mirror" = Str.ofString "greatest") = False := eq_false (by decide +kernel)
@[simp] theorem sb_mirror__greatest : (Str.ofString "mirror" == Str.ofString "greatest") = false := by decide +kernel
@[simp] theorem sq_mirror__least : (Str.ofString "mirror" = Str.ofString "least") = False := eq_false (by decide +kernel)
@[simp] theorem sb_mirror__least : (Str.ofString "mirror" == Str.ofString "least") = false := by decide +kernel
@[simp] theorem sq_mirror__levels : (Str.ofString "mirror" = Str.ofString "levels") = False := eq_false (by decide +kernel)
@[simp] theorem sb_mirror__levels : (Str.ofString "mirror" == Str.ofString "levels") = false := by decide +kernel
@[simp] theorem sq_mirror__size : (Str.ofString "mirror" = Str.ofString "size") = False := eq_false (by decide +kernel)
@[simp] theorem sb_mirror__size : (Str.ofString "mirror" == Str.ofString "size") = false := by decide +kernel
@[simp] theorem sq_mirror__value : (Str.ofString "mirror" = Str.ofString "value") = False := eq_false (by decide +kernel)
@[simp] theorem sb_mirror__value : (Str.ofString "mirror" == Str.ofString "value") = false := by decide +kernel
@[simp] theorem sq_size___levels : (Str.ofString "size" = Str.ofString "_levels") = False := eq_false (by decide +kernel)
@[simp] theorem sb_size___levels : (Str.ofString "size" == Str.ofString "_levels") = false := by decide +kernel
@[simp] theorem sq_size___name : (Str.ofString "size" = Str.ofString "_name") = False := eq_false (by decide +kernel)
@[simp] theorem sb_size___name : (Str.ofString "size" == Str.ofString "_name") = false := by decide +kernel
@[simp] theorem sq_size__greatest : (Str.ofString "size" = Str.ofString "greatest") = False := eq_false (by decide +kernel)
@[simp] theorem sb_size__greatest : (Str.ofString "size" == Str.ofString "greatest") = false := by decide +kernel
@[simp] theorem sq_size__least : (Str.ofString "size" = Str.ofString "least") = False := eq_false (by decide +kernel)
@[simp] theorem sb_size__least : (Str.ofString "size" == Str.ofString "least") = false := by decide +kernel
@[simp] theorem sq_size__levels : (Str.ofString "size" = Str.ofString "levels") = False := eq_false (by decide +kernel)
@[simp] theorem sb_size__levels : (Str.ofString "size" == Str.ofString "levels") = false := by decide +kernel
@[simp] theorem sq_size__mirror : (Str.ofString "size" = Str.ofString "mirror") = False := eq_false (by decide +kernel)
@[simp] theorem sb_size__mirror : (Str.ofString "size" == Str.ofString "mirror") = false := by decide +kernel
@[simp] theorem sq_size__value : (Str.ofString "size" = Str.ofString "value") = False := eq_false (by decide +kernel)
@[simp] theorem sb_size__value : (Str.ofString "size" == Str.ofString "value") = false := by decide +kernel
@[simp] theorem sq_value___levels : (Str.ofString "value" = Str.ofString "_levels") = False := eq_false (by decide +kernel)
@[simp] theorem sb_value___levels : (Str.ofString "value" == Str.ofString "_levels") = false := by decide +kernel
@[simp] theorem sq_value___name : (Str.ofString "value" = Str.ofString "_name") = False := eq_false (by decide +kernel)
@[simp] theorem sb_value___name : (Str.ofString "value" == Str.ofString "_name") = false := by decide +kernel
@[simp] theorem sq_value__greatest : (Str.ofString "value" = Str.ofString "greatest") = False := eq_false (by decide +kernel)
@[simp] theorem sb_value__greatest : (Str.ofString "value" == Str.ofString "greatest") = false := by decide +kernel
@[simp] theorem sq_value__least : (Str.ofString "value" = Str.ofString "least") = False := eq_false (by decide +kernel)
@[simp] theorem sb_value__least : (Str.ofString "value" == Str.ofString "least") = false := by decide +kernel
@[simp] theorem sq_value__levels : (Str.ofString "value" = Str.ofString "levels") = False := eq_false (by decide +kernel)
@[simp] theorem sb_value__levels : (Str.ofString "value" == Str.ofString "levels") = false := by decide +kernel
@[simp] theorem sq_value__mirror : (Str.ofString "value" = Str.ofString "mirror") = False := eq_false (by decide +kernel)
@[simp] theorem sb_value__mirror : (Str.ofString "value" == Str.ofString "mirror") = false := by decide +kernel
@[simp] theorem sq_value__size : (Str.ofString "value" = Str.ofString "size") = False := eq_false (by decide +kernel)
@[simp] theorem sb_value__size : (Str.ofString "value" == Str.ofString "size") = false := by decide +kernel
@[simp] theorem lookup_consS {α β : Type} [BEq α] (a k : α) (b : β) (es : List (α × β)) : List.lookup a ((k, b) :: es) = match a == k with | true => some b | false => es.lookup a := List.lookup_cons
@[simp] theorem lookup_nilS {α β : Type} [BEq α] (a : α) : List.lookup a ([] : List (α × β)) = none := List.lookup_nil
theorem v_is_whole (T : Txt K mg) (n k : Nat) (i : Int) : m_is_whole T n [.ow (.dp (.int i))] k = .ok (.dp (.bl true)) [.un] k := by
  simp [m_is_whole]
theorem letter_ge (c : Nat) : (!decide ([c] < ("a" : Str).cps.toList)) = decide (97 ≤ c) := by
  rw [show ("a" : Str).cps.toList = [97] from rfl]
  by_cases h : c < 97
  · rw [decide_eq_true (show [c] < [97] from List.Lex.rel h), decide_eq_false (by omega)]; rfl
  · rw [decide_eq_false (fun z => by cases z with | rel z => exact h z | cons z => cases z), decide_eq_true (by omega)]; rfl
theorem letter_le (c : Nat) : (!decide (("z" : Str).cps.toList < [c])) = decide (c ≤ 122) := by
  rw [show ("z" : Str).cps.toList = [122] from rfl]
  by_cases h : 122 < c
  · rw [decide_eq_true (show [122] < [c] from List.Lex.rel h), decide_eq_false (by omega)]; rfl
  · rw [decide_eq_false (fun z => by cases z with | rel z => exact h z | cons z => cases z), decide_eq_true (by omega)]; rfl
theorem v_is_name (T : Txt K mg) (n k : Nat) {x : Str} (h : nameB x = true) : m_is_name T n [.ow (.dp (.str x))] k = .ok (.dp (.bl true)) [.un] k := by
  have hl := nameB_len h
  have h1 : x.length ≤ 100000 := by omega
  have ha : (x.cps.toList.map letterB).all id = true := by
    unfold nameB at h
    rw [Bool.and_eq_true] at h
    simpa using h.2
  have h2 : asBls (x.cps.toList.map fun c => D.bl (letterB c)) = some (x.cps.toList.map letterB) := by
    rw [← asBls_map (x.cps.toList.map letterB), List.map_map]; rfl
  have hz : x.cps.toList.length ≤ 90000 := by show x.cps.size ≤ _; have : x.cps.size = x.length := rfl; omega
  have i1 : (1 : Int) ≤ x.length := by omega
  have i2 : (x.length : Int) ≤ 8 := by omega
  simp [m_is_name, h1, i1, i2]
  rw [lc_nm (x.cps.toList) (fun c : Nat => D.str ⟨#[c]⟩) (fun c => .dp (.bl (letterB c))) ?hdsc1 ?hzc1 ?h0c1 ?hfc1 ?hwc1 ?huc1 ?hc1]
  case h0c1 => intro _; simp; rfl
  case hfc1 => intros; simp
  case hwc1 => intros; simp
  case huc1 => intros; simp
  case hdsc1 => first | rfl | simp
  · simp [toDs_map, flat_map, h2, ha]
  · exact hz
  · intro c hc t
    simp [letter_ge, letter_le, letterB]
    by_cases h : 97 ≤ c <;> simp [h, Int.ofNat_le]
end
end Rk
set_option Elab.async false
set_option linter.all false
set_option maxRecDepth 100000
set_option maxHeartbeats 1000000
namespace Fv
open PySem PySem.Spec PyProof.Rows L2 RkO Tm
@[simp] theorem g_listK (ps : List (Str × Int)) : gListK [.dic (kvD ps)] = some (.lst (dps (ps.map fun p => D.str p.1))) := by
  show some (O.lst (dps ((kvD ps).map fun kv => keyD kv.1))) = _
  rw [kvD, List.map_map]
  rfl
end Fv
set_option Elab.async false
set_option linter.all false
set_option maxRecDepth 100000
set_option maxHeartbeats 1000000
namespace Fv
open PySem PySem.Spec PyProof.Rows L2 RkO
@[simp] theorem ev_dRvs (fo : Den) (ss n t) : dRvs fo ⟨ss, n, t⟩ = (fo ⟨ss, n, t⟩).bind fun r0 st1 => match r0 with
  | .pl i p => match hereM st1 i p with
    | some (.lst os) => if os.all O.isD = true then .ok (.va (.dp .non)) (setAt st1 i p (.lst (dps (toDs os).reverse))) else .no
    | _ => .no
  | _ => .no := rfl
@[simp] theorem ev_dPop (fo : Den) (ss n t) : dPop fo ⟨ss, n, t⟩ = (fo ⟨ss, n, t⟩).bind fun r0 st1 => match r0 with
  | .pl i p => match hereM st1 i p with
    | some (.lst os) => match (toDs os).getLast? with
      | some d => if os.all O.isD = true then .ok (.va (.dp d)) (setAt st1 i p (.lst (dps (toDs os).dropLast))) else .no
      | none => .no
    | _ => .no
  | _ => .no := rfl
@[simp] theorem ev_dIns (fo fi fx : Den) (ss n t) : dIns fo fi fx ⟨ss, n, t⟩ = (fo ⟨ss, n, t⟩).bind fun r0 st1 => match r0 with
  | .pl i p => match hereM st1 i p with
    | some (.lst _) => (dArgs [fi, fx] st1).bind fun rvs st2 => if keep (.pl i p) st1 st2 = true then (settles rvs st2).bind fun os2 st3 => match os2, hereM st3 i p with
        | [.dp (.int q), .dp d], some (.lst os) => if os.all O.isD = true ∧ os.length < 100000 ∧ 0 ≤ q ∧ q < 2 ^ 63 then .ok (.va (.dp .non)) (setAt st3 i p (.lst (dps ((toDs os).take q.toNat ++ [d] ++ (toDs os).drop q.toNat)))) else .no
        | _, _ => .no
      else .no
    | _ => .no
  | _ => .no := rfl
@[simp] theorem ev_sPutOw (C : Addr) (m : Fn) (ms : List AM) (fv fo fi : Den) (ss n t) : sPutOw C m ms fv fo fi ⟨ss, n, t⟩ = onE (fv ⟨ss, n, t⟩) fun rv st1 => if shd rv = true then onE (fo st1) fun r0 st2 => match r0 with
    | .pl j p => onE (fi st2) fun ri st3 => if (shd ri && keep (.pl j p) st2 st3 && keep rv st1 st3) = true then match pk st3 (.pl j p) with
        | some (.obj C' _ _) => if C' = C then onE (callRV m ms [.pl j p, ri, rv] st3) fun _ st4 => .nx st4 else .no
        | _ => .no
      else .no
    | _ => .no
  else .no := rfl
@[simp] theorem shd_va (o : O) : shd (.va o) = o.isD := rfl
@[simp] theorem shd_pl (i p) : shd (.pl i p) = true := rfl
@[simp] theorem ev_dK (d : D) (ss n t) : dK d ⟨ss, n, t⟩ = .ok (.va (.dp d)) ⟨ss, n, t⟩ := rfl
@[simp] theorem ev_pDic (fo fi d ss n t) : pDic fo fi d ⟨ss, n, t⟩ = sPutK (dK d) fo fi ⟨ss, n, t⟩ := rfl
@[simp] theorem ev_pOwn (C m ms fo fi d ss n t) : pOwn C m ms fo fi d ⟨ss, n, t⟩ = match sPutOw C m ms (dK d) fo fi ⟨ss, n, t⟩ with
  | .nx st' => .nx st'
  | _ => .no := rfl
@[simp] theorem ev_sTwo (fe s1 s2 ss n t) : sTwo fe s1 s2 ⟨ss, n, t⟩ = onE (fe ⟨ss, n, t⟩) fun rv st1 => match rv with
  | .va (.dp (.tup [d1, d2])) => if d1.isAtom = true ∧ d2.isAtom = true then match s1 d1 st1 with
      | .nx st2 => match s2 d2 st2 with
        | .nx st3 => .nx st3
        | _ => .no
      | _ => .no
    else .no
  | _ => .no := rfl
end Fv
set_option Elab.async false
set_option linter.all false
set_option maxRecDepth 100000
set_option maxHeartbeats 1000000
namespace Fv
open PySem PySem.Spec PyProof.Rows L2 RkO Tm
@[simp] theorem ev_sTry (body exs hs ss n t) : sTry body exs hs ⟨ss, n, t⟩ = match body ⟨ss, n, t⟩ with
  | .ex C g d st' => if C ∈ exs then (match hs.find? (fun h => decide (h.C = C)) with
    | some h => if h.g = g then h.run d st' else .no
    | none => .ex C g d st') else .no
  | r => r := rfl
@[simp] theorem hb_run (C g i x pre ls d ss n t) : HB.run ⟨C, g, i, x, pre, ls⟩ d ⟨ss, n, t⟩ = match ss[i]? with
  | some .un => if (free ss[x]? && decide (x ≠ i) && pre.all D.isAtom && decide (pre.length ≤ 1000)) = true then .nx ⟨ss.set x (.ow (match ls with
    | true => .lst (pre.map O.dp ++ [.dp d])
    | false => .dp d)), n, t⟩ else .no
  | _ => .no := rfl
@[simp] theorem g_eqA (C oth m f n i fs e) : gEqA C oth m f n [.obj C i fs, e] = if e.isIn oth = true then match m (owA [.obj C i fs, e]) n with
      | .ok (.dp (.bl b)) _ _ => some (.dp (.bl (f b)))
      | _ => none
    else none := by first | (simp [gEqA]; done) | (simp [gEqA]; rfl)
@[simp] theorem isIn_obj (oth C i fs) : D.isIn oth (.obj C i fs) = decide (C ∈ oth) := rfl
@[simp] theorem isIn_non (oth) : D.isIn oth .non = true := rfl
@[simp] theorem isIn_bl (oth x) : D.isIn oth (.bl x) = true := rfl
@[simp] theorem isIn_int (oth x) : D.isIn oth (.int x) = true := rfl
@[simp] theorem isIn_str (oth x) : D.isIn oth (.str x) = true := rfl
@[simp] theorem isIn_lst (oth x) : D.isIn oth (.lst x) = true := rfl
@[simp] theorem isIn_tup (oth x) : D.isIn oth (.tup x) = true := rfl
@[simp] theorem isIn_dic (oth x) : D.isIn oth (.dic x) = true := rfl
@[simp] theorem g_eqX (tab f n ds es) : gEqX tab f n [.lst ds, .lst es] = if all2 (eqX tab n 3) ds es = true then some (.dp (.bl (f true))) else none := rfl
@[simp] theorem g_eqDS (a b) : gEqDS [.dic a, .str b] = some (.dp (.bl false)) := rfl
@[simp] theorem g_eqDSl (a b) : gEqDS [.lst a, .str b] = some (.dp (.bl false)) := rfl
@[simp] theorem g_eqDSt (a b) : gEqDS [.tup a, .str b] = some (.dp (.bl false)) := rfl
@[simp] theorem gIsS_obj (yes no C i fs) : gIsS yes no (.obj C i fs) = if C ∈ yes then some true else if C ∈ no then some false else none := rfl
@[simp] theorem gIsS_int (yes no x) : gIsS yes no (.int x) = some false := rfl
@[simp] theorem gIsS_str (yes no x) : gIsS yes no (.str x) = some false := rfl
@[simp] theorem gIsS_non (yes no) : gIsS yes no .non = some false := rfl
@[simp] theorem gIsS_bl (yes no x) : gIsS yes no (.bl x) = some false := rfl
@[simp] theorem gIsS_lst (yes no x) : gIsS yes no (.lst x) = some false := rfl
@[simp] theorem gIsS_tup (yes no x) : gIsS yes no (.tup x) = some false := rfl
@[simp] theorem gIsS_dic (yes no x) : gIsS yes no (.dic x) = some false := rfl
@[simp] theorem all2_nil (f) : all2 f [] [] = true := rfl
@[simp] theorem all2_cons (f d ds e es) : all2 f (d :: ds) (e :: es) = (f d e && all2 f ds es) := rfl
/-- what is equal to itself, whoever asks -/
inductive Selfd (tab : List EE) (n : Nat) : Nat → D → Prop
  | non {k} : Selfd tab n k .non
  | bl {k} (b) : Selfd tab n k (.bl b)
  | int {k} (b) : Selfd tab n k (.int b)
  | str {k} (b) : Selfd tab n k (.str b)
  | dic {k} : Selfd tab n k (.dic [])
  | obj {k} (t : EE) (i fs) (ht : t ∈ tab) (h : (t.m (owA [.obj t.C i fs, .obj t.C i fs]) n).isTrue = true) : Selfd tab n k (.obj t.C i fs)
  | lst {k} (ds) (h : ∀ d ∈ ds, Selfd tab n k d) : Selfd tab n (k + 1) (.lst ds)
  | tup {k} (ds) (h : ∀ d ∈ ds, Selfd tab n k d) : Selfd tab n (k + 1) (.tup ds)
theorem all2_same {f : D → D → Bool} : ∀ {ds : List D}, (∀ d ∈ ds, f d d = true) → all2 f ds ds = true
  | [], _ => rfl
  | d :: ds, h => by
    rw [all2_cons, h d List.mem_cons_self, all2_same fun e he => h e (List.mem_cons_of_mem _ he)]
    rfl
theorem eqX_lst (tab n k ds es) : eqX tab n (k + 1) (.lst ds) (.lst es) = all2 (eqX tab n k) ds es := by unfold eqX; rfl
theorem eqX_tup (tab n k ds es) : eqX tab n (k + 1) (.tup ds) (.tup es) = all2 (eqX tab n k) ds es := by unfold eqX; rfl
theorem eqX_self {tab : List EE} {n k : Nat} {d : D} (h : Selfd tab n k d) : eqX tab n k d d = true := by
  induction h with
  | @non k => cases k <;> simp [eqX, eqX0, eqF, D.flatV, eqV]
  | @bl k b => cases k <;> simp [eqX, eqX0, eqF, D.flatV, eqV]
  | @int k b => cases k <;> simp [eqX, eqX0, eqF, D.flatV, eqV]
  | @str k b => cases k <;> simp [eqX, eqX0, eqF, D.flatV, eqV]
  | @dic k => cases k <;> simp [eqX, eqX0, eqF, eqN, D.flatV]
  | @obj k t i fs ht h =>
    have : eqTab tab n (.obj t.C i fs) (.obj t.C i fs) = true := by
      unfold eqTab
      exact List.any_eq_true.mpr ⟨t, ht, by rw [h]; simp⟩
    cases k <;> simp [eqX, eqX0, this]
  | lst ds h ih => rw [eqX_lst]; exact all2_same ih
  | tup ds h ih => rw [eqX_tup]; exact all2_same ih
@[simp] theorem g_ixR (ns : List Int) (i : Int) : gor gIx gDget [.scr ns, .int i] = (atI ns i).map fun n => .dp (.int n) := by
  show (match (atI ns i).map (fun n => O.dp (.int n)) with | some o => some o | none => none) = _
  cases atI ns i <;> rfl
theorem tg_nm {i : Nat} {d : D} {ss : List Slot} {n t : Nat} (h : free ss[i]? = true) : tgS (.nm i) d ⟨ss, n, t⟩ = some ⟨ss.set i (.ow (.dp d)), n, t⟩ := by simp [tgS, h]
@[simp] theorem g_join (z ds) : gJoin [.str z, .lst ds] = match asStrs ds with
    | some ys => if (ys.map (·.length)).sum + ys.length * z.length ≤ 16777216 then some (.dp (.str (Txt.join z ys))) else none
    | none => none := rfl
@[simp] theorem g_lenO (C m n i fs) : gLenO C m n [.obj C i fs] = match m (owA [.obj C i fs]) n with
      | .ok (.dp (.int b)) _ _ => if 0 ≤ b ∧ b < 2 ^ 63 then some (.dp (.int b)) else none
      | _ => none := by first | (simp [gLenO]; done) | (simp [gLenO]; rfl)
end Fv
set_option Elab.async false
set_option linter.all false
set_option maxRecDepth 100000
set_option maxHeartbeats 1000000
namespace Fv
open PySem PySem.Spec PyProof.Rows L2 RkO Tm
@[simp] theorem g_eqOB (tab n ds es) : gEqOB tab n [.lst ds, .lst es] = if ds.length = es.length then (eqsTB tab n ds es).map fun b => .dp (.bl b) else some (.dp (.bl false)) := rfl
@[simp] theorem g_inXl (tab n a ys) : gInX tab n [.lst a, .lst ys] = if ys.all D.isStr = true then some (.dp (.bl false)) else none := rfl
@[simp] theorem g_inXt (tab n a ys) : gInX tab n [.tup a, .lst ys] = if ys.all D.isStr = true then some (.dp (.bl false)) else none := rfl
@[simp] theorem g_inXd (tab n a ys) : gInX tab n [.dic a, .lst ys] = if ys.all D.isStr = true then some (.dp (.bl false)) else none := rfl
@[simp] theorem isStr_str (x) : D.isStr (.str x) = true := rfl
@[simp] theorem strs_all : ∀ xs : List Str, (xs.map D.str).all D.isStr = true
  | [] => rfl
  | x :: xs => by simp [D.isStr]
@[simp] theorem ev_dIxC (C m ms fo fi ss n t) : dIxC C m ms fo fi ⟨ss, n, t⟩ = (fo ⟨ss, n, t⟩).bind fun r0 st1 => (fi st1).bind fun r1 st2 => if keep r0 st1 st2 = true then match pk st2 r0 with
  | some (.obj C' _ _) => if C' = C then callRV m ms [r0, r1] st2 else .no
  | _ => .no
  else .no := rfl
end Fv
set_option Elab.async false
set_option linter.all false
set_option maxRecDepth 100000
set_option maxHeartbeats 1000000
namespace Fv
open PySem PySem.Spec PyProof.Rows L2 RkO Tm
end Fv
set_option Elab.async false
set_option linter.all false
set_option maxRecDepth 100000
set_option maxHeartbeats 1000000
namespace Fv
open PySem PySem.Spec PyProof.Rows L2 RkO Tm
@[simp] theorem g_fn (m k n ds) : gFn m k n ds = if ds.length = k then match m (owA ds) n with
  | .ok (.dp r) _ _ => if r.isAtom = true then some (.dp r) else none
  | _ => none
  else none := rfl
@[simp] theorem ev_dBin (C m ms fo fi ss n t) : dBin C m ms fo fi ⟨ss, n, t⟩ = (fo ⟨ss, n, t⟩).bind fun r0 st1 => (fi st1).bind fun r1 st2 => if keep r0 st1 st2 = true then match pk st2 r0, pk st2 r1 with
  | some (.obj C' _ _), some (.obj C2 _ _) => if C' = C ∧ C2 = C then match callRV m ms [r0, r1] st2 with
    | .ok (.va o) st3 => if o.isRef = true then .ok (.va o) st3 else .no
    | .ex D g d st3 => .ex D g d st3
    | _ => .no
  else .no
  | _, _ => .no
  else .no := rfl
end Fv
set_option Elab.async false
set_option linter.all false
set_option maxRecDepth 100000
set_option maxHeartbeats 1000000
namespace Rk
open PySem PySem.Spec PyProof.Rows L2 RkO Fv Tm
section
variable {K : PySem.W.Frag} {mg : Str → Option Value}
theorem ix30 : ixN 3 0 = some 0 := rfl
theorem ix32 : ixN 3 2 = some 2 := rfl
structure Pu where
  a : Int
  b : Int
  c : Int
abbrev pO (p : Pu) : O := .lst [.dp (.int p.a), .dp (.int p.b), .dp (.int p.c)]
structure PuOk (N : Nat) (p : Pu) : Prop where
  b0 : 0 ≤ p.b
  b1 : p.b < 2147483629
  c0 : 0 ≤ p.c
  c1 : p.c ≤ N
theorem PuOk.mono {N M : Nat} {p : Pu} (h : PuOk N p) (hn : N ≤ M) : PuOk M p := ⟨h.b0, h.b1, h.c0, by have := h.c1; omega⟩
theorem v_purse (T : Txt K mg) (n k : Nat) (ns : List Int) {at_ : Int} (h : 0 ≤ at_ ∧ at_ ≤ 3) : ∃ p, PuOk 3000 p ∧ m_law_purse T n [.ow (.dp (.scr ns)), .ow (.dp (.int at_))] k = .ok (pO p) [.un, .un] k := by
  obtain ⟨cell, hc⟩ : ∃ cell, cell = ((ns.drop (HT.sIx ns.length 0 (some at_))).take (HT.sIx ns.length ns.length (some (at_ + 1)) - HT.sIx ns.length 0 (some at_))).sum := ⟨_, rfl⟩
  refine ⟨⟨(if decide (1000000000000000000 ≤ cell) = true then 1 else 0) * (cell % bigP), cell % 2147483629, 1000 * at_⟩, ⟨by show 0 ≤ cell % 2147483629; omega, by show cell % 2147483629 < _; omega, by show 0 ≤ 1000 * at_; omega, by show 1000 * at_ ≤ _; omega⟩, ?_⟩
  have h1 := mul_small (i := 1000) (j := at_) (by omega) (by omega) (by omega) (by omega)
  have hp := bigP_pos
  have hb0 := Int.emod_nonneg cell (show bigP ≠ 0 by omega)
  have hb1 := Int.emod_lt_of_pos cell hp
  have h2 := mul_ok (i := if decide (1000000000000000000 ≤ cell) = true then 1 else 0) (j := cell % bigP) (by split <;> decide +kernel) (by split <;> decide +kernel) (by have := big_lt; generalize ((2 ^ 4000 : Nat) : Int) = B at *; omega) (by have := big_lt; generalize ((2 ^ 4000 : Nat) : Int) = B at *; omega)
  have e : asInts (List.take (HT.sIx ns.length ns.length (some (at_ + 1)) - HT.sIx ns.length 0 (some at_)) (List.drop (HT.sIx ns.length 0 (some at_)) (List.map D.int ns))) = some ((ns.drop (HT.sIx ns.length 0 (some at_))).take (HT.sIx ns.length ns.length (some (at_ + 1)) - HT.sIx ns.length 0 (some at_))) := by
    rw [← List.map_drop, ← List.map_take, asInts_map]
  have h2' : (if 1000000000000000000 ≤ cell then 1 else 0 : Int).natAbs.log2 + (cell % bigP).natAbs.log2 < 1000000 := by simpa using h2
  simp at h1
  simp [m_law_purse, cutD_map, e, ← hc, hp, h1, h2', pO]
def drw (p : Pu) (m : Int) : Int × Pu := if 0 < p.a then (p.a % m, ⟨p.a / m, p.b, p.c⟩) else
  (((((p.b * 48271 + (p.c + 1) * 1299709 + 907) % 2147483629 * ((p.b * 48271 + (p.c + 1) * 1299709 + 907) % 2147483629) + (p.c + 1)) % 2147483587 * (((p.b * 48271 + (p.c + 1) * 1299709 + 907) % 2147483629 * ((p.b * 48271 + (p.c + 1) * 1299709 + 907) % 2147483629) + (p.c + 1)) % 2147483587) + 69621) % 2147483563) / 64 % m, ⟨p.a, p.b, p.c + 1⟩)
theorem drw_lt (p : Pu) {m : Int} (h : 0 < m) : 0 ≤ (drw p m).1 ∧ (drw p m).1 < m := by
  unfold drw
  split
  · exact ⟨Int.emod_nonneg _ (by omega), Int.emod_lt_of_pos _ h⟩
  · exact ⟨Int.emod_nonneg _ (by omega), Int.emod_lt_of_pos _ h⟩
theorem drw_ok {N : Nat} {p : Pu} (m : Int) (h : PuOk N p) : PuOk (N + 1) (drw p m).2 := by
  obtain ⟨h1, h2, h3, h4⟩ := h
  unfold drw
  split
  · exact ⟨h1, h2, h3, by show p.c ≤ _; omega⟩
  · exact ⟨h1, h2, by show 0 ≤ p.c + 1; omega, by show p.c + 1 ≤ _; omega⟩
theorem v_draw (T : Txt K mg) (n k : Nat) {p : Pu} {N : Nat} (h : PuOk N p) (hN : N ≤ 1000000) {m : Int} (hm : 0 < m ∧ m ≤ 1000000) :
    m_law_draw T n [.mu (pO p), .ow (.dp (.int m))] k = .ok (.dp (.int (drw p m).1)) [.mu (pO (drw p m).2), .un] k := by
  obtain ⟨h1, h2, h3, h4⟩ := h
  obtain ⟨a, b, c⟩ := p
  have h1 : 0 ≤ b := h1
  have h2 : b < 2147483629 := h2
  have h3 : 0 ≤ c := h3
  have h4 : c ≤ (N : Int) := h4
  by_cases ha : 0 < a
  · have hl : m.natAbs.log2 < 9000 := Nat.lt_trans (lg (k := 60) (by omega) (by omega) (by decide)) (by decide)
    simp [m_law_draw, pO, ix30, ix32, ix0, ix1, ix2, ha, hm.1, hl, drw]
  · have m1 := mul_small (i := b) (j := 48271) (by omega) (by omega) (by omega) (by omega)
    have m2 := mul_small (i := c + 1) (j := 1299709) (by omega) (by omega) (by omega) (by omega)
    obtain ⟨n1, e1⟩ : ∃ n1, n1 = (b * 48271 + (c + 1) * 1299709 + 907) % 2147483629 := ⟨_, rfl⟩
    have r1 : 0 ≤ n1 ∧ n1 < 2147483629 := by omega
    have m3 := mul_small (i := n1) (j := n1) (by omega) (by omega) (by omega) (by omega)
    obtain ⟨n2, e2⟩ : ∃ n2, n2 = (n1 * n1 + (c + 1)) % 2147483587 := ⟨_, rfl⟩
    have r2 : 0 ≤ n2 ∧ n2 < 2147483587 := by omega
    have m4 := mul_small (i := n2) (j := n2) (by omega) (by omega) (by omega) (by omega)
    simp at m1 m2
    have l64 : Nat.log2 64 < 9000 := by decide +kernel
    simp [l64, m_law_draw, pO, ix30, ix32, ix0, ix1, ix2, ha, hm.1, drw, m1, m2, ← e1, m3, ← e2, m4]
end
end Rk
set_option Elab.async false
set_option linter.all false
set_option maxRecDepth 100000
set_option maxHeartbeats 1000000
namespace Rk
open PySem PySem.Spec PyProof.Rows L2 RkO Fv Tm
section
variable {K : PySem.W.Frag} {mg : Str → Option Value}
def pD (p : Int × Int) : D := .tup [.int p.1, .int p.2]
def lvD (l : List (Int × Int)) : D := .lst (l.map pD)
structure Lv (l : List (Int × Int)) : Prop where
  ne : l ≠ []
  ok : ∀ p ∈ l, 1 ≤ p.2 ∧ p.2 ≤ p.1
  sm : ∀ p ∈ l, p.1 < 100000000000000000000000000000000000000000
  hz : l.length ≤ 50
theorem v_is_level (T : Txt K mg) (n k : Nat) {p : Int × Int} (h : 1 ≤ p.2 ∧ p.2 ≤ p.1) : m_is_level T n [.ow (.dp (pD p))] k = .ok (.dp (.bl true)) [.un] k := by
  obtain ⟨c, r⟩ := p
  obtain ⟨h1, h2⟩ := h
  have h1 : 1 ≤ r := h1
  have h2 : r ≤ c := h2
  simp [m_is_level, pD, v_is_whole, h1, h2]
theorem v_are_levels (T : Txt K mg) (n k : Nat) {l : List (Int × Int)} (h : Lv l) : m_are_levels T n [.ow (.dp (lvD l))] k = .ok (.dp (.bl true)) [.un] k := by
  have hz := h.hz
  have hl : ¬ ((l.length : Int) = 0) := by
    have := List.length_pos_iff.mpr h.ne
    omega
  have e2 : asBls (List.map (fun _ => D.bl true) l) = some (l.map fun _ => true) := asBls_all (fun _ => true) l
  simp [m_are_levels, lvD, h.ne]
  rw [lc_nm (l) (pD) (fun _ => .dp (.bl true)) ?hdsc1 ?hzc1 ?h0c1 ?hfc1 ?hwc1 ?huc1 ?hc1]
  case h0c1 => intro _; simp; rfl
  case hfc1 => intros; simp
  case hwc1 => intros; simp
  case huc1 => intros; simp
  case hdsc1 => first | rfl | simp
  · simp [toDs_map, flat_map, e2]
  · omega
  · intro p hp t
    simp [v_is_level T n k (h.ok p hp)]
def prd (l : List Int) : Int := l.foldl (· * ·) 1
theorem prd_app (l : List Int) (x : Int) : prd (l ++ [x]) = prd l * x := by
  unfold prd
  rw [List.foldl_append]
  rfl
theorem fold_lt : ∀ (l : List Int) (a : Int), (∀ x ∈ l, x.natAbs < 2 ^ 140) → (l.foldl (· * ·) a).natAbs ≤ a.natAbs * 2 ^ (140 * l.length)
  | [], a, _ => by simp
  | x :: l, a, h => by
    have ih := fold_lt l (a * x) fun y hy => h y (List.mem_cons_of_mem _ hy)
    have hx := Nat.le_of_lt (h x List.mem_cons_self)
    rw [List.foldl_cons]
    refine Nat.le_trans ih ?_
    rw [Int.natAbs_mul, List.length_cons, Nat.mul_add, Nat.pow_add, Nat.mul_assoc, Nat.mul_comm (2 ^ (140 * l.length))]
    exact Nat.mul_le_mul_left _ (Nat.mul_le_mul_right _ hx)
theorem prd_lt {l : List Int} (h : ∀ x ∈ l, x.natAbs < 2 ^ 140) : (prd l).natAbs ≤ 2 ^ (140 * l.length) := by
  have := fold_lt l 1 h
  simpa [prd] using this
theorem log_le {m k : Nat} (h : m ≤ 2 ^ k) : m.log2 ≤ k := by
  by_cases h0 : m = 0
  · rw [h0]; exact Nat.le_trans (Nat.le_of_eq (by decide)) (Nat.zero_le _)
  · have : m.log2 < k + 1 := (Nat.log2_lt h0).mpr (Nat.lt_of_le_of_lt h (Nat.pow_lt_pow_right (by decide) (Nat.lt_succ_self k)))
    omega
theorem mul_ok {l : List Int} {x : Int} (h : ∀ y ∈ l, y.natAbs < 2 ^ 140) (hl : l.length ≤ 1000) (hx : x.natAbs < 2 ^ 140) : (prd l).natAbs.log2 + x.natAbs.log2 < 1000000 := by
  have h1 := log_le (prd_lt h)
  have h2 := log_le (Nat.le_of_lt hx)
  omega
theorem prd_loop {body : SDen} {k : Nat} {d0 : D} {l : List Int} {L : SOut} {tm : Nat} (h : ∀ x ∈ l, x.natAbs < 2 ^ 140) (hl : l.length ≤ 1000)
    (hb : ∀ a x tm, a.natAbs.log2 + x.natAbs.log2 < 1000000 → OkS (body ⟨[.ow (.dp d0), .ow (.dp (.int a)), .ow (.dp (.int x))], k, tm⟩) [.ow (.dp d0), .ow (.dp (.int (a * x))), .ow (.dp (.int x))] k)
    (hL : loopS body (.nm 2) (l.map D.int) ⟨[.ow (.dp d0), .ow (.dp (.int 1)), .un], k, tm⟩ = L) : ∃ s t', L = .nx ⟨[.ow (.dp d0), .ow (.dp (.int (prd l))), s], k, t'⟩ := by
  obtain ⟨ws', t', rfl, s, rfl, _⟩ := loop_inv hL l D.int (fun zs ws => ∃ s, ws = [.ow (.dp d0), .ow (.dp (.int (prd zs))), s] ∧ free (some s) = true) rfl ⟨.un, rfl, rfl⟩ (by
    rintro zs x ws tm hp ⟨s, rfl, f⟩
    have hsub : ∀ y ∈ zs ++ [x], y ∈ l := fun y hy => hp.subset hy
    have hlen : (zs ++ [x]).length ≤ l.length := hp.length_le
    rw [List.length_append, List.length_singleton] at hlen
    have := mul_ok (l := zs) (x := x) (fun y hy => h y (hsub y (List.mem_append_left _ hy))) (by omega) (h x (hsub x (by simp)))
    exact ⟨_, _, tg_nm (i := 2) f, hb _ _ _ this, .ow (.dp (.int x)), by rw [prd_app], rfl⟩)
  exact ⟨s, t', rfl⟩
theorem v_product (T : Txt K mg) (n k : Nat) {l : List Int} (h : ∀ x ∈ l, x.natAbs < 2 ^ 140) (hl : l.length ≤ 1000) : m_product T n [.ow (.dp (.lst (l.map D.int)))] k = .ok (.dp (.int (prd l))) [.un] k := by
  simp [m_product]
  generalize hL : loopS _ _ _ _ = L
  obtain ⟨s, t', rfl⟩ := prd_loop h hl (fun a x tm ha => by simp [OkS, ha]) hL
  simp []
theorem v_law_product (T : Txt K mg) (n k : Nat) {l : List Int} (h : ∀ x ∈ l, x.natAbs < 2 ^ 140) (hl : l.length ≤ 1000) : m_law_product T n [.ow (.dp (.lst (l.map D.int)))] k = .ok (.dp (.int (prd l))) [.un] k := by
  simp [m_law_product]
  generalize hL : loopS _ _ _ _ = L
  obtain ⟨s, t', rfl⟩ := prd_loop h hl (fun a x tm ha => by simp [OkS, ha]) hL
  simp []
end
end Rk
set_option Elab.async false
set_option linter.all false
set_option maxRecDepth 100000
set_option maxHeartbeats 1000000
namespace Rk
open PySem PySem.Spec PyProof.Rows L2 RkO Fv Tm
section
variable {K : PySem.W.Frag} {mg : Str → Option Value}
def pP (p : Int × Int) : PyData := .tuple [.int p.1, .int p.2]
theorem pD_py (p : Int × Int) : (pD p).py = some (pP p) := by simp [pD, pP, D.py, pys]
theorem pys_p : ∀ l : List (Int × Int), pys (l.map pD) = some (l.map pP)
  | [] => rfl
  | p :: l => by rw [List.map_cons, pys, pys_p l, pD_py]; rfl
theorem lv_py (l : List (Int × Int)) : (lvD l).py = some (.list (l.map pP)) := by simp only [lvD, D.py, pys_p]
theorem eqv_p : ∀ l m : List (Int × Int), PyData.eqvAll (l.map pP) (m.map pP) = decide (l = m)
  | [], [] => rfl
  | [], q :: m => rfl
  | p :: l, [] => rfl
  | (a, b) :: l, (c, d) :: m => by
    simp only [List.map_cons, PyData.eqvAll, eqv_p l m, pP, PyData.eqv]
    by_cases h1 : a = c <;> by_cases h2 : b = d <;> by_cases h3 : l = m <;> simp [h1, h2, h3]
theorem shp_p (l : List (Int × Int)) : SeqAt.shaped (.list (l.map pP)) = true := by
  have h1 := lay_map pP (xs := l) fun p _ => by simp [pP, PyData.canLay0, PyData.canLayAll0]
  have h2 := dep_map (N := 1) pP (xs := l) fun p _ => by simp [pP, PyData.depth, PyData.depthAll]
  simp only [SeqAt.shaped, PyData.canLay0, PyData.depth, h1, Bool.true_and]
  exact decide_eq_true (by omega)
theorem g_eqP (f : Bool → Bool) (l m : List (Int × Int)) : gEqD f [lvD l, lvD m] = some (.dp (.bl (f (decide (l = m))))) := by
  simp [gEqD, lv_py, PyData.eqv, eqv_p, shp_p]
noncomputable def twD (T : Txt K mg) (l : List (Int × Int)) : D := .obj T.a_Tower none [("_levels", lvD l)]
noncomputable def twO (T : Txt K mg) (l : List (Int × Int)) : O := .obj T.a_Tower none [("_levels", .lst (dps (l.map pD)))]
theorem tw_toD (T : Txt K mg) (l : List (Int × Int)) : (twO T l).toD = twD T l := by simp [twO, twD, lvD]
theorem v_Tower_init (T : Txt K mg) (n k : Nat) {l : List (Int × Int)} (h : Lv l) : m_Tower_init T n [.mu (.obj T.a_Tower none []), .ow (.dp (lvD l))] k = .ok (.dp .non) [.mu (twO T l), .un] k := by
  have e := v_are_levels T n k h
  unfold lvD at e ⊢
  simp [m_Tower_init, e, twO]
theorem v_Tower_lent (T : Txt K mg) (n k : Nat) {l : List (Int × Int)} (h : Lv l) : m_Tower_init T n [.mu (.obj T.a_Tower none []), .bo (.lst (dps (l.map pD)))] k = .ok (.dp .non) [.mu (twO T l), .un] k := by
  have e := v_are_levels T n k h
  unfold lvD at e
  simp [m_Tower_init, e, twO]
theorem v_levels (T : Txt K mg) (n k : Nat) (l : List (Int × Int)) : m_Tower_levels T n [.ow (.dp (twD T l))] k = .ok (.lst (dps (l.map pD))) [.un] k := by
  simp [m_Tower_levels, twD, lvD]
theorem nat140 {x : Int} (h : 0 ≤ x ∧ x < 100000000000000000000000000000000000000001) : x.natAbs < 2 ^ 140 := by omega
theorem Lv.c (h : Lv l) : ∀ x ∈ l.map (·.1), x.natAbs < 2 ^ 140 := fun x hx => by
  obtain ⟨p, hp, rfl⟩ := List.mem_map.mp hx
  have := h.ok p hp; have := h.sm p hp
  exact nat140 (by omega)
theorem Lv.r (h : Lv l) : ∀ x ∈ l.map (·.2), x.natAbs < 2 ^ 140 := fun x hx => by
  obtain ⟨p, hp, rfl⟩ := List.mem_map.mp hx
  have := h.ok p hp; have := h.sm p hp
  exact nat140 (by omega)
def oth (p : Int × Int) : Int := p.1 + 1 - p.2
theorem Lv.o (h : Lv l) : ∀ x ∈ l.map oth, x.natAbs < 2 ^ 140 := fun x hx => by
  obtain ⟨p, hp, rfl⟩ := List.mem_map.mp hx
  have := h.ok p hp; have := h.sm p hp
  exact nat140 (by unfold oth; omega)
theorem v_size (T : Txt K mg) (n k : Nat) {l : List (Int × Int)} (h : Lv l) : m_Tower_size T n [.ow (.dp (twD T l))] k = .ok (.dp (.int (prd (l.map (·.1))))) [.un] k := by
  have hz := h.hz
  have e := v_product T n k h.c (by rw [List.length_map]; omega)
  rw [List.map_map] at e
  simp [m_Tower_size, twD, lvD]
  rw [lc_tp (l) (fun p => .int p.1) (fun p => .int p.2) (fun p => .dp (.int p.1)) ?hdsc1 ?hzc1 ?h0c1 ?hfc1 ?hf1c1 ?hwc1 ?huc1 ?hc1]
  case h0c1 => intro _; simp; rfl
  case hfc1 => intros; simp
  case hf1c1 => intros; simp
  case hwc1 => intros; simp
  case huc1 => intros; simp
  case hdsc1 => first | rfl | simp
  · simp [toDs_map]
    exact congrArg (fun z => z) (by
      simp only [Function.comp_def] at e
      simp [e])
  · omega
  · intro p hp t
    simp []
end
end Rk
set_option Elab.async false
set_option linter.all false
set_option maxRecDepth 100000
set_option maxHeartbeats 1000000
namespace Rk
open PySem PySem.Spec PyProof.Rows L2 RkO Fv Tm
section
variable {K : PySem.W.Frag} {mg : Str → Option Value}
theorem v_least (T : Txt K mg) (n k : Nat) {l : List (Int × Int)} (h : Lv l) : m_Tower_least T n [.ow (.dp (twD T l))] k = .ok (.dp (.int (prd (l.map (·.2))))) [.un] k := by
  have hz := h.hz
  have e := v_product T n k h.r (by rw [List.length_map]; omega)
  rw [List.map_map] at e
  simp only [Function.comp_def] at e
  simp [m_Tower_least, twD, lvD]
  rw [lc_tp (l) (fun p => .int p.1) (fun p => .int p.2) (fun p => .dp (.int p.2)) ?hdsc1 ?hzc1 ?h0c1 ?hfc1 ?hf1c1 ?hwc1 ?huc1 ?hc1]
  case h0c1 => intro _; simp; rfl
  case hfc1 => intros; simp
  case hf1c1 => intros; simp
  case hwc1 => intros; simp
  case huc1 => intros; simp
  case hdsc1 => first | rfl | simp
  · simp [toDs_map, e]
  · omega
  · intro p hp t
    simp []
theorem v_greatest (T : Txt K mg) (n k : Nat) {l : List (Int × Int)} (h : Lv l) : m_Tower_greatest T n [.ow (.dp (twD T l))] k = .ok (.dp (.int (prd (l.map (·.1)) + 1 - prd (l.map oth)))) [.un] k := by
  have hz := h.hz
  have e := v_product T n k h.o (by rw [List.length_map]; omega)
  have e1 := v_size T n k h
  rw [List.map_map] at e
  simp only [Function.comp_def] at e
  unfold twD lvD at e1
  simp [m_Tower_greatest, twD, lvD, e1]
  rw [lc_tp (l) (fun p => .int p.1) (fun p => .int p.2) (fun p => .dp (.int (oth p))) ?hdsc2 ?hzc2 ?h0c2 ?hfc2 ?hf1c2 ?hwc2 ?huc2 ?hc2]
  case h0c2 => intro _; simp; rfl
  case hfc2 => intros; simp
  case hf1c2 => intros; simp
  case hwc2 => intros; simp
  case huc2 => intros; simp
  case hdsc2 => first | rfl | simp
  · simp [toDs_map, e]
  · omega
  · intro p hp t
    simp [oth]
theorem v_eq (T : Txt K mg) (n k : Nat) (l m : List (Int × Int)) : m_Tower_eq T n [.ow (.dp (twD T l)), .ow (.dp (twD T m))] k = .ok (.dp (.bl (decide (l = m)))) [.un, .un] k := by
  have e := g_eqP id l m
  simp [m_Tower_eq, twD, e]
theorem v_eq_no (T : Txt K mg) (n k : Nat) (l : List (Int × Int)) {d : D} (h : (∃ ds, d = .lst ds) ∨ ∃ i, d = .int i) : m_Tower_eq T n [.ow (.dp (twD T l)), .ow (.dp d)] k = .ok (.dp (.bl false)) [.un, .un] k := by
  rcases h with ⟨ds, rfl⟩ | ⟨i, rfl⟩ <;> simp [m_Tower_eq, twD] <;> rfl
def mirP (p : Int × Int) : Int × Int := (p.1, oth p)
theorem Lv.mir {l : List (Int × Int)} (h : Lv l) : Lv (l.map mirP) := by
  refine ⟨by simpa using h.ne, fun p hp => ?_, fun p hp => ?_, by rw [List.length_map]; exact h.hz⟩
  · obtain ⟨q, hq, rfl⟩ := List.mem_map.mp hp
    have := h.ok q hq
    show 1 ≤ q.1 + 1 - q.2 ∧ q.1 + 1 - q.2 ≤ q.1
    omega
  · obtain ⟨q, hq, rfl⟩ := List.mem_map.mp hp
    exact h.sm q hq
theorem v_mirror (T : Txt K mg) (n k : Nat) {l : List (Int × Int)} (h : Lv l) : m_Tower_mirror T n [.ow (.dp (twD T l))] k = .ok (twO T (l.map mirP)) [.un] k := by
  have hz := h.hz
  have e := fun k => v_Tower_init T n k h.mir
  unfold lvD at e
  rw [List.map_map] at e
  simp only [Function.comp_def] at e
  simp [m_Tower_mirror, twD, lvD]
  rw [lc_tp (l) (fun p => .int p.1) (fun p => .int p.2) (fun p => .dp (pD (mirP p))) ?hdsc3 ?hzc3 ?h0c3 ?hfc3 ?hf1c3 ?hwc3 ?huc3 ?hc3]
  case h0c3 => intro _; simp; rfl
  case hfc3 => intros; simp
  case hf1c3 => intros; simp
  case hwc3 => intros; simp
  case huc3 => intros; simp
  case hdsc3 => first | rfl | simp
  · simp [toDs_map, flat_map, e]
  · omega
  · intro p hp t
    simp [mirP, oth, pD]
theorem Lv.app {l m : List (Int × Int)} (h : Lv l) (g : Lv m) (hz : l.length + m.length ≤ 50) : Lv (l ++ m) :=
  ⟨by simp [h.ne], fun p hp => (List.mem_append.mp hp).elim (h.ok p) (g.ok p), fun p hp => (List.mem_append.mp hp).elim (h.sm p) (g.sm p), by rw [List.length_append]; exact hz⟩
theorem v_mul (T : Txt K mg) (n k : Nat) {l m : List (Int × Int)} (h : Lv l) (g : Lv m) (hz : l.length + m.length ≤ 50) : m_Tower_mul T n [.ow (.dp (twD T l)), .ow (.dp (twD T m))] k = .ok (twO T (l ++ m)) [.un, .un] k := by
  have e := fun k => v_Tower_init T n k (h.app g hz)
  have hz2 : l.length + m.length ≤ 100000 := by omega
  unfold lvD at e
  rw [List.map_append] at e
  simp [m_Tower_mul, twD, lvD, hz2, e]
/-- what the law asks of one tower -/
theorem v_right (T : Txt K mg) (n k : Nat) {l : List (Int × Int)} (h : Lv l) : m_law_right T n [.ow (.dp (twD T l)), .ow (.dp (lvD l))] k = .ok (.dp (.bl true)) [.un, .un] k := by
  have hz := h.hz
  have p1 := v_law_product T n k h.c (by rw [List.length_map]; omega)
  have p2 := v_law_product T n k h.r (by rw [List.length_map]; omega)
  have p3 := v_law_product T n k h.o (by rw [List.length_map]; omega)
  rw [List.map_map] at p1 p2 p3
  simp only [Function.comp_def] at p1 p2 p3
  have e1 := v_levels T n k l
  have e2 := v_size T n k h
  have e3 := v_least T n k h
  have e4 := v_greatest T n k h
  have e5 := fun k => v_Tower_init T n k h
  have e6 := v_eq T n k l l
  have q := g_eqP not l l
  have c := tw_toD T l
  unfold twD at e1 e2 e3 e4 e6 c ⊢
  unfold lvD at *
  simp [m_law_right]
  rw [lc_tp (l) (fun p => .int p.1) (fun p => .int p.2) (fun p => .dp (.int p.1)) ?hdsc4 ?hzc4 ?h0c4 ?hfc4 ?hf1c4 ?hwc4 ?huc4 ?hc4]
  case h0c4 => intro _; simp; rfl
  case hfc4 => intros; simp
  case hf1c4 => intros; simp
  case hwc4 => intros; simp
  case huc4 => intros; simp
  case hdsc4 => first | rfl | simp
  · simp [toDs_map, p1]
    rw [lc_tp (l) (fun p => .int p.1) (fun p => .int p.2) (fun p => .dp (.int (oth p))) ?hdsc5 ?hzc5 ?h0c5 ?hfc5 ?hf1c5 ?hwc5 ?huc5 ?hc5]
    case h0c5 => intro _; simp; rfl
    case hfc5 => intros; simp
    case hf1c5 => intros; simp
    case hwc5 => intros; simp
    case huc5 => intros; simp
    case hdsc5 => first | rfl | simp
    · have hl : l.length < 100000 := by omega
      simp [toDs_map, p3, e1, e2, e3, e4, q, hl]
      rw [lc_tp (l) (fun p => .int p.1) (fun p => .int p.2) (fun p => .dp (.int p.2)) ?hdsc6 ?hzc6 ?h0c6 ?hfc6 ?hf1c6 ?hwc6 ?huc6 ?hc6]
      case h0c6 => intro _; simp; rfl
      case hfc6 => intros; simp
      case hf1c6 => intros; simp
      case hwc6 => intros; simp
      case huc6 => intros; simp
      case hdsc6 => first | rfl | simp
      · simp [toDs_map, p2, e4, e5, e6, c]
      · omega
      · intro p hp t
        simp []
    · omega
    · intro p hp t
      simp [oth]
  · omega
  · intro p hp t
    simp []
end
end Rk
set_option Elab.async false
set_option linter.all false
set_option maxRecDepth 100000
set_option maxHeartbeats 1000000
namespace Rk
open PySem PySem.Spec PyProof.Rows L2 RkO Fv Tm
section
variable {K : PySem.W.Frag} {mg : Str → Option Value}
theorem dps_app (a b : List D) : dps (a ++ b) = dps a ++ dps b := by simp [dps]
theorem dps_one (d : D) : dps [d] = [.dp d] := rfl
def mostI : List Int := [1, 2, 3, 9, 1000000, 1000000]
noncomputable def lvB (T : Txt K mg) (n : Nat) : SDen := (sSeq (sSet 3 (dIx (dLst [(dC (.int 1)), (dC (.int 2)), (dC (.int 3)), (dC (.int 9)), (dPow (dC (.int 10)) (dC (.int 6))), (dPow (dC (.int 10)) (dC (.int 6)))]) (dCall (m_law_draw T n) [.chg, .val] [] [(dVar 0), (dC (.int 6))])))
    (sSeq (sSet 4 (dAdd (dC (.int 1)) (dCall (m_law_draw T n) [.chg, .val] [] [(dVar 0), (dVar 3)])))
    (sSeq (sSet 5 (dAdd (dC (.int 1)) (dCall (m_law_draw T n) [.chg, .val] [] [(dVar 0), (dVar 4)])))
    (sSeq (sIf (tst (dCmp (gEqD id) (dCall (m_law_draw T n) [.chg, .val] [] [(dVar 0), (dC (.int 4))]) (dC (.int 0)))) (sParO 4 5 [(dAdd (dMul (dVar 4) (dPow (dC (.int 10)) (dC (.int 33)))) (dVar 5)), (dMul (dVar 5) (dPow (dC (.int 10)) (dC (.int 33))))]) sNx)
    (sExpr (dApp (dVar 1) (dTup [(dVar 4), (dOp vw gMin2 [(dVar 5), (dVar 4)])])))))))
theorem v_lev (T : Txt K mg) (n k : Nat) {p : Pu} {N : Nat} (h : PuOk N p) (hN : N ≤ 900000) : ∃ (q : Pu) (x : Int × Int), PuOk (N + 4) q ∧ (1 ≤ x.2 ∧ x.2 ≤ x.1) ∧ x.1 < 100000000000000000000000000000000000000000 ∧
    ∀ (l : List (Int × Int)) (s2 s3 s4 s5 : Slot) (tm : Nat), l.length < 90000 → free (some s3) = true → free (some s4) = true → free (some s5) = true →
      ∃ s3' s4' s5', OkS (lvB T n ⟨[.mu (pO p), .ow (.lst (dps (l.map pD))), s2, s3, s4, s5], k, tm⟩) [.mu (pO q), .ow (.lst (dps ((l ++ [x]).map pD))), s2, s3', s4', s5'] k ∧ free (some s3') = true ∧ free (some s4') = true ∧ free (some s5') = true := by
  have d0 := v_draw T n k h (by omega) (m := 6) (by omega)
  have l0 := drw_lt p (m := 6) (by omega)
  have o0 := drw_ok 6 h
  obtain ⟨mo, hmo⟩ : ∃ tm, tm = mostI.getD (drw p 6).1.toNat 0 := ⟨_, rfl⟩
  have h6 : mostI.length = 6 := rfl
  have e_t : atI [D.int 1, D.int 2, D.int 3, D.int 9, D.int 1000000, D.int 1000000] (drw p 6).1 = some (.int mo) := by
    show atI (mostI.map D.int) _ = _
    rw [at_map, ix_get (xs := mostI) (i := (drw p 6).1) 0 l0.1 (by omega), ← hmo]
    rfl
  have mt : mo ∈ mostI := by
    rw [hmo, List.getD_eq_getElem?_getD, List.getElem?_eq_getElem (by omega)]
    exact List.getElem_mem _
  have bt : 0 < mo ∧ mo ≤ 1000000 := by
    simp only [mostI, List.mem_cons, List.not_mem_nil, or_false] at mt
    omega
  generalize (drw p 6).1 = i0 at *
  generalize (drw p 6).2 = p0 at *
  have d1 := v_draw T n k o0 (by omega) (m := mo) (by omega)
  have l1 := drw_lt p0 (m := mo) (by omega)
  have o1 := drw_ok mo o0
  generalize (drw p0 mo).1 = c0 at *
  generalize (drw p0 mo).2 = p1 at *
  have d2 := v_draw T n k o1 (by omega) (m := 1 + c0) (by omega)
  have l2 := drw_lt p1 (m := 1 + c0) (by omega)
  have o2 := drw_ok (1 + c0) o1
  generalize (drw p1 (1 + c0)).1 = r0 at *
  generalize (drw p1 (1 + c0)).2 = p2 at *
  have d3 := v_draw T n k o2 (by omega) (m := 4) (by omega)
  have o3 := drw_ok 4 o2
  generalize (drw p2 4).1 = z at *
  generalize (drw p2 4).2 = p3 at *
  by_cases hz : z = 0
  · subst hz
    have m1 := mul_small (i := 1 + c0) (j := 1000000000000000000000000000000000) (by omega) (by omega) (by omega) (by omega)
    have m2 := mul_small (i := 1 + r0) (j := 1000000000000000000000000000000000) (by omega) (by omega) (by omega) (by omega)
    simp at m1 m2
    refine ⟨p3, ((1 + c0) * 1000000000000000000000000000000000 + (1 + r0), (1 + r0) * 1000000000000000000000000000000000), o3.mono (by omega), by show 1 ≤ _ ∧ _ ≤ _; omega, by show _ < _; omega, fun l s2 s3 s4 s5 tm hl f3 f4 f5 => ⟨.ow (.dp (.int mo)), .ow (.dp (.int ((1 + c0) * 1000000000000000000000000000000000 + (1 + r0)))), .ow (.dp (.int ((1 + r0) * 1000000000000000000000000000000000))), ?_, rfl, rfl, rfl⟩⟩
    have hm : ¬ (1 + c0) * 1000000000000000000000000000000000 + (1 + r0) < (1 + r0) * 1000000000000000000000000000000000 := by omega
    have hl2 : l.length < 100000 := by omega
    simp [lvB, OkS, d0, e_t, d1, d2, d3, f3, f4, f5, hl2, m1, m2, gMin2, hm, dps_app, dps_one, pD]
  · refine ⟨p3, (1 + c0, 1 + r0), o3.mono (by omega), by show 1 ≤ 1 + r0 ∧ 1 + r0 ≤ 1 + c0; omega, by show 1 + c0 < _; omega, fun l s2 s3 s4 s5 tm hl f3 f4 f5 => ⟨.ow (.dp (.int mo)), .ow (.dp (.int (1 + c0))), .ow (.dp (.int (1 + r0))), ?_, rfl, rfl, rfl⟩⟩
    have hm : ¬ 1 + c0 < 1 + r0 := by omega
    have hl2 : l.length < 100000 := by omega
    simp [lvB, OkS, d0, e_t, d1, d2, d3, f3, f4, f5, hl2, gMin2, hm, hz, dps_app, dps_one, pD]
structure LvI (N : Nat) (c : Nat) (p : Pu) (l : List (Int × Int)) : Prop where
  po : PuOk (N + 4 * c) p
  ok : ∀ p ∈ l, 1 ≤ p.2 ∧ p.2 ≤ p.1
  sm : ∀ p ∈ l, p.1 < 100000000000000000000000000000000000000000
  hz : l.length = c
theorem itA_of {k : List D → Option (List D)} {fs : List Den} {st st1 st2 : ES} {rvs : List RV} {os : List O} {ds0 ds : List D} (h1 : dArgs fs st = .ok rvs st1) (h2 : settles rvs st1 = .ok os st2) (h0 : toDs os = ds0) (h3 : k ds0 = some ds) : itA k fs st = .ok ds st2 := by
  subst h0
  unfold itA
  rw [h1]
  show (settles rvs st1).bind _ = _
  rw [h2]
  show (match k (toDs os) with | some ds => Out.ok ds st2 | none => .no) = _
  rw [h3]
theorem kR1_nat {m : Nat} (h : m ≤ 1000000) : kR1 [.int (m : Int)] = some ((List.range m).map fun i : Nat => .int (i : Int)) := by rw [kR1_int, if_pos (by omega)]; rfl
theorem seq_for {it : ES → Out (List D)} {tg : Tg} {body rest : SDen} {st st1 st2 : ES} {ds : List D} (e : it st = .ok ds st1) (hl : loopS body tg ds st1 = .nx st2) : sSeq (sFor it tg body) rest st = rest st2 := by
  unfold sSeq sFor
  rw [e, onE_ok, hl]
noncomputable def ll3 (T : Txt K mg) (n : Nat) : SDen := (sRet (dVar 1))
noncomputable def ll2 (T : Txt K mg) (n : Nat) : SDen := (sSeq (sFor (itA kR1 [(dAdd (dC (.int 1)) (dCall (m_law_draw T n) [.chg, .val] [] [(dVar 0), (dC (.int 6))]))]) (.nm 2) (sSeq (sSet 3 (dIx (dLst [(dC (.int 1)), (dC (.int 2)), (dC (.int 3)), (dC (.int 9)), (dPow (dC (.int 10)) (dC (.int 6))), (dPow (dC (.int 10)) (dC (.int 6)))]) (dCall (m_law_draw T n) [.chg, .val] [] [(dVar 0), (dC (.int 6))]))) (sSeq (sSet 4 (dAdd (dC (.int 1)) (dCall (m_law_draw T n) [.chg, .val] [] [(dVar 0), (dVar 3)]))) (sSeq (sSet 5 (dAdd (dC (.int 1)) (dCall (m_law_draw T n) [.chg, .val] [] [(dVar 0), (dVar 4)]))) (sSeq (sIf (tst (dCmp (gEqD id) (dCall (m_law_draw T n) [.chg, .val] [] [(dVar 0), (dC (.int 4))]) (dC (.int 0)))) (sParO 4 5 [(dAdd (dMul (dVar 4) (dPow (dC (.int 10)) (dC (.int 33)))) (dVar 5)), (dMul (dVar 5) (dPow (dC (.int 10)) (dC (.int 33))))]) sNx) (sExpr (dApp (dVar 1) (dTup [(dVar 4), (dOp vw gMin2 [(dVar 5), (dVar 4)])])))))))) (ll3 T n))
noncomputable def ll1 (T : Txt K mg) (n : Nat) : SDen := (sSeq (sSet 1 (dLst [])) (ll2 T n))
theorem ll_eq (T : Txt K mg) (n : Nat) : m_law_levels T n = runFn 1 5 (ll1 T n) := rfl
theorem v_law_levels (T : Txt K mg) (n k : Nat) {p : Pu} {N : Nat} (h : PuOk N p) (hN : N ≤ 800000) : ∃ (q : Pu) (l : List (Int × Int)), m_law_levels T n [.mu (pO p)] k = .ok (.lst (dps (l.map pD))) [.mu (pO q)] k ∧ Lv l ∧ l.length ≤ 6 := by
  have d0 := v_draw T n k h (by omega) (m := 6) (by omega)
  have l0 := drw_lt p (m := 6) (by omega)
  have o0 := drw_ok 6 h
  generalize (drw p 6).2 = p0 at *
  obtain ⟨m, hm⟩ : ∃ m : Nat, (m : Int) = 1 + (drw p 6).1 := ⟨(1 + (drw p 6).1).toNat, by omega⟩
  have eI : itA kR1 [dAdd (dC (.int 1)) (dCall (m_law_draw T n) [.chg, .val] [] [dVar 0, dC (.int 6)])] ⟨[.mu (pO p), .ow (.lst []), .un, .un, .un, .un], k, 0⟩ = .ok ((List.range m).map fun i : Nat => .int (i : Int)) ⟨[.mu (pO p0), .ow (.lst []), .un, .un, .un, .un], k, 1⟩ := by
    refine itA_of (rvs := [.va (.dp (.int (m : Int)))]) (os := [.dp (.int (m : Int))]) ?_ rfl (by simp) (kR1_nat (by omega))
    simp [d0, hm]
  obtain ⟨ws', t', eL, q, l, s2, s3, s4, s5, rfl, hI, f2, f3, f4, f5⟩ := loop_inv (body := lvB T n) (tg := .nm 2) (n := k) (t := 1) (L := loopS (lvB T n) (.nm 2) _ _) rfl (List.range m) (fun i : Nat => .int (i : Int)) (fun zs ws => ∃ q l s2 s3 s4 s5, ws = [.mu (pO q), .ow (.lst (dps (l.map pD))), s2, s3, s4, s5] ∧ LvI (N + 1) zs.length q l ∧ free (some s2) = true ∧ free (some s3) = true ∧ free (some s4) = true ∧ free (some s5) = true) rfl ⟨p0, [], .un, .un, .un, .un, rfl, ⟨o0, by simp, by simp, rfl⟩, rfl, rfl, rfl, rfl⟩ (by
    rintro zs i ws tm hpr ⟨q, l, s2, s3, s4, s5, rfl, hI, f2, f3, f4, f5⟩
    have hzl := hpr.length_le
    rw [List.length_append, List.length_singleton, List.length_range] at hzl
    obtain ⟨r, x, o1, hx, hs, st⟩ := v_lev T n k hI.po (by omega)
    have hz := hI.hz
    obtain ⟨s3', s4', s5', e, g3, g4, g5⟩ := st l (.ow (.dp (.int (i : Int)))) s3 s4 s5 tm (by omega) f3 f4 f5
    refine ⟨_, _, tg_nm (i := 2) f2, e, r, l ++ [x], _, s3', s4', s5', rfl, ⟨?_, ?_, ?_, ?_⟩, rfl, g3, g4, g5⟩
    · rw [List.length_append, List.length_singleton]
      exact o1.mono (by omega)
    · intro y hy
      rcases List.mem_append.mp hy with hy | hy
      · exact hI.ok y hy
      · rw [List.mem_singleton.mp hy]; exact hx
    · intro y hy
      rcases List.mem_append.mp hy with hy | hy
      · exact hI.sm y hy
      · rw [List.mem_singleton.mp hy]; exact hs
    · rw [List.length_append, List.length_append, hz]; rfl)
  have hlen := hI.hz
  rw [List.length_range] at hlen
  have e2 := seq_for (rest := ll3 T n) eI eL
  refine ⟨q, l, ?_, ⟨fun z => by rw [z] at hlen; simp at hlen; omega, hI.ok, hI.sm, by omega⟩, by omega⟩
  rw [ll_eq]
  have e1 : runFn 1 5 (ll1 T n) [.mu (pO p)] k = retF 1 (ll2 T n ⟨[.mu (pO p), .ow (.lst []), .un, .un, .un, .un], k, 0⟩) := by
    generalize hr : ll2 T n = R
    simp [ll1, hr]
  rw [e1]
  unfold lvB at e2
  unfold ll2
  rw [e2]
  simp [ll3]
end
end Rk
set_option Elab.async false
set_option linter.all false
set_option maxRecDepth 100000
set_option maxHeartbeats 1000000
namespace Rk
open PySem PySem.Spec PyProof.Rows L2 RkO Fv Tm
section
variable {K : PySem.W.Frag} {mg : Str → Option Value}
theorem held_t (T : Txt K mg) (n k tm : Nat) {d : D} {og : O} {s2 s3 : Slot} (h : HeldOk T n k d og) : sHeld T n ⟨[.ow (.dp d), .ow og, s2, s3], k, tm⟩ = .rt (.va (.dp (.bl true))) ⟨[.un, .un, .un, .un], k, tm + 1⟩ := by
  unfold sHeld
  exact if_pos h
theorem v_refused_l (T : Txt K mg) (n k : Nat) {ds : List D} (h : ∃ bs m, m_are_levels T n [.ow (.dp (.lst ds))] k = .ok (.dp (.bl false)) bs m) (hs : Selfd [⟨T.a_Leaf, m_Leaf_eq T n⟩] k 3 (.lst ds)) (hz : ds.length ≤ 90000) :
    m_law_refused T n [.ow (.dp (.lst ds))] k = .ok (.dp (.bl true)) [.un] k := by
  have e := fun tm s2 s3 => held_t T n k tm (s2 := s2) (s3 := s3) (d := .lst ds) (og := .lst (dps ds)) ⟨h, eqX_self hs, .inl ⟨ds, rfl, rfl, hz⟩⟩
  simp [m_law_refused, e]
theorem v_refused_o (T : Txt K mg) (n k : Nat) {d : D} (h : ∃ bs m, m_are_levels T n [.ow (.dp d)] k = .ok (.dp (.bl false)) bs m) (hs : Selfd [⟨T.a_Leaf, m_Leaf_eq T n⟩] k 3 d) (hi : isi1 [T.a_Leaf, T.a_Tower] (.ty "list") d = some false) :
    m_law_refused T n [.ow (.dp d)] k = .ok (.dp (.bl true)) [.un] k := by
  have e := fun tm s2 s3 => held_t T n k tm (s2 := s2) (s3 := s3) (d := d) (og := .dp d) ⟨h, eqX_self hs, .inr ⟨rfl, hi⟩⟩
  simp [m_law_refused, hi, e]
def oddD (c r : Int) : List D := [.tup [.int c, .int 0], .tup [.int c, .int (c + 1)], .tup [.int 0, .int 0], .tup [.int (-c), .int (-r)], .tup [.int c], .tup [.int c, .int r, .int r], .lst [.int c, .int r], .tup [.bl true, .int 1], .tup [.int 1, .bl true], .tup [.non, .int r], .tup [.int c, .non], .tup [.str "2", .int 1], .tup [.int c, .lst [.int r]], .non, .int 0, .str "a", .dic [], .tup []]
theorem v_odd (T : Txt K mg) (n k : Nat) {c r : Int} (h : 1 ≤ r ∧ r ≤ c) : ∀ x ∈ oddD c r, m_is_level T n [.ow (.dp x)] k = .ok (.dp (.bl false)) [.un] k := by
  intro x hx
  have h1 : ¬ (1 : Int) ≤ -r := by omega
  have h2 : ¬ c + 1 ≤ c := by omega
  have h3 : 1 ≤ c + 1 := by omega
  simp only [oddD, List.mem_cons, List.not_mem_nil, or_false] at hx
  rcases hx with rfl | rfl | rfl | rfl | rfl | rfl | rfl | rfl | rfl | rfl | rfl | rfl | rfl | rfl | rfl | rfl | rfl | rfl <;> simp [m_is_level, m_is_whole, h1, h2, h3]
theorem sf_odd {tab : List EE} {k m : Nat} {c r : Int} : ∀ x ∈ oddD c r, Selfd tab k (m + 2) x := by
  intro x hx
  simp only [oddD, List.mem_cons, List.not_mem_nil, or_false] at hx
  rcases hx with rfl | rfl | rfl | rfl | rfl | rfl | rfl | rfl | rfl | rfl | rfl | rfl | rfl | rfl | rfl | rfl | rfl | rfl
  all_goals first | exact .non | exact .int _ | exact .str _ | exact .dic | skip
  all_goals first | refine .tup _ fun d hd => ?_ | refine .lst _ fun d hd => ?_
  all_goals simp only [List.mem_cons, List.not_mem_nil, or_false] at hd
  all_goals try (rcases hd with rfl | rfl | rfl)
  all_goals try (rcases hd with rfl | rfl)
  all_goals try subst hd
  all_goals first | exact .non | exact .int _ | exact .str _ | exact .bl _ | (refine .lst _ fun d hd => ?_; rw [List.mem_singleton.mp hd]; exact .int _)
theorem sf_p {tab : List EE} {k m : Nat} (p : Int × Int) : Selfd tab k (m + 1) (pD p) := .tup _ fun d hd => by
  simp only [List.mem_cons, List.not_mem_nil, or_false] at hd
  rcases hd with rfl | rfl <;> exact .int _
open Classical in
theorem v_are_bad (T : Txt K mg) (n k : Nat) {ds : List D} (hz : ds.length ≤ 1000) (h : ∀ d ∈ ds, ∃ b, m_is_level T n [.ow (.dp d)] k = .ok (.dp (.bl b)) [.un] k) (hx : ∃ x ∈ ds, m_is_level T n [.ow (.dp x)] k = .ok (.dp (.bl false)) [.un] k) :
    m_are_levels T n [.ow (.dp (.lst ds))] k = .ok (.dp (.bl false)) [.un] k := by
  obtain ⟨f, hf⟩ : ∃ f : D → Bool, f = fun d => decide (m_is_level T n [.ow (.dp d)] k = .ok (.dp (.bl true)) [.un] k) := ⟨_, rfl⟩
  have hl : ds ≠ [] := by
    obtain ⟨x, hx, _⟩ := hx
    exact List.ne_nil_of_mem hx
  have e2 : asBls (List.map (fun d => D.bl (f d)) ds) = some (ds.map f) := asBls_all f ds
  have e3 : ds.all f = false := by
    obtain ⟨x, hx, e⟩ := hx
    cases hA : ds.all f with
    | false => rfl
    | true =>
      have := List.all_eq_true.mp hA x hx
      rw [hf] at this
      have := of_decide_eq_true this
      rw [e] at this
      cases this
  simp [m_are_levels, hl]
  rw [lc_nm (ds) (id) (fun d => .dp (.bl (f d))) ?hdsc1 ?hzc1 ?h0c1 ?hfc1 ?hwc1 ?huc1 ?hc1]
  case h0c1 => intro _; simp; rfl
  case hfc1 => intros; simp
  case hwc1 => intros; simp
  case huc1 => intros; simp
  case hdsc1 => first | rfl | simp
  · simp [toDs_map, flat_map, e2]
    obtain ⟨x, hx, e⟩ := hx
    exact ⟨x, hx, by rw [hf]; exact decide_eq_false fun z => by rw [e] at z; cases z⟩
  · omega
  · intro d hd t
    obtain ⟨b, e⟩ := h d hd
    have hb : f d = b := by
      rw [hf]
      cases b
      · exact decide_eq_false fun z => by rw [e] at z; cases z
      · exact decide_eq_true e
    simp [e, hb]
/-- what is refused, and held -/
structure Bad (T : Txt K mg) (n k : Nat) (d : D) : Prop where
  no : m_are_levels T n [.ow (.dp d)] k = .ok (.dp (.bl false)) [.un] k
  sf : Selfd [⟨T.a_Leaf, m_Leaf_eq T n⟩] k 3 d
  og : (∃ ds, d = .lst ds ∧ ds.length ≤ 90000) ∨ isi1 [T.a_Leaf, T.a_Tower] (.ty "list") d = some false
theorem Bad.ref {T : Txt K mg} {n k : Nat} {d : D} (h : Bad T n k d) : m_law_refused T n [.ow (.dp d)] k = .ok (.dp (.bl true)) [.un] k := by
  rcases h.og with ⟨ds, rfl, hz⟩ | hi
  · exact v_refused_l T n k ⟨_, _, h.no⟩ h.sf hz
  · exact v_refused_o T n k ⟨_, _, h.no⟩ h.sf hi
theorem bad_lst (T : Txt K mg) (n k : Nat) {l : List (Int × Int)} {c r : Int} (h : Lv l) (hr : 1 ≤ r ∧ r ≤ c) {ds : List D} (hd : ∀ d ∈ ds, d ∈ l.map pD ∨ d ∈ oddD c r) (hx : ∃ d ∈ ds, d ∈ oddD c r) (hz : ds.length ≤ 1000) : Bad T n k (.lst ds) := by
  refine ⟨v_are_bad T n k hz (fun d hdd => ?_) ?_, .lst _ fun d hdd => ?_, .inl ⟨ds, rfl, by omega⟩⟩
  · rcases hd d hdd with hm | hm
    · obtain ⟨p, hp, rfl⟩ := List.mem_map.mp hm
      exact ⟨true, v_is_level T n k (h.ok p hp)⟩
    · exact ⟨false, v_odd T n k hr d hm⟩
  · obtain ⟨d, h1, h2⟩ := hx
    exact ⟨d, h1, v_odd T n k hr d h2⟩
  · rcases hd d hdd with hm | hm
    · obtain ⟨p, hp, rfl⟩ := List.mem_map.mp hm
      exact sf_p p
    · exact sf_odd d hm
noncomputable def lfD (T : Txt K mg) : D := .obj T.a_Leaf none [("_name", .str "a")]
noncomputable def lastD (T : Txt K mg) (x : Int × Int) (l : List (Int × Int)) : List D := [.lst [], .tup [], .tup ((x :: l).map pD), .non, .int 0, .str "a", .dic [], pD x, .bl true, lfD T]
noncomputable def badD (T : Txt K mg) (x : Int × Int) (l : List (Int × Int)) : List D := (oddD x.1 x.2).map (fun d => .lst ((x :: l).map pD ++ [d])) ++ (oddD x.1 x.2).map (fun d => .lst ([d] ++ (x :: l).map pD)) ++ lastD T x l
theorem v_bad_last (T : Txt K mg) (n k : Nat) {x : Int × Int} {l : List (Int × Int)} (h : Lv (x :: l)) : ∀ d ∈ lastD T x l, Bad T n k d := by
  intro d hd
  simp only [lastD, List.mem_cons, List.not_mem_nil, or_false] at hd
  rcases hd with rfl | rfl | rfl | rfl | rfl | rfl | rfl | rfl | rfl | rfl
  · exact ⟨by simp [m_are_levels], .lst _ (by simp), .inl ⟨[], rfl, by simp⟩⟩
  · exact ⟨by simp [m_are_levels], .tup _ (by simp), .inr (by simp [])⟩
  · exact ⟨by simp [m_are_levels], .tup _ fun d hd => by obtain ⟨p, _, rfl⟩ := List.mem_map.mp hd; exact sf_p p, .inr (by simp [])⟩
  · exact ⟨by simp [m_are_levels], .non, .inr (by simp [])⟩
  · exact ⟨by simp [m_are_levels], .int _, .inr (by simp [])⟩
  · exact ⟨by simp [m_are_levels], .str _, .inr (by simp [])⟩
  · exact ⟨by simp [m_are_levels], .dic, .inr (by simp [])⟩
  · exact ⟨by simp [m_are_levels, pD], sf_p x, .inr (by simp [pD])⟩
  · exact ⟨by simp [m_are_levels], .bl _, .inr (by simp [])⟩
  · exact ⟨by simp [m_are_levels, lfD], .obj ⟨T.a_Leaf, m_Leaf_eq T n⟩ _ _ (by simp) (by simp [m_Leaf_eq, g_eqS id (i := "a") (j := "a") (by decide +kernel) (by decide +kernel)]; rfl), .inr (by simp [lfD])⟩
theorem v_bad_all (T : Txt K mg) (n k : Nat) {x : Int × Int} {l : List (Int × Int)} (h : Lv (x :: l)) : ∀ d ∈ badD T x l, Bad T n k d := by
  have hz := h.hz
  have hr := h.ok x (by simp)
  intro d hd
  rcases List.mem_append.mp hd with hd | hd
  · rcases List.mem_append.mp hd with hd | hd
    · obtain ⟨o, ho, rfl⟩ := List.mem_map.mp hd
      refine bad_lst T n k h hr (fun d hd => ?_) ⟨o, by simp, ho⟩ (by rw [List.length_append, List.length_map, List.length_singleton]; omega)
      rcases List.mem_append.mp hd with hd | hd
      · exact .inl hd
      · rw [List.mem_singleton.mp hd]; exact .inr ho
    · obtain ⟨o, ho, rfl⟩ := List.mem_map.mp hd
      refine bad_lst T n k h hr (fun d hd => ?_) ⟨o, by simp, ho⟩ (by rw [List.length_append, List.length_map, List.length_singleton]; omega)
      rcases List.mem_append.mp hd with hd | hd
      · rw [List.mem_singleton.mp hd]; exact .inr ho
      · exact .inl hd
  · exact v_bad_last T n k h d hd
theorem v_Leaf_a (T : Txt K mg) (n k : Nat) : m_Leaf_init T n [.mu (.obj T.a_Leaf none []), .ow (.dp (.str "a"))] k = .ok (.dp .non) [.mu (.obj T.a_Leaf none [("_name", .dp (.str "a"))]), .un] k := by
  simp [m_Leaf_init, v_is_name T n k (x := "a") (by decide +kernel)]
theorem at_0 (d : D) (ds : List D) : atI (d :: ds) 0 = some d := by
  have := ix_nat (xs := d :: ds) (i := 0) (by simp)
  simpa using this
noncomputable def lb5 (T : Txt K mg) (n : Nat) : SDen := (sRet (dAdd (dVar 4) (dFz (dLst [(dLst []), (dTup []), (dOp vw gTuple [(dVar 0)]), (dC .non), (dC (.int 0)), (dC (.str "a")), dDk0, (dIx (dVar 0) (dC (.int 0))), (dC (.bl true)), (dMake T.a_Leaf (m_Leaf_init T n) [.val] [] [(dC (.str "a"))])]))))
noncomputable def lb4 (T : Txt K mg) (n : Nat) : SDen := (sSeq (sFrz 4 (sSet 4 (dAdd (dLc (itU (dVar 3)) (.nm 5) tYs (dAdd (dVar 0) (dLst [(dVar 5)])) [5]) (dLc (itU (dVar 3)) (.nm 5) tYs (dAdd (dLst [(dVar 5)]) (dVar 0)) [5])))) (lb5 T n))
noncomputable def lb3 (T : Txt K mg) (n : Nat) : SDen := (sSeq (sFrz 3 (sSet 3 (dAdd (dVar 3) (dFz (dLst [(dTup [(dC (.bl true)), (dC (.int 1))]), (dTup [(dC (.int 1)), (dC (.bl true))]), (dTup [(dC .non), (dVar 2)]), (dTup [(dVar 1), (dC .non)]), (dTup [(dC (.str "2")), (dC (.int 1))]), (dTup [(dVar 1), (dLst [(dVar 2)])]), (dC .non), (dC (.int 0)), (dC (.str "a")), dDk0, (dTup [])]))))) (lb4 T n))
noncomputable def lb2 (T : Txt K mg) (n : Nat) : SDen := (sSeq (sFrz 3 (sSet 3 (dLst [(dTup [(dVar 1), (dC (.int 0))]), (dTup [(dVar 1), (dAdd (dVar 1) (dC (.int 1)))]), (dTup [(dC (.int 0)), (dC (.int 0))]), (dTup [(dSub (dC (.int 0)) (dVar 1)), (dSub (dC (.int 0)) (dVar 2))]), (dTup [(dVar 1)]), (dTup [(dVar 1), (dVar 2), (dVar 2)]), (dLst [(dVar 1), (dVar 2)])]))) (lb3 T n))
noncomputable def lb1 (T : Txt K mg) (n : Nat) : SDen := (sSeq (sUnp (.tp [(.nm 1), (.nm 2)]) (dIx (dVar 0) (dC (.int 0)))) (lb2 T n))
theorem lb_eq (T : Txt K mg) (n : Nat) : m_law_bad T n = runFn 1 5 (lb1 T n) := rfl
theorem v_law_bad (T : Txt K mg) (n k : Nat) {x : Int × Int} {l : List (Int × Int)} (h : Lv (x :: l)) : m_law_bad T n [.ow (.dp (lvD (x :: l)))] k = .ok (.lst (dps (badD T x l))) [.un] k := by
  have e := v_Leaf_a T n k
  have hz := h.hz
  rw [lb_eq]
  obtain ⟨c, r⟩ := x
  have e1 : ∃ t, runFn 1 5 (lb1 T n) [.ow (.dp (lvD ((c, r) :: l)))] k = retF 1 (lb4 T n ⟨[.ow (.dp (lvD ((c, r) :: l))), .ow (.dp (.int c)), .ow (.dp (.int r)), .ow (.dp (.lst (oddD c r))), .un, .un], k, t⟩) := by
    generalize hR : lb4 T n = R
    have a0 := at_0 (.tup [.int c, .int r]) (l.map pD)
    refine ⟨2, ?_⟩
    simp [lb1, lb2, lb3, lvD, pD, hR, oddD, a0]
  obtain ⟨t, e1⟩ := e1
  rw [e1]
  have hzo : (oddD c r).length = 18 := rfl
  have hzv : ((c, r) :: l).length = (((c, r) :: l).map pD).length := (List.length_map _).symm
  rw [hzv] at hz
  unfold badD
  simp only []
  generalize oddD c r = od at *
  unfold lvD
  generalize hV : ((c, r) :: l).map pD = V at *
  have a0 := at_0 (pD (c, r)) (l.map pD)
  rw [show pD (c, r) :: l.map pD = V from hV] at a0
  have z1 : V.length ≤ 99999 := by omega
  have z2 : 1 + V.length ≤ 100000 := by omega
  have z3 : V.length ≤ 100000 := by omega
  have hL : lastD T (c, r) l = [.lst [], .tup [], .tup V, .non, .int 0, .str "a", .dic [], pD (c, r), .bl true, lfD T] := by rw [← hV]; rfl
  simp [lb4]
  rw [lc_nm (od) (id) (fun d => .lst (dps (V ++ [d]))) ?hdsc2 ?hzc2 ?h0c2 ?hfc2 ?hwc2 ?huc2 ?hc2]
  case h0c2 => intro _; simp; rfl
  case hfc2 => intros; simp
  case hwc2 => intros; simp
  case huc2 => intros; simp
  case hdsc2 => first | rfl | simp
  · simp [toDs_mapG]
    rw [lc_nm (od) (id) (fun d => .lst (dps (d :: V))) ?hdsc3 ?hzc3 ?h0c3 ?hfc3 ?hwc3 ?huc3 ?hc3]
    case h0c3 => intro _; simp; rfl
    case hfc3 => intros; simp
    case hwc3 => intros; simp
    case huc3 => intros; simp
    case hdsc3 => first | rfl | simp
    · simp [toDs_mapG, lb5, e, a0, hzo, hL, lfD]
    · omega
    · intro d hd t
      simp [z1, z2]
  · omega
  · intro d hd t
    simp [z1, z2]
end
end Rk
set_option Elab.async false
set_option linter.all false
set_option maxRecDepth 100000
set_option maxHeartbeats 1000000
namespace Rk
open PySem PySem.Spec PyProof.Rows L2 RkO Fv Tm
section
variable {K : PySem.W.Frag} {mg : Str → Option Value}
noncomputable def lo14 (T : Txt K mg) (n : Nat) : SDen := (sFrz 1 (sSet 1 (dSl (dVar 4) none (some (dC (.int 3))))))
noncomputable def lo13 (T : Txt K mg) (n : Nat) : SDen := (sSeq (sIf (tOrr (tst (dCmp (gEqD not) (dLc (itU (dCall (m_law_bad T n) [.val] [] [(dVar 4)])) (.nm 10) (tNo (tst (dCall (m_law_refused T n) [.val] [] [(dVar 10)]))) (dVar 10) [10]) (dLst []))) (tNo (tst (dCall (m_law_right T n) [.val, .val] [] [(dVar 6), (dVar 4)])))) (sRet (dC (.bl false))) sNx) (lo14 T n))
noncomputable def lo12 (T : Txt K mg) (n : Nat) : SDen := (sSeq (sIf (tOrr (tst (dOpN pk (gEqA T.a_Tower [T.a_Tower] (m_Tower_eq T n) id) [(dVar 6), (dVar 4)])) (tOrr (tst (dOpN pk (gEqA T.a_Tower [T.a_Tower] (m_Tower_eq T n) id) [(dVar 6), (dC (.int 0))])) (tOrr (tst (dOpN pk (gEqO T.a_Tower (m_Tower_eq T n) id) [(dVar 6), (dMake T.a_Tower (m_Tower_init T n) [.val] [] [(dFz (dAdd (dVar 4) (dLst [(dTup [(dC (.int 1)), (dC (.int 1))])])))])])) (tst (dOpN pk (gEqO T.a_Tower (m_Tower_eq T n) id) [(dVar 6), (dMake T.a_Tower (m_Tower_init T n) [.val] [] [(dFz (dAdd (dLst [(dTup [(dC (.int 1)), (dC (.int 1))])]) (dVar 4)))])]))))) (sRet (dC (.bl false))) sNx) (lo13 T n))
noncomputable def lo11 (T : Txt K mg) (n : Nat) : SDen := (sSeq (sIf (tNo (tst (dCall (m_law_right T n) [.val, .val] [] [(dFz (dBin T.a_Tower (m_Tower_mul T n) [.val, .val] (dFz (dMake T.a_Tower (m_Tower_init T n) [.val] [] [(dVar 1)])) (dVar 6))), (dFz (dAdd (dVar 1) (dVar 4)))]))) (sRet (dC (.bl false))) sNx) (lo12 T n))
noncomputable def lo10 (T : Txt K mg) (n : Nat) : SDen := (sSeq (sIf (tOrr (tNo (tst (dCall (m_law_right T n) [.val, .val] [] [(dFz (dBin T.a_Tower (m_Tower_mul T n) [.val, .val] (dVar 6) (dFz (dMake T.a_Tower (m_Tower_init T n) [.val] [] [(dVar 1)])))), (dFz (dAdd (dVar 4) (dVar 1)))]))) (tNo (tst (dCall (m_law_right T n) [.val, .val] [] [(dFz (dBin T.a_Tower (m_Tower_mul T n) [.val, .val] (dVar 6) (dVar 6))), (dFz (dAdd (dVar 4) (dVar 4)))])))) (sRet (dC (.bl false))) sNx) (lo11 T n))
noncomputable def lo9 (T : Txt K mg) (n : Nat) : SDen := (sSeq (sIf (tOrr (tst (dCmp (gEqD not) (dProp [⟨T.a_Tower, m_Tower_least T n, [.val], []⟩] (dFz (dMeth "mirror" [⟨T.a_Tower, m_Tower_mirror T n, [.val], []⟩] (dVar 6) []))) (dSub (dAdd (dProp [⟨T.a_Tower, m_Tower_size T n, [.val], []⟩] (dVar 6)) (dC (.int 1))) (dProp [⟨T.a_Tower, m_Tower_greatest T n, [.val], []⟩] (dVar 6))))) (tNo (tst (dOpN pk (gEqO T.a_Tower (m_Tower_eq T n) id) [(dMeth "mirror" [⟨T.a_Tower, m_Tower_mirror T n, [.val], []⟩] (dFz (dMeth "mirror" [⟨T.a_Tower, m_Tower_mirror T n, [.val], []⟩] (dVar 6) [])) []), (dVar 6)])))) (sRet (dC (.bl false))) sNx) (lo10 T n))
noncomputable def lo8 (T : Txt K mg) (n : Nat) : SDen := (sSeq (sIf (tOrr (tNo (tst (dCall (m_law_right T n) [.val, .val] [] [(dVar 6), (dVar 4)]))) (tNo (tst (dCall (m_law_right T n) [.val, .val] [] [(dFz (dMeth "mirror" [⟨T.a_Tower, m_Tower_mirror T n, [.val], []⟩] (dVar 6) [])), (dVar 7)])))) (sRet (dC (.bl false))) sNx) (lo9 T n))
noncomputable def lo7 (T : Txt K mg) (n : Nat) : SDen := (sSeq (sFrz 7 (sSet 7 (dLc (itU (dVar 4)) (.tp [(.nm 8), (.nm 9)]) tYs (dTup [(dVar 8), (dSub (dAdd (dVar 8) (dC (.int 1))) (dVar 9))]) [8, 9]))) (lo8 T n))
noncomputable def lo6 (T : Txt K mg) (n : Nat) : SDen := (sSeq (sExpr (dApp (dVar 5) (dTup [(dC (.int 1)), (dC (.int 1))]))) (lo7 T n))
noncomputable def lo5 (T : Txt K mg) (n : Nat) : SDen := (sSeq (sIf (tst (dCmp (gEqD not) (dVar 5) (dVar 4))) (sRet (dC (.bl false))) sNx) (lo6 T n))
noncomputable def lo4 (T : Txt K mg) (n : Nat) : SDen := (sSeq (sFrz 6 (sSet 6 (dMake T.a_Tower (m_Tower_init T n) [.len] [] [(dVar 5)]))) (lo5 T n))
noncomputable def lo3 (T : Txt K mg) (n : Nat) : SDen := (sSeq (sSet 5 (dOp vw gList [(dVar 4)])) (lo4 T n))
noncomputable def lo2 (T : Txt K mg) (n : Nat) : SDen := (sSeq (sFrz 4 (sSet 4 (dCall (m_law_levels T n) [.chg] [] [(dVar 3)]))) (lo3 T n))
noncomputable def lo1 (T : Txt K mg) (n : Nat) : SDen := (sSeq (sSet 3 (dCall (m_law_purse T n) [.val, .val] [] [(dVar 0), (dVar 2)])) (lo2 T n))
/-- the slots of a turn -/
noncomputable def St (T : Txt K mg) (b l : List (Int × Int)) (s0 s2 s3 s5 : Slot) : List Slot := [s0, .ow (.dp (lvD b)), s2, s3, .ow (.dp (lvD l)), s5, .ow (.dp (twD T l)), .ow (.dp (lvD (l.map mirP))), .un, .un, .un]
theorem lo_8 (T : Txt K mg) (n k tm : Nat) {b l : List (Int × Int)} (h : Lv l) (s0 s2 s3 s5 : Slot) : ∃ t', lo8 T n ⟨St T b l s0 s2 s3 s5, k, tm⟩ = lo9 T n ⟨St T b l s0 s2 s3 s5, k, t'⟩ := by
  have r1 := v_right T n k h
  have r2 := v_right T n k h.mir
  have m := v_mirror T n k h
  have c := tw_toD T (l.map mirP)
  unfold St lo8
  unfold twD at *
  generalize lo9 T n = R
  generalize lvD l = L at *
  generalize lvD (l.map mirP) = M at *
  generalize twO T (l.map mirP) = P at *
  simp [r1, r2, m, c]
  exact ⟨_, rfl⟩
theorem lo_9 (T : Txt K mg) (n k tm : Nat) {b l : List (Int × Int)} (h : Lv l) (s0 s2 s3 s5 : Slot) : ∃ t', lo9 T n ⟨St T b l s0 s2 s3 s5, k, tm⟩ = lo10 T n ⟨St T b l s0 s2 s3 s5, k, t'⟩ := by
  have m := v_mirror T n k h
  have m2 := v_mirror T n k h.mir
  have c := tw_toD T (l.map mirP)
  have c2 := tw_toD T ((l.map mirP).map mirP)
  have e1 := v_least T n k h.mir
  have e2 := v_size T n k h
  have e3 := v_greatest T n k h
  have hm : (l.map mirP).map mirP = l := by
    rw [List.map_map]
    refine (List.map_congr_left fun p _ => ?_).trans (List.map_id' l)
    obtain ⟨a, b⟩ := p
    show (a, a + 1 - (a + 1 - b)) = (a, b)
    rw [show a + 1 - (a + 1 - b) = b by omega]
  have hr : (l.map mirP).map (·.2) = l.map oth := by rw [List.map_map]; rfl
  have e4 := v_eq T n k l l
  rw [hr] at e1
  rw [hm] at m2 c2
  unfold St lo9
  generalize prd (l.map oth) = x at *
  generalize prd (l.map (·.1)) = y at *
  unfold twD at *
  generalize lvD l = L at *
  generalize lvD (l.map mirP) = M at *
  generalize twO T (l.map mirP) = P at *
  generalize twO T l = Q at *
  generalize lo10 T n = R
  have hq : y + 1 - (y + 1 - x) = x := by omega
  simp [m, m2, c, c2, e1, e2, e3, e4, hq]
  exact ⟨_, rfl⟩
theorem lv_app (l m : List (Int × Int)) : lvD (l ++ m) = .lst (l.map pD ++ m.map pD) := by unfold lvD; rw [List.map_append]
theorem lo_10 (T : Txt K mg) (n k tm : Nat) {b l : List (Int × Int)} (h : Lv l) (hb : Lv b) (hz : l.length ≤ 20) (hzb : b.length ≤ 20) (s0 s2 s3 s5 : Slot) : ∃ t', lo10 T n ⟨St T b l s0 s2 s3 s5, k, tm⟩ = lo11 T n ⟨St T b l s0 s2 s3 s5, k, t'⟩ := by
  have i1 := fun k => v_Tower_init T n k hb
  have c1 := tw_toD T b
  have m1 := v_mul T n k h hb (by omega)
  have m2 := v_mul T n k h h (by omega)
  have c2 := tw_toD T (l ++ b)
  have c3 := tw_toD T (l ++ l)
  have r1 := v_right T n k (h.app hb (by omega))
  have r2 := v_right T n k (h.app h (by omega))
  have a1 := lv_app l b
  have a2 := lv_app l l
  have z1 : l.length + b.length ≤ 100000 := by omega
  have z2 : l.length + l.length ≤ 100000 := by omega
  unfold St lo10
  unfold twD at *
  have iP : (twO T (l ++ b)).isRef = true := rfl
  have iQ : (twO T (l ++ l)).isRef = true := rfl
  generalize twO T (l ++ b) = P at *
  generalize twO T (l ++ l) = Q at *
  generalize twO T b = S at *
  unfold lvD at *
  simp only [List.map_append] at r1 r2 c2 c3
  generalize lo11 T n = R
  simp [i1, c1, m1, m2, c2, c3, r1, r2, z1, z2, iP, iQ, -O.isRef]
  exact ⟨_, rfl⟩
theorem lo_11 (T : Txt K mg) (n k tm : Nat) {b l : List (Int × Int)} (h : Lv l) (hb : Lv b) (hz : l.length ≤ 20) (hzb : b.length ≤ 20) (s0 s2 s3 s5 : Slot) : ∃ t', lo11 T n ⟨St T b l s0 s2 s3 s5, k, tm⟩ = lo12 T n ⟨St T b l s0 s2 s3 s5, k, t'⟩ := by
  have i1 := fun k => v_Tower_init T n k hb
  have c1 := tw_toD T b
  have m1 := v_mul T n k hb h (by omega)
  have c2 := tw_toD T (b ++ l)
  have r1 := v_right T n k (hb.app h (by omega))
  have z1 : b.length + l.length ≤ 100000 := by omega
  unfold St lo11
  unfold twD at *
  have iP : (twO T (b ++ l)).isRef = true := rfl
  generalize twO T (b ++ l) = P at *
  generalize twO T b = S at *
  unfold lvD at *
  simp only [List.map_append] at r1 c2
  generalize lo12 T n = R
  simp [i1, c1, m1, c2, r1, z1, iP, -O.isRef]
  exact ⟨_, rfl⟩
theorem one_one : Lv [(1, 1)] := ⟨by simp, by simp, by simp, by simp⟩
theorem lo_12 (T : Txt K mg) (n k tm : Nat) {b l : List (Int × Int)} (h : Lv l) (hz : l.length ≤ 20) (s0 s2 s3 s5 : Slot) : ∃ t', lo12 T n ⟨St T b l s0 s2 s3 s5, k, tm⟩ = lo13 T n ⟨St T b l s0 s2 s3 s5, k, t'⟩ := by
  have i1 := fun k => v_Tower_init T n k (h.app one_one (by simp; omega))
  have i2 := fun k => v_Tower_init T n k (one_one.app h (by simp; omega))
  have c1 := tw_toD T (l ++ [(1, 1)])
  have c2 := tw_toD T ([(1, 1)] ++ l)
  have e1 := v_eq T n k l (l ++ [(1, 1)])
  have e2 := v_eq T n k l ([(1, 1)] ++ l)
  rw [decide_eq_false (fun z => by have := congrArg List.length z; simp at this)] at e1 e2
  have e3 := v_eq_no T n k l (d := lvD l) (.inl ⟨_, rfl⟩)
  have e4 := v_eq_no T n k l (d := .int 0) (.inr ⟨_, rfl⟩)
  have z1 : l.length + 1 ≤ 100000 := by omega
  have z2 : 1 + l.length ≤ 100000 := by omega
  have z3 : l.length ≤ 99999 := by omega
  have p1 : pD (1, 1) = .tup [.int 1, .int 1] := rfl
  unfold St lo12
  unfold twD at *
  generalize twO T (l ++ [(1, 1)]) = P at *
  generalize twO T ([(1, 1)] ++ l) = S at *
  unfold lvD at *
  simp only [List.map_append, List.map_cons, List.map_nil, p1, List.cons_append, List.nil_append] at i1 i2 c1 c2 e1 e2
  generalize lo13 T n = R
  simp [i1, i2, c1, c2, e1, e2, e3, e4, z1, z2, z3]
  exact ⟨_, rfl⟩
theorem lo_13 (T : Txt K mg) (n k tm : Nat) {b l : List (Int × Int)} (h : Lv l) (s0 s2 s3 s5 : Slot) : ∃ t', lo13 T n ⟨St T b l s0 s2 s3 s5, k, tm⟩ = lo14 T n ⟨St T b l s0 s2 s3 s5, k, t'⟩ := by
  have r1 := v_right T n k h
  obtain ⟨x, more, rfl⟩ : ∃ x more, l = x :: more := by
    cases l with
    | nil => exact absurd rfl h.ne
    | cons x more => exact ⟨x, more, rfl⟩
  have b1 := v_law_bad T n k h
  have hbad := v_bad_all T n k h
  have hzb : (badD T x more).length ≤ 100 := by simp [badD, lastD, oddD]
  unfold St lo13
  unfold twD at *
  generalize lvD (x :: more) = L at *
  generalize badD T x more = B at *
  generalize lo14 T n = R
  simp [b1]
  rw [lc_if (B) (id) (fun _ => false) (fun d => .dp d) ?hdsc1 ?hzc1 ?h0c1 ?hfc1 ?hwc1 ?huc1 ?htc1 ?hc1]
  case h0c1 => intro _; simp; rfl
  case hfc1 => intros; simp
  case hwc1 => intros; simp
  case huc1 => intros; simp
  case hdsc1 => first | rfl | simp
  · have hf : B.filter (fun _ => false) = [] := List.filter_eq_nil_iff.mpr (by simp)
    have q := g_eqP not [] []
    unfold lvD at q
    simp only [List.map_nil] at q
    simp [r1, hf, q]
    exact ⟨_, rfl⟩
  · omega
  · intro d hd t
    simp [(hbad d hd).ref]
  · intro d hd hp t
    cases hp
theorem cut3 (l : List (Int × Int)) : cutD (l.map pD) none (some 3) = (l.take 3).map pD := cut_head pD l 3
theorem lo_14 (T : Txt K mg) (n k tm : Nat) {b l : List (Int × Int)} (s0 s2 s3 s5 : Slot) : OkS (lo14 T n ⟨St T b l s0 s2 s3 s5, k, tm⟩) (St T (l.take 3) l s0 s2 s3 s5) k := by
  have c := cut3 l
  unfold St
  generalize twD T l = A
  generalize lvD (l.map mirP) = M
  simp [lo14, OkS, lvD, c]
end
end Rk
set_option Elab.async false
set_option linter.all false
set_option maxRecDepth 100000
set_option maxHeartbeats 1000000
namespace Rk
open PySem PySem.Spec PyProof.Rows L2 RkO Fv Tm
section
variable {K : PySem.W.Frag} {mg : Str → Option Value}
theorem lo_1 (T : Txt K mg) (n k tm : Nat) (ns : List Int) {i : Int} (hi : 0 ≤ i ∧ i ≤ 3) (b : List (Int × Int)) {s3 s4 s5 s6 s7 : Slot} (f3 : free (some s3) = true) (f4 : free (some s4) = true) (f5 : free (some s5) = true) (f6 : free (some s6) = true) (f7 : free (some s7) = true) :
    ∃ (l : List (Int × Int)) (s3' s5' : Slot) (t' : Nat), Lv l ∧ l.length ≤ 6 ∧ free (some s3') = true ∧ free (some s5') = true ∧
      lo1 T n ⟨[.ow (.dp (.scr ns)), .ow (.dp (lvD b)), .ow (.dp (.int i)), s3, s4, s5, s6, s7, .un, .un, .un], k, tm⟩ = lo8 T n ⟨St T b l (.ow (.dp (.scr ns))) (.ow (.dp (.int i))) s3' s5', k, t'⟩ := by
  obtain ⟨p, hp, e1⟩ := v_purse T n k ns hi
  obtain ⟨q, l, e2, h, hz⟩ := v_law_levels T n k hp (by omega)
  have e3 := fun k => v_Tower_lent T n k h
  have c := tw_toD T l
  have g := g_eqP not l l
  have hl : l.length < 100000 := by omega
  have key : ∃ t', lo1 T n ⟨[.ow (.dp (.scr ns)), .ow (.dp (lvD b)), .ow (.dp (.int i)), s3, s4, s5, s6, s7, .un, .un, .un], k, tm⟩ = lo8 T n ⟨St T b l (.ow (.dp (.scr ns))) (.ow (.dp (.int i))) (.ow (pO q)) (.ow (.lst (dps (l.map pD) ++ [.dp (.tup [.int 1, .int 1])]))), k, t'⟩ := by
    unfold lo1 lo2 lo3 lo4 lo5 lo6 lo7 St
    generalize lo8 T n = R
    generalize lvD b = B
    generalize twO T l = P at *
    generalize twD T l = W at *
    unfold lvD at *
    simp [e1, e2, e3, c, g, hl, f3, f4, f5, f6, f7]
    rw [lc_tp (l) (fun p => .int p.1) (fun p => .int p.2) (fun p => .dp (pD (mirP p))) ?hdsc1 ?hzc1 ?h0c1 ?hfc1 ?hf1c1 ?hwc1 ?huc1 ?hc1]
    case h0c1 => intro _; simp; rfl
    case hfc1 => intros; simp
    case hf1c1 => intros; simp
    case hwc1 => intros; simp
    case huc1 => intros; simp
    case hdsc1 => first | rfl | simp
    · simp [toDs_map, flat_map, f7]
      exact ⟨_, rfl⟩
    · omega
    · intro p hp t
      simp [mirP, oth, pD]
  obtain ⟨t', key⟩ := key
  exact ⟨l, _, _, t', h, hz, rfl, rfl, key⟩
noncomputable def turn (T : Txt K mg) (n : Nat) : SDen := (sSeq (sSet 3 (dCall (m_law_purse T n) [.val, .val] [] [(dVar 0), (dVar 2)]))
    (sSeq (sFrz 4 (sSet 4 (dCall (m_law_levels T n) [.chg] [] [(dVar 3)])))
    (sSeq (sSet 5 (dOp vw gList [(dVar 4)]))
    (sSeq (sFrz 6 (sSet 6 (dMake T.a_Tower (m_Tower_init T n) [.len] [] [(dVar 5)])))
    (sSeq (sIf (tst (dCmp (gEqD not) (dVar 5) (dVar 4))) (sRet (dC (.bl false))) sNx)
    (sSeq (sExpr (dApp (dVar 5) (dTup [(dC (.int 1)), (dC (.int 1))])))
    (sSeq (sFrz 7 (sSet 7 (dLc (itU (dVar 4)) (.tp [(.nm 8), (.nm 9)]) tYs (dTup [(dVar 8), (dSub (dAdd (dVar 8) (dC (.int 1))) (dVar 9))]) [8, 9])))
    (sSeq (sIf (tOrr (tNo (tst (dCall (m_law_right T n) [.val, .val] [] [(dVar 6), (dVar 4)]))) (tNo (tst (dCall (m_law_right T n) [.val, .val] [] [(dFz (dMeth "mirror" [⟨T.a_Tower, m_Tower_mirror T n, [.val], []⟩] (dVar 6) [])), (dVar 7)])))) (sRet (dC (.bl false))) sNx)
    (sSeq (sIf (tOrr (tst (dCmp (gEqD not) (dProp [⟨T.a_Tower, m_Tower_least T n, [.val], []⟩] (dFz (dMeth "mirror" [⟨T.a_Tower, m_Tower_mirror T n, [.val], []⟩] (dVar 6) []))) (dSub (dAdd (dProp [⟨T.a_Tower, m_Tower_size T n, [.val], []⟩] (dVar 6)) (dC (.int 1))) (dProp [⟨T.a_Tower, m_Tower_greatest T n, [.val], []⟩] (dVar 6))))) (tNo (tst (dOpN pk (gEqO T.a_Tower (m_Tower_eq T n) id) [(dMeth "mirror" [⟨T.a_Tower, m_Tower_mirror T n, [.val], []⟩] (dFz (dMeth "mirror" [⟨T.a_Tower, m_Tower_mirror T n, [.val], []⟩] (dVar 6) [])) []), (dVar 6)])))) (sRet (dC (.bl false))) sNx)
    (sSeq (sIf (tOrr (tNo (tst (dCall (m_law_right T n) [.val, .val] [] [(dFz (dBin T.a_Tower (m_Tower_mul T n) [.val, .val] (dVar 6) (dFz (dMake T.a_Tower (m_Tower_init T n) [.val] [] [(dVar 1)])))), (dFz (dAdd (dVar 4) (dVar 1)))]))) (tNo (tst (dCall (m_law_right T n) [.val, .val] [] [(dFz (dBin T.a_Tower (m_Tower_mul T n) [.val, .val] (dVar 6) (dVar 6))), (dFz (dAdd (dVar 4) (dVar 4)))])))) (sRet (dC (.bl false))) sNx)
    (sSeq (sIf (tNo (tst (dCall (m_law_right T n) [.val, .val] [] [(dFz (dBin T.a_Tower (m_Tower_mul T n) [.val, .val] (dFz (dMake T.a_Tower (m_Tower_init T n) [.val] [] [(dVar 1)])) (dVar 6))), (dFz (dAdd (dVar 1) (dVar 4)))]))) (sRet (dC (.bl false))) sNx)
    (sSeq (sIf (tOrr (tst (dOpN pk (gEqA T.a_Tower [T.a_Tower] (m_Tower_eq T n) id) [(dVar 6), (dVar 4)])) (tOrr (tst (dOpN pk (gEqA T.a_Tower [T.a_Tower] (m_Tower_eq T n) id) [(dVar 6), (dC (.int 0))])) (tOrr (tst (dOpN pk (gEqO T.a_Tower (m_Tower_eq T n) id) [(dVar 6), (dMake T.a_Tower (m_Tower_init T n) [.val] [] [(dFz (dAdd (dVar 4) (dLst [(dTup [(dC (.int 1)), (dC (.int 1))])])))])])) (tst (dOpN pk (gEqO T.a_Tower (m_Tower_eq T n) id) [(dVar 6), (dMake T.a_Tower (m_Tower_init T n) [.val] [] [(dFz (dAdd (dLst [(dTup [(dC (.int 1)), (dC (.int 1))])]) (dVar 4)))])]))))) (sRet (dC (.bl false))) sNx)
    (sSeq (sIf (tOrr (tst (dCmp (gEqD not) (dLc (itU (dCall (m_law_bad T n) [.val] [] [(dVar 4)])) (.nm 10) (tNo (tst (dCall (m_law_refused T n) [.val] [] [(dVar 10)]))) (dVar 10) [10]) (dLst []))) (tNo (tst (dCall (m_law_right T n) [.val, .val] [] [(dVar 6), (dVar 4)])))) (sRet (dC (.bl false))) sNx)
    (sFrz 1 (sSet 1 (dSl (dVar 4) none (some (dC (.int 3)))))))))))))))))))
theorem turn_eq (T : Txt K mg) (n : Nat) : turn T n = lo1 T n := rfl
theorem Lv.take3 {l : List (Int × Int)} (h : Lv l) : Lv (l.take 3) := by
  obtain ⟨x, more, rfl⟩ : ∃ x more, l = x :: more := by
    cases l with
    | nil => exact absurd rfl h.ne
    | cons x more => exact ⟨x, more, rfl⟩
  exact ⟨by simp, fun p hp => h.ok p (List.mem_of_mem_take hp), fun p hp => h.sm p (List.mem_of_mem_take hp), Nat.le_trans (List.length_take_le _ _) (by omega)⟩
theorem v_turn (T : Txt K mg) (n k tm : Nat) (ns : List Int) {i : Int} (hi : 0 ≤ i ∧ i ≤ 3) {b : List (Int × Int)} (hb : Lv b) (hzb : b.length ≤ 3) {s3 s4 s5 s6 s7 : Slot} (f3 : free (some s3) = true) (f4 : free (some s4) = true) (f5 : free (some s5) = true) (f6 : free (some s6) = true) (f7 : free (some s7) = true) :
    ∃ (l : List (Int × Int)) (s3' s5' : Slot), Lv l ∧ l.length ≤ 6 ∧ free (some s3') = true ∧ free (some s5') = true ∧
      OkS (turn T n ⟨[.ow (.dp (.scr ns)), .ow (.dp (lvD b)), .ow (.dp (.int i)), s3, s4, s5, s6, s7, .un, .un, .un], k, tm⟩) (St T (l.take 3) l (.ow (.dp (.scr ns))) (.ow (.dp (.int i))) s3' s5') k := by
  obtain ⟨l, s3', s5', t1, h, hz, g3, g5, e1⟩ := lo_1 T n k tm ns hi b f3 f4 f5 f6 f7
  obtain ⟨t2, e2⟩ := lo_8 T n k t1 (b := b) h (.ow (.dp (.scr ns))) (.ow (.dp (.int i))) s3' s5'
  obtain ⟨t3, e3⟩ := lo_9 T n k t2 (b := b) h (.ow (.dp (.scr ns))) (.ow (.dp (.int i))) s3' s5'
  obtain ⟨t4, e4⟩ := lo_10 T n k t3 h hb (by omega) (by omega) (.ow (.dp (.scr ns))) (.ow (.dp (.int i))) s3' s5'
  obtain ⟨t5, e5⟩ := lo_11 T n k t4 h hb (by omega) (by omega) (.ow (.dp (.scr ns))) (.ow (.dp (.int i))) s3' s5'
  obtain ⟨t6, e6⟩ := lo_12 T n k t5 (b := b) h (by omega) (.ow (.dp (.scr ns))) (.ow (.dp (.int i))) s3' s5'
  obtain ⟨t7, e7⟩ := lo_13 T n k t6 (b := b) h (.ow (.dp (.scr ns))) (.ow (.dp (.int i))) s3' s5'
  refine ⟨l, s3', s5', h, hz, g3, g5, ?_⟩
  rw [turn_eq, e1, e2, e3, e4, e5, e6, e7]
  exact lo_14 T n k t7 _ _ _ _
noncomputable def lw3 (T : Txt K mg) (n : Nat) : SDen := (sRet (dC (.bl true)))
noncomputable def lw2 (T : Txt K mg) (n : Nat) : SDen := (sSeq (sFor (itA kR1 [(dC (.int 4))]) (.nm 2) (sSeq (sSet 3 (dCall (m_law_purse T n) [.val, .val] [] [(dVar 0), (dVar 2)])) (sSeq (sFrz 4 (sSet 4 (dCall (m_law_levels T n) [.chg] [] [(dVar 3)]))) (sSeq (sSet 5 (dOp vw gList [(dVar 4)])) (sSeq (sFrz 6 (sSet 6 (dMake T.a_Tower (m_Tower_init T n) [.len] [] [(dVar 5)]))) (sSeq (sIf (tst (dCmp (gEqD not) (dVar 5) (dVar 4))) (sRet (dC (.bl false))) sNx) (sSeq (sExpr (dApp (dVar 5) (dTup [(dC (.int 1)), (dC (.int 1))]))) (sSeq (sFrz 7 (sSet 7 (dLc (itU (dVar 4)) (.tp [(.nm 8), (.nm 9)]) tYs (dTup [(dVar 8), (dSub (dAdd (dVar 8) (dC (.int 1))) (dVar 9))]) [8, 9]))) (sSeq (sIf (tOrr (tNo (tst (dCall (m_law_right T n) [.val, .val] [] [(dVar 6), (dVar 4)]))) (tNo (tst (dCall (m_law_right T n) [.val, .val] [] [(dFz (dMeth "mirror" [⟨T.a_Tower, m_Tower_mirror T n, [.val], []⟩] (dVar 6) [])), (dVar 7)])))) (sRet (dC (.bl false))) sNx) (sSeq (sIf (tOrr (tst (dCmp (gEqD not) (dProp [⟨T.a_Tower, m_Tower_least T n, [.val], []⟩] (dFz (dMeth "mirror" [⟨T.a_Tower, m_Tower_mirror T n, [.val], []⟩] (dVar 6) []))) (dSub (dAdd (dProp [⟨T.a_Tower, m_Tower_size T n, [.val], []⟩] (dVar 6)) (dC (.int 1))) (dProp [⟨T.a_Tower, m_Tower_greatest T n, [.val], []⟩] (dVar 6))))) (tNo (tst (dOpN pk (gEqO T.a_Tower (m_Tower_eq T n) id) [(dMeth "mirror" [⟨T.a_Tower, m_Tower_mirror T n, [.val], []⟩] (dFz (dMeth "mirror" [⟨T.a_Tower, m_Tower_mirror T n, [.val], []⟩] (dVar 6) [])) []), (dVar 6)])))) (sRet (dC (.bl false))) sNx) (sSeq (sIf (tOrr (tNo (tst (dCall (m_law_right T n) [.val, .val] [] [(dFz (dBin T.a_Tower (m_Tower_mul T n) [.val, .val] (dVar 6) (dFz (dMake T.a_Tower (m_Tower_init T n) [.val] [] [(dVar 1)])))), (dFz (dAdd (dVar 4) (dVar 1)))]))) (tNo (tst (dCall (m_law_right T n) [.val, .val] [] [(dFz (dBin T.a_Tower (m_Tower_mul T n) [.val, .val] (dVar 6) (dVar 6))), (dFz (dAdd (dVar 4) (dVar 4)))])))) (sRet (dC (.bl false))) sNx) (sSeq (sIf (tNo (tst (dCall (m_law_right T n) [.val, .val] [] [(dFz (dBin T.a_Tower (m_Tower_mul T n) [.val, .val] (dFz (dMake T.a_Tower (m_Tower_init T n) [.val] [] [(dVar 1)])) (dVar 6))), (dFz (dAdd (dVar 1) (dVar 4)))]))) (sRet (dC (.bl false))) sNx) (sSeq (sIf (tOrr (tst (dOpN pk (gEqA T.a_Tower [T.a_Tower] (m_Tower_eq T n) id) [(dVar 6), (dVar 4)])) (tOrr (tst (dOpN pk (gEqA T.a_Tower [T.a_Tower] (m_Tower_eq T n) id) [(dVar 6), (dC (.int 0))])) (tOrr (tst (dOpN pk (gEqO T.a_Tower (m_Tower_eq T n) id) [(dVar 6), (dMake T.a_Tower (m_Tower_init T n) [.val] [] [(dFz (dAdd (dVar 4) (dLst [(dTup [(dC (.int 1)), (dC (.int 1))])])))])])) (tst (dOpN pk (gEqO T.a_Tower (m_Tower_eq T n) id) [(dVar 6), (dMake T.a_Tower (m_Tower_init T n) [.val] [] [(dFz (dAdd (dLst [(dTup [(dC (.int 1)), (dC (.int 1))])]) (dVar 4)))])]))))) (sRet (dC (.bl false))) sNx) (sSeq (sIf (tOrr (tst (dCmp (gEqD not) (dLc (itU (dCall (m_law_bad T n) [.val] [] [(dVar 4)])) (.nm 10) (tNo (tst (dCall (m_law_refused T n) [.val] [] [(dVar 10)]))) (dVar 10) [10]) (dLst []))) (tNo (tst (dCall (m_law_right T n) [.val, .val] [] [(dVar 6), (dVar 4)])))) (sRet (dC (.bl false))) sNx) (sFrz 1 (sSet 1 (dSl (dVar 4) none (some (dC (.int 3)))))))))))))))))))) (lw3 T n))
noncomputable def lw1 (T : Txt K mg) (n : Nat) : SDen := (sSeq (sFrz 1 (sSet 1 (dLst [(dTup [(dC (.int 3)), (dC (.int 2))])]))) (lw2 T n))
theorem lw_eq (T : Txt K mg) (n : Nat) : m_law T n = runFn 1 10 (lw1 T n) := rfl
theorem v_law (T : Txt K mg) (n k : Nat) (ns : List Int) (hn : 0 ≤ n) : m_law T n [.ow (.dp (.scr ns))] k = .ok (.dp (.bl true)) [.un] k := by
  rw [lw_eq]
  have eI : itA kR1 [dC (.int 4)] ⟨[.ow (.dp (.scr ns)), .ow (.dp (lvD [(3, 2)])), .un, .un, .un, .un, .un, .un, .un, .un, .un], k, 1⟩ = .ok ((List.range 4).map fun i : Nat => .int (i : Int)) ⟨[.ow (.dp (.scr ns)), .ow (.dp (lvD [(3, 2)])), .un, .un, .un, .un, .un, .un, .un, .un, .un], k, 1⟩ :=
    itA_of (rvs := [.va (.dp (.int ((4 : Nat) : Int)))]) (os := [.dp (.int ((4 : Nat) : Int))]) (by simp []) rfl (by simp) (kR1_nat (by omega))
  obtain ⟨ws', t', eL, b, s2, s3, s4, s5, s6, s7, rfl, hb, hzb, f2, f3, f4, f5, f6, f7⟩ := loop_inv (body := turn T n) (tg := .nm 2) (n := k) (t := 1) (L := loopS (turn T n) (.nm 2) _ _) rfl (List.range 4) (fun i : Nat => .int (i : Int)) (fun zs ws => ∃ b s2 s3 s4 s5 s6 s7, ws = [.ow (.dp (.scr ns)), .ow (.dp (lvD b)), s2, s3, s4, s5, s6, s7, .un, .un, .un] ∧ Lv b ∧ b.length ≤ 3 ∧ free (some s2) = true ∧ free (some s3) = true ∧ free (some s4) = true ∧ free (some s5) = true ∧ free (some s6) = true ∧ free (some s7) = true) rfl ⟨[(3, 2)], .un, .un, .un, .un, .un, .un, rfl, ⟨by simp, by simp, by simp, by simp⟩, by simp, rfl, rfl, rfl, rfl, rfl, rfl⟩ (by
    rintro zs i ws tm hpr ⟨b, s2, s3, s4, s5, s6, s7, rfl, hb, hzb, f2, f3, f4, f5, f6, f7⟩
    have hi : i < 4 := List.mem_range.mp (hpr.subset (by simp))
    obtain ⟨l, s3', s5', h, hz, g3, g5, e⟩ := v_turn T n k tm ns (i := (i : Int)) (by omega) hb hzb f3 f4 f5 f6 f7
    exact ⟨_, _, tg_nm (i := 2) f2, e, l.take 3, _, _, _, _, _, _, rfl, h.take3, Nat.le_trans (List.length_take_le _ _) (by omega), rfl, g3, rfl, g5, rfl, rfl⟩)
  have e2 := seq_for (rest := lw3 T n) eI eL
  have e1 : runFn 1 10 (lw1 T n) [.ow (.dp (.scr ns))] k = retF 1 (lw2 T n ⟨[.ow (.dp (.scr ns)), .ow (.dp (lvD [(3, 2)])), .un, .un, .un, .un, .un, .un, .un, .un, .un], k, 1⟩) := by
    generalize hr : lw2 T n = R
    simp [lw1, hr, lvD, pD]
  rw [e1]
  unfold turn at e2
  unfold lw2
  rw [e2]
  simp [lw3]
end
end Rk
set_option Elab.async false
set_option linter.all false
set_option maxRecDepth 100000
set_option maxHeartbeats 4000000
namespace Rk
open PySem PySem.Spec PyProof.Rows L2 RkO Fv
section
variable {P : Program} {w : World} {K : PySem.W.Frag} {mg : Str → Option Value} {base : Heap}
def spScr (K : PySem.W.Frag) : Sp := fun vs H Q _ => ∃ (a : Addr) (ns : List Int), vs = [.ref a] ∧ SqL K H a (ns.map V.int) ∧ ns.length ≤ 63 ∧ ∀ H', Same H H' → Q (.bl true) H'
theorem ok_lawS (T : Txt K mg) : FnOk P w K mg base (L2.CX P w) 20 T.f_law T.d_law ["script"] (spScr K) := (ok_law (P := P) (w := w) (base := base) T 5).imp fun vs H Q E h => by
  obtain ⟨a, ns, rfl, hS, hl, q⟩ := h
  exact spD_peek (ds := [.scr ns]) (ι := []) ⟨_, [], rfl, ⟨a, rfl, hS⟩, rfl⟩ (v_law T 5 0 ns (by decide)) rfl (fun H' sm => q H' sm)
end
section
variable {K : PySem.W.Frag} {h : Heap} {mg : Str → Option Value} {a_RankError a_InvalidName a_InvalidLevels a_Tree a_Leaf a_Tower f_Leaf_init f_Leaf_len f_Leaf_eq f_Tower_init f_Tower_levels p_Tower_levels f_Tower_size p_Tower_size f_Tower_least p_Tower_least f_Tower_greatest p_Tower_greatest f_Tower_eq f_Tower_mul f_Tower_mirror xN_InvalidLevels f_InvalidLevels_init tD_InvalidLevels_init f_is_whole f_is_name f_are_levels f_is_level f_product f_law_purse f_law_draw f_law_levels f_law_product f_law_right f_law_refused f_law_bad f_law : Addr} {kV_Leaf_init dc_Leaf_init pm_Leaf_init cd_Leaf_init ct_Leaf_init oc_Leaf_init kV_Leaf_len dc_Leaf_len pm_Leaf_len cd_Leaf_len ct_Leaf_len oc_Leaf_len kV_Leaf_eq dc_Leaf_eq pm_Leaf_eq cd_Leaf_eq ct_Leaf_eq oc_Leaf_eq kV_Tower_init dc_Tower_init pm_Tower_init cd_Tower_init ct_Tower_init oc_Tower_init kV_Tower_levels dc_Tower_levels pm_Tower_levels cd_Tower_levels ct_Tower_levels oc_Tower_levels kV_Tower_size dc_Tower_size pm_Tower_size cd_Tower_size ct_Tower_size oc_Tower_size kV_Tower_least dc_Tower_least pm_Tower_least cd_Tower_least ct_Tower_least oc_Tower_least kV_Tower_greatest dc_Tower_greatest pm_Tower_greatest cd_Tower_greatest ct_Tower_greatest oc_Tower_greatest kV_Tower_eq dc_Tower_eq pm_Tower_eq cd_Tower_eq ct_Tower_eq oc_Tower_eq kV_Tower_mul dc_Tower_mul pm_Tower_mul cd_Tower_mul ct_Tower_mul oc_Tower_mul kV_Tower_mirror dc_Tower_mirror pm_Tower_mirror cd_Tower_mirror ct_Tower_mirror oc_Tower_mirror kV_InvalidLevels_init dc_InvalidLevels_init pm_InvalidLevels_init cd_InvalidLevels_init ct_InvalidLevels_init oc_InvalidLevels_init oD_InvalidLevels_init kV_is_whole dc_is_whole pm_is_whole cd_is_whole ct_is_whole oc_is_whole kV_is_name dc_is_name pm_is_name cd_is_name ct_is_name oc_is_name kV_are_levels dc_are_levels pm_are_levels cd_are_levels ct_are_levels oc_are_levels kV_is_level dc_is_level pm_is_level cd_is_level ct_is_level oc_is_level kV_product dc_product pm_product cd_product ct_product oc_product kV_law_purse dc_law_purse pm_law_purse cd_law_purse ct_law_purse oc_law_purse kV_law_draw dc_law_draw pm_law_draw cd_law_draw ct_law_draw oc_law_draw kV_law_levels dc_law_levels pm_law_levels cd_law_levels ct_law_levels oc_law_levels kV_law_product dc_law_product pm_law_product cd_law_product ct_law_product oc_law_product kV_law_right dc_law_right pm_law_right cd_law_right ct_law_right oc_law_right kV_law_refused dc_law_refused pm_law_refused cd_law_refused ct_law_refused oc_law_refused kV_law_bad dc_law_bad pm_law_bad cd_law_bad ct_law_bad oc_law_bad kV_law dc_law pm_law cd_law ct_law oc_law : Value} {od_Leaf_init an_Leaf_init od_Leaf_len an_Leaf_len od_Leaf_eq an_Leaf_eq od_Tower_init an_Tower_init od_Tower_levels an_Tower_levels od_Tower_size an_Tower_size od_Tower_least an_Tower_least od_Tower_greatest an_Tower_greatest od_Tower_eq an_Tower_eq od_Tower_mul an_Tower_mul od_Tower_mirror an_Tower_mirror xd_InvalidLevels od_InvalidLevels_init an_InvalidLevels_init eD_InvalidLevels_init od_is_whole an_is_whole od_is_name an_is_name od_are_levels an_are_levels od_is_level an_is_level od_product an_product od_law_purse an_law_purse od_law_draw an_law_draw od_law_levels an_law_levels od_law_product an_law_product od_law_right an_law_right od_law_refused an_law_refused od_law_bad an_law_bad od_law an_law : Option Addr} {sl_Leaf_init sl_Leaf_len sl_Leaf_eq sl_Tower_init sl_Tower_levels sl_Tower_size sl_Tower_least sl_Tower_greatest sl_Tower_eq sl_Tower_mul sl_Tower_mirror sl_InvalidLevels_init sD_InvalidLevels_init sl_is_whole sl_is_name sl_are_levels sl_is_level sl_product sl_law_purse sl_law_draw sl_law_levels sl_law_product sl_law_right sl_law_refused sl_law_bad sl_law : Array (Option Value)} {r_Tower_levels r_Tower_size r_Tower_least r_Tower_greatest xb_InvalidLevels xu_InvalidLevels : List Value} {xn_InvalidLevels xq_InvalidLevels : Str} {xs_InvalidLevels : List Str} {xa_InvalidLevels : Bool} {xc_InvalidLevels : Option Bool} {x0_InvalidLevels x1_InvalidLevels x2_InvalidLevels x3_InvalidLevels x5_InvalidLevels : Option Value} {nD_InvalidLevels_init : Nat}
theorem all_mk {l : PySem.W.OpenLaw} {w : World} {fa : Addr} (X : K.In h) (G : h.Ns mainGlobals mg) (hfa : mg "law" = some (.ref fa))
    (z_len : PySem.W.nsIn K mainGlobals "len" = some none)
    (z_int : PySem.W.nsIn K mainGlobals "int" = some none)
    (z_range : PySem.W.nsIn K mainGlobals "range" = some none)
    (z_sum : PySem.W.nsIn K mainGlobals "sum" = some none)
    (z_all : PySem.W.nsIn K mainGlobals "all" = some none)
    (z_isinstance : PySem.W.nsIn K mainGlobals "isinstance" = some none)
    (z_list : PySem.W.nsIn K mainGlobals "list" = some none)
    (z_tuple : PySem.W.nsIn K mainGlobals "tuple" = some none)
    (z_bool : PySem.W.nsIn K mainGlobals "bool" = some none)
    (z_str : PySem.W.nsIn K mainGlobals "str" = some none)
    (z_min : PySem.W.nsIn K mainGlobals "min" = some none)
    (z_TypeError : PySem.W.nsIn K mainGlobals "TypeError" = some none)
    (z_ValueError : PySem.W.nsIn K mainGlobals "ValueError" = some none)
    (g_RankError : PySem.W.nsIn K mainGlobals "RankError" = some (some (.ref a_RankError)))
    (g_InvalidName : PySem.W.nsIn K mainGlobals "InvalidName" = some (some (.ref a_InvalidName)))
    (g_InvalidLevels : PySem.W.nsIn K mainGlobals "InvalidLevels" = some (some (.ref a_InvalidLevels)))
    (g_Tree : PySem.W.nsIn K mainGlobals "Tree" = some (some (.ref a_Tree)))
    (g_Leaf : PySem.W.nsIn K mainGlobals "Leaf" = some (some (.ref a_Leaf)))
    (g_Tower : PySem.W.nsIn K mainGlobals "Tower" = some (some (.ref a_Tower)))
    (at_Leaf_init : PySem.W.findIn K (.ref a_Leaf) "__init__" = some (some (.ref f_Leaf_init)))
    (i_Leaf_init : PySem.W.isFn K (.ref f_Leaf_init) = true)
    (l_Leaf_init : K.lookup f_Leaf_init = some ⟨oc_Leaf_init, od_Leaf_init, .func (PySem.W.fnOf "__init__" "Leaf.__init__" (defArgs s_Leaf_init) (defBody s_Leaf_init) (defScope s_Leaf_init) .none kV_Leaf_init dc_Leaf_init pm_Leaf_init an_Leaf_init cd_Leaf_init ct_Leaf_init), sl_Leaf_init⟩)
    (c_Leaf_init : PySem.W.codeIn K cd_Leaf_init "Leaf.__init__" = true)
    (k_Leaf_init : PySem.W.keepIn K (.ref f_Leaf_init) = true)
    (at_Leaf_len : PySem.W.findIn K (.ref a_Leaf) "__len__" = some (some (.ref f_Leaf_len)))
    (i_Leaf_len : PySem.W.isFn K (.ref f_Leaf_len) = true)
    (l_Leaf_len : K.lookup f_Leaf_len = some ⟨oc_Leaf_len, od_Leaf_len, .func (PySem.W.fnOf "__len__" "Leaf.__len__" (defArgs s_Leaf_len) (defBody s_Leaf_len) (defScope s_Leaf_len) .none kV_Leaf_len dc_Leaf_len pm_Leaf_len an_Leaf_len cd_Leaf_len ct_Leaf_len), sl_Leaf_len⟩)
    (c_Leaf_len : PySem.W.codeIn K cd_Leaf_len "Leaf.__len__" = true)
    (k_Leaf_len : PySem.W.keepIn K (.ref f_Leaf_len) = true)
    (at_Leaf_eq : PySem.W.findIn K (.ref a_Leaf) "__eq__" = some (some (.ref f_Leaf_eq)))
    (i_Leaf_eq : PySem.W.isFn K (.ref f_Leaf_eq) = true)
    (l_Leaf_eq : K.lookup f_Leaf_eq = some ⟨oc_Leaf_eq, od_Leaf_eq, .func (PySem.W.fnOf "__eq__" "Leaf.__eq__" (defArgs s_Leaf_eq) (defBody s_Leaf_eq) (defScope s_Leaf_eq) .none kV_Leaf_eq dc_Leaf_eq pm_Leaf_eq an_Leaf_eq cd_Leaf_eq ct_Leaf_eq), sl_Leaf_eq⟩)
    (c_Leaf_eq : PySem.W.codeIn K cd_Leaf_eq "Leaf.__eq__" = true)
    (k_Leaf_eq : PySem.W.keepIn K (.ref f_Leaf_eq) = true)
    (pg_Leaf : PySem.W.plainGet K a_Leaf Str.empty = true)
    (hd_Leaf : PySem.W.hasDictIn K a_Leaf = true)
    (po_Leaf : PySem.W.plainOver K a_Leaf = true)
    (sa_Leaf : PySem.W.findIn K (.ref a_Leaf) "__setattr__" = some (some (.builtin "object.__setattr__")))
    (mk_Leaf : PySem.W.makesIn K a_Leaf = true)
    (kc_Leaf : PySem.W.keepIn K (.ref a_Leaf) = true)
    (ca_Leaf : PySem.W.findIn K (.ref a_Leaf) "__class__" = some (some (.builtin "object.__class__")))
    (mo_Leaf : PySem.W.mroIn K a_Leaf (.type "object") = some true)
    (ne_Leaf : PySem.W.findIn K (.ref a_Leaf) "__ne__" = some (some (.builtin "object.__ne__")))
    (n_Leaf_name : PySem.W.findIn K (.ref a_Leaf) "_name" = some none)
    (at_Tower_init : PySem.W.findIn K (.ref a_Tower) "__init__" = some (some (.ref f_Tower_init)))
    (i_Tower_init : PySem.W.isFn K (.ref f_Tower_init) = true)
    (l_Tower_init : K.lookup f_Tower_init = some ⟨oc_Tower_init, od_Tower_init, .func (PySem.W.fnOf "__init__" "Tower.__init__" (defArgs s_Tower_init) (defBody s_Tower_init) (defScope s_Tower_init) .none kV_Tower_init dc_Tower_init pm_Tower_init an_Tower_init cd_Tower_init ct_Tower_init), sl_Tower_init⟩)
    (c_Tower_init : PySem.W.codeIn K cd_Tower_init "Tower.__init__" = true)
    (k_Tower_init : PySem.W.keepIn K (.ref f_Tower_init) = true)
    (at_Tower_levels : PySem.W.findIn K (.ref a_Tower) "levels" = some (some (.ref p_Tower_levels)))
    (gt_Tower_levels : PySem.W.specialIn K (.ref p_Tower_levels) "__get__" = some (some (.builtin "property.__get__")))
    (tk_Tower_levels : PySem.W.takesIn K (.ref p_Tower_levels) = some true)
    (rc_Tower_levels : PySem.W.recIn K p_Tower_levels "property" = some (.ref f_Tower_levels :: r_Tower_levels))
    (l_Tower_levels : K.lookup f_Tower_levels = some ⟨oc_Tower_levels, od_Tower_levels, .func (PySem.W.fnOf "levels" "Tower.levels" (defArgs s_Tower_levels) (defBody s_Tower_levels) (defScope s_Tower_levels) .none kV_Tower_levels dc_Tower_levels pm_Tower_levels an_Tower_levels cd_Tower_levels ct_Tower_levels), sl_Tower_levels⟩)
    (c_Tower_levels : PySem.W.codeIn K cd_Tower_levels "Tower.levels" = true)
    (k_Tower_levels : PySem.W.keepIn K (.ref f_Tower_levels) = true)
    (at_Tower_size : PySem.W.findIn K (.ref a_Tower) "size" = some (some (.ref p_Tower_size)))
    (gt_Tower_size : PySem.W.specialIn K (.ref p_Tower_size) "__get__" = some (some (.builtin "property.__get__")))
    (tk_Tower_size : PySem.W.takesIn K (.ref p_Tower_size) = some true)
    (rc_Tower_size : PySem.W.recIn K p_Tower_size "property" = some (.ref f_Tower_size :: r_Tower_size))
    (l_Tower_size : K.lookup f_Tower_size = some ⟨oc_Tower_size, od_Tower_size, .func (PySem.W.fnOf "size" "Tower.size" (defArgs s_Tower_size) (defBody s_Tower_size) (defScope s_Tower_size) .none kV_Tower_size dc_Tower_size pm_Tower_size an_Tower_size cd_Tower_size ct_Tower_size), sl_Tower_size⟩)
    (c_Tower_size : PySem.W.codeIn K cd_Tower_size "Tower.size" = true)
    (k_Tower_size : PySem.W.keepIn K (.ref f_Tower_size) = true)
    (at_Tower_least : PySem.W.findIn K (.ref a_Tower) "least" = some (some (.ref p_Tower_least)))
    (gt_Tower_least : PySem.W.specialIn K (.ref p_Tower_least) "__get__" = some (some (.builtin "property.__get__")))
    (tk_Tower_least : PySem.W.takesIn K (.ref p_Tower_least) = some true)
    (rc_Tower_least : PySem.W.recIn K p_Tower_least "property" = some (.ref f_Tower_least :: r_Tower_least))
    (l_Tower_least : K.lookup f_Tower_least = some ⟨oc_Tower_least, od_Tower_least, .func (PySem.W.fnOf "least" "Tower.least" (defArgs s_Tower_least) (defBody s_Tower_least) (defScope s_Tower_least) .none kV_Tower_least dc_Tower_least pm_Tower_least an_Tower_least cd_Tower_least ct_Tower_least), sl_Tower_least⟩)
    (c_Tower_least : PySem.W.codeIn K cd_Tower_least "Tower.least" = true)
    (k_Tower_least : PySem.W.keepIn K (.ref f_Tower_least) = true)
    (at_Tower_greatest : PySem.W.findIn K (.ref a_Tower) "greatest" = some (some (.ref p_Tower_greatest)))
    (gt_Tower_greatest : PySem.W.specialIn K (.ref p_Tower_greatest) "__get__" = some (some (.builtin "property.__get__")))
    (tk_Tower_greatest : PySem.W.takesIn K (.ref p_Tower_greatest) = some true)
    (rc_Tower_greatest : PySem.W.recIn K p_Tower_greatest "property" = some (.ref f_Tower_greatest :: r_Tower_greatest))
    (l_Tower_greatest : K.lookup f_Tower_greatest = some ⟨oc_Tower_greatest, od_Tower_greatest, .func (PySem.W.fnOf "greatest" "Tower.greatest" (defArgs s_Tower_greatest) (defBody s_Tower_greatest) (defScope s_Tower_greatest) .none kV_Tower_greatest dc_Tower_greatest pm_Tower_greatest an_Tower_greatest cd_Tower_greatest ct_Tower_greatest), sl_Tower_greatest⟩)
    (c_Tower_greatest : PySem.W.codeIn K cd_Tower_greatest "Tower.greatest" = true)
    (k_Tower_greatest : PySem.W.keepIn K (.ref f_Tower_greatest) = true)
    (at_Tower_eq : PySem.W.findIn K (.ref a_Tower) "__eq__" = some (some (.ref f_Tower_eq)))
    (i_Tower_eq : PySem.W.isFn K (.ref f_Tower_eq) = true)
    (l_Tower_eq : K.lookup f_Tower_eq = some ⟨oc_Tower_eq, od_Tower_eq, .func (PySem.W.fnOf "__eq__" "Tower.__eq__" (defArgs s_Tower_eq) (defBody s_Tower_eq) (defScope s_Tower_eq) .none kV_Tower_eq dc_Tower_eq pm_Tower_eq an_Tower_eq cd_Tower_eq ct_Tower_eq), sl_Tower_eq⟩)
    (c_Tower_eq : PySem.W.codeIn K cd_Tower_eq "Tower.__eq__" = true)
    (k_Tower_eq : PySem.W.keepIn K (.ref f_Tower_eq) = true)
    (at_Tower_mul : PySem.W.findIn K (.ref a_Tower) "__mul__" = some (some (.ref f_Tower_mul)))
    (i_Tower_mul : PySem.W.isFn K (.ref f_Tower_mul) = true)
    (l_Tower_mul : K.lookup f_Tower_mul = some ⟨oc_Tower_mul, od_Tower_mul, .func (PySem.W.fnOf "__mul__" "Tower.__mul__" (defArgs s_Tower_mul) (defBody s_Tower_mul) (defScope s_Tower_mul) .none kV_Tower_mul dc_Tower_mul pm_Tower_mul an_Tower_mul cd_Tower_mul ct_Tower_mul), sl_Tower_mul⟩)
    (c_Tower_mul : PySem.W.codeIn K cd_Tower_mul "Tower.__mul__" = true)
    (k_Tower_mul : PySem.W.keepIn K (.ref f_Tower_mul) = true)
    (at_Tower_mirror : PySem.W.findIn K (.ref a_Tower) "mirror" = some (some (.ref f_Tower_mirror)))
    (i_Tower_mirror : PySem.W.isFn K (.ref f_Tower_mirror) = true)
    (l_Tower_mirror : K.lookup f_Tower_mirror = some ⟨oc_Tower_mirror, od_Tower_mirror, .func (PySem.W.fnOf "mirror" "Tower.mirror" (defArgs s_Tower_mirror) (defBody s_Tower_mirror) (defScope s_Tower_mirror) .none kV_Tower_mirror dc_Tower_mirror pm_Tower_mirror an_Tower_mirror cd_Tower_mirror ct_Tower_mirror), sl_Tower_mirror⟩)
    (c_Tower_mirror : PySem.W.codeIn K cd_Tower_mirror "Tower.mirror" = true)
    (k_Tower_mirror : PySem.W.keepIn K (.ref f_Tower_mirror) = true)
    (pg_Tower : PySem.W.plainGet K a_Tower Str.empty = true)
    (hd_Tower : PySem.W.hasDictIn K a_Tower = true)
    (po_Tower : PySem.W.plainOver K a_Tower = true)
    (sa_Tower : PySem.W.findIn K (.ref a_Tower) "__setattr__" = some (some (.builtin "object.__setattr__")))
    (mk_Tower : PySem.W.makesIn K a_Tower = true)
    (kc_Tower : PySem.W.keepIn K (.ref a_Tower) = true)
    (ca_Tower : PySem.W.findIn K (.ref a_Tower) "__class__" = some (some (.builtin "object.__class__")))
    (mo_Tower : PySem.W.mroIn K a_Tower (.type "object") = some true)
    (ne_Tower : PySem.W.findIn K (.ref a_Tower) "__ne__" = some (some (.builtin "object.__ne__")))
    (n_Tower_levels : PySem.W.findIn K (.ref a_Tower) "_levels" = some none)
    (gc : PySem.W.specialIn K (.builtin "object.__class__") "__get__" = some (some (.builtin "getset_descriptor.__get__")))
    (tc : PySem.W.takesIn K (.builtin "object.__class__") = some true)
    (sf_Tower : PySem.W.selfFirst K a_Tower = true)
    (ic_Leaf : PySem.W.isClsIn K a_Leaf = true)
    (it_Leaf : PySem.W.typeIn K (.ref a_Leaf) = some (.type "type"))
    (ic_Tower : PySem.W.isClsIn K a_Tower = true)
    (it_Tower : PySem.W.typeIn K (.ref a_Tower) = some (.type "type"))
    (dx_Leaf_Tower : a_Leaf ≠ a_Tower)
    (is_Leaf_Tower : PySem.W.subIn K (.ref a_Leaf) (.ref a_Tower) = some false)
    (is_Leaf_list : PySem.W.subIn K (.ref a_Leaf) (.type "list") = some false)
    (is_Leaf_int : PySem.W.subIn K (.ref a_Leaf) (.type "int") = some false)
    (is_Leaf_bool : PySem.W.subIn K (.ref a_Leaf) (.type "bool") = some false)
    (is_Leaf_str : PySem.W.subIn K (.ref a_Leaf) (.type "str") = some false)
    (is_Leaf_tuple : PySem.W.subIn K (.ref a_Leaf) (.type "tuple") = some false)
    (dx_Tower_Leaf : a_Tower ≠ a_Leaf)
    (is_Tower_Leaf : PySem.W.subIn K (.ref a_Tower) (.ref a_Leaf) = some false)
    (is_Tower_list : PySem.W.subIn K (.ref a_Tower) (.type "list") = some false)
    (is_Tower_int : PySem.W.subIn K (.ref a_Tower) (.type "int") = some false)
    (is_Tower_bool : PySem.W.subIn K (.ref a_Tower) (.type "bool") = some false)
    (is_Tower_str : PySem.W.subIn K (.ref a_Tower) (.type "str") = some false)
    (is_Tower_tuple : PySem.W.subIn K (.ref a_Tower) (.type "tuple") = some false)
    (xL_InvalidLevels : K.lookup a_InvalidLevels = some (excClassObj xn_InvalidLevels xq_InvalidLevels a_InvalidLevels xN_InvalidLevels xb_InvalidLevels [.ref a_RankError, .type "ValueError", .type "Exception", .type "BaseException", .type "object"] true xs_InvalidLevels xu_InvalidLevels xa_InvalidLevels xc_InvalidLevels xd_InvalidLevels x0_InvalidLevels x1_InvalidLevels x2_InvalidLevels x3_InvalidLevels x5_InvalidLevels "ValueError.__new__"))
    (sa_InvalidLevels : PySem.W.findIn K (.ref a_InvalidLevels) "__setattr__" = some (some (.builtin "object.__setattr__")))
    (ga_InvalidLevels : PySem.W.findIn K (.ref a_InvalidLevels) "__getattribute__" = some (some (.builtin "BaseException.__getattribute__")))
    (gg_InvalidLevels : PySem.W.findIn K (.ref a_InvalidLevels) "__getattr__" = some none)
    (kc_InvalidLevels : PySem.W.keepIn K (.ref a_InvalidLevels) = true)
    (ex_InvalidLevels : PySem.W.subIn K (.ref a_InvalidLevels) (.type "BaseException") = some true)
    (ty_InvalidLevels : PySem.W.typeIn K (.ref a_InvalidLevels) = some (.type "type"))
    (hd_InvalidLevels : PySem.W.hasDictIn K a_InvalidLevels = true)
    (ic_InvalidLevels : PySem.W.isClsIn K a_InvalidLevels = true)
    (ss_InvalidLevels : PySem.W.subIn K (.ref a_InvalidLevels) (.ref a_InvalidLevels) = some true)
    (at_InvalidLevels_init : PySem.W.findIn K (.ref a_InvalidLevels) "__init__" = some (some (.ref f_InvalidLevels_init)))
    (i_InvalidLevels_init : PySem.W.isFn K (.ref f_InvalidLevels_init) = true)
    (l_InvalidLevels_init : K.lookup f_InvalidLevels_init = some ⟨oc_InvalidLevels_init, od_InvalidLevels_init, .func (PySem.W.fnOf "__init__" "InvalidLevels.__init__" (defArgs s_InvalidLevels_init) (defBody s_InvalidLevels_init) (defScope s_InvalidLevels_init) (.ref tD_InvalidLevels_init) kV_InvalidLevels_init dc_InvalidLevels_init pm_InvalidLevels_init an_InvalidLevels_init cd_InvalidLevels_init ct_InvalidLevels_init), sl_InvalidLevels_init⟩)
    (c_InvalidLevels_init : PySem.W.codeIn K cd_InvalidLevels_init "InvalidLevels.__init__" = true)
    (k_InvalidLevels_init : PySem.W.keepIn K (.ref f_InvalidLevels_init) = true)
    (dl_InvalidLevels_init : K.lookup tD_InvalidLevels_init = some ⟨oD_InvalidLevels_init, eD_InvalidLevels_init, .seq #[.none] nD_InvalidLevels_init, sD_InvalidLevels_init⟩)
    (tf_InvalidLevels : PySem.W.typeIn K (.ref f_InvalidLevels_init) = some (.type "function"))
    (n_InvalidLevels_value : PySem.W.findIn K (.ref a_InvalidLevels) "value" = some none)
    (g_is_whole : PySem.W.nsIn K mainGlobals "is_whole" = some (some (.ref f_is_whole)))
    (l_is_whole : K.lookup f_is_whole = some ⟨oc_is_whole, od_is_whole, .func (PySem.W.fnOf "is_whole" "is_whole" (defArgs s_is_whole) (defBody s_is_whole) (defScope s_is_whole) .none kV_is_whole dc_is_whole pm_is_whole an_is_whole cd_is_whole ct_is_whole), sl_is_whole⟩)
    (c_is_whole : PySem.W.codeIn K cd_is_whole "is_whole" = true)
    (k_is_whole : PySem.W.keepIn K (.ref f_is_whole) = true)
    (g_is_name : PySem.W.nsIn K mainGlobals "is_name" = some (some (.ref f_is_name)))
    (l_is_name : K.lookup f_is_name = some ⟨oc_is_name, od_is_name, .func (PySem.W.fnOf "is_name" "is_name" (defArgs s_is_name) (defBody s_is_name) (defScope s_is_name) .none kV_is_name dc_is_name pm_is_name an_is_name cd_is_name ct_is_name), sl_is_name⟩)
    (c_is_name : PySem.W.codeIn K cd_is_name "is_name" = true)
    (k_is_name : PySem.W.keepIn K (.ref f_is_name) = true)
    (g_are_levels : PySem.W.nsIn K mainGlobals "_are_levels" = some (some (.ref f_are_levels)))
    (l_are_levels : K.lookup f_are_levels = some ⟨oc_are_levels, od_are_levels, .func (PySem.W.fnOf "_are_levels" "_are_levels" (defArgs s_are_levels) (defBody s_are_levels) (defScope s_are_levels) .none kV_are_levels dc_are_levels pm_are_levels an_are_levels cd_are_levels ct_are_levels), sl_are_levels⟩)
    (c_are_levels : PySem.W.codeIn K cd_are_levels "_are_levels" = true)
    (k_are_levels : PySem.W.keepIn K (.ref f_are_levels) = true)
    (g_is_level : PySem.W.nsIn K mainGlobals "_is_level" = some (some (.ref f_is_level)))
    (l_is_level : K.lookup f_is_level = some ⟨oc_is_level, od_is_level, .func (PySem.W.fnOf "_is_level" "_is_level" (defArgs s_is_level) (defBody s_is_level) (defScope s_is_level) .none kV_is_level dc_is_level pm_is_level an_is_level cd_is_level ct_is_level), sl_is_level⟩)
    (c_is_level : PySem.W.codeIn K cd_is_level "_is_level" = true)
    (k_is_level : PySem.W.keepIn K (.ref f_is_level) = true)
    (g_product : PySem.W.nsIn K mainGlobals "_product" = some (some (.ref f_product)))
    (l_product : K.lookup f_product = some ⟨oc_product, od_product, .func (PySem.W.fnOf "_product" "_product" (defArgs s_product) (defBody s_product) (defScope s_product) .none kV_product dc_product pm_product an_product cd_product ct_product), sl_product⟩)
    (c_product : PySem.W.codeIn K cd_product "_product" = true)
    (k_product : PySem.W.keepIn K (.ref f_product) = true)
    (g_law_purse : PySem.W.nsIn K mainGlobals "_law_purse" = some (some (.ref f_law_purse)))
    (l_law_purse : K.lookup f_law_purse = some ⟨oc_law_purse, od_law_purse, .func (PySem.W.fnOf "_law_purse" "_law_purse" (defArgs s_law_purse) (defBody s_law_purse) (defScope s_law_purse) .none kV_law_purse dc_law_purse pm_law_purse an_law_purse cd_law_purse ct_law_purse), sl_law_purse⟩)
    (c_law_purse : PySem.W.codeIn K cd_law_purse "_law_purse" = true)
    (k_law_purse : PySem.W.keepIn K (.ref f_law_purse) = true)
    (g_law_draw : PySem.W.nsIn K mainGlobals "_law_draw" = some (some (.ref f_law_draw)))
    (l_law_draw : K.lookup f_law_draw = some ⟨oc_law_draw, od_law_draw, .func (PySem.W.fnOf "_law_draw" "_law_draw" (defArgs s_law_draw) (defBody s_law_draw) (defScope s_law_draw) .none kV_law_draw dc_law_draw pm_law_draw an_law_draw cd_law_draw ct_law_draw), sl_law_draw⟩)
    (c_law_draw : PySem.W.codeIn K cd_law_draw "_law_draw" = true)
    (k_law_draw : PySem.W.keepIn K (.ref f_law_draw) = true)
    (g_law_levels : PySem.W.nsIn K mainGlobals "_law_levels" = some (some (.ref f_law_levels)))
    (l_law_levels : K.lookup f_law_levels = some ⟨oc_law_levels, od_law_levels, .func (PySem.W.fnOf "_law_levels" "_law_levels" (defArgs s_law_levels) (defBody s_law_levels) (defScope s_law_levels) .none kV_law_levels dc_law_levels pm_law_levels an_law_levels cd_law_levels ct_law_levels), sl_law_levels⟩)
    (c_law_levels : PySem.W.codeIn K cd_law_levels "_law_levels" = true)
    (k_law_levels : PySem.W.keepIn K (.ref f_law_levels) = true)
    (g_law_product : PySem.W.nsIn K mainGlobals "_law_product" = some (some (.ref f_law_product)))
    (l_law_product : K.lookup f_law_product = some ⟨oc_law_product, od_law_product, .func (PySem.W.fnOf "_law_product" "_law_product" (defArgs s_law_product) (defBody s_law_product) (defScope s_law_product) .none kV_law_product dc_law_product pm_law_product an_law_product cd_law_product ct_law_product), sl_law_product⟩)
    (c_law_product : PySem.W.codeIn K cd_law_product "_law_product" = true)
    (k_law_product : PySem.W.keepIn K (.ref f_law_product) = true)
    (g_law_right : PySem.W.nsIn K mainGlobals "_law_right" = some (some (.ref f_law_right)))
    (l_law_right : K.lookup f_law_right = some ⟨oc_law_right, od_law_right, .func (PySem.W.fnOf "_law_right" "_law_right" (defArgs s_law_right) (defBody s_law_right) (defScope s_law_right) .none kV_law_right dc_law_right pm_law_right an_law_right cd_law_right ct_law_right), sl_law_right⟩)
    (c_law_right : PySem.W.codeIn K cd_law_right "_law_right" = true)
    (k_law_right : PySem.W.keepIn K (.ref f_law_right) = true)
    (g_law_refused : PySem.W.nsIn K mainGlobals "_law_refused" = some (some (.ref f_law_refused)))
    (l_law_refused : K.lookup f_law_refused = some ⟨oc_law_refused, od_law_refused, .func (PySem.W.fnOf "_law_refused" "_law_refused" (defArgs s_law_refused) (defBody s_law_refused) (defScope s_law_refused) .none kV_law_refused dc_law_refused pm_law_refused an_law_refused cd_law_refused ct_law_refused), sl_law_refused⟩)
    (c_law_refused : PySem.W.codeIn K cd_law_refused "_law_refused" = true)
    (k_law_refused : PySem.W.keepIn K (.ref f_law_refused) = true)
    (g_law_bad : PySem.W.nsIn K mainGlobals "_law_bad" = some (some (.ref f_law_bad)))
    (l_law_bad : K.lookup f_law_bad = some ⟨oc_law_bad, od_law_bad, .func (PySem.W.fnOf "_law_bad" "_law_bad" (defArgs s_law_bad) (defBody s_law_bad) (defScope s_law_bad) .none kV_law_bad dc_law_bad pm_law_bad an_law_bad cd_law_bad ct_law_bad), sl_law_bad⟩)
    (c_law_bad : PySem.W.codeIn K cd_law_bad "_law_bad" = true)
    (k_law_bad : PySem.W.keepIn K (.ref f_law_bad) = true)
    (g_law : PySem.W.nsIn K mainGlobals "law" = some (some (.ref f_law)))
    (l_law : K.lookup f_law = some ⟨oc_law, od_law, .func (PySem.W.fnOf "law" "law" (defArgs s_law) (defBody s_law) (defScope s_law) .none kV_law dc_law pm_law an_law cd_law ct_law), sl_law⟩)
    (c_law : PySem.W.codeIn K cd_law "law" = true)
    (k_law : PySem.W.keepIn K (.ref f_law) = true)
    : ∃ fd : FuncData, (∀ (s : Shared) (v : Value), BindsTo s fd ⟨[v], []⟩ [("script", v)]) ∧ ∀ base : Heap, K.In base → base.Ns mainGlobals mg → FnOk l.prog w K mg base (L2.CX l.prog w) 20 fa fd ["script"] (spScr K) := by
  cases hfa.symm.trans (PySem.W.mg_of X G g_law)
  exact ⟨_, fun s v => .of_eq rfl, fun base _ _ => ok_lawS (Txt.mk_ X G z_len z_int z_range z_sum z_all z_isinstance z_list z_tuple z_bool z_str z_min z_TypeError z_ValueError g_RankError g_InvalidName g_InvalidLevels g_Tree g_Leaf g_Tower at_Leaf_init i_Leaf_init l_Leaf_init c_Leaf_init k_Leaf_init at_Leaf_len i_Leaf_len l_Leaf_len c_Leaf_len k_Leaf_len at_Leaf_eq i_Leaf_eq l_Leaf_eq c_Leaf_eq k_Leaf_eq pg_Leaf hd_Leaf po_Leaf sa_Leaf mk_Leaf kc_Leaf ca_Leaf mo_Leaf ne_Leaf n_Leaf_name at_Tower_init i_Tower_init l_Tower_init c_Tower_init k_Tower_init at_Tower_levels gt_Tower_levels tk_Tower_levels rc_Tower_levels l_Tower_levels c_Tower_levels k_Tower_levels at_Tower_size gt_Tower_size tk_Tower_size rc_Tower_size l_Tower_size c_Tower_size k_Tower_size at_Tower_least gt_Tower_least tk_Tower_least rc_Tower_least l_Tower_least c_Tower_least k_Tower_least at_Tower_greatest gt_Tower_greatest tk_Tower_greatest rc_Tower_greatest l_Tower_greatest c_Tower_greatest k_Tower_greatest at_Tower_eq i_Tower_eq l_Tower_eq c_Tower_eq k_Tower_eq at_Tower_mul i_Tower_mul l_Tower_mul c_Tower_mul k_Tower_mul at_Tower_mirror i_Tower_mirror l_Tower_mirror c_Tower_mirror k_Tower_mirror pg_Tower hd_Tower po_Tower sa_Tower mk_Tower kc_Tower ca_Tower mo_Tower ne_Tower n_Tower_levels gc tc sf_Tower ic_Leaf it_Leaf ic_Tower it_Tower dx_Leaf_Tower is_Leaf_Tower is_Leaf_list is_Leaf_int is_Leaf_bool is_Leaf_str is_Leaf_tuple dx_Tower_Leaf is_Tower_Leaf is_Tower_list is_Tower_int is_Tower_bool is_Tower_str is_Tower_tuple xL_InvalidLevels sa_InvalidLevels ga_InvalidLevels gg_InvalidLevels kc_InvalidLevels ex_InvalidLevels ty_InvalidLevels hd_InvalidLevels ic_InvalidLevels ss_InvalidLevels at_InvalidLevels_init i_InvalidLevels_init l_InvalidLevels_init c_InvalidLevels_init k_InvalidLevels_init dl_InvalidLevels_init tf_InvalidLevels n_InvalidLevels_value g_is_whole l_is_whole c_is_whole k_is_whole g_is_name l_is_name c_is_name k_is_name g_are_levels l_are_levels c_are_levels k_are_levels g_is_level l_is_level c_is_level k_is_level g_product l_product c_product k_product g_law_purse l_law_purse c_law_purse k_law_purse g_law_draw l_law_draw c_law_draw k_law_draw g_law_levels l_law_levels c_law_levels k_law_levels g_law_product l_law_product c_law_product k_law_product g_law_right l_law_right c_law_right k_law_right g_law_refused l_law_refused c_law_refused k_law_refused g_law_bad l_law_bad c_law_bad k_law_bad g_law l_law c_law k_law)⟩
end
end Rk
open PySem PySem.W PyProof.Rows
set_option maxRecDepth 100000 in
set_option maxHeartbeats 0 in
theorem PySem.Challenge.cw_rankpicks_k60_towers_holds : PySem.Challenge.rw_rankpicks_k60_towers.Holds := by
  w_on; o_law; k_head; (case hw => w_witness2)
  k_fill
  refine L2.walk_of (l := PySem.Challenge.rw_rankpicks_k60_towers) (n := 63) (k := 20) (x := "script") (CX := fun w => L2.CX (PySem.W.OpenLaw.prog PySem.Challenge.rw_rankpicks_k60_towers) w) (sp := fun w => Rk.spScr _) rfl (by decide) rfl ⟨rfl, by decide, by decide⟩ (fun w h Y => PySem.W.kIn_of Y) ?F (fun _ _ a ns hl _ hS => ⟨a, ns, rfl, hS, hl, fun _ _ => rfl⟩) fun _ _ _ _ _ z => by first | exact z | exact z.2 | (obtain ⟨_, z⟩ := z; exact z) | simpa [L2.CX] using z
  case F =>
    intro w mg fa h KX G hmg
    refine' Rk.all_mk KX G hmg ?z_len ?z_int ?z_range ?z_sum ?z_all ?z_isinstance ?z_list ?z_tuple ?z_bool ?z_str ?z_min ?z_TypeError ?z_ValueError ?g_RankError ?g_InvalidName ?g_InvalidLevels ?g_Tree ?g_Leaf ?g_Tower ?at_Leaf_init ?i_Leaf_init ?l_Leaf_init ?c_Leaf_init ?k_Leaf_init ?at_Leaf_len ?i_Leaf_len ?l_Leaf_len ?c_Leaf_len ?k_Leaf_len ?at_Leaf_eq ?i_Leaf_eq ?l_Leaf_eq ?c_Leaf_eq ?k_Leaf_eq ?pg_Leaf ?hd_Leaf ?po_Leaf ?sa_Leaf ?mk_Leaf ?kc_Leaf ?ca_Leaf ?mo_Leaf ?ne_Leaf ?n_Leaf_name ?at_Tower_init ?i_Tower_init ?l_Tower_init ?c_Tower_init ?k_Tower_init ?at_Tower_levels ?gt_Tower_levels ?tk_Tower_levels ?rc_Tower_levels ?l_Tower_levels ?c_Tower_levels ?k_Tower_levels ?at_Tower_size ?gt_Tower_size ?tk_Tower_size ?rc_Tower_size ?l_Tower_size ?c_Tower_size ?k_Tower_size ?at_Tower_least ?gt_Tower_least ?tk_Tower_least ?rc_Tower_least ?l_Tower_least ?c_Tower_least ?k_Tower_least ?at_Tower_greatest ?gt_Tower_greatest ?tk_Tower_greatest ?rc_Tower_greatest ?l_Tower_greatest ?c_Tower_greatest ?k_Tower_greatest ?at_Tower_eq ?i_Tower_eq ?l_Tower_eq ?c_Tower_eq ?k_Tower_eq ?at_Tower_mul ?i_Tower_mul ?l_Tower_mul ?c_Tower_mul ?k_Tower_mul ?at_Tower_mirror ?i_Tower_mirror ?l_Tower_mirror ?c_Tower_mirror ?k_Tower_mirror ?pg_Tower ?hd_Tower ?po_Tower ?sa_Tower ?mk_Tower ?kc_Tower ?ca_Tower ?mo_Tower ?ne_Tower ?n_Tower_levels ?gc ?tc ?sf_Tower ?ic_Leaf ?it_Leaf ?ic_Tower ?it_Tower ?dx_Leaf_Tower ?is_Leaf_Tower ?is_Leaf_list ?is_Leaf_int ?is_Leaf_bool ?is_Leaf_str ?is_Leaf_tuple ?dx_Tower_Leaf ?is_Tower_Leaf ?is_Tower_list ?is_Tower_int ?is_Tower_bool ?is_Tower_str ?is_Tower_tuple ?xL_InvalidLevels ?sa_InvalidLevels ?ga_InvalidLevels ?gg_InvalidLevels ?kc_InvalidLevels ?ex_InvalidLevels ?ty_InvalidLevels ?hd_InvalidLevels ?ic_InvalidLevels ?ss_InvalidLevels ?at_InvalidLevels_init ?i_InvalidLevels_init ?l_InvalidLevels_init ?c_InvalidLevels_init ?k_InvalidLevels_init ?dl_InvalidLevels_init ?tf_InvalidLevels ?n_InvalidLevels_value ?g_is_whole ?l_is_whole ?c_is_whole ?k_is_whole ?g_is_name ?l_is_name ?c_is_name ?k_is_name ?g_are_levels ?l_are_levels ?c_are_levels ?k_are_levels ?g_is_level ?l_is_level ?c_is_level ?k_is_level ?g_product ?l_product ?c_product ?k_product ?g_law_purse ?l_law_purse ?c_law_purse ?k_law_purse ?g_law_draw ?l_law_draw ?c_law_draw ?k_law_draw ?g_law_levels ?l_law_levels ?c_law_levels ?k_law_levels ?g_law_product ?l_law_product ?c_law_product ?k_law_product ?g_law_right ?l_law_right ?c_law_right ?k_law_right ?g_law_refused ?l_law_refused ?c_law_refused ?k_law_refused ?g_law_bad ?l_law_bad ?c_law_bad ?k_law_bad ?g_law ?l_law ?c_law ?k_law
    (case z_len => k_is)
    (case z_int => k_is)
    (case z_range => k_is)
    (case z_sum => k_is)
    (case z_all => k_is)
    (case z_isinstance => k_is)
    (case z_list => k_is)
    (case z_tuple => k_is)
    (case z_bool => k_is)
    (case z_str => k_is)
    (case z_min => k_is)
    (case z_TypeError => k_is)
    (case z_ValueError => k_is)
    (case g_RankError => k_is)
    (case g_InvalidName => k_is)
    (case g_InvalidLevels => k_is)
    (case g_Tree => k_is)
    (case g_Leaf => k_is)
    (case g_Tower => k_is)
    (case at_Leaf_init => k_is)
    (case i_Leaf_init => k_is)
    (case l_Leaf_init => k_is)
    (case c_Leaf_init => k_is)
    (case k_Leaf_init => k_is)
    (case at_Leaf_len => k_is)
    (case i_Leaf_len => k_is)
    (case l_Leaf_len => k_is)
    (case c_Leaf_len => k_is)
    (case k_Leaf_len => k_is)
    (case at_Leaf_eq => k_is)
    (case i_Leaf_eq => k_is)
    (case l_Leaf_eq => k_is)
    (case c_Leaf_eq => k_is)
    (case k_Leaf_eq => k_is)
    (case pg_Leaf => k_is)
    (case hd_Leaf => k_is)
    (case po_Leaf => k_is)
    (case sa_Leaf => k_is)
    (case mk_Leaf => k_is)
    (case kc_Leaf => k_is)
    (case ca_Leaf => k_is)
    (case mo_Leaf => k_is)
    (case ne_Leaf => k_is)
    (case n_Leaf_name => k_is)
    (case at_Tower_init => k_is)
    (case i_Tower_init => k_is)
    (case l_Tower_init => k_is)
    (case c_Tower_init => k_is)
    (case k_Tower_init => k_is)
    (case at_Tower_levels => k_is)
    (case gt_Tower_levels => k_is)
    (case tk_Tower_levels => k_is)
    (case rc_Tower_levels => k_is)
    (case l_Tower_levels => k_is)
    (case c_Tower_levels => k_is)
    (case k_Tower_levels => k_is)
    (case at_Tower_size => k_is)
    (case gt_Tower_size => k_is)
    (case tk_Tower_size => k_is)
    (case rc_Tower_size => k_is)
    (case l_Tower_size => k_is)
    (case c_Tower_size => k_is)
    (case k_Tower_size => k_is)
    (case at_Tower_least => k_is)
    (case gt_Tower_least => k_is)
    (case tk_Tower_least => k_is)
    (case rc_Tower_least => k_is)
    (case l_Tower_least => k_is)
    (case c_Tower_least => k_is)
    (case k_Tower_least => k_is)
    (case at_Tower_greatest => k_is)
    (case gt_Tower_greatest => k_is)
    (case tk_Tower_greatest => k_is)
    (case rc_Tower_greatest => k_is)
    (case l_Tower_greatest => k_is)
    (case c_Tower_greatest => k_is)
    (case k_Tower_greatest => k_is)
    (case at_Tower_eq => k_is)
    (case i_Tower_eq => k_is)
    (case l_Tower_eq => k_is)
    (case c_Tower_eq => k_is)
    (case k_Tower_eq => k_is)
    (case at_Tower_mul => k_is)
    (case i_Tower_mul => k_is)
    (case l_Tower_mul => k_is)
    (case c_Tower_mul => k_is)
    (case k_Tower_mul => k_is)
    (case at_Tower_mirror => k_is)
    (case i_Tower_mirror => k_is)
    (case l_Tower_mirror => k_is)
    (case c_Tower_mirror => k_is)
    (case k_Tower_mirror => k_is)
    (case pg_Tower => k_is)
    (case hd_Tower => k_is)
    (case po_Tower => k_is)
    (case sa_Tower => k_is)
    (case mk_Tower => k_is)
    (case kc_Tower => k_is)
    (case ca_Tower => k_is)
    (case mo_Tower => k_is)
    (case ne_Tower => k_is)
    (case n_Tower_levels => k_is)
    (case gc => k_is)
    (case tc => k_is)
    (case sf_Tower => k_is)
    (case ic_Leaf => k_is)
    (case it_Leaf => k_is)
    (case ic_Tower => k_is)
    (case it_Tower => k_is)
    (case dx_Leaf_Tower => decide)
    (case is_Leaf_Tower => k_is)
    (case is_Leaf_list => k_is)
    (case is_Leaf_int => k_is)
    (case is_Leaf_bool => k_is)
    (case is_Leaf_str => k_is)
    (case is_Leaf_tuple => k_is)
    (case dx_Tower_Leaf => decide)
    (case is_Tower_Leaf => k_is)
    (case is_Tower_list => k_is)
    (case is_Tower_int => k_is)
    (case is_Tower_bool => k_is)
    (case is_Tower_str => k_is)
    (case is_Tower_tuple => k_is)
    (case xL_InvalidLevels => k_is)
    (case sa_InvalidLevels => k_is)
    (case ga_InvalidLevels => k_is)
    (case gg_InvalidLevels => k_is)
    (case kc_InvalidLevels => k_is)
    (case ex_InvalidLevels => k_is)
    (case ty_InvalidLevels => k_is)
    (case hd_InvalidLevels => k_is)
    (case ic_InvalidLevels => k_is)
    (case ss_InvalidLevels => k_is)
    (case at_InvalidLevels_init => k_is)
    (case i_InvalidLevels_init => k_is)
    (case l_InvalidLevels_init => k_is)
    (case c_InvalidLevels_init => k_is)
    (case k_InvalidLevels_init => k_is)
    (case dl_InvalidLevels_init => k_is)
    (case tf_InvalidLevels => k_is)
    (case n_InvalidLevels_value => k_is)
    (case g_is_whole => k_is)
    (case l_is_whole => k_is)
    (case c_is_whole => k_is)
    (case k_is_whole => k_is)
    (case g_is_name => k_is)
    (case l_is_name => k_is)
    (case c_is_name => k_is)
    (case k_is_name => k_is)
    (case g_are_levels => k_is)
    (case l_are_levels => k_is)
    (case c_are_levels => k_is)
    (case k_are_levels => k_is)
    (case g_is_level => k_is)
    (case l_is_level => k_is)
    (case c_is_level => k_is)
    (case k_is_level => k_is)
    (case g_product => k_is)
    (case l_product => k_is)
    (case c_product => k_is)
    (case k_product => k_is)
    (case g_law_purse => k_is)
    (case l_law_purse => k_is)
    (case c_law_purse => k_is)
    (case k_law_purse => k_is)
    (case g_law_draw => k_is)
    (case l_law_draw => k_is)
    (case c_law_draw => k_is)
    (case k_law_draw => k_is)
    (case g_law_levels => k_is)
    (case l_law_levels => k_is)
    (case c_law_levels => k_is)
    (case k_law_levels => k_is)
    (case g_law_product => k_is)
    (case l_law_product => k_is)
    (case c_law_product => k_is)
    (case k_law_product => k_is)
    (case g_law_right => k_is)
    (case l_law_right => k_is)
    (case c_law_right => k_is)
    (case k_law_right => k_is)
    (case g_law_refused => k_is)
    (case l_law_refused => k_is)
    (case c_law_refused => k_is)
    (case k_law_refused => k_is)
    (case g_law_bad => k_is)
    (case l_law_bad => k_is)
    (case c_law_bad => k_is)
    (case k_law_bad => k_is)
    (case g_law => k_is)
    (case l_law => k_is)
    (case c_law => k_is)
    (case k_law => k_is)
