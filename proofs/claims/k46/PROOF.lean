import PyProof.Rows.All
import Wide.All
import OpenK.AllK
import Wide.FinOn
import HandS.ForMost
import HandS.IsInst
import HandS.Wide
import HandS.Style
import HandS.Defaults
import HandS.MakeKwOnly
import HandS.Zip
import HandS.SortRule
import HandS.TupAny
import HandS.Lambda
import KE.GoesEnum
import HandS.Flow
import HandS.Codes
import HandS.WideBits
import HandS.OwnEq
import HandS.TryOnly
import HandS.TupLe
import HandS.SetFor
import KE.DataMinMax
import HandS.Conv
import KE.DataFind
import PyProof.Rows.CallKwBuiltin
import PySem.Challenge.RW_breakerrow_k46_breakers_that_explain_log
set_option Elab.async false
set_option linter.all false
set_option maxRecDepth 100000
set_option maxHeartbeats 4000000
namespace Own
open PySem PySem.Spec PyProof.Rows L2
open Builtin

section
variable {X : Cx} {CX : CXT} {k : Nat} {f C : Addr} {fd : FuncData} {ps : List Str} {sp : Sp} {E : XK}

theorem rr {p : Addr} : L2.RelV (.ref p) (.ref p) := rfl
/-- a promise used under any frame below the body -/
theorem run_at {A : Around} {pins : List (Addr × Obj)} {σ : L2.St} {H : Hp} {s : Shared} {Q : VK} {us : List Value} {vs : List V} (F : FnOk X.prog X.w X.K X.mg X.base CX k f fd ps sp) (hr : Room k A) (hA : A.frames = X.A.frames)
    (hb : Binds X.K fd ps []) (hx : Passes CX X E) (I : Inv X pins σ H s) (r : Vals vs us) (h : sp vs H Q E) : wpAny (model X.prog X.w) A (call (.ref f) us) (EP X pins σ Q) X.xe s := by
  have hl : us.length = ps.length := by rw [← r.length]; exact F.len _ _ _ _ h
  have e0 : Env0 X.prog X.w X.K X.mg X.base A X.stack s H := by
    have e := I.env0
    exact ⟨by rw [hA]; exact e.frames, e.mod, e.bs, e.bsz, e.funs, e.frf, e.hok, e.bare⟩
  have hB : BindsTo s fd ⟨us, []⟩ (ps.zip us) := by
    have := hb s us I.kIn (by rw [List.append_nil]; exact hl)
    rwa [List.append_nil] at this
  refine wpAny_call (codeAny_mono (F.run A X.stack s H ⟨us, []⟩ us vs Q E hr e0 hB r h) fun r s' hq => ?_)
  cases r with
  | error e => exact hx pins σ H s e s' I hq
  | ok fl =>
    cases fl with
    | ret u => exact I.after hq
    | next => exact False.elim hq
    | brk => exact False.elim hq
    | cont => exact False.elim hq

theorem inst_of {pins : List (Addr × Obj)} {σ : L2.St} {H : Hp} {s : Shared} {p dx : Addr} {fs : List (Str × V)} (I : Inv X pins σ H s) (e : H p = some (.ins C dx fs)) : ∃ od, PySem.W.InstAt s.heap p (PySem.W.instObj C dx) C od := by
  obtain ⟨mA, O, _⟩ := ins_get I.hok e
  obtain ⟨od, J, _⟩ := O.look
  exact ⟨_, J⟩

/-- a bool is wanted of the method -/
def BlQ (Q : VK) (g : Bool → Bool) : VK := fun v H' => ∃ b, v = .bl b ∧ Q (.bl (g b)) H'
def rOwnIn (C : Addr) (sp : Sp) (E : XK) (g : Bool → Bool) : R2 := fun x y H Q => ∃ p dx fs, y = .ref p ∧ H p = some (.ins C dx fs) ∧ sp [.ref p, x] H (BlQ Q g) E
theorem op_own_in (F : FnOk X.prog X.w X.K X.mg X.base CX k f fd ps sp) (hr : Room k X.A) (hs : PySem.W.findIn X.K (.ref C) "__contains__" = some (some (.ref f))) (hf : PySem.W.isFn X.K (.ref f) = true) (hb : Binds X.K fd ps []) (hx : Passes CX X E) :
    OpR X (compareOp .In) (rOwnIn C sp E id) := by
  intro pins s σ H x y v u Q I rx ry h
  obtain ⟨p, dx, fs, rfl, hp, q⟩ := h
  cases ry
  obtain ⟨od, J⟩ := inst_of I hp
  obtain ⟨m, hF⟩ := I.fr
  refine PySem.W.in_K hF I.ok.mod.kin J hs hf (thn (run_at F hr rfl hb hx I (.cons rr (.cons rx .nil)) q) fun r s' hh => ?_)
  obtain ⟨z, H', I', rz, b, ez, q'⟩ := hh
  subst ez
  cases rz
  exact wpAny_truthy_bool ⟨.bl b, H', I', rfl, q'⟩
theorem op_own_notin (F : FnOk X.prog X.w X.K X.mg X.base CX k f fd ps sp) (hr : Room k X.A) (hs : PySem.W.findIn X.K (.ref C) "__contains__" = some (some (.ref f))) (hf : PySem.W.isFn X.K (.ref f) = true) (hb : Binds X.K fd ps []) (hx : Passes CX X E) :
    OpR X (compareOp .NotIn) (rOwnIn C sp E not) := by
  intro pins s σ H x y v u Q I rx ry h
  obtain ⟨p, dx, fs, rfl, hp, q⟩ := h
  cases ry
  obtain ⟨od, J⟩ := inst_of I hp
  obtain ⟨m, hF⟩ := I.fr
  refine PySem.W.notIn_K hF I.ok.mod.kin J hs hf (thn (run_at F hr rfl hb hx I (.cons rr (.cons rx .nil)) q) fun r s' hh => ?_)
  obtain ⟨z, H', I', rz, b, ez, q'⟩ := hh
  subst ez
  cases rz
  exact wpAny_truthy_bool ⟨.bl (!b), H', I', rfl, q'⟩
/-- len(o) -/
def rOwnLen (C : Addr) (sp : Sp) (E : XK) : List V → Hp → VK → Prop := fun xs H Q => ∃ p dx fs, xs = [.ref p] ∧ H p = some (.ins C dx fs) ∧ sp [.ref p] H (fun v H' => ∃ n : Int, v = .int n ∧ 0 ≤ n ∧ n < 2 ^ 63 ∧ Q (.int n) H') E
theorem call_own_len (F : FnOk X.prog X.w X.K X.mg X.base CX k f fd ps sp) (hr : Room (k + 1) X.A) (hs : PySem.W.findIn X.K (.ref C) "__len__" = some (some (.ref f))) (hf : PySem.W.isFn X.K (.ref f) = true) (hb : Binds X.K fd ps []) (hx : Passes CX X E) :
    CallR X (.builtin "len") (rOwnLen C sp E) := by
  intro pins s σ H xs us Q I r h
  obtain ⟨p, dx, fs, rfl, hp, q⟩ := h
  obtain ⟨u, rfl, ru⟩ := vals1 r
  cases ru
  obtain ⟨od, J⟩ := inst_of I hp
  obtain ⟨m, hF⟩ := I.fr
  refine PySem.W.len_K hF I.ok.mod.kin J hs hf (thn (run_at F hr.in1 rfl hb hx I (.cons rr .nil) q) fun r s' hh => ?_)
  obtain ⟨z, H', I', rz, n, ez, h0, h1, q'⟩ := hh
  subst ez
  obtain ⟨t, rfl⟩ := rz
  exact ⟨⟨h0, h1⟩, ⟨.int n, H', I'.tok _, ⟨_, rfl⟩, q'⟩⟩
/-- o + p, both of the class -/
def rOwnAdd (C : Addr) (sp : Sp) (E : XK) : R2 := fun x y H Q => ∃ p dx fs q dy gs, x = .ref p ∧ H p = some (.ins C dx fs) ∧ y = .ref q ∧ H q = some (.ins C dy gs) ∧ sp [.ref p, .ref q] H (fun v H' => (∃ a, v = .ref a) ∧ Q v H') E
theorem op_own_add (F : FnOk X.prog X.w X.K X.mg X.base CX k f fd ps sp) (hr : Room k X.A) (hc : PySem.W.selfFirst X.K C = true) (hs : PySem.W.findIn X.K (.ref C) "__add__" = some (some (.ref f))) (hf : PySem.W.isFn X.K (.ref f) = true) (hb : Binds X.K fd ps []) (hx : Passes CX X E) :
    OpR X (binaryOp .Add) (rOwnAdd C sp E) := by
  intro pins s σ H x y v u Q I rx ry h
  obtain ⟨p, dx, fs, q, dy, gs, rfl, hp, rfl, hq, hh⟩ := h
  cases rx
  cases ry
  obtain ⟨od, J⟩ := inst_of I hp
  obtain ⟨od', J'⟩ := inst_of I hq
  obtain ⟨m, hF⟩ := I.fr
  refine PySem.W.binop_K hF I.ok.mod.kin J J'.type hc hs hf (thn (run_at F hr rfl hb hx I (.cons rr (.cons rr .nil)) hh) fun r s' hh => ?_)
  obtain ⟨z, H', I', rz, ⟨a, ez⟩, q'⟩ := hh
  subst ez
  cases rz
  exact ⟨.ref a, H', I', rfl, q'⟩
/-- o[i] -/
def rOwnIx (C : Addr) (sp : Sp) (E : XK) : R2 := fun x y H Q => ∃ p dx fs, x = .ref p ∧ H p = some (.ins C dx fs) ∧ sp [.ref p, y] H Q E
theorem pe_own_ix {a b : Expr} {ta tb : TE} {pos : Pos} (F : FnOk X.prog X.w X.K X.mg X.base CX k f fd ps sp) (hr : Room (k + 1) X.A) (hs : PySem.W.findIn X.K (.ref C) "__getitem__" = some (some (.ref f))) (hfn : PySem.W.fnIn X.K f = true) (hf : PySem.W.isFn X.K (.ref f) = true)
    (hb : Binds X.K fd ps []) (hx : Passes CX X E) (ha : PE X a ta) (hb' : PE X b tb) (hsl : ∀ o i, subscripted b true o i = runValue (.builtin "lifetime.subscript" ⟨[o, i], []⟩) := by exact fun _ _ => rfl) :
    PE X (.Subscript a b pos) (tOp (rOwnIx C sp E) ta tb) := by
  refine ⟨fun pins s σ H Q I h => ?_⟩
  refine Subscript_ (binT ha hb' I h fun v u s2 x y H2 I2 rx ry q => ?_)
  obtain ⟨p, dx, fs, rfl, hp, q⟩ := q
  cases rx
  obtain ⟨od, J⟩ := inst_of I2 hp
  obtain ⟨m, hF⟩ := I2.fr
  exact PySem.W.sub_K hF I2.ok.mod.kin J hs hfn hf (run_at F hr.in1 rfl hb hx I2 (.cons rr (.cons ry .nil)) q) (hsl _ _)

/-! ### own == and the != that comes with it -/
theorem sub_ty {K : PySem.W.Frag} {C : Addr} {T : String} {l : List String} (e : fastBuiltinMro T = some (l.map Value.type)) : PySem.W.subIn K (.type T) (.ref C) = some false := by
  show (fastBuiltinMro T).map (·.contains (.ref C)) = some false
  rw [e]
  have : ∀ l : List String, (l.map Value.type).contains (Value.ref C) = false := by
    intro l
    induction l with
    | nil => rfl
    | cons a r ih =>
      rw [List.map_cons, List.contains_cons, ih]
      rfl
  rw [Option.map_some, this]
/-- a value's type, not one below the class C -/
inductive TyN (H : Hp) (C : Addr) : V → Value → Prop where
  | non : TyN H C .non (.type "NoneType")
  | bl (x : Bool) : TyN H C (.bl x) (.type "bool")
  | int (i : Int) : TyN H C (.int i) (.type "int")
  | str (x : Str) : TyN H C (.str x) (.type "str")
  | lst {a : Addr} {xs : List V} (e : H a = some (.lst xs)) : TyN H C (.ref a) (.type "list")
  | tup {a : Addr} {xs : List V} (e : H a = some (.tup xs)) : TyN H C (.ref a) (.type "tuple")
  | ins {a dx : Addr} {fs : List (Str × V)} (e : H a = some (.ins C dx fs)) : TyN H C (.ref a) (.ref C)
theorem TyN.notFirst {K : PySem.W.Frag} {H : Hp} {x : V} {t : Value} (h : TyN H C x t) : PySem.W.notFirst K C t = true := by
  cases h with
  | non => exact Bool.or_eq_true_iff.mpr (.inr (beq_iff_eq.mpr (sub_ty (l := ["NoneType", "object"]) (by decide +kernel))))
  | bl _ => exact Bool.or_eq_true_iff.mpr (.inr (beq_iff_eq.mpr (sub_ty (l := ["bool", "int", "object"]) (by decide +kernel))))
  | int _ => exact Bool.or_eq_true_iff.mpr (.inr (beq_iff_eq.mpr (sub_ty (l := ["int", "object"]) (by decide +kernel))))
  | str _ => exact Bool.or_eq_true_iff.mpr (.inr (beq_iff_eq.mpr (sub_ty (l := ["str", "object"]) (by decide +kernel))))
  | lst _ => exact Bool.or_eq_true_iff.mpr (.inr (beq_iff_eq.mpr (sub_ty (l := ["list", "object"]) (by decide +kernel))))
  | tup _ => exact Bool.or_eq_true_iff.mpr (.inr (beq_iff_eq.mpr (sub_ty (l := ["tuple", "object"]) (by decide +kernel))))
  | ins _ => exact Bool.or_eq_true_iff.mpr (.inl (by simp))
theorem looks_obj {M : Model} {h : Heap} {a : Addr} {o : Obj} (e : h.get? a = some o) : PySem.W.Looks M h (typeOf (.ref a)) o.cls := fun A Q E s kp q => PySem.wpAny_typeOf_ref (kp _ _ e) q
theorem TyN.looks {M : Model} {pins : List (Addr × Obj)} {σ : L2.St} {H : Hp} {s : Shared} {x : V} {u t : Value} (I : Inv X pins σ H s) (r : RelV x u) (h : TyN H C x t) : PySem.W.Looks M s.heap (typeOf u) t := by
  cases h with
  | non => cases r; exact PySem.W.Looks.of_pure rfl
  | bl _ => cases r; exact PySem.W.Looks.of_pure rfl
  | int _ => obtain ⟨_, rfl⟩ := r; exact PySem.W.Looks.of_pure rfl
  | str _ => obtain ⟨_, rfl⟩ := r; exact PySem.W.Looks.of_pure rfl
  | @lst a xs e =>
    cases r
    obtain ⟨_, _, n, _, h1⟩ := (show ObjOk X.prog X.w H s.heap a (.lst xs) from I.hok a _ e)
    exact looks_obj h1
  | @tup a xs e =>
    cases r
    obtain ⟨_, _, _, o, h1, h2, _⟩ := (show ObjOk X.prog X.w H s.heap a (.tup xs) from I.hok a _ e)
    have := looks_obj (M := M) h1
    rw [h2] at this
    exact this
  | ins e =>
    cases r
    obtain ⟨od, J⟩ := inst_of I e
    exact J.type
def rOwnEq (C : Addr) (sp : Sp) (E : XK) (g : Bool → Bool) : R2 := fun x y H Q => ∃ p dx fs t, x = .ref p ∧ H p = some (.ins C dx fs) ∧ TyN H C y t ∧ sp [.ref p, y] H (BlQ Q g) E
theorem op_own_eq (F : FnOk X.prog X.w X.K X.mg X.base CX k f fd ps sp) (hr : Room k X.A) (hs : PySem.W.findIn X.K (.ref C) "__eq__" = some (some (.ref f))) (hf : PySem.W.isFn X.K (.ref f) = true) (hb : Binds X.K fd ps []) (hx : Passes CX X E) :
    OpR X (compareOp .Eq) (rOwnEq C sp E id) := by
  intro pins s σ H x y v u Q I rx ry h
  obtain ⟨p, dx, fs, t, rfl, hp, ty, q⟩ := h
  cases rx
  obtain ⟨od, J⟩ := inst_of I hp
  obtain ⟨m, hF⟩ := I.fr
  show wpAny (model X.prog X.w) X.A (richCompare .Eq (.ref p) u) (EP X pins σ Q) X.xe s
  refine PySem.W.cmp_K (op := .Eq) hr.units0 hF I.ok.mod.kin J (ty.looks I ry) ty.notFirst hs hf (thn (run_at F hr rfl hb hx I (.cons rr (.cons ry .nil)) q) fun r s' hh => ?_)
  obtain ⟨z, H', I', rz, b, ez, q'⟩ := hh
  subst ez
  cases rz
  exact ⟨.bl b, H', I', rfl, q'⟩
section
variable {prog : Program} {w : World} {A : Around} {E' : Value → Shared → Prop} {s : Shared} {K : PySem.W.Frag} {x : Addr} {ox : Obj} {od : Option Obj} {b : Value}
theorem objNe_entry (hX : K.In s.heap) (I : PySem.W.InstAt s.heap x ox C od) (hs : PySem.W.findIn K (.ref C) "__eq__" = some (some (.ref f))) (hf : PySem.W.isFn K (.ref f) = true) (hu : A.units < cLine) {Q : Fin → Shared → Prop}
    (hcall : wpAny (model prog w) A (call (.ref f) [.ref x, b]) (fun v s' => ∃ k, v = .bool k ∧ Q (.done (.ret (.bool (!k)))) s') E' s) :
    wpAny (model prog w) A (Builtin.«object.__ne__» ⟨[.ref x, b], []⟩) Q E' s := by
  unfold Builtin.«object.__ne__»
  repeat (first
    | with_reducible refine wpAny_cRoomFor hu ?_
    | (refine wpAny_bind (m := callSpecialIfBound? (.ref x) (Str.ofString "__eq__") [b])
        (PySem.W.ifBound_K hX I hs hf (wpAny_mono hcall (fun r s' hr => by
          obtain ⟨k, rfl, hq⟩ := hr
          repeat (first | exact hq | exact wpAny_pure hq | exact wpAny_truthy_bool hq | (refine wpAny_bind (m := truthy (.bool _)) (wpAny_truthy_bool ?_)) | wp_step)) fun _ _ e => e)))
    | wp_step)
theorem call_objNe (hX : K.In s.heap) (I : PySem.W.InstAt s.heap x ox C od) (hm : PySem.W.mroIn K C (.type "object") = some true) (hs : PySem.W.findIn K (.ref C) "__eq__" = some (some (.ref f))) (hf : PySem.W.isFn K (.ref f) = true) (hu : A.units + 1 < cLine) {Q : Value → Shared → Prop}
    (hcall : wpAny (model prog w) A.in1 (call (.ref f) [.ref x, b]) (fun v s' => ∃ k, v = .bool k ∧ Q (.bool (!k)) s') E' s) :
    wpAny (model prog w) A (call (.builtin "object.__ne__") [.ref x, b]) Q E' s :=
  wpAny_call (codeAny_call_builtin PySem.F.cmp_object.ne.plain PySem.F.cmpEntry_ne (PySem.W.check_slot PySem.F.cmpKind_ne PySem.F.cmpSplit_ne (I.type.andThen (PySem.W.looks_mroIn hX hm)) (PySem.F.cmpArgs_ne _ _)
    (objNe_entry (A := A.in1) hX I hs hf hu (wpAny_mono hcall (fun v s' hv => by
      obtain ⟨k, e, hq⟩ := hv
      exact ⟨k, e, hq⟩) fun _ _ e => e))))
theorem ifBound_objNe {M : Model} {args : List Value} {Q : Option Value → Shared → Prop} (hX : K.In s.heap) (I : PySem.W.InstAt s.heap x ox C od) (hs : PySem.W.findIn K (.ref C) "__ne__" = some (some (.builtin "object.__ne__")))
    (h : wpAny M A (call (.builtin "object.__ne__") (.ref x :: args)) (fun v => Q (some v)) E' s) : wpAny M A (callSpecialIfBound? (.ref x) "__ne__" args) Q E' s := by
  simp only [callSpecialIfBound?, bindSpecialIfBound?]
  refine wpAny_holding (wpAny_bind (wpAny_bind (wpAny_bind (I.type.here ((PySem.W.looks_findIn hX hs).here ?_)))))
  refine wpAny_bind (wpAny_askSetting (wpAny_ite ?_))
  have fin : wpAny M A (call (.builtin "object.__ne__") ([.ref x] ++ args) >>= fun v => pure (some v)) Q E' s := wpAny_bind (wpAny_mono h (fun v s' h' => wpAny_pure h') fun _ _ h' => h')
  split
  · exact wpAny_bind (wpAny_of_eq (PySem.F.cmp_object.ne.bind _) (wpAny_pure (by exact fin)))
  · exact wpAny_tryCatch (wpAny_bind (wpAny_of_eq (PySem.F.cmp_object.ne.bind _) (wpAny_pure (by exact fin))))
theorem rc_ne {tb : Value} {Q : Value → Shared → Prop} (hu : A.units + 1 < cLine) (hX : K.In s.heap) (I : PySem.W.InstAt s.heap x ox C od) (hb : PySem.W.Looks (model prog w) s.heap (typeOf b) tb) (hn : PySem.W.notFirst K C tb = true)
    (hm : PySem.W.mroIn K C (.type "object") = some true) (hne : PySem.W.findIn K (.ref C) "__ne__" = some (some (.builtin "object.__ne__"))) (hs : PySem.W.findIn K (.ref C) "__eq__" = some (some (.ref f))) (hf : PySem.W.isFn K (.ref f) = true)
    (hcall : wpAny (model prog w) A.in1 (call (.ref f) [.ref x, b]) (fun v s' => ∃ k, v = .bool k ∧ Q (.bool (!k)) s') E' s) : wpAny (model prog w) A (richCompare .NotEq (.ref x) b) Q E' s := by
  have one : wpAny (model prog w) A (tryCompare (.ref x) "__ne__" b) (fun r s' => ∃ v, r = some v ∧ Q v s') E' s := by
    unfold tryCompare
    refine wpAny_bind (ifBound_objNe hX I hne (call_objNe hX I hm hs hf hu (wpAny_mono hcall (fun v s' hv => ?_) fun _ _ e => e)))
    obtain ⟨k, rfl, hq⟩ := hv
    exact ⟨k, rfl, wpAny_pure ⟨_, rfl, hq⟩⟩
  unfold richCompare
  simp only [oneThing_ref, cmpInfo_NotEq]
  refine wpAny_holding (wpAny_bind (wpAny_cRoomFor (Nat.lt_of_succ_lt hu) ?_))
  refine wpAny_bind (I.type.here (wpAny_bind (hb.here ?_)))
  split
  · rename_i q
    have e : PySem.W.subIn K tb (.ref C) = some false := by
      rcases Bool.or_eq_true_iff.mp hn with e | e
      · rw [beq_iff_eq.mp e] at q; simp at q
      · exact beq_iff_eq.mp e
    refine wpAny_bind ((PySem.W.looks_subIn hX e).here ?_)
    simp only [Bool.false_eq_true, if_false]
    refine wpAny_bind (wpAny_mono one (fun r s' z => ?_) fun _ _ e => e)
    obtain ⟨v, rfl, hq⟩ := z
    exact wpAny_pure hq
  · refine wpAny_bind (wpAny_pure ?_)
    simp only [Bool.false_eq_true, if_false]
    refine wpAny_bind (wpAny_mono one (fun r s' z => ?_) fun _ _ e => e)
    obtain ⟨v, rfl, hq⟩ := z
    exact wpAny_pure hq
end
theorem op_own_ne (F : FnOk X.prog X.w X.K X.mg X.base CX k f fd ps sp) (hr : Room (k + 1) X.A) (hm : PySem.W.mroIn X.K C (.type "object") = some true) (hne : PySem.W.findIn X.K (.ref C) "__ne__" = some (some (.builtin "object.__ne__")))
    (hs : PySem.W.findIn X.K (.ref C) "__eq__" = some (some (.ref f))) (hf : PySem.W.isFn X.K (.ref f) = true) (hb : Binds X.K fd ps []) (hx : Passes CX X E) :
    OpR X (compareOp .NotEq) (rOwnEq C sp E not) := by
  intro pins s σ H x y v u Q I rx ry h
  obtain ⟨p, dx, fs, t, rfl, hp, ty, q⟩ := h
  cases rx
  obtain ⟨od, J⟩ := inst_of I hp
  show wpAny (model X.prog X.w) X.A (richCompare .NotEq (.ref p) u) (EP X pins σ Q) X.xe s
  refine rc_ne (hu_of hr) I.kIn J (ty.looks I ry) ty.notFirst hm hne hs hf (thn (run_at F hr.in1 rfl hb hx I (.cons rr (.cons ry .nil)) q) fun r s' hh => ?_)
  obtain ⟨z, H', I', rz, b, ez, q'⟩ := hh
  subst ez
  cases rz
  exact ⟨b, rfl, .bl (!b), H', I', rfl, q'⟩
end
end Own

namespace Toy
open PySem L2 Own
/-! ### the text by places -/
def top (i : Nat) : Stmt := PySem.Challenge.pw_breakerrow_k46_breakers_that_explain_log.main.body.getD i (.Pass ⟨0, 0, 0, 0⟩)
abbrev st_InvalidRow_init : Stmt := inClass (top 2) 0
abbrev st_InvalidLog_init : Stmt := inClass (top 3) 0
abbrev st_is_integer : Stmt := top 5
abbrev st_is_at_least : Stmt := top 6
abbrev st_is_within : Stmt := top 7
abbrev st_is_breaker : Stmt := top 11
abbrev st_passes : Stmt := top 13
abbrev st_state_behind : Stmt := top 14
abbrev st_check_times : Stmt := top 17
abbrev st_log_of : Stmt := top 18
abbrev st_is_entry : Stmt := top 19
abbrev st_check_log : Stmt := top 20
abbrev st_passes_ahead : Stmt := top 21
abbrev st_gaps_of : Stmt := top 22
abbrev st_narrowed : Stmt := top 23
abbrev st_explanations : Stmt := top 24
abbrev st__law_mixed : Stmt := top 26
abbrev st__law_well : Stmt := top 27
abbrev st__law_draw : Stmt := top 28
abbrev st__law_one : Stmt := top 29
abbrev st__law_log : Stmt := top 30
abbrev st__law_seen : Stmt := top 31
abbrev st__law_fits : Stmt := top 32
abbrev st__law_due : Stmt := top 33
abbrev st__law_right : Stmt := top 34
abbrev st_law : Stmt := top 35
/-- a def of the top -/
structure Dfn (K : PySem.W.Frag) (mg : Str → Option Value) (x : Str) (st : Stmt) (f : Addr) (ps : List Str) : Prop where
  ex : ∃ fd, Fun K x x st f fd ∧ Binds K fd ps []
  g : mg x = some (.ref f)
structure Mth (K : PySem.W.Frag) (C : Addr) (m q : Str) (st : Stmt) (f : Addr) (ps : List Str) : Prop where
  ex : ∃ fd, Fun K m q st f fd ∧ Binds K fd ps []
  at_ : PySem.W.findIn K (.ref C) m = some (some (.ref f))
  fn : PySem.W.isFn K (.ref f) = true
  fk : PySem.W.fnIn K f = true
/-- a def that is called by its name, with its promise -/
structure Cal (P : Program) (w : World) (K : PySem.W.Frag) (mg : Str → Option Value) (base : Heap) (x : Str) (k : Nat) (f : Addr) (ps : List Str) (sp : Sp) : Prop where
  ex : ∃ fd, FnOk P w K mg base CX0 k f fd ps sp ∧ Binds K fd ps []
  g : mg x = some (.ref f)
  kp : PySem.W.keepIn K (.ref f) = true
theorem Dfn.cal {P : Program} {w : World} {K : PySem.W.Frag} {mg : Str → Option Value} {base : Heap} {x : Str} {st : Stmt} {f : Addr} {ps : List Str} {k : Nat} {sp : Sp} (D : Dfn K mg x st f ps) (h : ∀ fd, Fun K x x st f fd → FnOk P w K mg base CX0 k f fd ps sp) : Cal P w K mg base x k f ps sp := by
  obtain ⟨fd, F, b⟩ := D.ex
  exact ⟨⟨fd, h fd F, b⟩, D.g, F.kp⟩
theorem pe_c {X : Cx} {x : Str} {k : Nat} {f : Addr} {ps : List Str} {sp : Sp} {t : TA} {e : Expr} {es : List Expr} {p pos : Pos} (c : Cal X.prog X.w X.K X.mg X.base x k f ps sp) (hr : Room k X.A) (hg : Gl X x)
    (ha : PA X (e :: es) t) (hdb : (x == ("__debug__" : Str)) = false := by decide) (he : starEach (e :: es) X.env = (false, eval e X.env) :: starEach es X.env := by rfl) (hpl : (backTo pos (starEach es X.env)).any (·.1) = false := by rfl) :
    PE X (.Call (.Name x p) (e :: es) [] pos) (tCall sp [] E0 t) := by
  obtain ⟨fd, F, b⟩ := c.ex
  exact pe_call F hr hg c.g c.kp b .nil pass0 ha hdb he hpl
/-- a method with its promise -/
structure Met (P : Program) (w : World) (K : PySem.W.Frag) (mg : Str → Option Value) (base : Heap) (C : Addr) (m : Str) (k : Nat) (f : Addr) (ps : List Str) (sp : Sp) : Prop where
  ex : ∃ fd, FnOk P w K mg base CX0 k f fd ps sp ∧ Binds K fd ps []
  me : Meth K C m f
  fk : PySem.W.fnIn K f = true
theorem Mth.met {P : Program} {w : World} {K : PySem.W.Frag} {mg : Str → Option Value} {base : Heap} {C : Addr} {m q : Str} {st : Stmt} {f : Addr} {ps : List Str} {k : Nat} {sp : Sp} (D : Mth K C m q st f ps) (h : ∀ fd, Fun K m q st f fd → FnOk P w K mg base CX0 k f fd ps sp) : Met P w K mg base C m k f ps sp := by
  obtain ⟨fd, F, b⟩ := D.ex
  exact ⟨⟨fd, h fd F, b⟩, ⟨D.at_, D.fn, F.kp⟩, D.fk⟩

/-! ### values of plain kinds -/
inductive Kd (H : Hp) : V → String → Prop where
  | non : Kd H .non "NoneType"
  | bl (b : Bool) : Kd H (.bl b) "bool"
  | int (i : Int) : Kd H (.int i) "int"
  | str (x : Str) : Kd H (.str x) "str"
  | lst {a : Addr} {xs : List V} (e : H a = some (.lst xs)) : Kd H (.ref a) "list"
  | tup {a : Addr} {xs : List V} (e : H a = some (.tup xs)) : Kd H (.ref a) "tuple"
  | dK {a : Addr} {xs : List (Key × V)} (e : H a = some (.dK xs)) : Kd H (.ref a) "dict"
theorem Kd.ty {K : PySem.W.Frag} {H : Hp} {v : V} {n : String} (h : Kd H v n) : TyX K H v (.type n) := by
  cases h with
  | non => exact .base .non
  | bl b => exact .base (.bl b)
  | int i => exact .base (.int i)
  | str x => exact .base (.str x)
  | lst e => exact .base (.lst e)
  | tup e => exact .base (.tup e)
  | dK e => exact .base (.dK e)
def isI : V → Bool
  | .int _ => true
  | _ => false
def toI : V → Int
  | .int i => i
  | _ => 0
theorem Kd.kit {K : PySem.W.Frag} {H : Hp} {v : V} {n : String} (h : Kd H v n) (c : String) (b : Bool) (hc : c = "int" ∧ b = (n == "int" || n == "bool") ∨ c ≠ "int" ∧ c ∈ ["bool", "list", "tuple"] ∧ b = (n == c)) : PySem.W.kitOne K (.type n) (.type c) = some b := by
  rcases hc with ⟨rfl, rfl⟩ | ⟨_, hc, rfl⟩
  · cases h <;> exact kit_ty (by decide +kernel)
  · simp only [List.mem_cons, List.mem_nil_iff, or_false] at hc
    rcases hc with rfl | rfl | rfl <;> cases h <;> exact kit_ty (by decide +kernel)
theorem Kd.same {H H' : Hp} {v : V} {n : String} (h : Kd H v n) (s : ∀ b o, v = .ref b → H b = some o → H' b = some o) : Kd H' v n := by
  cases h with
  | non => exact .non
  | bl b => exact .bl b
  | int i => exact .int i
  | str x => exact .str x
  | lst e => exact .lst (s _ _ rfl e)
  | tup e => exact .tup (s _ _ rfl e)
  | dK e => exact .dK (s _ _ rfl e)
/-- all but what stands at a is kept -/
def Kp (a : Addr) (H H' : Hp) : Prop := ∀ b o, b ≠ a → H b = some o → H' b = some o
theorem Kp.refl {a : Addr} {H : Hp} : Kp a H H := fun _ _ _ h => h
theorem Kp.trans {a : Addr} {H H1 H2 : Hp} (h : Kp a H H1) (h' : Kp a H1 H2) : Kp a H H2 := fun b o n e => h' b o n (h b o n e)
theorem Kp.of {a : Addr} {H H' : Hp} (s : Same H H') : Kp a H H' := fun b o _ e => s b o e
theorem Kp.upd {a : Addr} {H : Hp} {o : HO} : Kp a H (upd H a o) := fun b _ n e => by rw [upd_ne n]; exact e
theorem Same.upd {H : Hp} {p : Addr} {o : HO} (h : H p = none) : Same H (L2.upd H p o) := fun b u e => by rw [upd_ne (ne_of_none e h)]; exact e
theorem Kp.free {a b : Addr} {H H' : Hp} {o : HO} (k : Kp a H H') (ha : H a = some o) (h : H' b = none) (n : b ≠ a) : H b = none := by
  cases q : H b with
  | none => rfl
  | some u => rw [k b u n q] at h; cases h

/-! ### the promises of the small defs -/
def spIsInt : Sp := fun vs H Q _ => ∃ v n, vs = [v] ∧ Kd H v n ∧ Q (.bl (isI v)) H
def spAtL : Sp := fun vs H Q _ => ∃ v n l, vs = [v, .int l] ∧ Kd H v n ∧ Q (.bl (isI v && decide (l ≤ toI v))) H
def spWithin : Sp := fun vs H Q _ => ∃ v n l m, vs = [v, .int l, .int m] ∧ Kd H v n ∧ Q (.bl (isI v && (decide (l ≤ toI v) && decide (toI v ≤ m)))) H
/-- how many steps -/
def stepsUp (d s : Int) : Int := if -(-d / s) > 0 then -(-d / s) else 0
def spSteps : Sp := fun vs H Q _ => ∃ d s, vs = [.int d, .int s] ∧ 0 < s ∧ s.natAbs.log2 < 9000 ∧ Q (.int (stepsUp d s)) H

/-- what is no list is kept -/
def NL (H H' : Hp) : Prop := ∀ b o, H b = some o → (∀ xs, o ≠ .lst xs) → H' b = some o
theorem NL.refl {H : Hp} : NL H H := fun _ _ h _ => h
theorem NL.trans {H H1 H2 : Hp} (a : NL H H1) (b : NL H1 H2) : NL H H2 := fun c o h n => b c o (a c o h n) n
theorem NL.of {H H' : Hp} (s : Same H H') : NL H H' := fun b o e _ => s b o e
theorem Kp.nl {a : Addr} {H H' : Hp} {xs : List V} (k : Kp a H H') (h : H a = some (.lst xs)) : NL H H' := fun b o e n => k b o (fun z => by subst z; rw [h] at e; exact n xs (Option.some.inj e).symm) e
theorem NL.upd {H : Hp} {p : Addr} {xs : List V} {o : HO} (h : H p = some (.lst xs)) : NL H (L2.upd H p o) := Kp.nl Kp.upd h
theorem pe_gI {X : Cx} {x : Str} {i : Int} {t : Tok} {pos : Pos} (hm : X.mg x = some (.int i t)) (hg : Gl X x := by rfl) (hd : (x == ("__debug__" : Str)) = false := by decide) : PE X (.Name x pos) (tC (.int i)) := pe_glob hg hm ⟨t, rfl⟩ hd
@[irreducible] def PB (n : Nat) : Int := 2 ^ n
theorem PB_succ (n : Nat) : PB (n + 1) = PB n + PB n := by
  unfold PB
  rw [Int.pow_succ]
  omega
theorem PB_pos (n : Nat) : 1 ≤ PB n := by
  unfold PB
  have : (0 : Int) < 2 ^ n := Int.pow_pos (by decide)
  omega
theorem PB_le {n m : Nat} (h : n ≤ m) : PB n ≤ PB m := by
  induction m with
  | zero => rw [Nat.le_zero.mp h]; exact Int.le_refl _
  | succ m ih =>
    by_cases e : n = m + 1
    · rw [e]; exact Int.le_refl _
    · have h1 := ih (by omega)
      have h2 := PB_succ m
      have h3 := PB_pos m
      omega
theorem PB_abs {i : Int} {n : Nat} (h0 : 0 ≤ i) (h : i ≤ PB n) : i.natAbs < 2 ^ (n + 1) := by
  unfold PB at h
  have e : (2 : Nat) ^ (n + 1) = 2 ^ n * 2 := Nat.pow_succ 2 n
  have e2 : ((2 ^ n : Nat) : Int) = 2 ^ n := by rw [Int.natCast_pow]; rfl
  rw [← e2] at h
  have : 0 < 2 ^ n := Nat.pow_pos (by decide)
  rw [e]
  generalize 2 ^ n = w at *
  omega
theorem PB_of {i : Int} {n : Nat} (h : i.natAbs < 2 ^ n) : i ≤ PB n := by
  unfold PB
  have e2 : ((2 ^ n : Nat) : Int) = 2 ^ n := by rw [Int.natCast_pow]; rfl
  rw [← e2]
  generalize 2 ^ n = w at *
  omega
def BB : Int := PB 5000
theorem BB0 : 0 ≤ BB := by
  have := PB_pos 5000
  unfold BB
  omega
theorem bb_lt {i : Int} (h0 : 0 ≤ i) (h : i ≤ BB + BB) : i.natAbs < 2 ^ 5002 := PB_abs h0 (by rw [PB_succ]; exact h)
theorem mulBB {i j : Int} (i0 : 0 ≤ i) (i1 : i ≤ BB + BB) (j0 : 0 ≤ j) (j1 : j ≤ BB + BB) : CMulW i j := wide_mul (bb_lt i0 i1) (bb_lt j0 j1) (by decide) (by decide) (by decide)
theorem BB1 : 1 ≤ BB := PB_pos 5000
theorem divBB {j : Int} (j0 : 1 ≤ j) (j1 : j ≤ BB) : j.natAbs.log2 < 9000 := (wide_div (i := 0) (by omega : 0 < j) (bb_lt (by omega) (by have := BB0; omega)) (by decide) (by decide)).2
theorem small2 {n : Nat} (h : n ≤ 100000) : n ≤ sizeLine := Nat.le_trans h (by decide)
theorem small1 {n : Nat} (h : n ≤ 100000) : n < sizeLine := Nat.lt_of_le_of_lt h (by decide)
theorem tYes_of {σ : L2.St} {H : Hp} {A B : Hp → Prop} (h : A H) : tYes σ H (fun b H3 => if b = true then A H3 else B H3) := by
  show if true = true then A H else B H
  rw [if_pos rfl]
  exact h
theorem cut_init (xs : List V) : cutV xs none (some (-1)) = xs.take (xs.length - 1) := by
  show (xs.drop 0).take ((if (-1 : Int) < 0 then ((-1 : Int) + (xs.length : Int)).toNat else min (-1 : Int).toNat xs.length) - 0) = _
  rw [if_pos (by decide), List.drop_zero]
  congr 1
  omega
theorem cut_last (xs : List V) : cutV xs (some (-1)) none = xs.drop (xs.length - 1) := by
  show (xs.drop (if (-1 : Int) < 0 then ((-1 : Int) + (xs.length : Int)).toNat else min (-1 : Int).toNat xs.length)).take (xs.length - (if (-1 : Int) < 0 then ((-1 : Int) + (xs.length : Int)).toNat else min (-1 : Int).toNat xs.length)) = _
  rw [if_pos (by decide)]
  have e : ((-1 : Int) + (xs.length : Int)).toNat = xs.length - 1 := by omega
  rw [e]
  refine List.take_of_length_le ?_
  rw [List.length_drop]
  exact Nat.le_refl _
theorem none_of {H H' : Hp} {l : Addr} (s : Same H H') (h : H' l = none) : H l = none := by
  cases q : H l with
  | none => rfl
  | some o => rw [s _ _ q] at h; cases h
theorem for_enum {K : PySem.W.Frag} {a : Addr} {xs : List V} {g : TG} {tb : TS} {D : Ends} {σ : L2.St} {H : Hp} (Pv : Nat → L2.St → Hp → Prop) (h0 : Pv 0 σ H) (hl : ∀ i σ H, i ≤ xs.length → Pv i σ H → SqL K H a xs)
    (hs : ∀ i x T σ H, xs[i]? = some x → Pv i σ H → H T = none → g (.ref T) σ (upd H T (.tup [.int (i : Nat), x])) fun σ2 H2 => tb { D with nx := Pv (i + 1), ct := Pv (i + 1), bk := D.nx } σ2 H2) (hd : ∀ σ H, Pv xs.length σ H → D.nx σ H) :
    ∃ W : Nat → Nat → L2.St → Hp → Prop, (∃ m, W 0 m σ H) ∧ ∀ i m σ H, W i m σ H →
      ((Ite K a).stop i H ∧ D.nx σ H) ∨ ((Ite K a).go i H ∧ ∃ N : L2.St → Hp → Prop, (∀ σ' H', N σ' H' → ∃ m', m' < m ∧ W (i + 1) m' σ' H') ∧ ∀ x H', (Ite K a).yld i H x H' → g x σ H' fun σ2 H2 => tb { D with nx := N, ct := N, bk := D.nx } σ2 H2) := by
  refine ⟨fun i m σ H => m = xs.length - i ∧ i ≤ xs.length ∧ Pv i σ H, ⟨xs.length, by simp, Nat.zero_le _, h0⟩, ?_⟩
  rintro i m σ H ⟨rfl, hi, p⟩
  have q := hl i σ H hi p
  by_cases hlt : i < xs.length
  · refine .inr ⟨⟨xs, xs[i], q, by simp [hlt]⟩, Pv (i + 1), fun σ' H' p' => ⟨xs.length - (i + 1), by omega, rfl, hlt, p'⟩, fun x H' y => ?_⟩
    obtain ⟨T, x', rfl, hT, rfl, hx⟩ := y
    exact hs i x' T σ H (hx xs q) p hT
  · have e : i = xs.length := by omega
    subst e
    exact .inl ⟨⟨xs, q, Nat.le_refl _⟩, hd σ H p⟩
theorem pe_callN0 {X : Cx} {CX : CXT} {k : Nat} {f : Addr} {fd : FuncData} {ps ks : List Str} {sp : Sp} {E : XK} {x : Str} {p pos : Pos} {kws : List Keyword} {tk : TA} {g : List Value → List Value → List Value} {gV : List V → List V → List V}
    (F : FnOk X.prog X.w X.K X.mg X.base CX k f fd ps sp) (hr : Room k X.A) (hg : Gl X x) (hm : X.mg x = some (.ref f)) (hk : PySem.W.keepIn X.K (.ref f) = true) (hb : KBn X.K fd ps 0 ks g gV) (hx : Passes CX X E) (hkw : PK X kws tk)
    (hall : (backToKw pos (keywordEach kws X.env)).all (·.1.isSome) = true := by rfl) (hks : (backToKw pos (keywordEach kws X.env)).filterMap (·.1) = ks := by rfl) (hdb : (x == ("__debug__" : Str)) = false := by decide)
    (hpl : ((backTo pos (starEach [] X.env)).any (·.1) || (backToKw pos (keywordEach kws X.env)).any (·.1.isNone)) = false := by rfl) :
    PE X (.Call (.Name x p) [] kws pos) (tCallN 0 ks.length sp gV E tNil tk) := by
  refine ⟨fun pins s σ H Q I h => ?_⟩
  refine wpAny_Call_Name_kw (ld_glob I hg hm ?_ hdb)
  refine PySem.W.callWith_KW0 (h₀ := X.base) I.ok.mod.kin hk hall ?_ hpl
  refine thn (hkw.run pos pins s σ H _ I h) fun ws s2 ⟨zs, H2, I2, rz, l1, l2, q2⟩ => ⟨I2.kIn, ?_⟩
  rw [hks]
  exact run_fnN F hr hb hx I2 .nil rz rfl l2 q2
section
variable {X : Cx} {C : Addr} {k : Nat} {f : Addr} {ps : List Str} {sp : Sp}
theorem Met.op_in (c : Met X.prog X.w X.K X.mg X.base C "__contains__" k f ps sp) (hr : Room k X.A) : OpR X (compareOp .In) (rOwnIn C sp E0 _root_.id) := by
  obtain ⟨fd, F, b⟩ := c.ex
  exact op_own_in F hr c.me.at_ c.me.fn b pass0
theorem Met.op_notin (c : Met X.prog X.w X.K X.mg X.base C "__contains__" k f ps sp) (hr : Room k X.A) : OpR X (compareOp .NotIn) (rOwnIn C sp E0 Bool.not) := by
  obtain ⟨fd, F, b⟩ := c.ex
  exact op_own_notin F hr c.me.at_ c.me.fn b pass0
theorem Met.c_len (c : Met X.prog X.w X.K X.mg X.base C "__len__" k f ps sp) (hr : Room (k + 1) X.A) : CallR X (.builtin "len") (rOwnLen C sp E0) := by
  obtain ⟨fd, F, b⟩ := c.ex
  exact call_own_len F hr c.me.at_ c.me.fn b pass0
theorem Met.op_add (c : Met X.prog X.w X.K X.mg X.base C "__add__" k f ps sp) (hr : Room k X.A) (hc : PySem.W.selfFirst X.K C = true) : OpR X (binaryOp .Add) (rOwnAdd C sp E0) := by
  obtain ⟨fd, F, b⟩ := c.ex
  exact op_own_add F hr hc c.me.at_ c.me.fn b pass0
theorem Met.op_eq (c : Met X.prog X.w X.K X.mg X.base C "__eq__" k f ps sp) (hr : Room k X.A) : OpR X (compareOp .Eq) (rOwnEq C sp E0 _root_.id) := by
  obtain ⟨fd, F, b⟩ := c.ex
  exact op_own_eq F hr c.me.at_ c.me.fn b pass0
theorem Met.op_ne (c : Met X.prog X.w X.K X.mg X.base C "__eq__" k f ps sp) (hr : Room (k + 1) X.A) (hm : PySem.W.mroIn X.K C (.type "object") = some true) (hne : PySem.W.findIn X.K (.ref C) "__ne__" = some (some (.builtin "object.__ne__"))) : OpR X (compareOp .NotEq) (rOwnEq C sp E0 Bool.not) := by
  obtain ⟨fd, F, b⟩ := c.ex
  exact op_own_ne F hr hm hne c.me.at_ c.me.fn b pass0
theorem Met.p_ix {a b : Expr} {ta tb : TE} {pos : Pos} (c : Met X.prog X.w X.K X.mg X.base C "__getitem__" k f ps sp) (hr : Room (k + 1) X.A) (ha : PE X a ta) (hb' : PE X b tb) (hsl : ∀ o i, subscripted b true o i = runValue (.builtin "lifetime.subscript" ⟨[o, i], []⟩) := by exact fun _ _ => rfl) :
    PE X (.Subscript a b pos) (tOp (rOwnIx C sp E0) ta tb) := by
  obtain ⟨fd, F, bb⟩ := c.ex
  exact pe_own_ix F hr c.me.at_ c.fk c.me.fn bb pass0 ha hb' hsl
end
theorem Met.p_m0 {X : Cx} {C : Addr} {k : Nat} {f : Addr} {ps : List Str} {sp : Sp} {m : Str} {o : Expr} {ta : TE} {apos pos : Pos} {pl : Sem Bool} (c : Met X.prog X.w X.K X.mg X.base C m k f ps sp) (cl : Cls X.K C) (hr : Room k X.A) (he : PE X o ta)
    (ht : eval (.Call (.Attribute o m apos) [] [] pos) X.env = (do
      let ov ← eval o X.env
      standAt apos.atName
      let (f, first) ← holding [ov] (getMethod ov m pl)
      callWith pos f first (backTo pos (starEach [] X.env)) (backToKw pos (keywordEach [] X.env))) := by rfl) :
    PE X (.Call (.Attribute o m apos) [] [] pos) (tMeth C m sp [] E0 ta tNil) := by
  obtain ⟨fd, F, b⟩ := c.ex
  exact pe_meth0 he cl c.me F hr b .nil pass0 ht
/-! ### a class of the text -/
structure CF (K : PySem.W.Frag) (C : Addr) : Prop where
  cl : Cls K C
  cls : PySem.W.isClsIn K C = true
  ty : PySem.W.typeIn K (.ref C) = some (.type "type")
  oc : PySem.W.findIn K (.ref C) "__class__" = some (some (.builtin "object.__class__"))
  og : PySem.W.specialIn K (.builtin "object.__class__") "__get__" = some (some (.builtin "getset_descriptor.__get__"))
  ot : PySem.W.takesIn K (.builtin "object.__class__") = some true
  om : PySem.W.mroIn K C (.type "object") = some true
  sf : PySem.W.selfFirst K C = true
  ne : PySem.W.findIn K (.ref C) "__ne__" = some (some (.builtin "object.__ne__"))
theorem CF.kitT {K : PySem.W.Frag} {C : Addr} (M : CF K C) {H : Hp} {v : V} {n : String} (h : Kd H v n) : PySem.W.kitOne K (.type n) (.ref C) = some false := by
  have e1 : ((PySem.W.clsIn K C).isSome && PySem.W.typeIn K (.ref C) == some (.type "type")) = true := by
    have h2 : (PySem.W.clsIn K C).isSome = true := M.cls
    rw [h2, M.ty] <;> rfl
  have e2 : PySem.W.subIn K (.type n) (.ref C) = some false := by
    cases h with
    | non => exact sub_ty (l := ["NoneType", "object"]) (by decide +kernel)
    | bl _ => exact sub_ty (l := ["bool", "int", "object"]) (by decide +kernel)
    | int _ => exact sub_ty (l := ["int", "object"]) (by decide +kernel)
    | str _ => exact sub_ty (l := ["str", "object"]) (by decide +kernel)
    | lst _ => exact sub_ty (l := ["list", "object"]) (by decide +kernel)
    | tup _ => exact sub_ty (l := ["tuple", "object"]) (by decide +kernel)
    | dK _ => exact sub_ty (l := ["dict", "object"]) (by decide +kernel)
  show (if (Value.type n == Value.ref C) = true then some true else PySem.W.kitCls K (.type n) (.ref C)) = some false
  rw [if_neg (by intro z; cases z)]
  show (if ((PySem.W.clsIn K C).isSome && PySem.W.typeIn K (.ref C) == some (.type "type")) = true then PySem.W.subIn K (.type n) (.ref C) else none) = some false
  rw [if_pos e1, e2]
theorem CF.tyR {K : PySem.W.Frag} {C : Addr} (M : CF K C) {H : Hp} {p dx : Addr} {fs : List (Str × V)} (h : H p = some (.ins C dx fs)) : TyX K H (.ref p) (.ref C) := .base (.ins h M.cl M.oc M.og M.ot M.om)
theorem vals_rev {vs : List V} {us : List Value} (r : Vals vs us) : Vals vs.reverse us.reverse := by
  induction r with
  | nil => exact .nil
  | cons h t ih =>
    rw [List.reverse_cons, List.reverse_cons]
    exact ih.append (.cons h .nil)
/-- f(c = .., b = .., a = ..) of a def f(a, b, c) -/
theorem pe_kr {X : Cx} {k : Nat} {f : Addr} {sp : Sp} {x : Str} {ps : List Str} {st : Stmt} {kws : List Keyword} {tk : TA} {p pos : Pos} (D : Dfn X.K X.mg x st f ps) (h : ∀ fd, Fun X.K x x st f fd → FnOk X.prog X.w X.K X.mg X.base CX0 k f fd ps sp)
    (hbind : ∀ (kV doc pm : Value) (an : Option Addr) (cdv ct : Value) (us : List Value), us.length = ps.reverse.length → bindArgs (PySem.W.fnOf x x (defArgs st) (defBody st) (defScope st) .none kV doc pm an cdv ct) ⟨[], ps.reverse.zip us⟩ = pure (ps.zip us.reverse))
    (hr : Room k X.A) (hg : Gl X x) (hkw : PK X kws tk) (hall : (backToKw pos (keywordEach kws X.env)).all (·.1.isSome) = true := by rfl) (hks : (backToKw pos (keywordEach kws X.env)).filterMap (·.1) = ps.reverse := by rfl) (hdb : (x == ("__debug__" : Str)) = false := by decide)
    (hpl : ((backTo pos (starEach [] X.env)).any (·.1) || (backToKw pos (keywordEach kws X.env)).any (·.1.isNone)) = false := by rfl) :
    PE X (.Call (.Name x p) [] kws pos) (tCallN 0 ps.reverse.length sp (fun us ws => us ++ ws.reverse) E0 tNil tk) := by
  obtain ⟨fd, F, _⟩ := D.ex
  have hb : KBn X.K fd ps 0 ps.reverse (fun us ws => us ++ ws.reverse) (fun us ws => us ++ ws.reverse) := by
    refine ⟨fun s us ws hX h1 h2 => ?_, fun r1 r2 => r1.append (vals_rev r2)⟩
    obtain ⟨oc, od, kV, doc, pm, an, cdv, ct, osl, rfl, lk, hcd⟩ := F.ex
    match us, h1 with
    | [], _ => exact .of_eq (hbind kV doc pm an cdv ct ws h2)
  exact pe_callN0 (h fd F) hr hg D.g F.kp hb pass0 hkw hall hks hdb hpl
/-- where the defs and classes of the text stand -/
structure LA where
  f_is_integer : Addr
  f_is_at_least : Addr
  f_is_within : Addr
  f_is_breaker : Addr
  f_passes : Addr
  f_state_behind : Addr
  f_check_times : Addr
  f_log_of : Addr
  f_is_entry : Addr
  f_check_log : Addr
  f_passes_ahead : Addr
  f_gaps_of : Addr
  f_narrowed : Addr
  f_explanations : Addr
  f__law_mixed : Addr
  f__law_well : Addr
  f__law_draw : Addr
  f__law_one : Addr
  f__law_log : Addr
  f__law_seen : Addr
  f__law_fits : Addr
  f__law_due : Addr
  f__law_right : Addr
/-- what the text says of them -/
structure LX (K : PySem.W.Frag) (mg : Str → Option Value) (L : LA) : Prop where
  b_bool : mg "bool" = none
  b_enumerate : mg "enumerate" = none
  b_int : mg "int" = none
  b_isinstance : mg "isinstance" = none
  b_len : mg "len" = none
  b_list : mg "list" = none
  b_max : mg "max" = none
  b_min : mg "min" = none
  b_range : mg "range" = none
  b_tuple : mg "tuple" = none
  n_MOST_COUNT : ∃ t, mg "MOST_COUNT" = some (.int 1000000000000 t)
  n_MOST_TIME : ∃ t, mg "MOST_TIME" = some (.int 1000000000000000000000000000000 t)
  n_MOST_ENTRIES : ∃ t, mg "MOST_ENTRIES" = some (.int 1000 t)
  d_is_integer : Dfn K mg "is_integer" st_is_integer L.f_is_integer ["value"]
  d_is_at_least : Dfn K mg "is_at_least" st_is_at_least L.f_is_at_least ["value", "least"]
  d_is_within : Dfn K mg "is_within" st_is_within L.f_is_within ["value", "least", "most"]
  d_is_breaker : Dfn K mg "is_breaker" st_is_breaker L.f_is_breaker ["value"]
  d_passes : Dfn K mg "passes" st_passes L.f_passes ["breaker", "state", "time"]
  d_state_behind : Dfn K mg "state_behind" st_state_behind L.f_state_behind ["breaker", "state", "time", "succeeded"]
  d_check_times : Dfn K mg "check_times" st_check_times L.f_check_times ["times"]
  d_log_of : Dfn K mg "log_of" st_log_of L.f_log_of ["breaker", "times"]
  d_is_entry : Dfn K mg "is_entry" st_is_entry L.f_is_entry ["value"]
  d_check_log : Dfn K mg "check_log" st_check_log L.f_check_log ["log"]
  d_passes_ahead : Dfn K mg "passes_ahead" st_passes_ahead L.f_passes_ahead ["log"]
  d_gaps_of : Dfn K mg "gaps_of" st_gaps_of L.f_gaps_of ["log"]
  d_narrowed : Dfn K mg "narrowed" st_narrowed L.f_narrowed ["bounds", "gap", "passed"]
  d_explanations : Dfn K mg "explanations" st_explanations L.f_explanations ["log"]
  d__law_mixed : Dfn K mg "_law_mixed" st__law_mixed L.f__law_mixed ["_law_cell", "_law_k"]
  d__law_well : Dfn K mg "_law_well" st__law_well L.f__law_well ["_law_cell"]
  d__law_draw : Dfn K mg "_law_draw" st__law_draw L.f__law_draw ["_law_well_here", "_law_many"]
  d__law_one : Dfn K mg "_law_one" st__law_one L.f__law_one ["_law_well_here", "_law_some"]
  d__law_log : Dfn K mg "_law_log" st__law_log L.f__law_log ["_law_breaker", "_law_times"]
  d__law_seen : Dfn K mg "_law_seen" st__law_seen L.f__law_seen ["_law_well_here", "_law_most"]
  d__law_fits : Dfn K mg "_law_fits" st__law_fits L.f__law_fits ["_law_log_here", "_law_most"]
  d__law_due : Dfn K mg "_law_due" st__law_due L.f__law_due ["_law_log_here"]
  d__law_right : Dfn K mg "_law_right" st__law_right L.f__law_right ["_law_well_here"]

/-- a comprehension over zip of two lists -/
theorem lc_zip {K : PySem.W.Frag} {a b : Addr} {xs ys : List V} {g : TG} {tt : TT} {te : TE} {vs : List Nat} {σ : L2.St} {H1 : Hp} {D : Addr} {Qd : Hp → Prop} (hlen : ys.length ≤ xs.length) (Pv : Nat → Hp → Prop) (h0 : Pv 0 (upd H1 D (.lst []))) (hl : ∀ i H, Pv i H → SqL K H a xs ∧ SqL K H b ys)
    (hs : ∀ (i : Nat) (x y : V) (T : Addr) (H : Hp), xs[i]? = some x → ys[i]? = some y → Pv i H → H T = none → g (.ref T) (wipe σ vs) (upd H T (.tup [x, y])) fun σ2 H2 => wipe σ2 vs = wipe σ vs ∧ tt σ2 H2 fun b H3 =>
      if b = true then te σ2 H3 fun y H4 => ∃ acc, H4 D = some (.lst acc) ∧ acc.length < sizeLine ∧ Pv (i + 1) (upd H4 D (.lst (acc ++ [y]))) else Pv (i + 1) H3) (hd : ∀ H, Pv ys.length H → Qd H) :
    ∃ W : Nat → Nat → Hp → Prop, (∃ m, W 0 m (upd H1 D (.lst []))) ∧ ∀ i m H, W i m H → ((Itz K a b).stop i H ∧ Qd H) ∨ ((Itz K a b).go i H ∧ ∃ Nx : Hp → Prop, (∀ H', Nx H' → ∃ m', m' < m ∧ W (i + 1) m' H') ∧ ∀ x H', (Itz K a b).yld i H x H' → g x (wipe σ vs) H' fun σ2 H2 => wipe σ2 vs = wipe σ vs ∧ tt σ2 H2 fun b H3 =>
        if b = true then te σ2 H3 fun y H4 => ∃ acc, H4 D = some (.lst acc) ∧ acc.length < sizeLine ∧ Nx (upd H4 D (.lst (acc ++ [y]))) else Nx H3) := by
  refine ⟨fun i m H => m = ys.length - i ∧ i ≤ ys.length ∧ Pv i H, ⟨ys.length, by omega, Nat.zero_le _, h0⟩, ?_⟩
  rintro i m H ⟨rfl, hi, p⟩
  obtain ⟨qx, qy⟩ := hl i H p
  by_cases hlt : i < ys.length
  · have hx : xs[i]? = some xs[i] := List.getElem?_eq_getElem (by omega)
    have hy : ys[i]? = some ys[i] := List.getElem?_eq_getElem hlt
    refine .inr ⟨⟨xs, ys, _, _, qx, qy, hx, hy⟩, Pv (i + 1), fun H' p' => ⟨ys.length - (i + 1), by omega, rfl, hlt, p'⟩, fun v H' y => ?_⟩
    obtain ⟨T, x', y', rfl, hT, rfl, f1, f2⟩ := y
    exact hs i x' y' T H (f1 xs qx) (f2 ys qy) p hT
  · have e : i = ys.length := by omega
    subst e
    exact .inl ⟨⟨xs, ys, qx, qy, .inr (Nat.le_refl _)⟩, hd H p⟩
/-- an attribute inside a comprehension -/
theorem pe_fldK {X : Cx} {K : PySem.W.Frag} {e : Expr} {f : Str} {pos : Pos} {ta : TE} (hK : X.K = K) (he : PE X e ta) (hb : attributeBase e f X.env (eval e X.env) = eval e X.env) : PE X (.Attribute e f pos) (tFld K ta f) := by
  subst hK
  exact pe_fld he hb
theorem putF_len (f : Str) (v : V) (fs : List (Str × V)) {n : Nat} (h : fs.length ≤ n) : (putF f v fs).length ≤ n + 1 := Nat.le_trans (length_putF f v fs) (Nat.succ_le_succ h)
def spRup : Sp := fun vs H Q _ => ∃ v u : Int, vs = [.int v, .int u] ∧ 0 < u ∧ u.natAbs.log2 < 9000 ∧ CMulW (stepsUp v u) u ∧ Q (.int (stepsUp v u * u)) H
/-! ### the small defs -/
section
variable {P : Program} {w : World} {K : PySem.W.Frag} {mg : Str → Option Value} {base : Heap} {L : LA}
abbrev N_isinteger : List Str := ["value"]
theorem sc_isinteger : FnScope N_isinteger ["value"] (defScope st_is_integer) := ⟨rfl, rfl, rfl, by decide +kernel, rfl, by decide +kernel, by decide +kernel⟩
theorem fn_isinteger (T : LX K mg L) {fd : FuncData} (F : Fun K "is_integer" "is_integer" st_is_integer L.f_is_integer fd) : FnOk P w K mg base CX0 1 L.f_is_integer fd ["value"] (spIsInt) := by
  have nd := sc_isinteger.nd
  refine F.ok sc_isinteger (fun vs H Q E h => ?_) (fun cdv A outer S H vs Q E hr h => ?_)
  · obtain ⟨v, n, rfl, _⟩ := h
    rfl
  · obtain ⟨v, n, rfl, hv, k⟩ := h
    refine ⟨_, (pss_one (ps_ret (pe_and (pe_callB call_isi (by rfl) T.b_isinstance (by decide +kernel) (pa_cons (pv 0) (pa_cons (pe_bltn (by rfl) T.b_int (by decide +kernel : bootBuiltins "int" = some (.type "int")) (v := .ty "int") rfl) pa_nil))) (pe_one (pe_not (pe_callB call_isi (by rfl) T.b_isinstance (by decide +kernel) (pa_cons (pv 0) (pa_cons (pe_bltn (by rfl) T.b_bool (by decide +kernel : bootBuiltins "bool" = some (.type "bool")) (v := .ty "bool") rfl) pa_nil)))))))), ?_⟩
    refine ⟨_, rfl, v, .ty "int", _, _, _, rfl, .ty "int", hv.ty, hv.kit "int" _ (.inl ⟨rfl, rfl⟩), _, rfl, ?_⟩
    refine ite2 (fun c => ?_) (fun c => ?_)
    · refine ⟨_, rfl, v, .ty "bool", _, _, _, rfl, .ty "bool", hv.ty, hv.kit "bool" _ (.inr ⟨by decide, by decide, rfl⟩), _, rfl, ?_⟩
      cases hv <;> first | exact k | (exact absurd c (by decide))
    · cases hv <;> first | exact k | (exact absurd (by decide) c)
theorem ok_isinteger (T : LX K mg L) : Cal P w K mg base "is_integer" 1 L.f_is_integer ["value"] (spIsInt) := T.d_is_integer.cal fun fd F => fn_isinteger T F
abbrev N_isatleast : List Str := ["value", "least"]
theorem sc_isatleast : FnScope N_isatleast ["value", "least"] (defScope st_is_at_least) := ⟨rfl, rfl, rfl, by decide +kernel, rfl, by decide +kernel, by decide +kernel⟩
theorem fn_isatleast (T : LX K mg L) {fd : FuncData} (F : Fun K "is_at_least" "is_at_least" st_is_at_least L.f_is_at_least fd) : FnOk P w K mg base CX0 2 L.f_is_at_least fd ["value", "least"] (spAtL) := by
  have G_isinteger := ok_isinteger (P := P) (w := w) (base := base) T
  have nd := sc_isatleast.nd
  refine F.ok sc_isatleast (fun vs H Q E h => ?_) (fun cdv A outer S H vs Q E hr h => ?_)
  · obtain ⟨v, n, l, rfl, _⟩ := h
    rfl
  · obtain ⟨v, n, l, rfl, hv, k⟩ := h
    refine ⟨_, (pss_one (ps_ret (pe_and (pe_c G_isinteger (hr.mono (by decide)) rfl (pa_cons (pv 0) pa_nil)) (pe_one (pe_cmpR op_ge (pv 0) (pv 1) (nomark _)))))), ?_⟩
    refine ⟨_, rfl, v, n, rfl, hv, _, rfl, ?_⟩
    cases v with
    | int i => exact iteT ⟨_, rfl, _, rfl, _, _, rfl, rfl, k⟩
    | _ => exact iteF k
theorem ok_isatleast (T : LX K mg L) : Cal P w K mg base "is_at_least" 2 L.f_is_at_least ["value", "least"] (spAtL) := T.d_is_at_least.cal fun fd F => fn_isatleast T F
abbrev N_iswithin : List Str := ["value", "least", "most"]
theorem sc_iswithin : FnScope N_iswithin ["value", "least", "most"] (defScope st_is_within) := ⟨rfl, rfl, rfl, by decide +kernel, rfl, by decide +kernel, by decide +kernel⟩
theorem fn_iswithin (T : LX K mg L) {fd : FuncData} (F : Fun K "is_within" "is_within" st_is_within L.f_is_within fd) : FnOk P w K mg base CX0 2 L.f_is_within fd ["value", "least", "most"] (spWithin) := by
  have G_isinteger := ok_isinteger (P := P) (w := w) (base := base) T
  have nd := sc_iswithin.nd
  refine F.ok sc_iswithin (fun vs H Q E h => ?_) (fun cdv A outer S H vs Q E hr h => ?_)
  · obtain ⟨v, n, l, m, rfl, _⟩ := h
    rfl
  · obtain ⟨v, n, l, m, rfl, hv, k⟩ := h
    refine ⟨_, (pss_one (ps_ret (pe_and (pe_c G_isinteger (hr.mono (by decide)) rfl (pa_cons (pv 0) pa_nil)) (pe_one (pe_chain op_le op_le (pv 1) (pv 0) (pv 2)))))), ?_⟩
    refine ⟨_, rfl, v, n, rfl, hv, _, rfl, ?_⟩
    cases v with
    | int i =>
      refine iteT ⟨_, rfl, _, rfl, _, _, rfl, rfl, _, rfl, ?_⟩
      refine ite2 (fun c => ?_) (fun c => ?_)
      · refine ⟨_, rfl, _, _, rfl, rfl, ?_⟩
        have c' : decide (l ≤ i) = true := c
        have k' : Q (.bl (decide (l ≤ i) && decide (i ≤ m))) H := k
        rw [c', Bool.true_and] at k'
        exact k'
      · have c' : decide (l ≤ i) = false := by simpa using c
        have k' : Q (.bl (decide (l ≤ i) && decide (i ≤ m))) H := k
        rw [c', Bool.false_and] at k'
        exact k'
    | _ => exact iteF k
theorem ok_iswithin (T : LX K mg L) : Cal P w K mg base "is_within" 2 L.f_is_within ["value", "least", "most"] (spWithin) := T.d_is_within.cal fun fd F => fn_iswithin T F
end
/-! ### trains as data -/
abbrev Trn := Int × Int × Option Int
def OkTr (t : Trn) : Prop := 0 ≤ t.1 ∧ 1 ≤ t.2.1 ∧ ∀ c, t.2.2 = some c → 1 ≤ c
/-- all times of the first are before the second -/
def Lt (t u : Trn) : Prop := ∃ c, t.2.2 = some c ∧ t.1 + (c - 1) * t.2.1 < u.1
def Srt (ts : List Trn) : Prop := (∀ t ∈ ts, OkTr t) ∧ ts.Pairwise Lt
def minO (n : Int) : Option Int → Int
  | none => n
  | some c => if c < n then c else n
/-- how many times of a train are before x -/
def nbT (t : Trn) (x : Int) : Int := minO (stepsUp (x - t.1) t.2.1) t.2.2
def NB : List Trn → Int → Int
  | [], _ => 0
  | t :: ts, x => nbT t x + NB ts x
def At : List Trn → Int → Option Int
  | [], _ => none
  | t :: ts, i => match t.2.2 with
    | none => some (t.1 + i * t.2.1)
    | some c => if i < c then some (t.1 + i * t.2.1) else At ts (i - c)
def addO (c : Int) : Option Int → Option Int
  | none => none
  | some n => some (c + n)
def Tot : List Trn → Option Int
  | [] => some 0
  | t :: ts => match t.2.2 with
    | none => none
    | some c => addO c (Tot ts)
/-- d / s, rounded up -/
def cl (d s : Int) : Int := -(-d / s)
theorem stepsUp_cl (d s : Int) : stepsUp d s = if cl d s > 0 then cl d s else 0 := rfl
theorem cl_sub (d s c : Int) (hs : 0 < s) : cl (d - c * s) s = cl d s - c := by
  unfold cl
  have e : -(d - c * s) = -d + c * s := by omega
  rw [e, Int.add_mul_ediv_right _ _ (show s ≠ 0 by omega)]
  omega
theorem cl_le {d s n : Int} (hs : 0 < s) : cl d s ≤ n ↔ d ≤ n * s := by
  unfold cl
  have h : -n ≤ -d / s ↔ -n * s ≤ -d := Int.le_ediv_iff_mul_le hs
  rw [Int.neg_mul] at h
  omega
theorem cl_gt {d s n : Int} (hs : 0 < s) : n < cl d s ↔ n * s < d := by
  have h := cl_le (d := d) (s := s) (n := n) hs
  omega
def subO (k : Option Int) (c : Int) : Option Int := match k with
  | none => none
  | some n => some (n - c)
/-- a train is its first c times, and the others -/
theorem nbT_split {s p c : Int} {k : Option Int} (hp : 0 < p) (hc : 0 ≤ c) (hk : ∀ n, k = some n → c ≤ n) (x : Int) : nbT (s, p, k) x = nbT (s, p, some c) x + nbT (s + c * p, p, subO k c) x := by
  have e : x - (s + c * p) = x - s - c * p := by omega
  show minO (stepsUp (x - s) p) k = minO (stepsUp (x - s) p) (some c) + minO (stepsUp (x - (s + c * p)) p) (subO k c)
  rw [e, stepsUp_cl, stepsUp_cl, cl_sub _ _ _ hp]
  cases k with
  | none =>
    show (if cl (x - s) p > 0 then cl (x - s) p else 0) = (if c < (if cl (x - s) p > 0 then cl (x - s) p else 0) then c else (if cl (x - s) p > 0 then cl (x - s) p else 0)) + (if cl (x - s) p - c > 0 then cl (x - s) p - c else 0)
    split <;> split <;> split <;> omega
  | some n =>
    have := hk n rfl
    show (if n < (if cl (x - s) p > 0 then cl (x - s) p else 0) then n else (if cl (x - s) p > 0 then cl (x - s) p else 0)) = (if c < (if cl (x - s) p > 0 then cl (x - s) p else 0) then c else (if cl (x - s) p > 0 then cl (x - s) p else 0)) + (if n - c < (if cl (x - s) p - c > 0 then cl (x - s) p - c else 0) then n - c else (if cl (x - s) p - c > 0 then cl (x - s) p - c else 0))
    split <;> split <;> split <;> split <;> (try split) <;> omega
/-- the step of a single time is nothing -/
theorem nbT_one {s p q : Int} (hp : 0 < p) (hq : 0 < q) (x : Int) : nbT (s, p, some 1) x = nbT (s, q, some 1) x := by
  have one : ∀ p : Int, 0 < p → nbT (s, p, some 1) x = if s < x then 1 else 0 := fun p hp => by
    show (if (1 : Int) < (if cl (x - s) p > 0 then cl (x - s) p else 0) then (1 : Int) else (if cl (x - s) p > 0 then cl (x - s) p else 0)) = _
    have h0 : 0 < cl (x - s) p ↔ 0 * p < x - s := cl_gt hp
    rw [Int.zero_mul] at h0
    split <;> split <;> split <;> omega
  rw [one p hp, one q hq]
theorem NB_app : ∀ (ts us : List Trn) (x : Int), NB (ts ++ us) x = NB ts x + NB us x
  | [], us, x => by show NB us x = 0 + NB us x; omega
  | t :: ts, us, x => by
    show nbT t x + NB (ts ++ us) x = nbT t x + NB ts x + NB us x
    rw [NB_app ts us x]
    omega
theorem addO_addO (a b : Int) (k : Option Int) : addO a (addO b k) = addO (a + b) k := by
  cases k with
  | none => rfl
  | some n => show some (a + (b + n)) = some (a + b + n); rw [Int.add_assoc]
theorem nbT_nn {t : Trn} (h : OkTr t) (x : Int) : 0 ≤ nbT t x := by
  obtain ⟨s, p, k⟩ := t
  show 0 ≤ minO (stepsUp (x - s) p) k
  rw [stepsUp_cl]
  cases k with
  | none => show 0 ≤ if cl (x - s) p > 0 then cl (x - s) p else 0; split <;> omega
  | some c =>
    have := h.2.2 c rfl
    show 0 ≤ if c < (if cl (x - s) p > 0 then cl (x - s) p else 0) then c else (if cl (x - s) p > 0 then cl (x - s) p else 0)
    split <;> (try split) <;> omega
theorem nbT_zero {t : Trn} (h : OkTr t) {x : Int} (hx : x ≤ t.1) : nbT t x = 0 := by
  obtain ⟨s, p, k⟩ := t
  have hp : 0 < p := by
    have h2 : 1 ≤ p := h.2.1
    omega
  have h1 : cl (x - s) p ≤ 0 := (cl_le hp).mpr (by
    have h2 : x ≤ s := hx
    omega)
  show minO (stepsUp (x - s) p) k = 0
  rw [stepsUp_cl, if_neg (by omega)]
  cases k with
  | none => rfl
  | some c =>
    have := h.2.2 c rfl
    show (if c < 0 then c else 0) = 0
    rw [if_neg (by omega)]
theorem nbT_all {t : Trn} (h : OkTr t) {x c : Int} (hc : t.2.2 = some c) (hx : t.1 + (c - 1) * t.2.1 < x) : nbT t x = c := by
  obtain ⟨s, p, k⟩ := t
  have hp : 0 < p := by
    have h2 : 1 ≤ p := h.2.1
    omega
  have h0 : k = some c := hc
  subst h0
  have h1 : c - 1 < cl (x - s) p := (cl_gt hp).mpr (by
    have h2 : s + (c - 1) * p < x := hx
    omega)
  have := h.2.2 c rfl
  show (if c < stepsUp (x - s) p then c else stepsUp (x - s) p) = c
  rw [stepsUp_cl]
  split <;> (try split at *) <;> omega
theorem NB_nn {ts : List Trn} (h : ∀ t ∈ ts, OkTr t) (x : Int) : 0 ≤ NB ts x := by
  induction ts with
  | nil => exact Int.le_refl _
  | cons t ts ih =>
    have h1 := nbT_nn (h t (List.mem_cons_self ..)) x
    have h2 := ih fun u hu => h u (List.mem_cons_of_mem _ hu)
    show 0 ≤ nbT t x + NB ts x
    omega
theorem NB_zero {ts : List Trn} (h : ∀ t ∈ ts, OkTr t) {x : Int} (hx : ∀ t ∈ ts, x ≤ t.1) : NB ts x = 0 := by
  induction ts with
  | nil => rfl
  | cons t ts ih =>
    show nbT t x + NB ts x = 0
    rw [nbT_zero (h t (List.mem_cons_self ..)) (hx t (List.mem_cons_self ..)), ih (fun u hu => h u (List.mem_cons_of_mem _ hu)) fun u hu => hx u (List.mem_cons_of_mem _ hu)]
    rfl
theorem Srt.tail {t : Trn} {ts : List Trn} (h : Srt (t :: ts)) : Srt ts := ⟨fun u hu => h.1 u (List.mem_cons_of_mem _ hu), (List.pairwise_cons.mp h.2).2⟩
theorem Srt.head {t : Trn} {ts : List Trn} (h : Srt (t :: ts)) : OkTr t := h.1 t (List.mem_cons_self ..)
theorem Srt.lt {t : Trn} {ts : List Trn} (h : Srt (t :: ts)) : ∀ u ∈ ts, Lt t u := (List.pairwise_cons.mp h.2).1
theorem lt_start {t u : Trn} (h : OkTr t) (l : Lt t u) : t.1 < u.1 := by
  obtain ⟨c, e, q⟩ := l
  have hc := h.2.2 c e
  have : 0 ≤ (c - 1) * t.2.1 := Int.mul_nonneg (by omega) (by have := h.2.1; omega)
  omega
/-! what is before x, and which time is the i-th -/
theorem nbT_le {t : Trn} {x c : Int} (e : t.2.2 = some c) : nbT t x ≤ c := by
  unfold nbT
  rw [e]
  show (if c < stepsUp (x - t.1) t.2.1 then c else stepsUp (x - t.1) t.2.1) ≤ c
  split <;> omega
/-- the times before x are those with an index below nbT -/
theorem nbT_lt {t : Trn} (h : OkTr t) {x i : Int} (i0 : 0 ≤ i) (hi : ∀ c, t.2.2 = some c → i < c) : i < nbT t x ↔ t.1 + i * t.2.1 < x := by
  obtain ⟨s, p, k⟩ := t
  have hp : 0 < p := by
    have h2 : 1 ≤ p := h.2.1
    omega
  have h1 : i < cl (x - s) p ↔ i * p < x - s := cl_gt hp
  have e : (s + i * p < x) ↔ i * p < x - s := by omega
  show i < minO (stepsUp (x - s) p) k ↔ s + i * p < x
  rw [stepsUp_cl, e, ← h1]
  cases k with
  | none =>
    show i < (if cl (x - s) p > 0 then cl (x - s) p else 0) ↔ _
    split <;> omega
  | some c =>
    have := hi c rfl
    show i < (if c < (if cl (x - s) p > 0 then cl (x - s) p else 0) then c else (if cl (x - s) p > 0 then cl (x - s) p else 0)) ↔ _
    split <;> (try split) <;> (try split at *) <;> omega
theorem At_lt : ∀ {ts : List Trn}, Srt ts → ∀ {i y : Int}, 0 ≤ i → At ts i = some y → ∀ x, i < NB ts x ↔ y < x
  | [], _, i, y, _, e, _ => by cases e
  | t :: ts, h, i, y, i0, e, x => by
    have ht := h.head
    have hs := h.tail
    have nn := NB_nn hs.1 x
    cases hk : t.2.2 with
    | none =>
      have e' : At (t :: ts) i = some (t.1 + i * t.2.1) := by
        show (match t.2.2 with | none => some (t.1 + i * t.2.1) | some c => if i < c then some (t.1 + i * t.2.1) else At ts (i - c)) = _
        rw [hk]
      rw [e'] at e
      have ey := Option.some.inj e
      subst ey
      have nt : ts = [] := by
        cases ts with
        | nil => rfl
        | cons u us =>
          obtain ⟨c, hc, _⟩ := h.lt u (List.mem_cons_self ..)
          rw [hk] at hc
          cases hc
      subst nt
      have := nbT_lt ht (x := x) i0 (fun c hc => by rw [hk] at hc; cases hc)
      show i < nbT t x + 0 ↔ _
      rw [Int.add_zero]
      exact this
    | some c =>
      have e' : At (t :: ts) i = if i < c then some (t.1 + i * t.2.1) else At ts (i - c) := by
        show (match t.2.2 with | none => some (t.1 + i * t.2.1) | some c => if i < c then some (t.1 + i * t.2.1) else At ts (i - c)) = _
        rw [hk]
      rw [e'] at e
      show i < nbT t x + NB ts x ↔ y < x
      by_cases hi : i < c
      · rw [if_pos hi] at e
        have ey := Option.some.inj e
        have h1 := nbT_lt ht (x := x) i0 (fun c' hc => by rw [hk] at hc; cases hc; exact hi)
        by_cases hl : t.1 + (c - 1) * t.2.1 < x
        · have h2 := nbT_all ht hk hl
          omega
        · have h3 : NB ts x = 0 := NB_zero hs.1 fun u hu => by
            obtain ⟨c', hc, q⟩ := h.lt u hu
            rw [hk] at hc
            cases hc
            omega
          omega
      · rw [if_neg hi] at e
        have ih := At_lt hs (i := i - c) (by omega) e x
        have h2 := nbT_le (x := x) hk
        by_cases hl : t.1 + (c - 1) * t.2.1 < x
        · have h3 := nbT_all ht hk hl
          omega
        · have h3 : NB ts x = 0 := NB_zero hs.1 fun u hu => by
            obtain ⟨c', hc, q⟩ := h.lt u hu
            rw [hk] at hc
            cases hc
            omega
          omega
theorem tot_nn : ∀ {ts : List Trn}, (∀ t ∈ ts, OkTr t) → ∀ n, Tot ts = some n → 0 ≤ n
  | [], _, n, e => by cases e; exact Int.le_refl _
  | t :: ts, h, n, e => by
    cases hk : t.2.2 with
    | none =>
      have e2 : Tot (t :: ts) = none := by
        show (match t.2.2 with | none => none | some c => addO c (Tot ts)) = _
        rw [hk]
      rw [e2] at e
      cases e
    | some c =>
      have e2 : Tot (t :: ts) = addO c (Tot ts) := by
        show (match t.2.2 with | none => none | some c => addO c (Tot ts)) = _
        rw [hk]
      rw [e2] at e
      cases ht : Tot ts with
      | none => rw [ht] at e; cases e
      | some m =>
        rw [ht] at e
        have z' : c + m = n := Option.some.inj e
        have := tot_nn (fun u hu => h u (List.mem_cons_of_mem _ hu)) m ht
        have := (h t (List.mem_cons_self ..)).2.2 c hk
        omega
theorem At_none : ∀ {ts : List Trn}, (∀ t ∈ ts, OkTr t) → ∀ {i : Int}, 0 ≤ i → (At ts i = none ↔ ∃ n, Tot ts = some n ∧ n ≤ i)
  | [], _, i, i0 => ⟨fun _ => ⟨0, rfl, i0⟩, fun _ => rfl⟩
  | t :: ts, h, i, i0 => by
    cases hk : t.2.2 with
    | none =>
      have e' : At (t :: ts) i = some (t.1 + i * t.2.1) := by
        show (match t.2.2 with | none => some (t.1 + i * t.2.1) | some c => if i < c then some (t.1 + i * t.2.1) else At ts (i - c)) = _
        rw [hk]
      have e2 : Tot (t :: ts) = none := by
        show (match t.2.2 with | none => none | some c => addO c (Tot ts)) = _
        rw [hk]
      rw [e', e2]
      exact ⟨fun z => (by cases z), fun ⟨n, z, _⟩ => (by cases z)⟩
    | some c =>
      have e' : At (t :: ts) i = if i < c then some (t.1 + i * t.2.1) else At ts (i - c) := by
        show (match t.2.2 with | none => some (t.1 + i * t.2.1) | some c => if i < c then some (t.1 + i * t.2.1) else At ts (i - c)) = _
        rw [hk]
      have e2 : Tot (t :: ts) = addO c (Tot ts) := by
        show (match t.2.2 with | none => none | some c => addO c (Tot ts)) = _
        rw [hk]
      have tn : ∀ n, Tot ts = some n → 0 ≤ n := tot_nn fun u hu => h u (List.mem_cons_of_mem _ hu)
      rw [e', e2]
      by_cases hi : i < c
      · rw [if_pos hi]
        refine ⟨fun z => (by cases z), fun ⟨n, z, hn⟩ => ?_⟩
        cases ht : Tot ts with
        | none => rw [ht] at z; cases z
        | some m =>
          rw [ht] at z
          have := tn m ht
          have z' : c + m = n := Option.some.inj z
          omega
      · rw [if_neg hi]
        have ih := At_none (ts := ts) (fun u hu => h u (List.mem_cons_of_mem _ hu)) (i := i - c) (by omega)
        rw [ih]
        constructor
        · rintro ⟨n, e, hn⟩
          exact ⟨c + n, by rw [e]; rfl, by omega⟩
        · rintro ⟨n, e, hn⟩
          cases ht : Tot ts with
          | none => rw [ht] at e; cases e
          | some m =>
            rw [ht] at e
            have z' : c + m = n := Option.some.inj e
            exact ⟨m, rfl, by omega⟩
theorem NB_tot : ∀ {ts : List Trn}, (∀ t ∈ ts, OkTr t) → ∀ {n : Int}, Tot ts = some n → ∀ x, NB ts x ≤ n
  | [], _, n, e, x => by cases e; exact Int.le_refl _
  | t :: ts, h, n, e, x => by
    cases hk : t.2.2 with
    | none =>
      have e2 : Tot (t :: ts) = none := by
        show (match t.2.2 with | none => none | some c => addO c (Tot ts)) = _
        rw [hk]
      rw [e2] at e
      cases e
    | some c =>
      have e2 : Tot (t :: ts) = addO c (Tot ts) := by
        show (match t.2.2 with | none => none | some c => addO c (Tot ts)) = _
        rw [hk]
      rw [e2] at e
      cases ht : Tot ts with
      | none => rw [ht] at e; cases e
      | some m =>
        rw [ht] at e
        have z' : c + m = n := Option.some.inj e
        have h1 := nbT_le (x := x) hk
        have h2 := NB_tot (fun u hu => h u (List.mem_cons_of_mem _ hu)) ht x
        show nbT t x + NB ts x ≤ n
        omega
theorem nbT_step {t : Trn} (h : OkTr t) (x : Int) : nbT t (x + 1) ≤ nbT t x + 1 := by
  obtain ⟨s, p, k⟩ := t
  have hp : 1 ≤ p := h.2.1
  have h1 : cl (x + 1 - s) p ≤ cl (x - s) p + 1 := by
    refine (cl_le (by omega)).mpr ?_
    have h2 : x - s ≤ cl (x - s) p * p := (cl_le (by omega)).mp (Int.le_refl _)
    rw [Int.add_mul, Int.one_mul]
    omega
  show minO (stepsUp (x + 1 - s) p) k ≤ minO (stepsUp (x - s) p) k + 1
  rw [stepsUp_cl, stepsUp_cl]
  cases k with
  | none =>
    show (if cl (x + 1 - s) p > 0 then cl (x + 1 - s) p else 0) ≤ (if cl (x - s) p > 0 then cl (x - s) p else 0) + 1
    split <;> split <;> omega
  | some c =>
    show (if c < (if cl (x + 1 - s) p > 0 then cl (x + 1 - s) p else 0) then c else (if cl (x + 1 - s) p > 0 then cl (x + 1 - s) p else 0)) ≤ (if c < (if cl (x - s) p > 0 then cl (x - s) p else 0) then c else (if cl (x - s) p > 0 then cl (x - s) p else 0)) + 1
    repeat' split
    all_goals omega
theorem NB_step : ∀ {ts : List Trn}, Srt ts → ∀ x, NB ts (x + 1) ≤ NB ts x + 1
  | [], _, x => by show (0 : Int) ≤ 0 + 1; omega
  | t :: ts, h, x => by
    have ht := h.head
    have hs := h.tail
    have st := nbT_step ht x
    show nbT t (x + 1) + NB ts (x + 1) ≤ nbT t x + NB ts x + 1
    cases hk : t.2.2 with
    | none =>
      have nt : ts = [] := by
        cases ts with
        | nil => rfl
        | cons u us =>
          obtain ⟨c, hc, _⟩ := h.lt u (List.mem_cons_self ..)
          rw [hk] at hc
          cases hc
      subst nt
      show nbT t (x + 1) + 0 ≤ nbT t x + 0 + 1
      omega
    | some c =>
      by_cases hl : t.1 + (c - 1) * t.2.1 < x
      · have h1 := nbT_all ht hk hl
        have h2 := nbT_all ht hk (show t.1 + (c - 1) * t.2.1 < x + 1 by omega)
        have h3 := NB_step hs x
        omega
      · have z : ∀ y, y ≤ x + 1 → NB ts y = 0 := fun y hy => NB_zero hs.1 fun u hu => by
          obtain ⟨c', hc, q⟩ := h.lt u hu
          rw [hk] at hc
          cases hc
          omega
        have h1 := z x (by omega)
        have h2 := z (x + 1) (Int.le_refl _)
        omega
/-- the i-th time is told by what is before x -/
theorem At_iff {ts : List Trn} (h : Srt ts) {i y : Int} (i0 : 0 ≤ i) : At ts i = some y ↔ NB ts y = i ∧ NB ts (y + 1) = i + 1 := by
  have one : ∀ {z}, At ts i = some z → NB ts z = i ∧ NB ts (z + 1) = i + 1 := fun {z} e => by
    have h1 := At_lt h i0 e z
    have h2 := At_lt h i0 e (z + 1)
    have h3 := NB_step h z
    omega
  refine ⟨one, fun ⟨e1, e2⟩ => ?_⟩
  cases q : At ts i with
  | none =>
    obtain ⟨n, e3, e4⟩ := (At_none h.1 i0).mp q
    have := NB_tot h.1 e3 (y + 1)
    omega
  | some w =>
    have h3 := At_lt h i0 q y
    have h4 := At_lt h i0 q (y + 1)
    congr 1
    omega
/-- trains with the same counts have the same times -/
theorem At_same {ts us : List Trn} (h : Srt ts) (h' : Srt us) (e : ∀ x, NB ts x = NB us x) {i : Int} (i0 : 0 ≤ i) : At ts i = At us i := by
  cases q : At ts i with
  | some y =>
    obtain ⟨e1, e2⟩ := (At_iff h i0).mp q
    exact ((At_iff h' i0).mpr ⟨by rw [← e]; exact e1, by rw [← e]; exact e2⟩).symm
  | none =>
    cases q2 : At us i with
    | none => rfl
    | some y =>
      obtain ⟨e1, e2⟩ := (At_iff h' i0).mp q2
      rw [(At_iff h i0).mpr ⟨by rw [e]; exact e1, by rw [e]; exact e2⟩] at q
      cases q
/-! ### rows in the heap -/
/-! ### breakers and rows -/
abbrev Tri := Int × Int × Int
def TriV (t : Tri) : List V := [.int t.1, .int t.2.1, .int t.2.2]
def BrAt (H : Hp) (x : V) (t : Tri) : Prop := ∃ a, x = .ref a ∧ H a = some (.tup (TriV t))
def OkT (t : Tri) : Prop := 1 ≤ t.1 ∧ t.1 ≤ 1000000000000 ∧ 1 ≤ t.2.1 ∧ t.2.1 ≤ 1000000000000000000000000000000 ∧ 1 ≤ t.2.2 ∧ t.2.2 ≤ 1000000000000
abbrev Brs (H : Hp) (xs : List V) (ts : List Tri) : Prop := Paired (BrAt H) xs ts
theorem BrAt.nl {H H' : Hp} (k : NL H H') {x : V} {t : Tri} (h : BrAt H x t) : BrAt H' x t := by
  obtain ⟨a, e, h⟩ := h
  exact ⟨a, e, k _ _ h fun _ z => nomatch z⟩
theorem Brs.nl {H H' : Hp} (k : NL H H') {xs : List V} {ts : List Tri} (h : Brs H xs ts) : Brs H' xs ts := L2.Paired.mapP h fun _ _ z => z.nl k
theorem Brs.len {H : Hp} : ∀ {xs : List V} {ts : List Tri}, Brs H xs ts → xs.length = ts.length
  | _, _, .nil => rfl
  | _, _, .cons _ t => congrArg Nat.succ (Brs.len t)
theorem Brs.get {H : Hp} : ∀ {xs : List V} {ts : List Tri} {i : Nat} {x : V}, Brs H xs ts → xs[i]? = some x → ∃ t, ts[i]? = some t ∧ BrAt H x t
  | _, _, _, _, .nil, e => by simp at e
  | _, _, 0, _, .cons r _, e => by simp at e; subst e; exact ⟨_, rfl, r⟩
  | _, _, i + 1, x, .cons _ t, e => by
    obtain ⟨u, h1, h2⟩ := Brs.get (i := i) (x := x) t (by simpa using e)
    exact ⟨u, by simpa using h1, h2⟩
theorem Brs.app {H : Hp} : ∀ {xs ys : List V} {ts us : List Tri}, Brs H xs ts → Brs H ys us → Brs H (xs ++ ys) (ts ++ us)
  | _, _, _, _, .nil, s => s
  | _, _, _, _, .cons r t, s => .cons r (Brs.app t s)
theorem Brs.rev {H : Hp} : ∀ {xs : List V} {ts : List Tri}, Brs H xs ts → Brs H xs.reverse ts.reverse
  | _, _, .nil => .nil
  | _, _, .cons r t => by
    rw [List.reverse_cons, List.reverse_cons]
    exact Brs.app (Brs.rev t) (.cons r .nil)
theorem Brs.take {H : Hp} : ∀ {xs : List V} {ts : List Tri} (n : Nat), Brs H xs ts → Brs H (xs.take n) (ts.take n)
  | _, _, 0, _ => .nil
  | _, _, _ + 1, .nil => .nil
  | _, _, n + 1, .cons r t => .cons r (Brs.take n t)
theorem Brs.drop {H : Hp} : ∀ {xs : List V} {ts : List Tri} (n : Nat), Brs H xs ts → Brs H (xs.drop n) (ts.drop n)
  | _, _, 0, r => r
  | _, _, _ + 1, .nil => .nil
  | _, _, n + 1, .cons _ t => Brs.drop n t
/-! the attributes of a row, as __init__ stores them -/
theorem k1 : ¬ (("breakers" : Str) = "step") := by decide +kernel
theorem k2 : ¬ (("breakers" : Str) = "phase") := by decide +kernel
theorem k3 : ¬ (("step" : Str) = "phase") := by decide +kernel
def rowF (T : Addr) (st ph : Int) : List (Str × V) := putF "phase" (.int ph) (putF "step" (.int st) (putF "breakers" (.ref T) []))
theorem rowF_b (T : Addr) (st ph : Int) : (rowF T st ph).lookup ("breakers" : Str) = some (.ref T) := by
  unfold rowF
  rw [lookup_putF, if_neg k2, lookup_putF, if_neg k1, lookup_putF, if_pos rfl]
theorem rowF_s (T : Addr) (st ph : Int) : (rowF T st ph).lookup ("step" : Str) = some (.int st) := by
  unfold rowF
  rw [lookup_putF, if_neg k3, lookup_putF, if_pos rfl]
theorem rowF_p (T : Addr) (st ph : Int) : (rowF T st ph).lookup ("phase" : Str) = some (.int ph) := by
  unfold rowF
  rw [lookup_putF, if_pos rfl]
theorem rowF_no (T : Addr) (st ph : Int) {m : Str} (h1 : ¬ m = "phase") (h2 : ¬ m = "step") (h3 : ¬ m = "breakers") : (rowF T st ph).lookup m = none := by
  unfold rowF
  rw [lookup_putF, if_neg h1, lookup_putF, if_neg h2, lookup_putF, if_neg h3]
  all_goals rfl
/-- a Row stands at p -/
structure RowAt (C : Addr) (H : Hp) (p T : Addr) (xs : List V) (ts : List Tri) (st ph : Int) : Prop where
  ob : ∃ dx, H p = some (.ins C dx (rowF T st ph))
  tp : H T = some (.tup xs)
  br : Brs H xs ts
  ok : ∀ t ∈ ts, OkT t
  ln : ts.length ≤ 12
  s0 : 1 ≤ st
  s1 : st ≤ 1000000000000000000000000000000
  p0 : 0 ≤ ph
  p1 : ph ≤ 1000000000000000000000000000000
theorem RowAt.nl {C : Addr} {H H' : Hp} {p T : Addr} {xs : List V} {ts : List Tri} {st ph : Int} (R : RowAt C H p T xs ts st ph) (k : NL H H') : RowAt C H' p T xs ts st ph := by
  obtain ⟨dx, h⟩ := R.ob
  exact ⟨⟨dx, k _ _ h fun _ z => nomatch z⟩, k _ _ R.tp fun _ z => (nomatch z), R.br.nl k, R.ok, R.ln, R.s0, R.s1, R.p0, R.p1⟩
/-! ### promises -/
def spIsBr : Sp := fun vs H Q _ => ∃ x t, vs = [x] ∧ BrAt H x t ∧ OkT t ∧ Q (.bl true) H
def spRChk : Sp := fun vs H Q _ => ∃ a xs ts pt, vs = [.ref a, .str pt] ∧ H a = some (.lst xs) ∧ Brs H xs ts ∧ (∀ t ∈ ts, OkT t) ∧ ts.length ≤ 12 ∧ ∀ H', Same H H' → Q .non H'
def spRStep : Sp := fun vs H Q _ => ∃ st : Int, vs = [.int st] ∧ 1 ≤ st ∧ st ≤ 1000000000000000000000000000000 ∧ Q .non H
def spRInit (C : Addr) : Sp := fun vs H Q _ => ∃ p a st ph xs ts dx, vs = [.ref p, .ref a, .int st, .int ph] ∧ H p = some (.ins C dx []) ∧ H a = some (.lst xs) ∧ Brs H xs ts ∧ (∀ t ∈ ts, OkT t) ∧ ts.length ≤ 12 ∧
  (1 ≤ st ∧ st ≤ 1000000000000000000000000000000 ∧ 0 ≤ ph ∧ ph ≤ 1000000000000000000000000000000) ∧ ∀ T H', RowAt C H' p T xs ts st ph → Kp p H H' → Q .non H'
def spRBl (C : Addr) : Sp := fun vs H Q _ => ∃ p T xs ts st ph, vs = [.ref p] ∧ RowAt C H p T xs ts st ph ∧ ∀ l H', H l = none → H' = upd H l (.lst xs) → Q (.ref l) H'
def spRSt (C : Addr) : Sp := fun vs H Q _ => ∃ p T xs ts st ph, vs = [.ref p] ∧ RowAt C H p T xs ts st ph ∧ Q (.int st) H
def spRPh (C : Addr) : Sp := fun vs H Q _ => ∃ p T xs ts st ph, vs = [.ref p] ∧ RowAt C H p T xs ts st ph ∧ Q (.int ph) H
def spRLen (C : Addr) : Sp := fun vs H Q _ => ∃ p T xs ts st ph, vs = [.ref p] ∧ RowAt C H p T xs ts st ph ∧ Q (.int xs.length) H
def spRGet (C : Addr) : Sp := fun vs H Q _ => ∃ p T xs ts st ph i x, vs = [.ref p, .int i] ∧ RowAt C H p T xs ts st ph ∧ 0 ≤ i ∧ atI xs i = some x ∧ i < xs.length ∧ Q x H
def spRCon (C : Addr) : Sp := fun vs H Q _ => ∃ p T xs ts st ph x n, vs = [.ref p, x] ∧ RowAt C H p T xs ts st ph ∧ Kd H x n ∧ Q (.bl (isI x && (decide (ph ≤ toI x) && decide ((toI x - ph) % st = 0)))) H
def spRRt (C : Addr) : Sp := fun vs H Q _ => ∃ p T xs ts st ph i, vs = [.ref p, .int i] ∧ RowAt C H p T xs ts st ph ∧ 0 ≤ i ∧ i ≤ BB ∧ Q (.int (ph + i * st)) H
def spRFr (C : Addr) : Sp := fun vs H Q _ => ∃ p T xs ts st ph i, vs = [.ref p, .int i] ∧ RowAt C H p T xs ts st ph ∧ 0 ≤ i ∧ Q (.int (stepsUp (i - ph) st)) H
theorem row_made {C : Addr} {H : Hp} {Q : Addr → Hp → Prop} {a : Addr} {st ph : Int} {xs : List V} {ts : List Tri} (ha : H a = some (.lst xs)) (hb : Brs H xs ts) (ho : ∀ t ∈ ts, OkT t) (hl : ts.length ≤ 12)
    (bd : 1 ≤ st ∧ st ≤ 1000000000000000000000000000000 ∧ 0 ≤ ph ∧ ph ≤ 1000000000000000000000000000000) (k : ∀ p T H', RowAt C H' p T xs ts st ph → Same H H' → H p = none → Q p H') :
    ∀ x dx, H x = none → H dx = none → dx ≠ x → spRInit C [.ref x, .ref a, .int st, .int ph] (upd (upd H dx (.own x)) x (.ins C dx [])) (fun v H3 => v = .non ∧ Q x H3) E0 := by
  intro x dx hx hd hne
  have s0 : Same H (upd (upd H dx (.own x)) x (.ins C dx [])) := fun b o e => by
    rw [upd_ne (ne_of_none e hx), upd_ne (ne_of_none e hd)]
    exact e
  refine ⟨x, a, st, ph, xs, ts, dx, rfl, upd_same, s0 _ _ ha, hb.nl (NL.of s0), ho, hl, bd, fun T H' R kp => ⟨rfl, k x T H' R (fun b o e => kp b o (ne_of_none e hx) (s0 b o e)) hx⟩⟩
abbrev RDat := List Tri × Int × Int
/-- what == is asked of -/
inductive EqOf (C : Addr) (H : Hp) (d : RDat) : V → Bool → Prop where
  | row {q U : Addr} {ys : List V} {us : List Tri} {st ph : Int} (R : RowAt C H q U ys us st ph) : EqOf C H d (.ref q) (decide (d = (us, st, ph)))
  | non : EqOf C H d .non false
  | lst {a : Addr} {xs : List V} (e : H a = some (.lst xs)) : EqOf C H d (.ref a) false
  | tup {a : Addr} {xs : List V} (e : H a = some (.tup xs)) : EqOf C H d (.ref a) false
theorem EqOf.nl {C : Addr} {H H' : Hp} {d : RDat} {v : V} {b : Bool} (h : EqOf C H d v b) (k : Same H H') : EqOf C H' d v b := by
  cases h with
  | row R => exact .row (R.nl (NL.of k))
  | non => exact .non
  | lst e => exact .lst (k _ _ e)
  | tup e => exact .tup (k _ _ e)
/-- breakers as data -/
def triD (t : Tri) : PyData := .tuple [.int t.1, .int t.2.1, .int t.2.2]
theorem Brs.dp {K : PySem.W.Frag} {H : Hp} : ∀ {xs : List V} {ts : List Tri}, Brs H xs ts → DpAll K H xs (ts.map triD)
  | _, _, .nil => .nil
  | _, _, .cons ⟨a, e, h⟩ t => by
    subst e
    exact .cons (.tup (SqT.of h) (.cons (.int _) (.cons (.int _) (.cons (.int _) .nil)))) (Brs.dp t)
theorem triD_eq (t u : Tri) : PyData.eqv (triD t) (triD u) = decide (t = u) := by
  obtain ⟨a, b, c⟩ := t
  obtain ⟨a', b', c'⟩ := u
  simp only [triD, PyData.eqv, PyData.eqvAll, Bool.and_true]
  rw [Bool.eq_iff_iff]
  simp [Prod.ext_iff]
theorem triDs_eq : ∀ ts us : List Tri, PyData.eqvAll (ts.map triD) (us.map triD) = decide (ts = us)
  | [], [] => by simp [PyData.eqvAll]
  | [], _ :: _ => by simp [PyData.eqvAll]
  | _ :: _, [] => by simp [PyData.eqvAll]
  | t :: ts, u :: us => by
    rw [List.map_cons, List.map_cons, PyData.eqvAll, triD_eq, triDs_eq ts us, Bool.eq_iff_iff]
    simp
theorem canAll : ∀ ts : List Tri, PyData.canLayAll0 (ts.map triD) = true
  | [] => by simp [PyData.canLayAll0]
  | t :: ts => by
    rw [List.map_cons, PyData.canLayAll0, canAll ts]
    simp [triD, PyData.canLay0, PyData.canLayAll0]
theorem depAll : ∀ ts : List Tri, PyData.depthAll (ts.map triD) ≤ 10
  | [] => by simp [PyData.depthAll]
  | t :: ts => by
    have := depAll ts
    rw [List.map_cons, PyData.depthAll]
    have h2 : (triD t).depth ≤ 10 := by simp [triD, PyData.depth, PyData.depthAll]
    omega
theorem shT (ts : List Tri) : SeqAt.shaped (.tuple (ts.map triD)) = true := by
  refine Bool.and_eq_true_iff.mpr ⟨?_, decide_eq_true ?_⟩
  · rw [PyData.canLay0]
    exact canAll ts
  · have := depAll ts
    rw [PyData.depth]
    omega

theorem wide200 {i j : Int} (h1 : i.natAbs < 2 ^ 200) (h2 : j.natAbs < 2 ^ 200) : CMulW i j := wide_mul h1 h2 (by decide) (by decide) (by decide)
theorem lt200 {i : Int} (h0 : 0 ≤ i) (h : i ≤ 1000000000000000000000000000000) : i.natAbs < 2 ^ 200 := Nat.lt_of_le_of_lt (show i.natAbs ≤ 1000000000000000000000000000000 by omega) (by decide)
theorem log200 {i : Int} (h0 : 1 ≤ i) (h : i ≤ 1000000000000000000000000000000) : i.natAbs.log2 < 9000 := (wide_div (by omega : 0 < i) (lt200 (by omega) h) (by decide) (by decide) (i := 0)).2
theorem st_bb {s : Int} (h : s ≤ 1000000000000000000000000000000) : s ≤ BB := Int.le_trans h (Int.le_trans (PB_of (n := 100) (by decide +kernel)) (PB_le (by decide)))
theorem k6_pos {P : Prop} {q : Prop} [Decidable P] [Decidable q] (h : P) (h' : q) : (decide P && decide q) = true := by rw [decide_eq_true h, decide_eq_true h']; rfl
section
variable {P : Program} {w : World} {K : PySem.W.Frag} {mg : Str → Option Value} {base : Heap} {L : LA}
abbrev N_isbreaker : List Str := ["value", "failures", "wait", "successes"]
theorem sc_isbreaker : FnScope N_isbreaker ["value"] (defScope st_is_breaker) := ⟨rfl, rfl, rfl, by decide +kernel, rfl, by decide +kernel, by decide +kernel⟩
theorem fn_isbreaker (T : LX K mg L) {fd : FuncData} (F : Fun K "is_breaker" "is_breaker" st_is_breaker L.f_is_breaker fd) : FnOk P w K mg base CX0 3 L.f_is_breaker fd ["value"] (spIsBr) := by
  have G_iswithin := ok_iswithin (P := P) (w := w) (base := base) T
  obtain ⟨tk_MOST_COUNT, c_MOST_COUNT⟩ := T.n_MOST_COUNT
  obtain ⟨tk_MOST_TIME, c_MOST_TIME⟩ := T.n_MOST_TIME
  have nd := sc_isbreaker.nd
  refine F.ok sc_isbreaker (fun vs H Q E h => ?_) (fun cdv A outer S H vs Q E hr h => ?_)
  · obtain ⟨x, t, rfl, _⟩ := h
    rfl
  · obtain ⟨x, t, rfl, ⟨a, rfl, ha⟩, ⟨h1, h2, h3, h4, h5, h6⟩, k⟩ := h
    refine ⟨_, (pss_cons (ps_if (PW.pt (pw_or (pt_not (pt_val (pe_callB call_isi (by rfl) T.b_isinstance (by decide +kernel) (pa_cons (pv 0) (pa_cons (pe_bltn (by rfl) T.b_tuple (by decide +kernel : bootBuiltins "tuple" = some (.type "tuple")) (v := .ty "tuple") rfl) pa_nil))))) (pw_or1 (pt_cmpR op_ne (pe_callB call_len_seq (by rfl) T.b_len PySem.boot_len (pa_cons (pv 0) pa_nil)) pe_int (nomark _))))) (pss_one (ps_ret pe_bl)) pss_nil)
       (pss_cons (ps_asg (pv 0) (pg_tup rfl (pgs_cons (pg_name (i := 1) nd rfl (Or.inl rfl)) (pgs_cons (pg_name (i := 2) nd rfl (Or.inl rfl)) (pgs_cons (pg_name (i := 3) nd rfl (Or.inl rfl)) pgs_nil)))))
       (pss_one (ps_ret (pe_and (pe_c G_iswithin (hr.mono (by decide)) rfl (pa_cons (pv 1) (pa_cons pe_int (pa_cons (pe_gI c_MOST_COUNT) pa_nil)))) (pe_and (pe_c G_iswithin (hr.mono (by decide)) rfl (pa_cons (pv 2) (pa_cons pe_int (pa_cons (pe_gI c_MOST_TIME) pa_nil)))) (pe_one (pe_c G_iswithin (hr.mono (by decide)) rfl (pa_cons (pv 3) (pa_cons pe_int (pa_cons (pe_gI c_MOST_COUNT) pa_nil))))))))))), ?_⟩
    refine ⟨_, rfl, _, .ty "tuple", _, _, _, rfl, .ty "tuple", (Kd.tup ha).ty, (Kd.tup ha).kit "tuple" _ (.inr ⟨by decide, by decide, rfl⟩), _, rfl, iteF ?_⟩
    refine ⟨_, rfl, a, _, rfl, .inr (SqT.of ha), rfl, _, rfl, iteF ?_⟩
    refine ⟨_, rfl, a, _, rfl, SqT.of ha, rfl, _, _, rfl, _, _, rfl, _, _, rfl, rfl, ?_⟩
    refine ⟨_, rfl, _, _, _, _, rfl, .int _, _, rfl, ?_⟩
    have e1 : (decide ((1 : Int) ≤ t.1) && decide (t.1 ≤ 1000000000000)) = true := k6_pos h1 h2
    have e2 : (decide ((1 : Int) ≤ t.2.1) && decide (t.2.1 ≤ 1000000000000000000000000000000)) = true := k6_pos h3 h4
    have e3 : (decide ((1 : Int) ≤ t.2.2) && decide (t.2.2 ≤ 1000000000000)) = true := k6_pos h5 h6
    show if (decide ((1 : Int) ≤ t.1) && decide (t.1 ≤ 1000000000000)) = true then _ else _
    rw [e1]
    refine iteT ?_
    refine ⟨_, rfl, _, _, _, _, rfl, .int _, _, rfl, ?_⟩
    show if (decide ((1 : Int) ≤ t.2.1) && decide (t.2.1 ≤ 1000000000000000000000000000000)) = true then _ else _
    rw [e2]
    refine iteT ?_
    refine ⟨_, rfl, _, _, _, _, rfl, .int _, ?_⟩
    show Q (.bl (decide ((1 : Int) ≤ t.2.2) && decide (t.2.2 ≤ 1000000000000))) H
    rw [e3]
    exact k
theorem ok_isbreaker (T : LX K mg L) : Cal P w K mg base "is_breaker" 3 L.f_is_breaker ["value"] (spIsBr) := T.d_is_breaker.cal fun fd F => fn_isbreaker T F
end
/-! ### states of breakers, and data of them -/
abbrev StD := Str × Int
def StAt (H : Hp) (x : V) (s : StD) : Prop := ∃ a, x = .ref a ∧ H a = some (.tup [.str s.1, .int s.2])
abbrev Sts (H : Hp) (xs : List V) (ss : List StD) : Prop := Paired (StAt H) xs ss
theorem StAt.nl {H H' : Hp} (k : NL H H') {x : V} {d : StD} (h : StAt H x d) : StAt H' x d := by
  obtain ⟨a, e, h⟩ := h
  exact ⟨a, e, k _ _ h fun _ z => nomatch z⟩
theorem Sts.nl {H H' : Hp} (k : NL H H') {xs : List V} {ss : List StD} (h : Sts H xs ss) : Sts H' xs ss := L2.Paired.mapP h fun _ _ z => z.nl k
theorem paired_len {α β : Type} {F : α → β → Prop} : ∀ {xs : List α} {ys : List β}, Paired F xs ys → xs.length = ys.length
  | _, _, .nil => rfl
  | _, _, .cons _ p => by rw [List.length_cons, List.length_cons, paired_len p]
theorem paired_get {α β : Type} {F : α → β → Prop} : ∀ {xs : List α} {ys : List β} {i : Nat} {x : α}, Paired F xs ys → xs[i]? = some x → ∃ y, ys[i]? = some y ∧ F x y
  | _, _, i, x, .nil, e => by cases e
  | _, _, 0, x, .cons h _, e => by cases e; exact ⟨_, rfl, h⟩
  | _, _, i + 1, x, .cons _ p, e => paired_get (i := i) p e
theorem paired_get2 {α β : Type} {F : α → β → Prop} : ∀ {xs : List α} {ys : List β} {i : Nat} {y : β}, Paired F xs ys → ys[i]? = some y → ∃ x, xs[i]? = some x ∧ F x y
  | _, _, i, x, .nil, e => by cases e
  | _, _, 0, x, .cons h _, e => by cases e; exact ⟨_, rfl, h⟩
  | _, _, i + 1, x, .cons _ p, e => paired_get2 (i := i) p e
theorem paired_app {α β : Type} {F : α → β → Prop} : ∀ {xs us : List α} {ys vs : List β}, Paired F xs ys → Paired F us vs → Paired F (xs ++ us) (ys ++ vs)
  | _, _, _, _, .nil, q => q
  | _, _, _, _, .cons h p, q => .cons h (paired_app p q)
theorem StAt.same {H H' : Hp} (s : Same H H') {x : V} {d : StD} (h : StAt H x d) : StAt H' x d := by
  obtain ⟨a, e, h⟩ := h
  exact ⟨a, e, s _ _ h⟩
theorem Sts.same {H H' : Hp} (s : Same H H') {xs : List V} {ss : List StD} (h : Sts H xs ss) : Sts H' xs ss := L2.Paired.mapP h fun _ _ z => z.same s
/-- the breaker passes a request at t -/
def psB (b : Tri) (s : StD) (t : Int) : Prop := s.1 = "open" → b.2.1 ≤ t - s.2
def hfS (s : StD) : StD := if s.1 = "open" then ("half", 0) else s
def okS (b : Tri) (s : StD) : StD := if (hfS s).1 = "half" ∧ (hfS s).2 + 1 < b.2.2 then ("half", (hfS s).2 + 1) else ("closed", 0)
def badS (b : Tri) (s : StD) (t : Int) : StD := if (hfS s).1 = "closed" ∧ (hfS s).2 + 1 < b.1 then ("closed", (hfS s).2 + 1) else ("open", t)
theorem sC_O : ¬ (("closed" : Str) = "open") := by decide +kernel
theorem sH_O : ¬ (("half" : Str) = "open") := by decide +kernel
theorem sO_C : ¬ (("open" : Str) = "closed") := by decide +kernel
theorem sH_C : ¬ (("half" : Str) = "closed") := by decide +kernel
theorem sC_H : ¬ (("closed" : Str) = "half") := by decide +kernel
theorem sO_H : ¬ (("open" : Str) = "half") := by decide +kernel
theorem hf_closed (n : Int) : hfS (("closed" : Str), n) = (("closed" : Str), n) := if_neg sC_O
theorem hf_half (n : Int) : hfS (("half" : Str), n) = (("half" : Str), n) := if_neg sH_O
theorem hf_open (n : Int) : hfS (("open" : Str), n) = (("half" : Str), 0) := if_pos rfl
/-- what is told of a request that k of n breakers pass -/
def outV (n k : Nat) (inS : Bool) : List V := if k < n then [.str "rejected", .int k] else if inS then [.str "failed"] else [.str "served"]
def okW (s : StD) : Prop := s.1 = "closed" ∨ s.1 = "open" ∨ s.1 = "half"
def stD (s : StD) : PyData := .tuple [.str s.1, .int s.2]
theorem Sts.dp {K : PySem.W.Frag} {H : Hp} : ∀ {xs : List V} {ss : List StD}, Sts H xs ss → DpAll K H xs (ss.map stD)
  | _, _, .nil => .nil
  | _, _, .cons ⟨a, e, h⟩ t => by
    subst e
    exact .cons (.tup (SqT.of h) (.cons (.str _) (.cons (.int _) .nil))) (Sts.dp t)
theorem stD_eq (s u : StD) : PyData.eqv (stD s) (stD u) = decide (s = u) := by
  obtain ⟨a, b⟩ := s
  obtain ⟨a', b'⟩ := u
  simp only [stD, PyData.eqv, PyData.eqvAll, Bool.and_true]
  rw [Bool.eq_iff_iff]
  simp [Prod.ext_iff]
theorem stDs_eq : ∀ ss us : List StD, PyData.eqvAll (ss.map stD) (us.map stD) = decide (ss = us)
  | [], [] => by simp [PyData.eqvAll]
  | [], _ :: _ => by simp [PyData.eqvAll]
  | _ :: _, [] => by simp [PyData.eqvAll]
  | t :: ts, u :: us => by
    rw [List.map_cons, List.map_cons, PyData.eqvAll, stD_eq, stDs_eq ts us, Bool.eq_iff_iff]
    simp
theorem sok_W {s : StD} (h : okW s) : PyData.strOk s.1 = true := by
  obtain ⟨a, b⟩ := s
  rcases h with h | h | h
  · have h : a = "closed" := h
    subst h
    show PyData.strOk "closed" = true
    decide +kernel
  · have h : a = "open" := h
    subst h
    show PyData.strOk "open" = true
    decide +kernel
  · have h : a = "half" := h
    subst h
    show PyData.strOk "half" = true
    decide +kernel
theorem canSts : ∀ {ss : List StD}, (∀ s ∈ ss, okW s) → PyData.canLayAll0 (ss.map stD) = true
  | [], _ => by simp [PyData.canLayAll0]
  | t :: ts, h => by
    rw [List.map_cons, PyData.canLayAll0, canSts fun s hs => h s (List.mem_cons_of_mem _ hs)]
    simp [stD, PyData.canLay0, PyData.canLayAll0, sok_W (h t (List.mem_cons_self ..))]
theorem depSts : ∀ ss : List StD, PyData.depthAll (ss.map stD) ≤ 10
  | [] => by simp [PyData.depthAll]
  | t :: ts => by
    have := depSts ts
    rw [List.map_cons, PyData.depthAll]
    have h2 : (stD t).depth ≤ 10 := by simp [stD, PyData.depth, PyData.depthAll]
    omega
theorem shSts {ss : List StD} (h : ∀ s ∈ ss, okW s) : SeqAt.shaped (.list (ss.map stD)) = true := by
  refine Bool.and_eq_true_iff.mpr ⟨?_, decide_eq_true ?_⟩
  · rw [PyData.canLay0]
    exact canSts h
  · have := depSts ss
    rw [PyData.depth]
    omega
theorem Sts.dpl {K : PySem.W.Frag} {H : Hp} {l : Addr} {ys : List V} {ss : List StD} (h : H l = some (.lst ys)) (s : Sts H ys ss) : Dp K H (.ref l) (.list (ss.map stD)) := .lst (SqL.of h) s.dp
theorem eqSts (ss us : List StD) : PyData.eqv (.list (ss.map stD)) (.list (us.map stD)) = decide (ss = us) := by
  rw [PyData.eqv]
  exact stDs_eq ss us
/-! ### lists of ints as data; what the law asks of told times -/
def intsD (ns : List Int) : PyData := .list (ns.map PyData.int)
theorem ints_dp {K : PySem.W.Frag} {H : Hp} : ∀ ns : List Int, DpAll K H (ns.map V.int) (ns.map PyData.int)
  | [] => .nil
  | n :: ns => .cons (.int n) (ints_dp ns)
theorem canInts : ∀ ns : List Int, PyData.canLayAll0 (ns.map PyData.int) = true
  | [] => by simp [PyData.canLayAll0]
  | n :: ns => by rw [List.map_cons, PyData.canLayAll0, canInts ns]; simp [PyData.canLay0]
theorem depInts : ∀ ns : List Int, PyData.depthAll (ns.map PyData.int) ≤ 10
  | [] => by simp [PyData.depthAll]
  | n :: ns => by
    have := depInts ns
    rw [List.map_cons, PyData.depthAll]
    have h2 : (PyData.int n).depth ≤ 10 := by simp [PyData.depth]
    omega
theorem shInts (ns : List Int) : SeqAt.shaped (intsD ns) = true := by
  refine Bool.and_eq_true_iff.mpr ⟨?_, decide_eq_true ?_⟩
  · unfold intsD
    rw [PyData.canLay0]
    exact canInts ns
  · have := depInts ns
    unfold intsD
    rw [PyData.depth]
    omega
theorem eqInts1 : ∀ ns ms : List Int, PyData.eqvAll (ns.map PyData.int) (ms.map PyData.int) = decide (ns = ms)
  | [], [] => by simp [PyData.eqvAll]
  | [], _ :: _ => by simp [PyData.eqvAll]
  | _ :: _, [] => by simp [PyData.eqvAll]
  | n :: ns, m :: ms => by
    rw [List.map_cons, List.map_cons, PyData.eqvAll, eqInts1 ns ms, Bool.eq_iff_iff]
    simp [PyData.eqv]
theorem eqInts (ns ms : List Int) : PyData.eqv (intsD ns) (intsD ms) = decide (ns = ms) := by
  unfold intsD
  rw [PyData.eqv]
  exact eqInts1 ns ms
theorem Dp.ints {K : PySem.W.Frag} {H : Hp} {a : Addr} {ns : List Int} (h : H a = some (.lst (ns.map V.int))) : Dp K H (.ref a) (intsD ns) := .lst (SqL.of h) (ints_dp ns)
/-! ### rules inside comprehensions -/
theorem call_lenK {X : Cx} {K : PySem.W.Frag} (h : X.K = K) : CallR X (.builtin "len") (fun xs H Q => ∃ p ys, xs = [.ref p] ∧ (SqL K H p ys ∨ SqT K H p ys) ∧ Q (.int ys.length) H) := h ▸ call_len_seq
theorem call_listK {X : Cx} {K : PySem.W.Frag} (h : X.K = K) : CallR X (.type "list") (fun xs H Q => ∃ p ys, xs = [.ref p] ∧ (SqL K H p ys ∨ SqT K H p ys) ∧ ∀ l, H l = none → Q (.ref l) (upd H l (.lst ys))) := h ▸ call_list_of
theorem op_neDK {X : Cx} {K : PySem.W.Frag} (h : X.K = K) (hu : X.A.units + 64 < cLine) : OpR X (compareOp .NotEq) (rNeD K) := h ▸ op_neD hu
theorem op_eqDK {X : Cx} {K : PySem.W.Frag} (h : X.K = K) (hu : X.A.units + 64 < cLine) : OpR X (compareOp .Eq) (rEqD K) := h ▸ op_eqD hu
theorem op_inK {X : Cx} {K : PySem.W.Frag} (h : X.K = K) : OpR X (compareOp CmpOp.In) (rIn K false) := h ▸ op_in_seq
theorem op_notInK {X : Cx} {K : PySem.W.Frag} (h : X.K = K) : OpR X (compareOp CmpOp.NotIn) (rIn K true) := h ▸ op_notIn_seq
/-! ### list.count of strings -/
def eqs (k : Str) (v : Value) : Bool := match v with
  | .str n _ => n == k
  | _ => false
def rCntS (K : PySem.W.Frag) : V → List V → Hp → VK → Prop := fun x xs H Q => ∃ (p : Addr) (ss : List Str) (k : Str), x = .ref p ∧ xs = [.str k] ∧ SqL K H p (ss.map V.str) ∧ Q (.int (ss.countP (fun y => decide (y = k)) : Nat)) H
theorem eqs_at {k : Str} {t : Tok} {A : Around} {s : Shared} : ∀ {ss : List Str} {us : List Value}, Vals (ss.map V.str) us → ∀ y ∈ us, SeqAt.EqAt A s y (.str k t) (eqs k y)
  | [], us, r => by
    rw [List.map_nil] at r
    cases r
    exact fun y hy => nomatch hy
  | n :: ss, us, r => by
    rw [List.map_cons] at r
    cases r with
    | cons r1 r2 =>
      obtain ⟨t', rfl⟩ := r1
      intro y hy
      rcases List.mem_cons.mp hy with q | q
      · rw [q]
        exact SeqAt.EqAt.str_str n t' k t
      · exact eqs_at r2 y q
theorem eqs_count {k : Str} : ∀ {ss : List Str} {us : List Value}, Vals (ss.map V.str) us → us.countP (eqs k) = ss.countP fun y => decide (y = k)
  | [], us, r => by
    rw [List.map_nil] at r
    cases r
    rfl
  | n :: ss, us, r => by
    rw [List.map_cons] at r
    cases r with
    | cons r1 r2 =>
      obtain ⟨t', rfl⟩ := r1
      have ih := eqs_count (k := k) r2
      rw [List.countP_cons, List.countP_cons, ih]
      rfl
theorem mt_scount {X : Cx} : MtR X "list.count" (rCntS X.K) := by
  intro pins s σ H x xs v us Q I rx rxs h
  obtain ⟨p, ns, k, rfl, rfl, hs, q⟩ := h
  cases rx
  obtain ⟨u, rfl, ru⟩ := rxs.one
  obtain ⟨t, rfl⟩ := ru
  obtain ⟨its, rv, ⟨⟨cls, dd, data, sl⟩, n, ho, hc, hdn, hd⟩, hlen⟩ := I.list hs
  simp only at hc hd
  subst hc hd
  refine call_meets PySem.F.slot_list_count ⟨_, ho, rfl⟩ PySem.F.entry_list_count (PySem.F.args_list_count_2 _ _)
    (SeqAt.list_countAt p its.toArray n dd sl (.str k t) (eqs k)) ⟨ho, fun y hy => eqs_at rv y (by simpa using hy), ?_⟩
  have ec : its.toArray.toList.countP (eqs k) = ns.countP fun y => decide (y = k) := eqs_count rv
  refine ⟨.int (ns.countP (fun y => decide (y = k)) : Nat), H, I.tok _, ⟨s.toks, ?_⟩, q⟩
  show Value.int ((its.toArray.toList.countP (eqs k) : Nat) : Int) s.toks = Value.int ((ns.countP (fun y => decide (y = k)) : Nat) : Int) s.toks
  rw [ec]
/-- a comprehension over enumerate -/
theorem lc_enum {K : PySem.W.Frag} {a : Addr} {xs : List V} {g : TG} {tt : TT} {te : TE} {vs : List Nat} {σ : L2.St} {H1 : Hp} {D : Addr} {Qd : Hp → Prop} (Pv : Nat → Hp → Prop) (h0 : Pv 0 (upd H1 D (.lst []))) (hl : ∀ i H, Pv i H → SqL K H a xs)
    (hs : ∀ (i : Nat) (x : V) (T : Addr) (H : Hp), xs[i]? = some x → Pv i H → H T = none → g (.ref T) (wipe σ vs) (upd H T (.tup [.int (i : Nat), x])) fun σ2 H2 => wipe σ2 vs = wipe σ vs ∧ tt σ2 H2 fun b H3 =>
      if b = true then te σ2 H3 fun y H4 => ∃ acc, H4 D = some (.lst acc) ∧ acc.length < sizeLine ∧ Pv (i + 1) (upd H4 D (.lst (acc ++ [y]))) else Pv (i + 1) H3) (hd : ∀ H, Pv xs.length H → Qd H) :
    ∃ W : Nat → Nat → Hp → Prop, (∃ m, W 0 m (upd H1 D (.lst []))) ∧ ∀ i m H, W i m H → ((Ite K a).stop i H ∧ Qd H) ∨ ((Ite K a).go i H ∧ ∃ Nx : Hp → Prop, (∀ H', Nx H' → ∃ m', m' < m ∧ W (i + 1) m' H') ∧ ∀ x H', (Ite K a).yld i H x H' → g x (wipe σ vs) H' fun σ2 H2 => wipe σ2 vs = wipe σ vs ∧ tt σ2 H2 fun b H3 =>
        if b = true then te σ2 H3 fun y H4 => ∃ acc, H4 D = some (.lst acc) ∧ acc.length < sizeLine ∧ Nx (upd H4 D (.lst (acc ++ [y]))) else Nx H3) := by
  refine ⟨fun i m H => m = xs.length - i ∧ i ≤ xs.length ∧ Pv i H, ⟨xs.length, by omega, Nat.zero_le _, h0⟩, ?_⟩
  rintro i m H ⟨rfl, hi, p⟩
  have q := hl i H p
  by_cases hlt : i < xs.length
  · refine .inr ⟨⟨xs, xs[i], q, List.getElem?_eq_getElem hlt⟩, Pv (i + 1), fun H' p' => ⟨xs.length - (i + 1), by omega, rfl, hlt, p'⟩, fun v H' y => ?_⟩
    obtain ⟨T, x', rfl, hT, rfl, f⟩ := y
    exact hs i x' T H (f xs q) p hT
  · have e : i = xs.length := by omega
    subst e
    exact .inl ⟨⟨xs, q, Nat.le_refl _⟩, hd H p⟩
theorem op_powW {X : Cx} : OpR X (binaryOp .Pow) (rI (fun i j => 0 ≤ j ∧ (Builtin.Int.intBits i : Int) * j ≤ 2 ^ 27) fun i j => .int (i ^ j.toNat)) := opI fun _ _ _ _ _ _ _ hc q => PyProof.Rows.pow_int hc.1 hc.2 q
/-! ### draws, mixed -/
/-- a source of draws at a: at most n were drawn -/
def Src (H : Hp) (a : Addr) (n : Nat) : Prop := ∃ x y z : Int, H a = some (.lst [.int x, .int y, .int z]) ∧ 0 ≤ x ∧ 0 ≤ z ∧ z ≤ n
theorem Src.mono {H : Hp} {a : Addr} {n m : Nat} (h : Src H a n) (l : n ≤ m) : Src H a m := by
  obtain ⟨x, y, z, e, h1, h2, h3⟩ := h
  exact ⟨x, y, z, e, h1, h2, by omega⟩
theorem Src.same {H H' : Hp} {a : Addr} {n : Nat} (h : Src H a n) (s : Same H H') : Src H' a n := by
  obtain ⟨x, y, z, e, r⟩ := h
  exact ⟨x, y, z, s _ _ e, r⟩
theorem Src.has {H : Hp} {a : Addr} {n : Nat} (h : Src H a n) : ∃ xs, H a = some (.lst xs) := by
  obtain ⟨x, y, z, e, r⟩ := h
  exact ⟨_, e⟩
def spMix : Sp := fun vs H Q _ => ∃ c k, vs = [.int c, .int k] ∧ 0 ≤ k ∧ k ≤ 2000000 ∧ ∀ r, 0 ≤ r → r < 2147483399 → Q (.int r) H
def spWell : Sp := fun vs H Q _ => ∃ c, vs = [.int c] ∧ ∀ a H', H a = none → Same H H' → Src H' a 0 → Q (.ref a) H'
def spNext : Sp := fun vs H Q _ => ∃ (a : Addr) (m : Int) (n : Nat), vs = [.ref a, .int m] ∧ 0 < m ∧ m.natAbs < 2 ^ 1100 ∧ Src H a n ∧ n ≤ 900000 ∧ ∀ (r : Int) H', 0 ≤ r → r < m → Src H' a (n + 1) → Kp a H H' → Q (.int r) H'
def spOne : Sp := fun vs H Q _ => ∃ (a l : Addr) (xs : List V) (n : Nat), vs = [.ref a, .ref l] ∧ a ≠ l ∧ H l = some (.lst xs) ∧ 0 < xs.length ∧ xs.length ≤ 100000 ∧ Src H a n ∧ n ≤ 900000 ∧ ∀ v H', v ∈ xs → Src H' a (n + 1) → Kp a H H' → Q v H'
theorem atI_of {α : Type} {xs : List α} {i : Int} (h0 : 0 ≤ i) (h1 : i < xs.length) : ∃ v, atI xs i = some v ∧ v ∈ xs := by
  have hj : i.toNat < xs.length := by omega
  refine ⟨xs[i.toNat], ?_, List.getElem_mem _⟩
  have e : ((i.toNat : Nat) : Int) = i := by omega
  have := atI_nat (xs := xs) (j := i.toNat) (v := xs[i.toNat]) (List.getElem?_eq_getElem hj)
  rwa [e] at this
section
variable {P : Program} {w : World} {K : PySem.W.Frag} {mg : Str → Option Value} {base : Heap} {L : LA}
abbrev N_wmixed : List Str := ["_law_cell", "_law_k", "_law_figure"]
theorem sc_wmixed : FnScope N_wmixed ["_law_cell", "_law_k"] (defScope st__law_mixed) := ⟨rfl, rfl, rfl, by decide +kernel, rfl, by decide +kernel, by decide +kernel⟩
theorem fn_wmixed (T : LX K mg L) {fd : FuncData} (F : Fun K "_law_mixed" "_law_mixed" st__law_mixed L.f__law_mixed fd) : FnOk P w K mg base CX0 1 L.f__law_mixed fd ["_law_cell", "_law_k"] (spMix) := by
  have nd := sc_wmixed.nd
  refine F.ok sc_wmixed (fun vs H Q E h => ?_) (fun cdv A outer S H vs Q E hr h => ?_)
  · obtain ⟨c, kk, rfl, _⟩ := h
    rfl
  · obtain ⟨c, kk, rfl, k0, k1, k⟩ := h
    refine ⟨_, (pss_cons (ps_set (i := 2) nd rfl (Or.inl rfl) (pe_op op_mod (pe_callTy call_int1 (by rfl) T.b_int (by decide +kernel) (pa_cons (pe_op op_pow (pe_op op_add (pe_op op_add (pe_op op_mod (pe_callTy call_int1 (by rfl) T.b_int (by decide +kernel) (pa_cons (pv 0) pa_nil)) pe_int) (pe_op op_mulW pe_int (pv 1))) pe_int) pe_int) pa_nil)) pe_int))
       (pss_cons (ps_set (i := 2) nd rfl (Or.inl rfl) (pe_op op_mod (pe_callTy call_int1 (by rfl) T.b_int (by decide +kernel) (pa_cons (pe_op op_add (pv 2) (pe_op op_mulW (pe_op op_mod (pe_callTy call_int1 (by rfl) T.b_int (by decide +kernel) (pa_cons (pe_op op_fdivW (pv 0) pe_int) pa_nil)) pe_int) (pe_op op_add (pv 1) pe_int))) pa_nil)) pe_int))
       (pss_cons (ps_set (i := 2) nd rfl (Or.inl rfl) (pe_op op_mod (pe_callTy call_int1 (by rfl) T.b_int (by decide +kernel) (pa_cons (pe_op op_mulW (pv 2) (pe_op op_add (pe_op op_add (pe_op op_fdivW (pv 2) pe_int) pe_int) (pv 1))) pa_nil)) pe_int))
       (pss_one (ps_ret (pe_op op_mod (pe_callTy call_int1 (by rfl) T.b_int (by decide +kernel) (pa_cons (pe_op op_mulW (pv 2) (pe_op op_add (pe_op op_fdivW (pv 2) pe_int) pe_int)) pa_nil)) pe_int)))))), ?_⟩
    have cm1 : CMulW 30011 kk := wide_mul (a := 30) (b := 30) (by decide) (Nat.lt_of_le_of_lt (show kk.natAbs ≤ 2000000 by omega) (by decide)) (by decide) (by decide) (by decide)
    have m0 := Int.emod_nonneg c (show (2147483629 : Int) ≠ 0 by decide)
    have m1 := Int.emod_lt_of_pos c (show (0 : Int) < 2147483629 by decide)
    refine ⟨_, rfl, .inl ⟨_, rfl, _, _, rfl, rfl, (by show (0 : Int) < 2147483629; decide), _, rfl, _, _, rfl, rfl, cm1, _, _, rfl, rfl, _, _, rfl, rfl, _, _, rfl, rfl, ⟨by decide, by decide, ?_⟩, .inl ⟨_, rfl, _, _, rfl, rfl, (by show (0 : Int) < 2147483647; decide), ?_⟩⟩⟩
    · exact Nat.lt_of_le_of_lt (show (c % 2147483629 + 30011 * kk + 7).natAbs ≤ 100000000000 by omega) (by decide)
    have a0 := Int.emod_nonneg ((c % 2147483629 + 30011 * kk + 7) ^ (3 : Int).toNat) (show (2147483647 : Int) ≠ 0 by decide)
    have a1 := Int.emod_lt_of_pos ((c % 2147483629 + 30011 * kk + 7) ^ (3 : Int).toNat) (show (0 : Int) < 2147483647 by decide)
    dsimp only
    generalize (c % 2147483629 + 30011 * kk + 7) ^ (3 : Int).toNat % 2147483647 = f1 at a0 a1 ⊢
    have b0 := Int.emod_nonneg (c / 2147483629) (show (65537 : Int) ≠ 0 by decide)
    have b1 := Int.emod_lt_of_pos (c / 2147483629) (show (0 : Int) < 65537 by decide)
    have cm2 : CMulW (c / 2147483629 % 65537) (kk + 5) := wide_mul (a := 30) (b := 30) (Nat.lt_of_le_of_lt (show (c / 2147483629 % 65537).natAbs ≤ 70000 by omega) (by decide)) (Nat.lt_of_le_of_lt (show (kk + 5).natAbs ≤ 2000005 by omega) (by decide)) (by decide) (by decide) (by decide)
    refine ⟨_, rfl, _, rfl, _, _, rfl, rfl, wide_div (b := 40) (by decide) (by decide) (by decide) (by decide), .inl ⟨_, rfl, _, _, rfl, rfl, (by show (0 : Int) < 65537; decide), _, rfl, _, _, rfl, rfl, _, _, rfl, rfl, cm2, _, _, rfl, rfl, .inl ⟨_, rfl, _, _, rfl, rfl, (by show (0 : Int) < 2147483587; decide), ?_⟩⟩⟩
    have c0 := Int.emod_nonneg (f1 + c / 2147483629 % 65537 * (kk + 5)) (show (2147483587 : Int) ≠ 0 by decide)
    have c1 := Int.emod_lt_of_pos (f1 + c / 2147483629 % 65537 * (kk + 5)) (show (0 : Int) < 2147483587 by decide)
    dsimp only
    generalize (f1 + c / 2147483629 % 65537 * (kk + 5)) % 2147483587 = f2 at c0 c1 ⊢
    have d2 : f2 / 1009 ≤ f2 := Int.ediv_le_self _ c0
    have d3 : 0 ≤ f2 / 1009 := Int.ediv_nonneg c0 (by decide)
    have cm3 : CMulW f2 (f2 / 1009 + 69621 + kk) := wide_mul (a := 40) (b := 40) (Nat.lt_of_le_of_lt (show f2.natAbs ≤ 3000000000 by omega) (by decide)) (Nat.lt_of_le_of_lt (show (f2 / 1009 + 69621 + kk).natAbs ≤ 3000000000 by omega) (by decide)) (by decide) (by decide) (by decide)
    refine ⟨_, rfl, _, rfl, _, _, rfl, rfl, wide_div (b := 40) (by decide) (by decide) (by decide) (by decide), _, _, rfl, rfl, _, rfl, _, _, rfl, rfl, _, _, rfl, rfl, cm3, .inl ⟨_, rfl, _, _, rfl, rfl, (by show (0 : Int) < 2147483563; decide), ?_⟩⟩
    have g0 := Int.emod_nonneg (f2 * (f2 / 1009 + 69621 + kk)) (show (2147483563 : Int) ≠ 0 by decide)
    have g1 := Int.emod_lt_of_pos (f2 * (f2 / 1009 + 69621 + kk)) (show (0 : Int) < 2147483563 by decide)
    dsimp only
    generalize f2 * (f2 / 1009 + 69621 + kk) % 2147483563 = f3 at g0 g1 ⊢
    have h2 : f3 / 2003 ≤ f3 := Int.ediv_le_self _ g0
    have h3 : 0 ≤ f3 / 2003 := Int.ediv_nonneg g0 (by decide)
    have cm4 : CMulW f3 (f3 / 2003 + 40692) := wide_mul (a := 40) (b := 40) (Nat.lt_of_le_of_lt (show f3.natAbs ≤ 3000000000 by omega) (by decide)) (Nat.lt_of_le_of_lt (show (f3 / 2003 + 40692).natAbs ≤ 3000000000 by omega) (by decide)) (by decide) (by decide) (by decide)
    refine ⟨_, rfl, _, rfl, _, _, rfl, rfl, wide_div (b := 40) (by decide) (by decide) (by decide) (by decide), _, _, rfl, rfl, _, _, rfl, rfl, cm4, .inl ⟨_, rfl, _, _, rfl, rfl, (by show (0 : Int) < 2147483399; decide), ?_⟩⟩
    exact k _ (Int.emod_nonneg _ (by decide)) (Int.emod_lt_of_pos _ (by decide))
theorem ok_wmixed (T : LX K mg L) : Cal P w K mg base "_law_mixed" 1 L.f__law_mixed ["_law_cell", "_law_k"] (spMix) := T.d__law_mixed.cal fun fd F => fn_wmixed T F
abbrev N_wwell : List Str := ["_law_cell"]
theorem sc_wwell : FnScope N_wwell ["_law_cell"] (defScope st__law_well) := ⟨rfl, rfl, rfl, by decide +kernel, rfl, by decide +kernel, by decide +kernel⟩
theorem fn_wwell (T : LX K mg L) {fd : FuncData} (F : Fun K "_law_well" "_law_well" st__law_well L.f__law_well fd) : FnOk P w K mg base CX0 1 L.f__law_well fd ["_law_cell"] (spWell) := by
  have nd := sc_wwell.nd
  refine F.ok sc_wwell (fun vs H Q E h => ?_) (fun cdv A outer S H vs Q E hr h => ?_)
  · obtain ⟨c, rfl, _⟩ := h
    rfl
  · obtain ⟨c, rfl, k⟩ := h
    refine ⟨_, (pss_one (ps_ret (pe_lst (pa_cons (pe_op op_mul (pv 0) (pe_callTy call_int1 (by rfl) T.b_int (by decide +kernel) (pa_cons (pe_cmpR op_ge (pv 0) (pe_op op_pow pe_int pe_int) (nomark _)) pa_nil))) (pa_cons (pv 0) (pa_cons pe_int pa_nil)))))), ?_⟩
    refine ⟨_, rfl, _, rfl, _, _, rfl, rfl, ⟨by decide, by decide, by decide⟩, _, _, rfl, rfl, .inr ⟨_, rfl, _, _, rfl, rfl, ?_, ?_⟩⟩
    · refine .inr ?_
      split <;> decide
    · refine ⟨_, rfl, (by show 3 ≤ sizeLine; decide), fun l hl => ?_⟩
      refine k l _ hl (Same.upd hl) ⟨_, _, _, upd_same, ?_, Int.le_refl _, Int.le_refl _⟩
      by_cases hc : (10 : Int) ^ (18 : Int).toNat ≤ c
      · rw [decide_eq_true hc, if_pos rfl, Int.mul_one]
        exact Int.le_trans (by decide) hc
      · rw [decide_eq_false hc, if_neg Bool.false_ne_true, Int.mul_zero]
        exact Int.le_refl _
theorem ok_wwell (T : LX K mg L) : Cal P w K mg base "_law_well" 1 L.f__law_well ["_law_cell"] (spWell) := T.d__law_well.cal fun fd F => fn_wwell T F
abbrev N_wdraw : List Str := ["_law_well_here", "_law_many", "_law_found"]
theorem sc_wdraw : FnScope N_wdraw ["_law_well_here", "_law_many"] (defScope st__law_draw) := ⟨rfl, rfl, rfl, by decide +kernel, rfl, by decide +kernel, by decide +kernel⟩
theorem fn_wdraw (T : LX K mg L) {fd : FuncData} (F : Fun K "_law_draw" "_law_draw" st__law_draw L.f__law_draw fd) : FnOk P w K mg base CX0 2 L.f__law_draw fd ["_law_well_here", "_law_many"] (spNext) := by
  have G_wmixed := ok_wmixed (P := P) (w := w) (base := base) T
  have nd := sc_wdraw.nd
  refine F.ok sc_wdraw (fun vs H Q E h => ?_) (fun cdv A outer S H vs Q E hr h => ?_)
  · obtain ⟨a, m, n, rfl, _⟩ := h
    rfl
  · obtain ⟨a, m, n, rfl, m0, m1, ⟨x, y, z, ha, x0, z0, z1⟩, hn, k⟩ := h
    refine ⟨_, (pss_cons (ps_if (pt_cmpR op_gt (pe_ix (r := rIxL K) ix_list (pv 0) pe_int (fun _ _ => rfl)) pe_int (nomark _)) (pss_cons (ps_set (i := 2) nd rfl (Or.inl rfl) (pe_op op_mod (pe_callTy call_int1 (by rfl) T.b_int (by decide +kernel) (pa_cons (pe_ix (r := rIxL K) ix_list (pv 0) pe_int (fun _ _ => rfl)) pa_nil)) (pv 1)))
       (pss_cons (ps_asg (pe_op op_fdivW (pe_ix (r := rIxL K) ix_list (pv 0) pe_int (fun _ _ => rfl)) (pv 1)) (pg_sub (pv 0) pe_int set_list))
       (pss_one (ps_ret (pv 2))))) pss_nil)
       (pss_cons (ps_asg (pe_op op_add (pe_ix (r := rIxL K) ix_list (pv 0) pe_int (fun _ _ => rfl)) pe_int) (pg_sub (pv 0) pe_int set_list))
       (pss_one (ps_ret (pe_op op_mod (pe_callTy call_int1 (by rfl) T.b_int (by decide +kernel) (pa_cons (pe_c G_wmixed (hr.mono (by decide)) rfl (pa_cons (pe_ix (r := rIxL K) ix_list (pv 0) pe_int (fun _ _ => rfl)) (pa_cons (pe_ix (r := rIxL K) ix_list (pv 0) pe_int (fun _ _ => rfl)) pa_nil))) pa_nil)) (pv 1)))))), ?_⟩
    refine ⟨_, rfl, _, _, _, _, rfl, rfl, SqL.of ha, rfl, _, _, rfl, rfl, _, rfl, ?_⟩
    refine ite2 (fun c => ?_) (fun c => ?_)
    · refine ⟨_, rfl, _, _, _, _, rfl, rfl, SqL.of ha, rfl, .inl ⟨_, rfl, _, rfl, _, _, rfl, rfl, m0, ?_⟩⟩
      refine ⟨_, rfl, _, _, _, _, rfl, rfl, SqL.of ha, rfl, _, rfl, _, _, rfl, rfl, wide_div m0 m1 (by decide) (by decide), ?_⟩
      refine ⟨_, rfl, _, _, _, 0, rfl, rfl, ha, rfl, ?_⟩
      refine ⟨_, rfl, ?_⟩
      exact k _ _ (Int.emod_nonneg _ (by omega)) (Int.emod_lt_of_pos _ m0) ⟨_, _, _, upd_same, Int.ediv_nonneg x0 (by omega), z0, by omega⟩ Kp.upd
    · refine ⟨_, rfl, _, _, _, _, rfl, rfl, SqL.of ha, rfl, _, _, rfl, rfl, ?_⟩
      refine ⟨_, rfl, _, _, _, 2, rfl, rfl, ha, rfl, ?_⟩
      have hA : (upd H a (.lst [.int x, .int y, .int (z + 1)])) a = some (.lst [.int x, .int y, .int (z + 1)]) := upd_same
      refine ⟨_, rfl, _, _, _, _, rfl, rfl, SqL.of hA, rfl, _, rfl, _, _, _, _, rfl, rfl, SqL.of hA, rfl, y, z + 1, rfl, by omega, by omega, fun r r0 r1 => .inl ⟨_, rfl, _, rfl, _, _, rfl, rfl, m0, ?_⟩⟩
      exact k _ _ (Int.emod_nonneg _ (by omega)) (Int.emod_lt_of_pos _ m0) ⟨_, _, _, hA, x0, by omega, by omega⟩ Kp.upd
theorem ok_wdraw (T : LX K mg L) : Cal P w K mg base "_law_draw" 2 L.f__law_draw ["_law_well_here", "_law_many"] (spNext) := T.d__law_draw.cal fun fd F => fn_wdraw T F
abbrev N_wone : List Str := ["_law_well_here", "_law_some"]
theorem sc_wone : FnScope N_wone ["_law_well_here", "_law_some"] (defScope st__law_one) := ⟨rfl, rfl, rfl, by decide +kernel, rfl, by decide +kernel, by decide +kernel⟩
theorem fn_wone (T : LX K mg L) {fd : FuncData} (F : Fun K "_law_one" "_law_one" st__law_one L.f__law_one fd) : FnOk P w K mg base CX0 3 L.f__law_one fd ["_law_well_here", "_law_some"] (spOne) := by
  have G_wdraw := ok_wdraw (P := P) (w := w) (base := base) T
  have nd := sc_wone.nd
  refine F.ok sc_wone (fun vs H Q E h => ?_) (fun cdv A outer S H vs Q E hr h => ?_)
  · obtain ⟨a, l, xs, n, rfl, _⟩ := h
    rfl
  · obtain ⟨a, l, xs, n, rfl, hal, hl, x0, x1, hs, hn, k⟩ := h
    refine ⟨_, (pss_one (ps_ret (pe_ix (r := rIxL K) ix_list (pv 1) (pe_c G_wdraw (hr.mono (by decide)) rfl (pa_cons (pv 0) (pa_cons (pe_callB call_len_seq (by rfl) T.b_len PySem.boot_len (pa_cons (pv 1) pa_nil)) pa_nil))) (fun _ _ => rfl)))), ?_⟩
    refine ⟨_, rfl, _, rfl, _, rfl, l, xs, rfl, .inl (SqL.of hl), a, _, n, rfl, by omega, ?_, hs, hn, fun r H' r0 r1 hs' hk => ?_⟩
    · exact Nat.lt_of_le_of_lt (show ((xs.length : Int)).natAbs ≤ 100000 by omega) (by decide)
    · obtain ⟨v, hv, hm⟩ := atI_of (xs := xs) r0 r1
      exact ⟨l, xs, r, v, rfl, rfl, SqL.of (hk _ _ hal.symm hl), hv, k v H' hm hs' hk⟩
theorem ok_wone (T : LX K mg L) : Cal P w K mg base "_law_one" 3 L.f__law_one ["_law_well_here", "_law_some"] (spOne) := T.d__law_one.cal fun fd F => fn_wone T F
end
/-! ### a request at one breaker -/
instance psDec (b : Tri) (s : StD) (t : Int) : Decidable (psB b s t) := by
  unfold psB
  infer_instance
def stpS (b : Tri) (s : StD) (t : Int) (g : Bool) : StD := if g = true then okS b s else badS b s t
theorem okS_closed {b : Tri} {s : StD} (h : s.1 = "closed") : okS b s = (("closed", 0) : StD) := by
  have e : hfS s = s := if_neg (by rw [h]; exact sC_O)
  unfold okS
  rw [e]
  exact if_neg fun q => sC_H (h.symm.trans q.1)
theorem okS_half {b : Tri} {s : StD} (h : s.1 = "half") : okS b s = if s.2 + 1 < b.2.2 then (("half", s.2 + 1) : StD) else ("closed", 0) := by
  have e : hfS s = s := if_neg (by rw [h]; exact sH_O)
  unfold okS
  rw [e]
  by_cases c : s.2 + 1 < b.2.2
  · rw [if_pos c, if_pos ⟨h, c⟩]
  · rw [if_neg c, if_neg fun q => c q.2]
theorem okS_open {b : Tri} {s : StD} (h : s.1 = "open") : okS b s = if 1 < b.2.2 then (("half", 1) : StD) else ("closed", 0) := by
  have e : hfS s = (("half", 0) : StD) := if_pos h
  unfold okS
  rw [e]
  by_cases c : (1 : Int) < b.2.2
  · rw [if_pos c, if_pos ⟨rfl, by show (0 : Int) + 1 < b.2.2; omega⟩]
    rfl
  · rw [if_neg c, if_neg fun q => c (by have q2 : (0 : Int) + 1 < b.2.2 := q.2; omega)]
theorem badS_closed {b : Tri} {s : StD} {t : Int} (h : s.1 = "closed") : badS b s t = if s.2 + 1 < b.1 then (("closed", s.2 + 1) : StD) else ("open", t) := by
  have e : hfS s = s := if_neg (by rw [h]; exact sC_O)
  unfold badS
  rw [e]
  by_cases c : s.2 + 1 < b.1
  · rw [if_pos c, if_pos ⟨h, c⟩]
  · rw [if_neg c, if_neg fun q => c q.2]
theorem badS_other {b : Tri} {s : StD} {t : Int} (h : ¬ s.1 = "closed") : badS b s t = (("open", t) : StD) := by
  unfold badS
  refine if_neg fun q => ?_
  have q1 := q.1
  unfold hfS at q1
  split at q1
  · exact sH_C q1
  · exact h q1
def spPasses : Sp := fun vs H Q _ => ∃ x y b s t, vs = [x, y, .int t] ∧ BrAt H x b ∧ StAt H y s ∧ Q (.bl (decide (psB b s t))) H
def spBehind : Sp := fun vs H Q _ => ∃ x y b s t g, vs = [x, y, .int t, .bl g] ∧ BrAt H x b ∧ StAt H y s ∧ okW s ∧ ∀ c H', H' c = some (.tup [.str (stpS b s t g).1, .int (stpS b s t g).2]) → Same H H' → H c = none → Q (.ref c) H'
section
variable {P : Program} {w : World} {K : PySem.W.Frag} {mg : Str → Option Value} {base : Heap} {L : LA}
abbrev N_passes : List Str := ["breaker", "state", "time"]
theorem sc_passes : FnScope N_passes ["breaker", "state", "time"] (defScope st_passes) := ⟨rfl, rfl, rfl, by decide +kernel, rfl, by decide +kernel, by decide +kernel⟩
theorem fn_passes (T : LX K mg L) {fd : FuncData} (F : Fun K "passes" "passes" st_passes L.f_passes fd) : FnOk P w K mg base CX0 1 L.f_passes fd ["breaker", "state", "time"] (spPasses) := by
  have nd := sc_passes.nd
  refine F.ok sc_passes (fun vs H Q E h => ?_) (fun cdv A outer S H vs Q E hr h => ?_)
  · obtain ⟨x, y, b, s, t, rfl, _⟩ := h
    rfl
  · obtain ⟨x, y, b, s, t, rfl, ⟨ab, rfl, hb⟩, ⟨as, rfl, hs⟩, k⟩ := h
    refine ⟨_, (pss_one (ps_ret (pe_or (pe_cmpR op_ne (pe_ix (r := rIxT K) ix_tup (pv 1) pe_int (fun _ _ => rfl)) pe_str (nomark _)) (pe_one (pe_cmpR op_ge (pe_op op_sub (pv 2) (pe_ix (r := rIxT K) ix_tup (pv 1) pe_int (fun _ _ => rfl))) (pe_ix (r := rIxT K) ix_tup (pv 0) pe_int (fun _ _ => rfl)) (nomark _)))))), ?_⟩
    refine ⟨_, rfl, as, _, 0, .str s.1, rfl, rfl, SqT.of hs, rfl, rfl, _, rfl, ite2 (fun c => ?_) (fun c => ?_)⟩
    · have c' : ¬ s.1 = "open" := fun e => by simp [e] at c
      rw [decide_eq_true (show psB b s t from fun e => absurd e c')] at k
      exact k
    · have c' : s.1 = "open" := by simpa using c
      have e : decide (psB b s t) = decide (b.2.1 ≤ t - s.2) := by
        rw [Bool.eq_iff_iff, decide_eq_true_iff, decide_eq_true_iff]
        exact ⟨fun h => h c', fun h _ => h⟩
      rw [e] at k
      exact ⟨_, rfl, _, rfl, as, _, 1, .int s.2, rfl, rfl, SqT.of hs, rfl, _, _, rfl, rfl, _, rfl, ab, _, 1, .int b.2.1, rfl, rfl, SqT.of hb, rfl, _, _, rfl, rfl, k⟩
theorem ok_passes (T : LX K mg L) : Cal P w K mg base "passes" 1 L.f_passes ["breaker", "state", "time"] (spPasses) := T.d_passes.cal fun fd F => fn_passes T F
abbrev N_statebehind : List Str := ["breaker", "state", "time", "succeeded", "failures", "wait", "successes", "kind", "number", "reached"]
theorem sc_statebehind : FnScope N_statebehind ["breaker", "state", "time", "succeeded"] (defScope st_state_behind) := ⟨rfl, rfl, rfl, by decide +kernel, rfl, by decide +kernel, by decide +kernel⟩
theorem fn_statebehind (T : LX K mg L) {fd : FuncData} (F : Fun K "state_behind" "state_behind" st_state_behind L.f_state_behind fd) : FnOk P w K mg base CX0 1 L.f_state_behind fd ["breaker", "state", "time", "succeeded"] (spBehind) := by
  have nd := sc_statebehind.nd
  refine F.ok sc_statebehind (fun vs H Q E h => ?_) (fun cdv A outer S H vs Q E hr h => ?_)
  · obtain ⟨x, y, b, s, t, g, rfl, _⟩ := h
    rfl
  · obtain ⟨x, y, b, s, t, g, rfl, ⟨ab, rfl, hb⟩, ⟨as, rfl, hs⟩, ok, k⟩ := h
    refine ⟨_, (pss_cons (ps_asg (pv 0) (pg_tup rfl (pgs_cons (pg_name (i := 4) nd rfl (Or.inl rfl)) (pgs_cons (pg_name (i := 5) nd rfl (Or.inl rfl)) (pgs_cons (pg_name (i := 6) nd rfl (Or.inl rfl)) pgs_nil)))))
       (pss_cons (ps_asg (pv 1) (pg_tup rfl (pgs_cons (pg_name (i := 7) nd rfl (Or.inl rfl)) (pgs_cons (pg_name (i := 8) nd rfl (Or.inl rfl)) pgs_nil))))
       (pss_cons (ps_if (PW.pt (pw_and (pt_val (pv 3)) (pw_and1 (pt_cmpR op_ne (pv 7) pe_str (nomark _))))) (pss_cons (ps_set (i := 9) nd rfl (Or.inl rfl) (pe_ifExp (pt_cmpR op_eq (pv 7) pe_str (nomark _)) (pe_op op_add (pv 8) pe_int) pe_int))
       (pss_one (ps_ret (pe_ifExp (pt_cmpR op_lt (pv 9) (pv 6) (nomark _)) (pe_tup (pa_cons pe_str (pa_cons (pv 9) pa_nil))) (pe_tup (pa_cons pe_str (pa_cons pe_int pa_nil))))))) pss_nil)
       (pss_cons (ps_if (pt_val (pv 3)) (pss_one (ps_ret (pe_tup (pa_cons pe_str (pa_cons pe_int pa_nil))))) pss_nil)
       (pss_cons (ps_if (PW.pt (pw_and (pt_cmpR op_eq (pv 7) pe_str (nomark _)) (pw_and1 (pt_cmpR op_lt (pe_op op_add (pv 8) pe_int) (pv 4) (nomark _))))) (pss_one (ps_ret (pe_tup (pa_cons pe_str (pa_cons (pe_op op_add (pv 8) pe_int) pa_nil))))) pss_nil)
       (pss_one (ps_ret (pe_tup (pa_cons pe_str (pa_cons (pv 2) pa_nil)))))))))), ?_⟩
    refine ⟨_, rfl, ab, _, rfl, SqT.of hb, rfl, _, _, rfl, _, _, rfl, _, _, rfl, rfl, ?_⟩
    refine ⟨_, rfl, as, _, rfl, SqT.of hs, rfl, _, _, rfl, _, _, rfl, rfl, ?_⟩
    have fin : ∀ (d : StD), stpS b s t g = d → ∀ p, H p = none → Q (.ref p) (upd H p (.tup [.str d.1, .int d.2])) := fun d e p hp => by
      subst e
      exact k p _ upd_same (Same.upd hp) hp
    clear k
    cases g with
    | true =>
      refine ⟨_, rfl, _, rfl, iteT ⟨_, rfl, rfl, _, rfl, ite2 (fun c => ?_) (fun c => ?_)⟩⟩
      · have c' : ¬ s.1 = "closed" := fun e => by simp [e] at c
        refine ⟨_, rfl, rfl, _, rfl, ite2 (fun h => ?_) (fun h => ?_)⟩
        · have h' : s.1 = "half" := V.str.inj (of_decide_eq_true h)
          refine ⟨_, rfl, _, _, rfl, rfl, _, rfl, _, rfl, _, _, rfl, rfl, _, rfl, ite2 (fun l => ?_) (fun l => ?_)⟩
          · exact ⟨_, rfl, (by show 2 ≤ sizeLine; decide), fin ("half", s.2 + 1) ((okS_half h').trans (if_pos (of_decide_eq_true l)))⟩
          · exact ⟨(by show 2 ≤ sizeLine; decide), fin ("closed", 0) ((okS_half h').trans (if_neg fun q => l (decide_eq_true q)))⟩
        · have h' : ¬ s.1 = "half" := fun e => h (decide_eq_true (congrArg V.str e))
          have o : s.1 = "open" := by
            rcases ok with e | e | e
            · exact absurd e c'
            · exact e
            · exact absurd e h'
          refine ⟨_, rfl, _, rfl, _, _, rfl, rfl, _, rfl, ite2 (fun l => ?_) (fun l => ?_)⟩
          · exact ⟨_, rfl, (by show 2 ≤ sizeLine; decide), fin ("half", 1) ((okS_open o).trans (if_pos (of_decide_eq_true l)))⟩
          · exact ⟨(by show 2 ≤ sizeLine; decide), fin ("closed", 0) ((okS_open o).trans (if_neg fun q => l (decide_eq_true q)))⟩
      · have c' : s.1 = "closed" := by simpa using c
        exact ⟨_, rfl, _, rfl, iteT ⟨(by show 2 ≤ sizeLine; decide), fin ("closed", 0) (okS_closed c')⟩⟩
    | false =>
      refine ⟨_, rfl, _, rfl, iteF ⟨_, rfl, _, rfl, iteF ⟨_, rfl, rfl, _, rfl, ite2 (fun c => ?_) (fun c => ?_)⟩⟩⟩
      · have c' : s.1 = "closed" := V.str.inj (of_decide_eq_true c)
        refine ⟨_, rfl, _, _, rfl, rfl, _, rfl, _, _, rfl, rfl, _, rfl, ite2 (fun l => ?_) (fun l => ?_)⟩
        · exact ⟨_, rfl, _, _, rfl, rfl, (by show 2 ≤ sizeLine; decide), fin ("closed", s.2 + 1) ((badS_closed c').trans (if_pos (of_decide_eq_true l)))⟩
        · exact ⟨_, rfl, (by show 2 ≤ sizeLine; decide), fin ("open", t) ((badS_closed c').trans (if_neg fun q => l (decide_eq_true q)))⟩
      · have c' : ¬ s.1 = "closed" := fun e => c (decide_eq_true (congrArg V.str e))
        refine iteF ⟨_, rfl, (by show 2 ≤ sizeLine; decide), fin ("open", t) (badS_other c')⟩
theorem ok_statebehind (T : LX K mg L) : Cal P w K mg base "state_behind" 1 L.f_state_behind ["breaker", "state", "time", "succeeded"] (spBehind) := T.d_state_behind.cal fun fd F => fn_statebehind T F
end
/-! ### logs of one breaker -/
def nxG (b : Tri) (s : StD) (t : Int) : StD := if psB b s t then badS b s t else s
def stG (b : Tri) (s : StD) (ns : List Int) : StD := ns.foldl (nxG b) s
def lgG (b : Tri) : StD → List Int → List (Int × Bool)
  | _, [] => []
  | s, t :: r => (t, decide (psB b s t)) :: lgG b (nxG b s t) r
theorem stG_app (b : Tri) (s : StD) (xs : List Int) (t : Int) : stG b s (xs ++ [t]) = nxG b (stG b s xs) t := by
  unfold stG
  rw [List.foldl_append]
  rfl
theorem lgG_app (b : Tri) : ∀ (xs : List Int) (s : StD) (t : Int), lgG b s (xs ++ [t]) = lgG b s xs ++ [(t, decide (psB b (stG b s xs) t))]
  | [], _, _ => rfl
  | x :: xs, s, t => by
    show (x, decide (psB b s x)) :: lgG b (nxG b s x) (xs ++ [t]) = _
    rw [lgG_app b xs]
    rfl
theorem lgG_len (b : Tri) : ∀ (xs : List Int) (s : StD), (lgG b s xs).length = xs.length
  | [], _ => rfl
  | x :: xs, s => congrArg Nat.succ (lgG_len b xs _)
theorem bad_W (b : Tri) (s : StD) (t : Int) : okW (badS b s t) := by
  unfold badS
  split
  · exact .inl rfl
  · exact .inr (.inl rfl)
theorem nxG_W {b : Tri} {s : StD} {t : Int} (h : okW s) : okW (nxG b s t) := by
  unfold nxG
  split
  · exact bad_W b s t
  · exact h
/-- what is counted of a breaker that only fails: the failures left, and the time of opening -/
inductive LfR (b : Tri) : StD → Int → V → Prop where
  | cl (n : Int) (n0 : 0 ≤ n) (n1 : n < b.1) : LfR b ("closed", n) (b.1 - n) .non
  | op (t : Int) : LfR b ("open", t) 0 (.int t)
def lfN (b : Tri) (s : StD) (t : Int) : StD := nxG b s t
def LgAt (H : Hp) (x : V) (p : Int × Bool) : Prop := ∃ a, x = .ref a ∧ H a = some (.tup [.int p.1, .bl p.2])
abbrev Lgs (H : Hp) (xs : List V) (ps : List (Int × Bool)) : Prop := Paired (LgAt H) xs ps
theorem Lgs.nl {H H' : Hp} (k : NL H H') {xs : List V} {ps : List (Int × Bool)} (h : Lgs H xs ps) : Lgs H' xs ps := L2.Paired.mapP h fun _ _ ⟨a, e, h⟩ => ⟨a, e, k _ _ h fun _ z => nomatch z⟩
theorem Lgs.same {H H' : Hp} (s : Same H H') {xs : List V} {ps : List (Int × Bool)} (h : Lgs H xs ps) : Lgs H' xs ps := h.nl (NL.of s)
def lgD (p : Int × Bool) : PyData := .tuple [.int p.1, .bool p.2]
theorem Lgs.dp {K : PySem.W.Frag} {H : Hp} : ∀ {xs : List V} {ps : List (Int × Bool)}, Lgs H xs ps → DpAll K H xs (ps.map lgD)
  | _, _, .nil => .nil
  | _, _, .cons ⟨a, e, h⟩ t => by
    subst e
    exact .cons (.tup (SqT.of h) (.cons (.int _) (.cons (.bl _) .nil))) (Lgs.dp t)
theorem Lgs.dpl {K : PySem.W.Frag} {H : Hp} {l : Addr} {ys : List V} {ps : List (Int × Bool)} (h : H l = some (.lst ys)) (s : Lgs H ys ps) : Dp K H (.ref l) (.list (ps.map lgD)) := .lst (SqL.of h) s.dp
theorem lg_can : ∀ ps : List (Int × Bool), PyData.canLayAll0 (ps.map lgD) = true ∧ PyData.depthAll (ps.map lgD) ≤ 10
  | [] => ⟨by simp [PyData.canLayAll0], by simp [PyData.depthAll]⟩
  | p :: ps => by
    obtain ⟨h1, h2⟩ := lg_can ps
    refine ⟨?_, ?_⟩
    · rw [List.map_cons, PyData.canLayAll0, h1]
      simp [lgD, PyData.canLay0, PyData.canLayAll0]
    · rw [List.map_cons, PyData.depthAll]
      have h3 : (lgD p).depth ≤ 10 := by simp [lgD, PyData.depth, PyData.depthAll]
      omega
theorem lg_sh (ps : List (Int × Bool)) : SeqAt.shaped (.list (ps.map lgD)) = true := by
  obtain ⟨h1, h2⟩ := lg_can ps
  refine Bool.and_eq_true_iff.mpr ⟨?_, decide_eq_true ?_⟩
  · rw [PyData.canLay0]
    exact h1
  · rw [PyData.depth]
    omega
theorem lgD_eq (p q : Int × Bool) : PyData.eqv (lgD p) (lgD q) = decide (p = q) := by
  obtain ⟨a, b⟩ := p
  obtain ⟨a', b'⟩ := q
  simp only [lgD, PyData.eqv, PyData.eqvAll, Bool.and_true]
  rw [Bool.eq_iff_iff]
  simp [Prod.ext_iff]
theorem lgDs_eq : ∀ ps qs : List (Int × Bool), PyData.eqvAll (ps.map lgD) (qs.map lgD) = decide (ps = qs)
  | [], [] => by simp [PyData.eqvAll]
  | [], _ :: _ => by simp [PyData.eqvAll]
  | _ :: _, [] => by simp [PyData.eqvAll]
  | p :: ps, q :: qs => by
    rw [List.map_cons, List.map_cons, PyData.eqvAll, lgD_eq, lgDs_eq ps qs, Bool.eq_iff_iff]
    simp
theorem lg_eq (ps qs : List (Int × Bool)) : PyData.eqv (.list (ps.map lgD)) (.list (qs.map lgD)) = decide (ps = qs) := by
  rw [PyData.eqv]
  exact lgDs_eq ps qs
/-- ascending times from a least one on -/
def Asc : Int → List Int → Prop
  | _, [] => True
  | lo, t :: r => lo ≤ t ∧ Asc (t + 1) r
/-- the least time that may follow -/
def lstG : Int → List Int → Int
  | lo, [] => lo
  | _, t :: r => lstG (t + 1) r
theorem asc_take : ∀ {lo : Int} {ns : List Int} {i : Nat} {t : Int}, Asc lo ns → ns[i]? = some t → (lstG lo (ns.take i)) ≤ t := by
  intro lo ns
  induction ns generalizing lo with
  | nil => intro i t h e; cases e
  | cons x r ih =>
    intro i t h e
    cases i with
    | zero => cases e; exact h.1
    | succ i =>
      show lstG (x + 1) (r.take i) ≤ t
      exact ih (i := i) h.2 e
theorem lst_app : ∀ (lo : Int) (ns : List Int) (t : Int), lstG lo (ns ++ [t]) = t + 1
  | _, [], _ => rfl
  | _, x :: r, t => lst_app (x + 1) r t
def spChkT : Sp := fun vs H Q _ => ∃ a ns, vs = [.ref a] ∧ H a = some (.lst (ns.map V.int)) ∧ Asc 0 ns ∧ ns.length ≤ 1000 ∧ ∀ H', Same H H' → Q .non H'
def spLogOf : Sp := fun vs H Q _ => ∃ x b a ns, vs = [x, .ref a] ∧ BrAt H x b ∧ OkT b ∧ H a = some (.lst (ns.map V.int)) ∧ Asc 0 ns ∧ ns.length ≤ 1000 ∧ ∀ l zs H', H' l = some (.lst zs) → Lgs H' zs (lgG b ("closed", 0) ns) → Same H H' → H l = none → Q (.ref l) H'
section
variable {P : Program} {w : World} {K : PySem.W.Frag} {mg : Str → Option Value} {base : Heap} {L : LA}
abbrev N_checktimes : List Str := ["times", "least", "at", "time"]
theorem sc_checktimes : FnScope N_checktimes ["times"] (defScope st_check_times) := ⟨rfl, rfl, rfl, by decide +kernel, rfl, by decide +kernel, by decide +kernel⟩
theorem fn_checktimes (T : LX K mg L) {fd : FuncData} (F : Fun K "check_times" "check_times" st_check_times L.f_check_times fd) : FnOk P w K mg base CX0 3 L.f_check_times fd ["times"] (spChkT) := by
  obtain ⟨tk_MOST_ENTRIES, c_MOST_ENTRIES⟩ := T.n_MOST_ENTRIES
  have G_isatleast := ok_isatleast (P := P) (w := w) (base := base) T
  have nd := sc_checktimes.nd
  refine F.ok sc_checktimes (fun vs H Q E h => ?_) (fun cdv A outer S H vs Q E hr h => ?_)
  · obtain ⟨a, ns, rfl, _⟩ := h
    rfl
  · obtain ⟨a, ns, rfl, ha, asc, hl, k⟩ := h
    refine ⟨_, (pss_cons (ps_if (PW.pt (pw_or (pt_not (pt_val (pe_callB call_isi (by rfl) T.b_isinstance (by decide +kernel) (pa_cons (pv 0) (pa_cons (pe_bltn (by rfl) T.b_list (by decide +kernel : bootBuiltins "list" = some (.type "list")) (v := .ty "list") rfl) pa_nil))))) (pw_or1 (pt_cmpR op_gt (pe_callB call_len_seq (by rfl) T.b_len PySem.boot_len (pa_cons (pv 0) pa_nil)) (pe_gI c_MOST_ENTRIES) (nomark _))))) (pss_one (ps_never)) pss_nil)
       (pss_cons (ps_set (i := 1) nd rfl (Or.inl rfl) pe_int)
       (pss_one (ps_for PassesOwn.never rfl (pi_enum (by rfl) T.b_enumerate (pa_cons (pv 0) pa_nil)) (pg_tup rfl (pgs_cons (pg_name (i := 2) nd rfl (Or.inl rfl)) (pgs_cons (pg_name (i := 3) nd rfl (Or.inl rfl)) pgs_nil))) (pss_cons (ps_if (pt_not (pt_val (pe_c G_isatleast (hr.mono (by decide)) rfl (pa_cons (pv 3) (pa_cons (pv 1) pa_nil))))) (pss_one (ps_never)) pss_nil)
       (pss_one (ps_set (i := 1) nd rfl (Or.inl rfl) (pe_op op_add (pv 3) pe_int)))))))), ?_⟩
    refine ⟨_, rfl, _, .ty "list", _, _, _, rfl, .ty "list", (Kd.lst ha).ty, (Kd.lst ha).kit "list" _ (.inr ⟨by decide, by decide, rfl⟩), _, rfl, iteF ?_⟩
    refine ⟨_, rfl, a, _, rfl, .inl (SqL.of ha), _, _, rfl, rfl, _, rfl, ?_⟩
    have hn : ¬ ((1000 : Int) < ((ns.map V.int).length : Nat)) := by rw [List.length_map]; omega
    rw [decide_eq_false hn]
    refine iteF ?_
    refine ⟨_, rfl, a, _, rfl, SqL.of ha, for_enum (K := K) (a := a) (xs := ns.map V.int) (fun i σ H2 => ∃ u v : Option V, σ = [some (.ref a), some (.int (lstG 0 (ns.take i))), u, v] ∧ Same H H2) ⟨none, none, rfl, Same.refl H⟩ (fun i σ H2 _ ⟨_, _, _, s2⟩ => SqL.of (s2 _ _ ha)) ?_ ?_⟩
    · rintro i x T' σ H2 hx ⟨u, v, rfl, s2⟩ hT
      rw [List.getElem?_map] at hx
      obtain ⟨t, ht, rfl⟩ := Option.map_eq_some_iff.mp hx
      have s3 : Same H (upd H2 T' (.tup [.int (i : Nat), .int t])) := s2.trans (Same.upd hT)
      refine ⟨T', _, rfl, SqT.of upd_same, rfl, _, _, rfl, _, _, rfl, rfl, ?_⟩
      refine ⟨_, rfl, _, rfl, _, _, _, rfl, .int _, _, rfl, ?_⟩
      show if (!(decide (lstG 0 (ns.take i) ≤ t))) = true then _ else _
      rw [decide_eq_true (asc_take asc ht)]
      refine iteF ?_
      have e : ns.take (i + 1) = ns.take i ++ [t] := by rw [List.take_add_one, ht]; rfl
      rw [e, lst_app]
      exact ⟨_, rfl, _, _, rfl, rfl, _, _, rfl, s3⟩
    · rintro σ H2 ⟨u, v, rfl, s2⟩
      exact k H2 s2
theorem ok_checktimes (T : LX K mg L) : Cal P w K mg base "check_times" 3 L.f_check_times ["times"] (spChkT) := T.d_check_times.cal fun fd F => fn_checktimes T F
abbrev N_logof : List Str := ["breaker", "times", "log", "state", "time", "passed"]
theorem sc_logof : FnScope N_logof ["breaker", "times"] (defScope st_log_of) := ⟨rfl, rfl, rfl, by decide +kernel, rfl, by decide +kernel, by decide +kernel⟩
theorem fn_logof (T : LX K mg L) {fd : FuncData} (F : Fun K "log_of" "log_of" st_log_of L.f_log_of fd) : FnOk P w K mg base CX0 4 L.f_log_of fd ["breaker", "times"] (spLogOf) := by
  have G_checktimes := ok_checktimes (P := P) (w := w) (base := base) T
  have G_isbreaker := ok_isbreaker (P := P) (w := w) (base := base) T
  have G_passes := ok_passes (P := P) (w := w) (base := base) T
  have G_statebehind := ok_statebehind (P := P) (w := w) (base := base) T
  have nd := sc_logof.nd
  refine F.ok sc_logof (fun vs H Q E h => ?_) (fun cdv A outer S H vs Q E hr h => ?_)
  · obtain ⟨x, b, a, ns, rfl, _⟩ := h
    rfl
  · obtain ⟨x, b, a, ns, rfl, hb, okb, ha, asc, hl, k⟩ := h
    refine ⟨_, (pss_cons (ps_if (pt_not (pt_val (pe_c G_isbreaker (hr.mono (by decide)) rfl (pa_cons (pv 0) pa_nil)))) (pss_one (ps_never)) pss_nil)
       (pss_cons (ps_expr (pe_c G_checktimes (hr.mono (by decide)) rfl (pa_cons (pv 1) pa_nil)))
       (pss_cons (ps_set (i := 2) nd rfl (Or.inl rfl) (pe_lst pa_nil))
       (pss_cons (ps_set (i := 3) nd rfl (Or.inl rfl) (pe_tup (pa_cons pe_str (pa_cons pe_int pa_nil))))
       (pss_cons (ps_for PassesOwn.never rfl (pi_list (pv 1)) (pg_name (i := 4) nd rfl (Or.inl rfl)) (pss_cons (ps_set (i := 5) nd rfl (Or.inl rfl) (pe_c G_passes (hr.mono (by decide)) rfl (pa_cons (pv 0) (pa_cons (pv 3) (pa_cons (pv 4) pa_nil)))))
       (C8.pss_cut (ps_if (pt_val (pv 5)) (pss_one (ps_set (i := 3) nd rfl (Or.inl rfl) (pe_c G_statebehind (hr.mono (by decide)) rfl (pa_cons (pv 0) (pa_cons (pv 3) (pa_cons (pv 4) (pa_cons pe_bl pa_nil))))))) pss_nil)
       (pss_one (ps_expr (pe_bm PySem.F.plainAttrs_list PySem.F.slot_list_append PySem.F.type_list_append mt_append (pv 2) (pa_cons (pe_tup (pa_cons (pv 4) (pa_cons (pv 5) pa_nil))) pa_nil)))))))
       (pss_one (ps_ret (pv 2)))))))), ?_⟩
    refine ⟨_, rfl, x, b, rfl, hb, okb, _, rfl, iteF ?_⟩
    refine ⟨_, rfl, a, ns, rfl, ha, asc, hl, fun H1 s1 => ?_⟩
    refine ⟨(by show 0 ≤ sizeLine; decide), fun l nl => ⟨(by show 2 ≤ sizeLine; decide), fun c nc => ?_⟩⟩
    have s2 := Same.upd (o := .lst []) nl
    have s3 := Same.upd (o := .tup [.str "closed", .int 0]) nc
    have hl3 := s3 _ _ (upd_same : upd H1 l (.lst []) l = _)
    have ha3 := s3 _ _ (s2 _ _ (s1 _ _ ha))
    refine ⟨_, rfl, a, rfl, ⟨_, SqL.of ha3⟩, ?_⟩
    refine for_list (K := K) (a := a) (xs := ns.map V.int) (fun i σ Hx => ∃ (y : V) (v4 v5 : Option V) (zs : List V), σ = [some x, some (.ref a), some (.ref l), some y, v4, v5] ∧ StAt Hx y (stG b ("closed", 0) (ns.take i)) ∧ okW (stG b ("closed", 0) (ns.take i)) ∧ Hx l = some (.lst zs) ∧ Lgs Hx zs (lgG b ("closed", 0) (ns.take i)) ∧ Same H1 Hx)
      ⟨_, none, none, [], rfl, ⟨c, rfl, upd_same⟩, .inl rfl, hl3, .nil, s2.trans s3⟩ (fun i σ Hx _ ⟨_, _, _, _, _, _, _, _, _, sx⟩ => SqL.of (sx _ _ (s1 _ _ ha))) ?_ ?_
    · rintro i v σ Hx hxi ⟨y, v4, v5, zs, rfl, hy, wy, hlx, hz, sx⟩
      rw [List.getElem?_map] at hxi
      obtain ⟨t, ht, rfl⟩ := Option.map_eq_some_iff.mp hxi
      have e : ns.take (i + 1) = ns.take i ++ [t] := by rw [List.take_add_one, ht]; rfl
      have zl := paired_len hz
      rw [lgG_len, List.length_take] at zl
      rw [e, stG_app, lgG_app]
      generalize stG b ("closed", 0) (ns.take i) = s at hy wy ⊢
      have bx : BrAt Hx x b := hb.nl (NL.of (s1.trans sx))
      refine ⟨_, rfl, _, rfl, _, rfl, x, y, b, s, t, rfl, bx, hy, ?_⟩
      refine ⟨fun σ' H' => ∃ y', σ' = [some x, some (.ref a), some (.ref l), some y', some (.int t), some (.bl (decide (psB b s t)))] ∧ StAt H' y' (nxG b s t) ∧ Same Hx H', ?_, ?_⟩
      · refine ⟨_, rfl, _, rfl, ite2 (fun q => ?_) (fun q => ?_)⟩
        · refine ⟨_, rfl, _, rfl, _, rfl, x, y, b, s, t, false, rfl, bx, hy, wy, fun c2 H2 h2 s4 n2 => ?_⟩
          refine ⟨_, rfl, ?_, s4⟩
          rw [show nxG b s t = badS b s t from if_pos (of_decide_eq_true q)]
          exact ⟨c2, rfl, h2⟩
        · refine ⟨_, rfl, ?_, Same.refl _⟩
          rw [show nxG b s t = s from if_neg fun z => q (decide_eq_true z)]
          exact hy
      rintro σ' H2 ⟨y', rfl, hy', s4⟩
      have hl4 := s4 _ _ hlx
      refine ⟨_, rfl, .inl ⟨rfl, _, SqL.of hl4⟩, _, rfl, _, rfl, (by show 2 ≤ sizeLine; decide), fun p np => ?_⟩
      have s5 := Same.upd (o := .tup [.int t, .bl (decide (psB b s t))]) np
      have hl5 := s5 _ _ hl4
      refine ⟨l, _, _, rfl, rfl, hl5, small1 (by omega), ?_⟩
      have n6 := NL.upd (o := .lst (zs ++ [.ref p])) hl5
      refine ⟨y', _, _, zs ++ [.ref p], rfl, (hy'.same s5).nl n6, nxG_W wy, upd_same, ?_, fun u o h => ?_⟩
      · exact paired_app (((hz.same s4).same s5).nl n6) (.cons ⟨p, rfl, n6 _ _ upd_same fun _ z => nomatch z⟩ .nil)
      · rw [upd_ne (ne_of_none h nl)]
        exact s5 _ _ (s4 _ _ (sx _ _ h))
    · rintro σ Hx ⟨y, v4, v5, zs, rfl, hy, wy, hlx, hz, sx⟩
      rw [List.length_map, List.take_length] at hz
      exact ⟨_, rfl, k l zs Hx hlx hz (s1.trans sx) (none_of s1 nl)⟩
theorem ok_logof (T : LX K mg L) : Cal P w K mg base "log_of" 4 L.f_log_of ["breaker", "times"] (spLogOf) := T.d_log_of.cal fun fd F => fn_logof T F
end
/-! ### sources kept -/
theorem src_kp {H H' : Hp} {s l : Addr} {n : Nat} (k : Kp l H H') (h : s ≠ l) (S : Src H s n) : Src H' s n := by
  obtain ⟨x, y, z, e, r⟩ := S
  exact ⟨x, y, z, k _ _ h e, r⟩
/-! ### breakers that explain a log: what is true of them -/
abbrev Lg := List (Int × Bool)
def mtE : Int := 1000000000000000000000000000000
def nar (b : Int × Int) (g : Int) (p : Bool) : Int × Int := if p then (b.1, if g < b.2 then g else b.2) else (if b.1 < g + 1 then g + 1 else b.1, b.2)
def bndR : Int → Lg → Int × Int
  | _, [] => (1, mtE)
  | u, (t, p) :: r => nar (bndR (if p then t else u) r) (t - u) p
def fitR (w : Int) : Int → Lg → Bool
  | _, [] => true
  | u, (t, p) :: r => (p == decide (w ≤ t - u)) && fitR w (if p then t else u) r
def fitC (f w : Int) : Int → Lg → Bool
  | _, [] => true
  | k, (t, p) :: r => p && (if k + 1 < f then fitC f w (k + 1) r else fitR w t r)
theorem fit_bnd {w : Int} (w1 : 1 ≤ w) (w2 : w ≤ mtE) : ∀ (ps : Lg) (u : Int), fitR w u ps = (decide ((bndR u ps).1 ≤ w) && decide (w ≤ (bndR u ps).2))
  | [], u => by
    show true = (decide ((1 : Int) ≤ w) && decide (w ≤ mtE))
    rw [decide_eq_true w1, decide_eq_true w2]
    rfl
  | (t, p) :: r, u => by
    have ih := fit_bnd w1 w2 r (if p then t else u)
    show ((p == decide (w ≤ t - u)) && fitR w (if p then t else u) r) = _
    rw [ih]
    show _ = (decide ((nar (bndR (if p then t else u) r) (t - u) p).1 ≤ w) && decide (w ≤ (nar (bndR (if p then t else u) r) (t - u) p).2))
    generalize bndR (if p then t else u) r = b
    obtain ⟨lo, hi⟩ := b
    rw [Bool.eq_iff_iff]
    cases p with
    | true =>
      simp only [nar, if_true, Bool.and_eq_true, beq_iff_eq, decide_eq_true_iff]
      constructor
      · rintro ⟨h1, h2, h3⟩
        have h1 : w ≤ t - u := of_decide_eq_true h1.symm
        refine ⟨h2, ?_⟩
        split <;> omega
      · rintro ⟨h1, h2⟩
        split at h2
        · exact ⟨(decide_eq_true (by omega)).symm, h1, by omega⟩
        · exact ⟨(decide_eq_true (by omega)).symm, h1, by omega⟩
    | false =>
      simp only [nar, Bool.false_eq_true, if_false, Bool.and_eq_true, beq_iff_eq, decide_eq_true_iff]
      constructor
      · rintro ⟨h1, h2, h3⟩
        have h1 : ¬ w ≤ t - u := of_decide_eq_false h1.symm
        refine ⟨?_, h3⟩
        split <;> omega
      · rintro ⟨h1, h2⟩
        split at h1
        · exact ⟨(decide_eq_false (by omega)).symm, by omega, h2⟩
        · exact ⟨(decide_eq_false (by omega)).symm, h1, h2⟩
theorem lg_open (f w : Int) : ∀ (ps : Lg) (u : Int), decide (lgG (f, w, 1) ("open", u) (ps.map (·.1)) = ps) = fitR w u ps
  | [], u => rfl
  | (t, p) :: r, u => by
    have hp : psB (f, w, 1) (("open", u) : StD) t ↔ w ≤ t - u := ⟨fun h => h rfl, fun h _ => h⟩
    show decide ((t, decide (psB (f, w, 1) (("open", u) : StD) t)) :: lgG (f, w, 1) (nxG (f, w, 1) ("open", u) t) (r.map (·.1)) = (t, p) :: r) = _
    show _ = ((p == decide (w ≤ t - u)) && fitR w (if p then t else u) r)
    have ed : decide (psB (f, w, 1) (("open", u) : StD) t) = decide (w ≤ t - u) := by rw [decide_eq_decide]; exact hp
    have en : nxG (f, w, 1) (("open", u) : StD) t = if w ≤ t - u then (("open", t) : StD) else ("open", u) := by
      unfold nxG
      by_cases c : w ≤ t - u
      · rw [if_pos (hp.mpr c), if_pos c, badS_other sO_C]
      · rw [if_neg (fun h => c (hp.mp h)), if_neg c]
    rw [ed, en, ← lg_open f w r (if p then t else u), Bool.eq_iff_iff]
    simp only [Bool.and_eq_true, beq_iff_eq, decide_eq_true_iff, List.cons.injEq, Prod.mk.injEq, true_and]
    by_cases c : w ≤ t - u
    · rw [if_pos c, decide_eq_true c]
      cases p
      · simp
      · simp
    · rw [if_neg c, decide_eq_false c]
      cases p
      · simp
      · simp
theorem lg_closed (f w : Int) : ∀ (ps : Lg) (k : Int), decide (lgG (f, w, 1) ("closed", k) (ps.map (·.1)) = ps) = fitC f w k ps
  | [], k => rfl
  | (t, p) :: r, k => by
    have hp : psB (f, w, 1) (("closed", k) : StD) t := fun e => absurd e sC_O
    show decide ((t, decide (psB (f, w, 1) (("closed", k) : StD) t)) :: lgG (f, w, 1) (nxG (f, w, 1) ("closed", k) t) (r.map (·.1)) = (t, p) :: r) = _
    have en : nxG (f, w, 1) (("closed", k) : StD) t = if k + 1 < f then (("closed", k + 1) : StD) else ("open", t) := (if_pos hp).trans (badS_closed rfl)
    rw [decide_eq_true hp, en]
    show _ = (p && (if k + 1 < f then fitC f w (k + 1) r else fitR w t r))
    cases p with
    | false =>
      rw [Bool.false_and]
      exact decide_eq_false fun h => by simp at h
    | true =>
      rw [Bool.true_and]
      by_cases c : k + 1 < f
      · rw [if_pos c, if_pos c, ← lg_closed f w r (k + 1), decide_eq_decide]
        simp
      · rw [if_neg c, if_neg c, ← lg_open f w r t, decide_eq_decide]
        simp
/-- the last time that was passed -/
def latA (o : Option Int) : Lg → Option Int
  | [] => o
  | (t, p) :: r => latA (if p then some t else o) r
theorem latA_app : ∀ (xs : Lg) (o : Option Int) (t : Int) (p : Bool), latA o (xs ++ [(t, p)]) = if p then some t else latA o xs
  | [], _, _, _ => rfl
  | (t', p') :: r, o, t, p => latA_app r _ t p
theorem latA_some : ∀ (xs : Lg) (u : Int), ∃ v, latA (some u) xs = some v
  | [], u => ⟨u, rfl⟩
  | (t, p) :: r, u => by
    show ∃ v, latA (if p then some t else some u) r = some v
    cases p
    · exact latA_some r u
    · exact latA_some r t
def aheadG (ps : Lg) : Nat := (ps.takeWhile (·.2)).length
def uG (ps : Lg) (f : Nat) : Int := (latA none (ps.take f)).getD 0
def bnG (ps : Lg) (f : Nat) : Int × Int := bndR (uG ps f) (ps.drop f)
def exF (ps : Lg) (f : Nat) : List Tri := if f ≤ aheadG ps ∧ (bnG ps f).1 ≤ (bnG ps f).2 then [((f : Int), (bnG ps f).1, (bnG ps f).2)] else []
def exRev (ps : Lg) (i : Nat) : List Tri := (List.range i).flatMap fun j => exF ps (ps.length - j)
def exUp (ps : Lg) (i : Nat) : List Tri := (List.range i).flatMap fun j => exF ps (j + 1)
def exG (ps : Lg) : List Tri := if ps = [] then [(1, 1, mtE)] else exUp ps ps.length
theorem exF_rev (ps : Lg) (f : Nat) : (exF ps f).reverse = exF ps f := by
  unfold exF
  split <;> rfl
theorem exF_len (ps : Lg) (f : Nat) : (exF ps f).length ≤ 1 := by
  unfold exF
  split
  · exact Nat.le_refl _
  · exact Nat.zero_le _
theorem ex_rev (ps : Lg) : ∀ i : Nat, i ≤ ps.length → (exRev ps i).reverse = (List.range i).flatMap fun j => exF ps (ps.length - i + j + 1)
  | 0, _ => rfl
  | i + 1, h => by
    have ih := ex_rev ps i (by omega)
    unfold exRev at ih ⊢
    have e1 : (List.range (i + 1)).flatMap (fun j => exF ps (ps.length - j)) = (List.range i).flatMap (fun j => exF ps (ps.length - j)) ++ exF ps (ps.length - i) := by
      rw [List.range_succ, List.flatMap_append]
      simp
    rw [e1, List.reverse_append, ih, exF_rev, List.range_succ_eq_map, List.flatMap_cons, List.flatMap_map]
    congr 1
    · congr 1
      omega
    · refine congrArg (fun g => List.flatMap g (List.range i)) (funext fun j => ?_)
      congr 1
      show ps.length - i + j + 1 = ps.length - (i + 1) + (j + 1) + 1
      omega
theorem ex_all (ps : Lg) : (exRev ps ps.length).reverse = exUp ps ps.length := by
  rw [ex_rev ps ps.length (Nat.le_refl _)]
  unfold exUp
  refine congrArg (fun g => List.flatMap g (List.range ps.length)) (funext fun j => ?_)
  congr 1
  omega
theorem exRev_succ (ps : Lg) (i : Nat) : exRev ps (i + 1) = exRev ps i ++ exF ps (ps.length - i) := by
  unfold exRev
  rw [List.range_succ, List.flatMap_append]
  simp
theorem exUp_succ (ps : Lg) (i : Nat) : exUp ps (i + 1) = exUp ps i ++ exF ps (i + 1) := by
  unfold exUp
  rw [List.range_succ, List.flatMap_append]
  simp
theorem exRev_len (ps : Lg) : ∀ i : Nat, (exRev ps i).length ≤ i
  | 0 => Nat.le_refl _
  | i + 1 => by
    rw [exRev_succ, List.length_append]
    have := exRev_len ps i
    have := exF_len ps (ps.length - i)
    omega
theorem exUp_len (ps : Lg) : ∀ i : Nat, (exUp ps i).length ≤ i
  | 0 => Nat.le_refl _
  | i + 1 => by
    rw [exUp_succ, List.length_append]
    have := exUp_len ps i
    have := exF_len ps (i + 1)
    omega
theorem ahead_all {ps : Lg} {f : Nat} : f ≤ ps.length → ((ps.take f).all (·.2) = true ↔ f ≤ aheadG ps) := by
  induction ps generalizing f with
  | nil =>
    intro h
    have : f = 0 := Nat.le_zero.mp h
    subst this
    simp [aheadG]
  | cons p r ih =>
    intro h
    cases f with
    | zero => simp
    | succ f =>
      have := ih (f := f) (Nat.le_of_succ_le_succ h)
      unfold aheadG at this ⊢
      rw [List.take_succ_cons, List.all_cons, List.takeWhile_cons]
      cases p.2 with
      | true =>
        simp only [Bool.true_and, if_true, List.length_cons]
        rw [this]
        omega
      | false => simp
theorem ahead_le (ps : Lg) : aheadG ps ≤ ps.length := by
  unfold aheadG
  exact (List.takeWhile_sublist _).length_le
/-- behind a step of the program's loop -/
theorem bn_step {ps : Lg} {f : Nat} {t : Int} {p : Bool} (hf : ps[f]? = some (t, p)) (f1 : 1 ≤ f) (h0 : 1 ≤ aheadG ps) : bnG ps f = nar (bnG ps (f + 1)) (t - uG ps f) p ∧ ∃ v, latA none (ps.take f) = some v ∧ uG ps f = v := by
  have fl := (List.getElem?_eq_some_iff.mp hf).1
  have et : ps.take (f + 1) = ps.take f ++ [(t, p)] := by rw [List.take_add_one, hf]; rfl
  have ed : ps.drop f = (t, p) :: ps.drop (f + 1) := by
    rw [List.drop_eq_getElem_cons fl]
    congr 1
    exact (List.getElem?_eq_some_iff.mp hf).2
  have hs : ∃ v, latA none (ps.take f) = some v := by
    cases ps with
    | nil => cases hf
    | cons q r =>
      obtain ⟨t0, p0⟩ := q
      cases f with
      | zero => omega
      | succ f =>
        have : p0 = true := by
          unfold aheadG at h0
          rw [List.takeWhile_cons] at h0
          cases p0
          · simp at h0
          · rfl
        subst this
        exact latA_some (r.take f) t0
  obtain ⟨v, hv⟩ := hs
  have hu : uG ps f = v := by unfold uG; rw [hv]; rfl
  refine ⟨?_, v, hv, hu⟩
  have e1 : uG ps (f + 1) = if p then t else uG ps f := by
    rw [hu]
    unfold uG
    rw [et, latA_app, hv]
    cases p <;> rfl
  unfold bnG
  rw [ed, e1]
  rfl
theorem bn_end (ps : Lg) : bnG ps ps.length = (1, mtE) := by
  unfold bnG
  rw [List.drop_length]
  rfl
/-- a breaker with f failures, by its place -/
theorem fitC_at {f : Nat} {w : Int} : ∀ (ps : Lg) (k : Nat), k < f → fitC (f : Int) w (k : Int) ps = ((ps.take (f - k)).all (·.2) && (if f - k ≤ ps.length then fitR w ((ps.getD (f - k - 1) (0, true)).1) (ps.drop (f - k)) else true))
  | [], k, h => by
    have : ¬ f - k ≤ ([] : Lg).length := fun z => by have := Nat.le_zero.mp z; omega
    rw [if_neg this]
    simp [fitC]
  | (t, p) :: r, k, h => by
    obtain ⟨m, hm⟩ : ∃ m, f - k = m + 1 := ⟨f - k - 1, by omega⟩
    show (p && (if (k : Int) + 1 < f then fitC f w ((k : Int) + 1) r else fitR w t r)) = _
    rw [hm, List.take_succ_cons, List.all_cons, List.drop_succ_cons, Bool.and_assoc]
    congr 1
    by_cases c : (k : Int) + 1 < f
    · rw [if_pos c]
      have ih := fitC_at (f := f) (w := w) r (k + 1) (by omega)
      rw [show f - (k + 1) = m by omega, show (((k + 1 : Nat)) : Int) = (k : Int) + 1 by omega] at ih
      rw [ih]
      congr 1
      obtain ⟨m', hm'⟩ : ∃ m', m = m' + 1 := ⟨m - 1, by omega⟩
      subst hm'
      rw [List.length_cons]
      by_cases d : m' + 1 ≤ r.length
      · rw [if_pos d, if_pos (show m' + 1 + 1 ≤ r.length + 1 by omega)]
        congr 1
      · rw [if_neg d, if_neg (show ¬ m' + 1 + 1 ≤ r.length + 1 by omega)]
    · rw [if_neg c]
      have m0 : m = 0 := by omega
      subst m0
      rw [if_pos (by rw [List.length_cons]; omega)]
      simp
theorem latA_all : ∀ (xs : Lg) (o : Option Int) (q : Int × Bool), (xs ++ [q]).all (·.2) = true → latA o (xs ++ [q]) = some q.1
  | xs, o, (t, p), h => by
    rw [latA_app]
    rw [List.all_append] at h
    have : p = true := by
      have := (Bool.and_eq_true_iff.mp h).2
      simpa using this
    rw [this]
    rfl
/-- which waits fit with f failures -/
theorem fitC_bn {ps : Lg} {f : Nat} {w : Int} (f1 : 1 ≤ f) (fl : f ≤ ps.length) (w1 : 1 ≤ w) (w2 : w ≤ mtE) : fitC (f : Int) w 0 ps = (decide (f ≤ aheadG ps) && (decide ((bnG ps f).1 ≤ w) && decide (w ≤ (bnG ps f).2))) := by
  have h := fitC_at (f := f) (w := w) ps 0 (by omega)
  rw [show ((0 : Nat) : Int) = 0 from rfl, Nat.sub_zero, if_pos fl] at h
  rw [h]
  have ha := ahead_all fl
  by_cases c : f ≤ aheadG ps
  · rw [ha.mpr c, decide_eq_true c, Bool.true_and, Bool.true_and, fit_bnd w1 w2]
    have eu : (ps.getD (f - 1) (0, true)).1 = uG ps f := by
      have hl : f - 1 < ps.length := by omega
      have e2 : ps.take f = ps.take (f - 1) ++ [ps[f - 1]] := by
        have := List.take_add_one (l := ps) (i := f - 1)
        rw [show f - 1 + 1 = f by omega, List.getElem?_eq_getElem hl] at this
        exact this
      have h3 := ha.mpr c
      rw [e2] at h3
      unfold uG
      rw [e2, latA_all _ _ _ h3, List.getD_eq_getElem?_getD, List.getElem?_eq_getElem hl]
      rfl
    rw [eu]
    rfl
  · rw [show (ps.take f).all (·.2) = false from by
      cases z : (ps.take f).all (·.2) with
      | false => rfl
      | true => exact absurd (ha.mp z) c, decide_eq_false c]
    rfl
theorem fitC_past {ps : Lg} {f w : Int} (h : (ps.length : Int) < f) : fitC f w 0 ps = ps.all (·.2) := by
  obtain ⟨n, rfl⟩ := Int.eq_ofNat_of_zero_le (show 0 ≤ f by omega)
  have := fitC_at (f := n) (w := w) ps 0 (by omega)
  rw [show ((0 : Nat) : Int) = 0 from rfl, Nat.sub_zero, if_neg (by omega), Bool.and_true, List.take_of_length_le (by omega)] at this
  exact this
/-- the bounds of the bounds -/
theorem bnd_bd {M : Int} (M0 : 0 ≤ M) : ∀ (ps : Lg) (u : Int), 0 ≤ u → (∀ p ∈ ps, 0 ≤ p.1 ∧ p.1 ≤ M) → (1 ≤ (bndR u ps).1 ∧ (bndR u ps).1 ≤ M + 1) ∧ ((bndR u ps).2 = mtE ∨ (bndR u ps).2 ≤ M)
  | [], u, _, _ => ⟨⟨Int.le_refl _, by show (1 : Int) ≤ M + 1; omega⟩, .inl rfl⟩
  | (t, p) :: r, u, u0, h => by
    have ht := h (t, p) (List.mem_cons_self ..)
    have ht1 : 0 ≤ t := ht.1
    have ht2 : t ≤ M := ht.2
    have ih := bnd_bd M0 r (if p then t else u) (by split <;> omega) fun q hq => h q (List.mem_cons_of_mem _ hq)
    show (1 ≤ (nar (bndR (if p then t else u) r) (t - u) p).1 ∧ (nar (bndR (if p then t else u) r) (t - u) p).1 ≤ M + 1) ∧ ((nar (bndR (if p then t else u) r) (t - u) p).2 = mtE ∨ (nar (bndR (if p then t else u) r) (t - u) p).2 ≤ M)
    generalize bndR (if p then t else u) r = b at ih
    obtain ⟨lo, hi⟩ := b
    obtain ⟨⟨h1, h2⟩, h3⟩ := ih
    cases p with
    | true =>
      refine ⟨⟨h1, h2⟩, ?_⟩
      show (if t - u < hi then t - u else hi) = mtE ∨ (if t - u < hi then t - u else hi) ≤ M
      split
      · exact .inr (by omega)
      · exact h3
    | false =>
      refine ⟨?_, h3⟩
      have h1 : 1 ≤ lo := h1
      have h2 : lo ≤ M + 1 := h2
      show 1 ≤ (if lo < t - u + 1 then t - u + 1 else lo) ∧ (if lo < t - u + 1 then t - u + 1 else lo) ≤ M + 1
      split <;> omega
theorem latA_nn : ∀ (xs : Lg) (o : Option Int), (∀ v, o = some v → 0 ≤ v) → (∀ p ∈ xs, 0 ≤ p.1) → ∀ v, latA o xs = some v → 0 ≤ v
  | [], o, ho, _ => ho
  | (t, p) :: r, o, ho, h => latA_nn r _ (fun v e => by
      cases p
      · exact ho v e
      · have e : some t = some v := e
        rw [← Option.some.inj e]
        exact h (t, true) (List.mem_cons_self ..)) fun q hq => h q (List.mem_cons_of_mem _ hq)
theorem uG_nn {ps : Lg} (h : ∀ p ∈ ps, 0 ≤ p.1) (f : Nat) : 0 ≤ uG ps f := by
  unfold uG
  cases z : latA none (ps.take f) with
  | none => exact Int.le_refl _
  | some v => exact latA_nn _ none (fun _ e => nomatch e) (fun p hp => h p (List.mem_of_mem_take hp)) v z
theorem bnG_bd {ps : Lg} {M : Int} (M0 : 0 ≤ M) (h : ∀ p ∈ ps, 0 ≤ p.1 ∧ p.1 ≤ M) (f : Nat) : (1 ≤ (bnG ps f).1 ∧ (bnG ps f).1 ≤ M + 1) ∧ ((bnG ps f).2 = mtE ∨ (bnG ps f).2 ≤ M) :=
  bnd_bd M0 _ _ (uG_nn (fun p hp => (h p hp).1) f) fun p hp => h p (List.mem_of_mem_drop hp)
/-! ### breakers that explain a log: the program -/
def gpV : Option Int → V
  | none => .non
  | some c => .int c
def gapL (ps : Lg) : List (Option Int) := (List.range ps.length).map fun i => (latA none (ps.take i)).map fun u => (ps.getD i (0, true)).1 - u
theorem gapL_at {ps : Lg} {i : Nat} {t : Int} {p : Bool} (h : ps[i]? = some (t, p)) : (gapL ps)[i]? = some ((latA none (ps.take i)).map fun u => t - u) := by
  have hl := (List.getElem?_eq_some_iff.mp h).1
  unfold gapL
  rw [List.getElem?_map, List.getElem?_range hl]
  show some ((latA none (ps.take i)).map fun u => (ps.getD i (0, true)).1 - u) = _
  rw [List.getD_eq_getElem?_getD, h]
  rfl
structure OkLog (ps : Lg) : Prop where
  asc : Asc 0 (ps.map (·.1))
  ln : ps.length ≤ 1000
theorem asc_nn : ∀ {lo : Int} {ns : List Int}, 0 ≤ lo → Asc lo ns → ∀ t ∈ ns, 0 ≤ t
  | _, [], _, _, t, h => nomatch h
  | lo, x :: r, l0, ⟨h1, h2⟩, t, h => by
    rcases List.mem_cons.mp h with rfl | h
    · omega
    · exact asc_nn (by omega) h2 t h
def spIsEnt : Sp := fun vs H Q _ => ∃ x p, vs = [x] ∧ LgAt H x p ∧ 0 ≤ p.1 ∧ Q (.bl true) H
def spChkL : Sp := fun vs H Q _ => ∃ a xs ps, vs = [.ref a] ∧ H a = some (.lst xs) ∧ Lgs H xs ps ∧ OkLog ps ∧ ∀ H', Same H H' → Q .non H'
def spAhead : Sp := fun vs H Q _ => ∃ a xs ps, vs = [.ref a] ∧ H a = some (.lst xs) ∧ Lgs H xs ps ∧ ps.length ≤ 1000 ∧ ∀ H', Same H H' → Q (.int (aheadG ps : Int)) H'
def spGaps : Sp := fun vs H Q _ => ∃ a xs ps, vs = [.ref a] ∧ H a = some (.lst xs) ∧ Lgs H xs ps ∧ ps.length ≤ 1001 ∧ ∀ l H', H' l = some (.lst ((gapL ps).map gpV)) → Same H H' → H l = none → Q (.ref l) H'
def spNar : Sp := fun vs H Q _ => ∃ T b g p, vs = [.ref T, .int g, .bl p] ∧ H T = some (.tup [.int b.1, .int b.2]) ∧ ∀ T' H', H' T' = some (.tup [.int (nar b g p).1, .int (nar b g p).2]) → Same H H' → Q (.ref T') H'
def spExpl : Sp := fun vs H Q _ => ∃ a xs ps, vs = [.ref a] ∧ H a = some (.lst xs) ∧ Lgs H xs ps ∧ OkLog ps ∧ ∀ l ys H', H' l = some (.lst ys) → Brs H' ys (exG ps) → Same H H' → H l = none → Q (.ref l) H'
theorem ahead_at : ∀ {ps : Lg} {i : Nat} {t : Int}, ps[i]? = some (t, false) → (∀ q ∈ ps.take i, q.2 = true) → aheadG ps = i
  | [], i, t, h, _ => by cases h
  | q :: r, 0, t, h, _ => by
    have h := Option.some.inj h
    rw [h]
    rfl
  | q :: r, i + 1, t, h, k => by
    have hq := k q (by rw [List.take_succ_cons]; exact List.mem_cons_self ..)
    have ih := ahead_at (ps := r) (i := i) (t := t) h fun q hq => k q (by rw [List.take_succ_cons]; exact List.mem_cons_of_mem _ hq)
    unfold aheadG at ih ⊢
    rw [List.takeWhile_cons, if_pos hq, List.length_cons, ih]
theorem ahead_full : ∀ {ps : Lg}, (∀ q ∈ ps, q.2 = true) → aheadG ps = ps.length
  | [], _ => rfl
  | q :: r, k => by
    have hq := k q (List.mem_cons_self ..)
    have ih := ahead_full (ps := r) fun q hq => k q (List.mem_cons_of_mem _ hq)
    unfold aheadG at ih ⊢
    rw [List.takeWhile_cons, if_pos hq, List.length_cons, ih, List.length_cons]
theorem paired_rev {α β : Type} {F : α → β → Prop} : ∀ {xs : List α} {ys : List β}, Paired F xs ys → Paired F xs.reverse ys.reverse
  | _, _, .nil => .nil
  | _, _, .cons h t => by
    rw [List.reverse_cons, List.reverse_cons]
    exact paired_app (paired_rev t) (.cons h .nil)
section
variable {P : Program} {w : World} {K : PySem.W.Frag} {mg : Str → Option Value} {base : Heap} {L : LA}
abbrev N_isentry : List Str := ["value", "time", "passed"]
theorem sc_isentry : FnScope N_isentry ["value"] (defScope st_is_entry) := ⟨rfl, rfl, rfl, by decide +kernel, rfl, by decide +kernel, by decide +kernel⟩
theorem fn_isentry (T : LX K mg L) {fd : FuncData} (F : Fun K "is_entry" "is_entry" st_is_entry L.f_is_entry fd) : FnOk P w K mg base CX0 3 L.f_is_entry fd ["value"] (spIsEnt) := by
  have G_isatleast := ok_isatleast (P := P) (w := w) (base := base) T
  have nd := sc_isentry.nd
  refine F.ok sc_isentry (fun vs H Q E h => ?_) (fun cdv A outer S H vs Q E hr h => ?_)
  · obtain ⟨x, p, rfl, _⟩ := h
    rfl
  · obtain ⟨x, p, rfl, ⟨a, rfl, ha⟩, h0, k⟩ := h
    refine ⟨_, (pss_cons (ps_if (PW.pt (pw_or (pt_not (pt_val (pe_callB call_isi (by rfl) T.b_isinstance (by decide +kernel) (pa_cons (pv 0) (pa_cons (pe_bltn (by rfl) T.b_tuple (by decide +kernel : bootBuiltins "tuple" = some (.type "tuple")) (v := .ty "tuple") rfl) pa_nil))))) (pw_or1 (pt_cmpR op_ne (pe_callB call_len_seq (by rfl) T.b_len PySem.boot_len (pa_cons (pv 0) pa_nil)) pe_int (nomark _))))) (pss_one (ps_ret pe_bl)) pss_nil)
       (pss_cons (ps_asg (pv 0) (pg_tup rfl (pgs_cons (pg_name (i := 1) nd rfl (Or.inl rfl)) (pgs_cons (pg_name (i := 2) nd rfl (Or.inl rfl)) pgs_nil))))
       (pss_one (ps_ret (pe_and (pe_c G_isatleast (hr.mono (by decide)) rfl (pa_cons (pv 1) (pa_cons pe_int pa_nil))) (pe_one (pe_callB call_isi (by rfl) T.b_isinstance (by decide +kernel) (pa_cons (pv 2) (pa_cons (pe_bltn (by rfl) T.b_bool (by decide +kernel : bootBuiltins "bool" = some (.type "bool")) (v := .ty "bool") rfl) pa_nil))))))))), ?_⟩
    refine ⟨_, rfl, _, .ty "tuple", _, _, _, rfl, .ty "tuple", (Kd.tup ha).ty, (Kd.tup ha).kit "tuple" _ (.inr ⟨by decide, by decide, rfl⟩), _, rfl, iteF ?_⟩
    refine ⟨_, rfl, a, _, rfl, .inr (SqT.of ha), rfl, _, rfl, iteF ?_⟩
    refine ⟨_, rfl, a, _, rfl, SqT.of ha, rfl, _, _, rfl, _, _, rfl, rfl, ?_⟩
    refine ⟨_, rfl, _, _, _, rfl, .int _, _, rfl, ?_⟩
    show if (decide ((0 : Int) ≤ p.1)) = true then _ else _
    rw [decide_eq_true h0]
    refine iteT ⟨_, rfl, _, .ty "bool", _, _, _, rfl, .ty "bool", (Kd.bl (H := H) p.2).ty, (Kd.bl (H := H) p.2).kit "bool" _ (.inr ⟨by decide, by decide, rfl⟩), k⟩
theorem ok_isentry (T : LX K mg L) : Cal P w K mg base "is_entry" 3 L.f_is_entry ["value"] (spIsEnt) := T.d_is_entry.cal fun fd F => fn_isentry T F
abbrev N_checklog : List Str := ["log", "latest", "at", "entry"]
theorem sc_checklog : FnScope N_checklog ["log"] (defScope st_check_log) := ⟨rfl, rfl, rfl, by decide +kernel, rfl, by decide +kernel, by decide +kernel⟩
theorem fn_checklog (T : LX K mg L) {fd : FuncData} (F : Fun K "check_log" "check_log" st_check_log L.f_check_log fd) : FnOk P w K mg base CX0 4 L.f_check_log fd ["log"] (spChkL) := by
  obtain ⟨tk_MOST_ENTRIES, c_MOST_ENTRIES⟩ := T.n_MOST_ENTRIES
  have G_isentry := ok_isentry (P := P) (w := w) (base := base) T
  have nd := sc_checklog.nd
  refine F.ok sc_checklog (fun vs H Q E h => ?_) (fun cdv A outer S H vs Q E hr h => ?_)
  · obtain ⟨a, xs, ps, rfl, _⟩ := h
    rfl
  · obtain ⟨a, xs, ps, rfl, ha, hx, ok, k⟩ := h
    refine ⟨_, (pss_cons (ps_if (PW.pt (pw_or (pt_not (pt_val (pe_callB call_isi (by rfl) T.b_isinstance (by decide +kernel) (pa_cons (pv 0) (pa_cons (pe_bltn (by rfl) T.b_list (by decide +kernel : bootBuiltins "list" = some (.type "list")) (v := .ty "list") rfl) pa_nil))))) (pw_or1 (pt_cmpR op_gt (pe_callB call_len_seq (by rfl) T.b_len PySem.boot_len (pa_cons (pv 0) pa_nil)) (pe_gI c_MOST_ENTRIES) (nomark _))))) (pss_one (ps_never)) pss_nil)
       (pss_cons (ps_set (i := 1) nd rfl (Or.inl rfl) (pe_un un_neg pe_int))
       (pss_one (ps_for PassesOwn.never rfl (pi_enum (by rfl) T.b_enumerate (pa_cons (pv 0) pa_nil)) (pg_tup rfl (pgs_cons (pg_name (i := 2) nd rfl (Or.inl rfl)) (pgs_cons (pg_name (i := 3) nd rfl (Or.inl rfl)) pgs_nil))) (pss_cons (ps_if (PW.pt (pw_or (pt_not (pt_val (pe_c G_isentry (hr.mono (by decide)) rfl (pa_cons (pv 3) pa_nil)))) (pw_or1 (pt_cmpR op_le (pe_ix (r := rIxT K) ix_tup (pv 3) pe_int (fun _ _ => rfl)) (pv 1) (nomark _))))) (pss_one (ps_never)) pss_nil)
       (pss_one (ps_set (i := 1) nd rfl (Or.inl rfl) (pe_ix (r := rIxT K) ix_tup (pv 3) pe_int (fun _ _ => rfl))))))))), ?_⟩
    have xl := paired_len hx
    have ln := ok.ln
    refine ⟨_, rfl, _, .ty "list", _, _, _, rfl, .ty "list", (Kd.lst ha).ty, (Kd.lst ha).kit "list" _ (.inr ⟨by decide, by decide, rfl⟩), _, rfl, iteF ?_⟩
    refine ⟨_, rfl, a, _, rfl, .inl (SqL.of ha), _, _, rfl, rfl, _, rfl, ?_⟩
    have hn : ¬ ((1000 : Int) < (xs.length : Nat)) := by omega
    rw [decide_eq_false hn]
    refine iteF ⟨1, rfl, ?_⟩
    refine ⟨_, rfl, a, xs, rfl, SqL.of ha, for_enum (K := K) (a := a) (xs := xs) (fun i σ H2 => ∃ u v : Option V, σ = [some (.ref a), some (.int (lstG 0 ((ps.map (·.1)).take i) - 1)), u, v] ∧ Same H H2) ⟨none, none, rfl, Same.refl H⟩ (fun i σ H2 _ ⟨_, _, _, s2⟩ => SqL.of (s2 _ _ ha)) ?_ ?_⟩
    · rintro i x T' σ H2 hxi ⟨u, v, rfl, s2⟩ hT
      obtain ⟨p, hp, hox⟩ := paired_get hx hxi
      have hpt : (ps.map (·.1))[i]? = some p.1 := by rw [List.getElem?_map, hp]; rfl
      have at' := asc_take ok.asc hpt
      have nn := asc_nn (Int.le_refl 0) ok.asc p.1 (List.mem_of_getElem? hpt)
      have s3 : Same H (upd H2 T' (.tup [.int (i : Nat), x])) := s2.trans (Same.upd hT)
      obtain ⟨c, rfl, hc⟩ := hox
      have hc3 := s3 _ _ hc
      refine ⟨T', _, rfl, SqT.of upd_same, rfl, _, _, rfl, _, _, rfl, rfl, ?_⟩
      refine ⟨_, rfl, .ref c, p, rfl, ⟨c, rfl, hc3⟩, nn, _, rfl, iteF ?_⟩
      refine ⟨_, rfl, c, _, 0, .int p.1, rfl, rfl, SqT.of hc3, rfl, _, rfl, _, _, rfl, rfl, _, rfl, ?_⟩
      rw [decide_eq_false (show ¬ p.1 ≤ lstG 0 ((ps.map (·.1)).take i) - 1 by omega)]
      have el : lstG 0 ((ps.map (·.1)).take (i + 1)) - 1 = p.1 := by
        rw [List.take_add_one, hpt]
        show lstG 0 ((ps.map (·.1)).take i ++ [p.1]) - 1 = p.1
        rw [lst_app, Int.add_sub_cancel]
      rw [el]
      exact iteF ⟨_, rfl, c, _, 0, .int p.1, rfl, rfl, SqT.of hc3, rfl, _, _, rfl, s3⟩
    · rintro σ H2 ⟨u, v, rfl, s2⟩
      exact k H2 s2
theorem ok_checklog (T : LX K mg L) : Cal P w K mg base "check_log" 4 L.f_check_log ["log"] (spChkL) := T.d_check_log.cal fun fd F => fn_checklog T F
abbrev N_passesahead : List Str := ["log", "at", "entry"]
theorem sc_passesahead : FnScope N_passesahead ["log"] (defScope st_passes_ahead) := ⟨rfl, rfl, rfl, by decide +kernel, rfl, by decide +kernel, by decide +kernel⟩
theorem fn_passesahead (T : LX K mg L) {fd : FuncData} (F : Fun K "passes_ahead" "passes_ahead" st_passes_ahead L.f_passes_ahead fd) : FnOk P w K mg base CX0 1 L.f_passes_ahead fd ["log"] (spAhead) := by
  have nd := sc_passesahead.nd
  refine F.ok sc_passesahead (fun vs H Q E h => ?_) (fun cdv A outer S H vs Q E hr h => ?_)
  · obtain ⟨a, xs, ps, rfl, _⟩ := h
    rfl
  · obtain ⟨a, xs, ps, rfl, ha, hx, ln, k⟩ := h
    refine ⟨_, (pss_cons (ps_for PassesOwn.never rfl (pi_enum (by rfl) T.b_enumerate (pa_cons (pv 0) pa_nil)) (pg_tup rfl (pgs_cons (pg_name (i := 1) nd rfl (Or.inl rfl)) (pgs_cons (pg_name (i := 2) nd rfl (Or.inl rfl)) pgs_nil))) (pss_one (ps_if (pt_not (pt_val (pe_ix (r := rIxT K) ix_tup (pv 2) pe_int (fun _ _ => rfl)))) (pss_one (ps_ret (pv 1))) pss_nil)))
       (pss_one (ps_ret (pe_callB call_len_seq (by rfl) T.b_len PySem.boot_len (pa_cons (pv 0) pa_nil))))), ?_⟩
    have xl := paired_len hx
    refine ⟨_, rfl, a, xs, rfl, SqL.of ha, for_enum (K := K) (a := a) (xs := xs) (fun i σ H2 => ∃ u v : Option V, σ = [some (.ref a), u, v] ∧ Same H H2 ∧ ∀ q ∈ ps.take i, q.2 = true) ⟨none, none, rfl, Same.refl H, fun q h => by simp at h⟩ (fun i σ H2 _ ⟨_, _, _, s2, _⟩ => SqL.of (s2 _ _ ha)) ?_ ?_⟩
    · rintro i x T' σ H2 hxi ⟨u, v, rfl, s2, hall⟩ hT
      obtain ⟨⟨t, p⟩, hp, c, rfl, hc⟩ := paired_get hx hxi
      have s3 : Same H (upd H2 T' (.tup [.int (i : Nat), .ref c])) := s2.trans (Same.upd hT)
      have hc3 := s3 _ _ hc
      refine ⟨T', _, rfl, SqT.of upd_same, rfl, _, _, rfl, _, _, rfl, rfl, ?_⟩
      refine ⟨_, rfl, c, _, 1, .bl p, rfl, rfl, SqT.of hc3, rfl, _, rfl, ?_⟩
      cases p with
      | true =>
        refine iteF ⟨_, _, rfl, s3, fun q h => ?_⟩
        rw [List.take_add_one, hp] at h
        rcases List.mem_append.mp h with h | h
        · exact hall q h
        · have : q = (t, true) := by simpa using h
          rw [this]
      | false =>
        refine iteT ⟨_, rfl, ?_⟩
        have := k _ s3
        rw [ahead_at hp hall] at this
        exact this
    · rintro σ H2 ⟨u, v, rfl, s2, hall⟩
      rw [xl, List.take_length] at hall
      have := k _ s2
      rw [ahead_full hall, ← xl] at this
      exact ⟨_, rfl, a, _, rfl, .inl (SqL.of (s2 _ _ ha)), this⟩
theorem ok_passesahead (T : LX K mg L) : Cal P w K mg base "passes_ahead" 1 L.f_passes_ahead ["log"] (spAhead) := T.d_passes_ahead.cal fun fd F => fn_passesahead T F
abbrev N_gapsof : List Str := ["log", "gaps", "latest", "time", "passed"]
theorem sc_gapsof : FnScope N_gapsof ["log"] (defScope st_gaps_of) := ⟨rfl, rfl, rfl, by decide +kernel, rfl, by decide +kernel, by decide +kernel⟩
theorem fn_gapsof (T : LX K mg L) {fd : FuncData} (F : Fun K "gaps_of" "gaps_of" st_gaps_of L.f_gaps_of fd) : FnOk P w K mg base CX0 1 L.f_gaps_of fd ["log"] (spGaps) := by
  have nd := sc_gapsof.nd
  refine F.ok sc_gapsof (fun vs H Q E h => ?_) (fun cdv A outer S H vs Q E hr h => ?_)
  · obtain ⟨a, xs, ps, rfl, _⟩ := h
    rfl
  · obtain ⟨a, xs, ps, rfl, ha, hx, ln, k⟩ := h
    refine ⟨_, (pss_cons (ps_set (i := 1) nd rfl (Or.inl rfl) (pe_lst pa_nil))
       (pss_cons (ps_set (i := 2) nd rfl (Or.inl rfl) pe_non)
       (pss_cons (ps_for PassesOwn.never rfl (pi_list (pv 0)) (pg_tup rfl (pgs_cons (pg_name (i := 3) nd rfl (Or.inl rfl)) (pgs_cons (pg_name (i := 4) nd rfl (Or.inl rfl)) pgs_nil))) (pss_cons (ps_expr (pe_bm PySem.F.plainAttrs_list PySem.F.slot_list_append PySem.F.type_list_append mt_append (pv 1) (pa_cons (pe_ifExp (pt_cmp (pc_isN (pv 2))) pe_non (pe_op op_sub (pv 3) (pv 2))) pa_nil)))
       (pss_one (ps_if (pt_val (pv 4)) (pss_one (ps_set (i := 2) nd rfl (Or.inl rfl) (pv 3))) pss_nil))))
       (pss_one (ps_ret (pv 1)))))), ?_⟩
    have xl := paired_len hx
    refine ⟨(by show 0 ≤ sizeLine; decide), fun l nl => ⟨_, rfl, a, rfl, ⟨_, SqL.of ((Same.upd nl) _ _ ha)⟩, ?_⟩⟩
    refine for_list (K := K) (a := a) (xs := xs) (fun i σ Hx => ∃ v3 v4 : Option V, σ = [some (.ref a), some (.ref l), some (gpV (latA none (ps.take i))), v3, v4] ∧ Hx l = some (.lst (((gapL ps).take i).map gpV)) ∧ Same H Hx) ⟨none, none, rfl, upd_same, Same.upd nl⟩ (fun i σ Hx _ ⟨_, _, _, _, sx⟩ => SqL.of (sx _ _ ha)) ?_ ?_
    · rintro i x σ Hx hxi ⟨v3, v4, rfl, hl, sx⟩
      obtain ⟨⟨t, p⟩, hp, c, rfl, hc⟩ := paired_get hx hxi
      have hc3 := sx _ _ hc
      have hg := gapL_at hp
      have et : ps.take (i + 1) = ps.take i ++ [(t, p)] := by rw [List.take_add_one, hp]; rfl
      have eg : (gapL ps).take (i + 1) = (gapL ps).take i ++ [(latA none (ps.take i)).map fun u => t - u] := by rw [List.take_add_one, hg]; rfl
      have gl : (((gapL ps).take i).map gpV).length ≤ 1001 := by
        have hi := (List.getElem?_eq_some_iff.mp hxi).1
        rw [List.length_map, List.length_take]
        omega
      refine ⟨c, _, rfl, SqT.of hc3, rfl, _, _, rfl, _, _, rfl, rfl, ?_⟩
      rw [eg, et, latA_app]
      generalize latA none (ps.take i) = o at hl ⊢
      have fin : ∀ H1 : Hp, H1 l = some (.lst (((gapL ps).take i).map gpV ++ [gpV (o.map fun u => t - u)])) → (∀ b u, H b = some u → H1 b = some u) → H1 l = some (.lst (((gapL ps).take i ++ [o.map fun u => t - u]).map gpV)) ∧ Same H H1 := fun H1 h1 h2 => ⟨by rw [h1, List.map_append]; rfl, h2⟩
      have kp : ∀ b u, H b = some u → (upd Hx l (.lst (((gapL ps).take i).map gpV ++ [gpV (o.map fun u => t - u)]))) b = some u := fun b u e => by
        rw [upd_ne (ne_of_none e nl)]
        exact sx _ _ e
      have h1 := fin _ upd_same kp
      refine ⟨_, rfl, .inl ⟨rfl, _, SqL.of hl⟩, ?_⟩
      cases o with
      | none =>
        refine ⟨_, rfl, _, rfl, iteT ⟨l, _, .non, rfl, rfl, hl, small1 (by omega), _, rfl, _, rfl, ?_⟩⟩
        cases p with
        | true => exact iteT ⟨_, rfl, _, _, rfl, h1⟩
        | false => exact iteF ⟨_, _, rfl, h1⟩
      | some u =>
        refine ⟨_, rfl, _, rfl, iteF ⟨_, rfl, _, rfl, _, _, rfl, rfl, l, _, .int (t - u), rfl, rfl, hl, small1 (by omega), _, rfl, _, rfl, ?_⟩⟩
        cases p with
        | true => exact iteT ⟨_, rfl, _, _, rfl, h1⟩
        | false => exact iteF ⟨_, _, rfl, h1⟩
    · rintro σ Hx ⟨v3, v4, rfl, hl, sx⟩
      rw [xl, List.take_of_length_le (by unfold gapL; rw [List.length_map, List.length_range]; exact Nat.le_refl _)] at hl
      exact ⟨_, rfl, k l Hx hl sx nl⟩
theorem ok_gapsof (T : LX K mg L) : Cal P w K mg base "gaps_of" 1 L.f_gaps_of ["log"] (spGaps) := T.d_gaps_of.cal fun fd F => fn_gapsof T F
abbrev N_narrowed : List Str := ["bounds", "gap", "passed", "low", "high"]
theorem sc_narrowed : FnScope N_narrowed ["bounds", "gap", "passed"] (defScope st_narrowed) := ⟨rfl, rfl, rfl, by decide +kernel, rfl, by decide +kernel, by decide +kernel⟩
theorem fn_narrowed (T : LX K mg L) {fd : FuncData} (F : Fun K "narrowed" "narrowed" st_narrowed L.f_narrowed fd) : FnOk P w K mg base CX0 1 L.f_narrowed fd ["bounds", "gap", "passed"] (spNar) := by
  have nd := sc_narrowed.nd
  refine F.ok sc_narrowed (fun vs H Q E h => ?_) (fun cdv A outer S H vs Q E hr h => ?_)
  · obtain ⟨T0, b, g, p, rfl, _⟩ := h
    rfl
  · obtain ⟨T0, b, g, p, rfl, hT, k⟩ := h
    refine ⟨_, (pss_cons (ps_asg (pv 0) (pg_tup rfl (pgs_cons (pg_name (i := 3) nd rfl (Or.inl rfl)) (pgs_cons (pg_name (i := 4) nd rfl (Or.inl rfl)) pgs_nil))))
       (pss_cons (ps_if (pt_val (pv 2)) (pss_one (ps_ret (pe_tup (pa_cons (pv 3) (pa_cons (pe_callB (call_min2 rfl) (by rfl) T.b_min (by decide +kernel) (pa_cons (pv 4) (pa_cons (pv 1) pa_nil))) pa_nil))))) pss_nil)
       (pss_one (ps_ret (pe_tup (pa_cons (pe_callB (call_max2 rfl) (by rfl) T.b_max (by decide +kernel) (pa_cons (pv 3) (pa_cons (pe_op op_add (pv 1) pe_int) pa_nil))) (pa_cons (pv 4) pa_nil))))))), ?_⟩
    refine ⟨_, rfl, T0, _, rfl, SqT.of hT, rfl, _, _, rfl, _, _, rfl, rfl, ?_⟩
    cases p with
    | true =>
      refine ⟨_, rfl, _, rfl, iteT ⟨_, rfl, _, rfl, _, rfl, _, _, rfl, (by show 2 ≤ sizeLine; decide), fun T1 h1 => ?_⟩⟩
      exact k T1 _ upd_same (Same.upd h1)
    | false =>
      refine ⟨_, rfl, _, rfl, iteF ⟨_, rfl, _, rfl, _, _, rfl, rfl, _, _, rfl, _, rfl, (by show 2 ≤ sizeLine; decide), fun T1 h1 => ?_⟩⟩
      exact k T1 _ upd_same (Same.upd h1)
theorem ok_narrowed (T : LX K mg L) : Cal P w K mg base "narrowed" 1 L.f_narrowed ["bounds", "gap", "passed"] (spNar) := T.d_narrowed.cal fun fd F => fn_narrowed T F
abbrev N_explanations : List Str := ["log", "ahead", "gaps", "bounds", "found", "failures"]
theorem sc_explanations : FnScope N_explanations ["log"] (defScope st_explanations) := ⟨rfl, rfl, rfl, by decide +kernel, rfl, by decide +kernel, by decide +kernel⟩
theorem fn_explanations (T : LX K mg L) {fd : FuncData} (F : Fun K "explanations" "explanations" st_explanations L.f_explanations fd) : FnOk P w K mg base CX0 5 L.f_explanations fd ["log"] (spExpl) := by
  have G_checklog := ok_checklog (P := P) (w := w) (base := base) T
  have G_passesahead := ok_passesahead (P := P) (w := w) (base := base) T
  have G_gapsof := ok_gapsof (P := P) (w := w) (base := base) T
  obtain ⟨tk_MOST_TIME, c_MOST_TIME⟩ := T.n_MOST_TIME
  have G_narrowed := ok_narrowed (P := P) (w := w) (base := base) T
  have nd := sc_explanations.nd
  refine F.ok sc_explanations (fun vs H Q E h => ?_) (fun cdv A outer S H vs Q E hr h => ?_)
  · obtain ⟨a, xs, ps, rfl, _⟩ := h
    rfl
  · obtain ⟨a, xs, ps, rfl, ha, hx, ok, k⟩ := h
    refine ⟨_, (pss_cons (ps_expr (pe_c G_checklog (hr.mono (by decide)) rfl (pa_cons (pv 0) pa_nil)))
       (pss_cons (ps_set (i := 1) nd rfl (Or.inl rfl) (pe_c G_passesahead (hr.mono (by decide)) rfl (pa_cons (pv 0) pa_nil)))
       (pss_cons (ps_if (pt_cmpR op_eq (pv 1) pe_int (nomark _)) (pss_one (ps_ret (pe_ifExp (pt_truth (pv 0) (fun _ => rfl)) (pe_lst pa_nil) (pe_lst (pa_cons (pe_tup (pa_cons pe_int (pa_cons pe_int (pa_cons (pe_gI c_MOST_TIME) pa_nil)))) pa_nil))))) pss_nil)
       (pss_cons (ps_set (i := 2) nd rfl (Or.inl rfl) (pe_c G_gapsof (hr.mono (by decide)) rfl (pa_cons (pv 0) pa_nil)))
       (pss_cons (ps_set (i := 3) nd rfl (Or.inl rfl) (pe_tup (pa_cons pe_int (pa_cons (pe_gI c_MOST_TIME) pa_nil))))
       (pss_cons (ps_set (i := 4) nd rfl (Or.inl rfl) (pe_lst pa_nil))
       (pss_cons (ps_for PassesOwn.never rfl (pi_range3 rfl T.b_range (pa_cons (pe_callB call_len_seq (by rfl) T.b_len PySem.boot_len (pa_cons (pv 0) pa_nil)) (pa_cons pe_int (pa_cons (pe_un un_neg pe_int) pa_nil)))) (pg_name (i := 5) nd rfl (Or.inl rfl)) (C8.pss_cut (ps_if (pt_cmpR op_lt (pv 5) (pe_callB call_len_seq (by rfl) T.b_len PySem.boot_len (pa_cons (pv 0) pa_nil)) (nomark _)) (pss_one (ps_set (i := 3) nd rfl (Or.inl rfl) (pe_c G_narrowed (hr.mono (by decide)) rfl (pa_cons (pv 3) (pa_cons (pe_ix (r := rIxL K) ix_list (pv 2) (pv 5) (fun _ _ => rfl)) (pa_cons (pe_ix (r := rIxT K) ix_tup (pe_ix (r := rIxL K) ix_list (pv 0) (pv 5) (fun _ _ => rfl)) pe_int (fun _ _ => rfl)) pa_nil)))))) pss_nil)
       (pss_one (ps_if (PW.pt (pw_and (pt_cmpR op_le (pv 5) (pv 1) (nomark _)) (pw_and1 (pt_cmpR op_le (pe_ix (r := rIxT K) ix_tup (pv 3) pe_int (fun _ _ => rfl)) (pe_ix (r := rIxT K) ix_tup (pv 3) pe_int (fun _ _ => rfl)) (nomark _))))) (pss_one (ps_expr (pe_bm PySem.F.plainAttrs_list PySem.F.slot_list_append PySem.F.type_list_append mt_append (pv 4) (pa_cons (pe_tup (pa_cons (pv 5) (pa_cons (pe_ix (r := rIxT K) ix_tup (pv 3) pe_int (fun _ _ => rfl)) (pa_cons (pe_ix (r := rIxT K) ix_tup (pv 3) pe_int (fun _ _ => rfl)) pa_nil)))) pa_nil)))) pss_nil))))
       (pss_one (ps_ret (pe_revL (pv 4))))))))))), ?_⟩
    have xl := paired_len hx
    have ln := ok.ln
    refine ⟨_, rfl, a, xs, ps, rfl, ha, hx, ok, fun H1 s1 => ?_⟩
    refine ⟨_, rfl, a, xs, ps, rfl, s1 _ _ ha, hx.same s1, ln, fun H2 s2 => ?_⟩
    have s12 := s1.trans s2
    refine ⟨_, rfl, rfl, _, rfl, ?_⟩
    refine ite2 (fun c => ?_) (fun c => ?_)
    · have c0 : aheadG ps = 0 := by have := V.int.inj (of_decide_eq_true c); omega
      cases ps with
      | nil =>
        have x0 : xs = [] := List.length_eq_zero_iff.mp xl
        subst x0
        refine ⟨_, rfl, false, .inl ⟨_, SqL.of (s12 _ _ ha), rfl⟩, iteF ⟨(by show 3 ≤ sizeLine; decide), fun t nt => ⟨(by show 1 ≤ sizeLine; decide), fun l nl => ?_⟩⟩⟩
        exact k l _ _ upd_same (.cons ⟨t, rfl, (Same.upd nl) _ _ upd_same⟩ .nil) ((s12.trans (Same.upd nt)).trans (Same.upd nl)) (none_of (s12.trans (Same.upd nt)) nl)
      | cons q r =>
        refine ⟨_, rfl, true, .inl ⟨_, SqL.of (s12 _ _ ha), ?_⟩, iteT ⟨(by show 0 ≤ sizeLine; decide), fun l nl => ?_⟩⟩
        · cases xs with
          | nil => cases xl
          | cons => rfl
        refine k l [] _ upd_same ?_ (s12.trans (Same.upd nl)) (none_of s12 nl)
        have e : exG (q :: r) = [] := by
          unfold exG
          rw [if_neg (fun z => nomatch z)]
          unfold exUp
          rw [List.flatMap_eq_nil_iff]
          intro j _
          unfold exF
          rw [if_neg (fun z => by have := z.1; omega)]
        rw [e]
        exact .nil
    have h0 : 1 ≤ aheadG ps := by
      have : ¬ aheadG ps = 0 := fun z => c (decide_eq_true (by rw [z]; rfl))
      omega
    have hl := ahead_le ps
    refine ⟨_, rfl, a, xs, ps, rfl, s12 _ _ ha, hx.same s12, by omega, fun lg H3 hg s3 nlg => ?_⟩
    have s13 := s12.trans s3
    refine ⟨(by show 2 ≤ sizeLine; decide), fun tb ntb => ⟨(by show 0 ≤ sizeLine; decide), fun lf nlf => ?_⟩⟩
    have sb := Same.upd (o := .tup [.int 1, .int 1000000000000000000000000000000]) ntb
    have sf := Same.upd (o := .lst []) nlf
    have sbf := sb.trans sf
    have s1f := s13.trans sbf
    have xal : (xs.length : Int) ≤ 1000 := by omega
    refine ⟨_, rfl, a, _, rfl, .inl (SqL.of (s1f _ _ ha)), 1, rfl, _, _, _, _, rfl, RgC.neg (by omega) (by omega) (by decide) (by decide), ?_⟩
    rw [Int.sub_zero, Int.toNat_natCast]
    refine for_rangeC (lo := (xs.length : Int)) (c := -1) (n := xs.length) (fun i σ Hx => ∃ (v5 : Option V) (b : Addr) (ys : List V), σ = [some (.ref a), some (.int (aheadG ps : Int)), some (.ref lg), some (.ref b), some (.ref lf), v5] ∧ Hx b = some (.tup [.int (bnG ps (if i = 0 then ps.length else ps.length - i + 1)).1, .int (bnG ps (if i = 0 then ps.length else ps.length - i + 1)).2]) ∧ Hx lf = some (.lst ys) ∧ Brs Hx ys (exRev ps i) ∧ Same H3 Hx)
      ⟨none, tb, [], rfl, by rw [if_pos rfl, bn_end]; exact sf _ _ upd_same, upd_same, .nil, sbf⟩ ?_ ?_
    · rintro i σ Hx hi ⟨v5, b, ys, rfl, hb, hlf, hys, sx⟩
      have ef : (xs.length : Int) + (i : Int) * -1 = ((ps.length - i : Nat) : Int) := by omega
      rw [ef]
      obtain ⟨f, hf⟩ : ∃ f, f = ps.length - i := ⟨_, rfl⟩
      rw [← hf, exRev_succ, ← hf]
      have sHx := s13.trans sx
      have hax := sHx _ _ ha
      obtain ⟨f1, f2⟩ : 1 ≤ f ∧ f ≤ ps.length := ⟨by omega, by omega⟩
      have yl := hys.len
      have yl2 := exRev_len ps i
      refine ⟨fun σ' H' => ∃ b' : Addr, σ' = [some (.ref a), some (.int (aheadG ps : Int)), some (.ref lg), some (.ref b'), some (.ref lf), some (.int (f : Int))] ∧ H' b' = some (.tup [.int (bnG ps f).1, .int (bnG ps f).2]) ∧ Same Hx H', ?_, ?_⟩
      · refine ⟨_, rfl, _, rfl, a, _, rfl, .inl (SqL.of hax), _, _, rfl, rfl, _, rfl, ?_⟩
        by_cases c0 : i = 0
        · rw [if_pos c0] at hb
          rw [decide_eq_false (show ¬ (f : Int) < (xs.length : Nat) by omega)]
          refine iteF ⟨b, rfl, ?_, Same.refl _⟩
          rw [show f = ps.length by omega]
          exact hb
        · rw [if_neg c0] at hb
          rw [decide_eq_true (show (f : Int) < (xs.length : Nat) by omega)]
          obtain ⟨x, hx1⟩ : ∃ x, xs[f]? = some x := ⟨_, List.getElem?_eq_getElem (by omega)⟩
          obtain ⟨⟨t, p⟩, hp, c, rfl, hc⟩ := paired_get hx hx1
          obtain ⟨q1, u, q2, q3⟩ := bn_step hp f1 h0
          have hgf := gapL_at hp
          rw [q2] at hgf
          have hgf2 : ((gapL ps).map gpV)[f]? = some (.int (t - u)) := by rw [List.getElem?_map, hgf]; rfl
          rw [show ps.length - i + 1 = f + 1 by omega] at hb
          refine iteT ⟨_, rfl, _, rfl, _, rfl, lg, _, (f : Int), .int (t - u), rfl, rfl, SqL.of (sx _ _ hg), atI_nat hgf2, ?_⟩
          refine ⟨_, rfl, _, rfl, a, _, (f : Int), .ref c, rfl, rfl, SqL.of hax, atI_nat hx1, c, _, 1, .bl p, rfl, rfl, SqT.of (sHx _ _ hc), rfl, ?_⟩
          refine ⟨b, bnG ps (f + 1), t - u, p, rfl, hb, fun T' H' hT sT => ⟨T', rfl, ?_, sT⟩⟩
          rw [q1, q3]
          exact hT
      rintro σ' H' ⟨b', rfl, hb', s'⟩
      have eb : (if i + 1 = 0 then ps.length else ps.length - (i + 1) + 1) = f := by rw [if_neg (Nat.succ_ne_zero i)]; omega
      rw [eb]
      have hlf' := s' _ _ hlf
      have hys' : Brs H' ys (exRev ps i) := hys.nl (NL.of s')
      have nof : ∀ q : ¬ (f ≤ aheadG ps ∧ (bnG ps f).1 ≤ (bnG ps f).2), ∃ (v5 : Option V) (b : Addr) (ys : List V), [some (V.ref a), some (V.int (aheadG ps : Int)), some (V.ref lg), some (V.ref b'), some (V.ref lf), some (V.int (f : Int))] = [some (.ref a), some (.int (aheadG ps : Int)), some (.ref lg), some (.ref b), some (.ref lf), v5] ∧ H' b = some (.tup [.int (bnG ps f).1, .int (bnG ps f).2]) ∧ H' lf = some (.lst ys) ∧ Brs H' ys (exRev ps i ++ exF ps f) ∧ Same H3 H' := fun q => by
        unfold exF
        rw [if_neg q, List.append_nil]
        exact ⟨_, _, _, rfl, hb', hlf', hys', sx.trans s'⟩
      refine ⟨_, rfl, _, rfl, _, _, rfl, rfl, _, rfl, ?_⟩
      refine ite2 (fun d1 => ?_) (fun d1 => nof fun q => d1 (decide_eq_true (by omega)))
      have d1' := of_decide_eq_true d1
      refine ⟨_, rfl, b', _, 0, .int (bnG ps f).1, rfl, rfl, SqT.of hb', rfl, _, rfl, b', _, 1, .int (bnG ps f).2, rfl, rfl, SqT.of hb', rfl, _, _, rfl, rfl, _, rfl, ?_⟩
      refine ite2 (fun d2 => ?_) (fun d2 => nof fun q => d2 (decide_eq_true q.2))
      have d2' := of_decide_eq_true d2
      refine ⟨_, rfl, .inl ⟨rfl, _, SqL.of hlf'⟩, _, rfl, _, rfl, b', _, 0, .int (bnG ps f).1, rfl, rfl, SqT.of hb', rfl, _, rfl, b', _, 1, .int (bnG ps f).2, rfl, rfl, SqT.of hb', rfl, (by show 3 ≤ sizeLine; decide), fun t3 nt3 => ?_⟩
      have s3' := Same.upd (o := .tup [.int (f : Int), .int (bnG ps f).1, .int (bnG ps f).2]) nt3
      have hlf3 := s3' _ _ hlf'
      have n6 := NL.upd (o := .lst (ys ++ [.ref t3])) hlf3
      refine ⟨lf, ys, _, rfl, rfl, hlf3, small1 (by omega), _, b', ys ++ [.ref t3], rfl, n6 _ _ (s3' _ _ hb') (fun _ z => nomatch z), upd_same, ?_, fun p o e => ?_⟩
      · unfold exF
        rw [if_pos ⟨by omega, d2'⟩]
        exact Brs.app ((hys'.nl (NL.of s3')).nl n6) (.cons ⟨t3, rfl, n6 _ _ upd_same fun _ z => nomatch z⟩ .nil)
      · rw [upd_ne (ne_of_none e (none_of sb nlf))]
        exact s3' _ _ (s' _ _ (sx _ _ e))
    · rintro σ Hx ⟨v5, b, ys, rfl, hb, hlf, hys, sx⟩
      refine ⟨_, rfl, lf, ys, rfl, SqL.of hlf, fun l nl => ?_⟩
      refine k l _ _ upd_same ?_ ((s13.trans sx).trans (Same.upd nl)) (none_of (s13.trans sx) nl)
      have e : exG ps = (exRev ps xs.length).reverse := by
        rw [xl, ex_all]
        unfold exG
        rw [if_neg (fun z => by rw [z] at h0; exact absurd h0 (by decide))]
      rw [e]
      exact paired_rev (hys.nl (NL.of (Same.upd nl)))
theorem ok_explanations (T : LX K mg L) : Cal P w K mg base "explanations" 5 L.f_explanations ["log"] (spExpl) := T.d_explanations.cal fun fd F => fn_explanations T F
end
/-! ### k45 -/
def spLLog : Sp := fun vs H Q _ => ∃ x b a ns, vs = [x, .ref a] ∧ BrAt H x b ∧ OkT b ∧ H a = some (.lst (ns.map V.int)) ∧ ns.length ≤ 1000 ∧ ∀ l zs H', H' l = some (.lst zs) → Lgs H' zs (lgG b ("closed", 0) ns) → Same H H' → H l = none → Q (.ref l) H'
def spLTimes : Sp := fun vs H Q _ => ∃ s u n, vs = [.ref s, .int u] ∧ Src H s n ∧ n ≤ 700000 ∧ 1 ≤ u ∧ u ≤ 100000000000000000000 ∧
  ∀ l ns H', H' l = some (.lst (ns.map V.int)) → Asc 0 ns → ns.length ≤ 40 → Src H' s (n + 250) → Kp s H H' → H l = none → Q (.ref l) H'
theorem asc_app : ∀ {lo : Int} {ns : List Int} {t : Int}, Asc lo ns → lstG lo ns ≤ t → Asc lo (ns ++ [t])
  | _, [], _, _, h => ⟨h, True.intro⟩
  | _, _ :: _, _, ⟨h1, h2⟩, h => ⟨h1, asc_app h2 h⟩
theorem lgG_far {f : Int} : ∀ (ns : List Int) (k : Int), k + ns.length < f → lgG (f, 1, 1) ("closed", k) ns = ns.map fun t => (t, true)
  | [], _, _ => rfl
  | t :: r, k, h => by
    rw [List.length_cons] at h
    have hp : psB (f, 1, 1) ("closed", k) t := fun e => absurd e sC_O
    have e : nxG (f, 1, 1) ("closed", k) t = (("closed", k + 1) : StD) := (if_pos hp).trans ((badS_closed rfl).trans (if_pos (show k + 1 < f by omega)))
    show (t, decide (psB (f, 1, 1) ("closed", k) t)) :: lgG (f, 1, 1) (nxG (f, 1, 1) ("closed", k) t) r = _
    rw [e, decide_eq_true hp, lgG_far r (k + 1) (by omega)]
    rfl
theorem lgG_three : lgG (1, 1000000000000000000000000000000, 1000000000000) ("closed", 0) [0, 999999999999999999999999999999, 1000000000000000000000000000000] = [(0, true), (999999999999999999999999999999, false), (1000000000000000000000000000000, true)] := by decide +kernel
def spLRight : Sp := fun vs H Q _ => ∃ s, vs = [.ref s] ∧ Src H s 0 ∧ ∀ H', Kp s H H' → Q (.bl true) H'
section
variable {P : Program} {w : World} {K : PySem.W.Frag} {mg : Str → Option Value} {base : Heap} {L : LA}
abbrev N_wlog : List Str := ["_law_breaker", "_law_times", "_law_found", "_law_left", "_law_since", "_law_time", "_law_is_passed"]
theorem sc_wlog : FnScope N_wlog ["_law_breaker", "_law_times"] (defScope st__law_log) := ⟨rfl, rfl, rfl, by decide +kernel, rfl, by decide +kernel, by decide +kernel⟩
theorem fn_wlog (T : LX K mg L) {fd : FuncData} (F : Fun K "_law_log" "_law_log" st__law_log L.f__law_log fd) : FnOk P w K mg base CX0 1 L.f__law_log fd ["_law_breaker", "_law_times"] (spLLog) := by
  have nd := sc_wlog.nd
  refine F.ok sc_wlog (fun vs H Q E h => ?_) (fun cdv A outer S H vs Q E hr h => ?_)
  · obtain ⟨x, b, a, ns, rfl, _⟩ := h
    rfl
  · obtain ⟨x, b, a, ns, rfl, hb, okb, ha, hl, k⟩ := h
    refine ⟨_, (pss_cons (ps_par3 (i := 2) (j := 3) (l := 4) (by rfl) nd rfl rfl rfl (by decide) (by decide) (by decide) rfl rfl rfl (pa_cons (pe_lst pa_nil) (pa_cons (pe_ix (r := rIxT K) ix_tup (pv 0) pe_int (fun _ _ => rfl)) (pa_cons pe_non pa_nil))) (by rfl))
       (pss_cons (ps_for PassesOwn.never rfl (pi_list (pv 1)) (pg_name (i := 5) nd rfl (Or.inl rfl)) (C8.pss_cut (ps_set (i := 6) nd rfl (Or.inl rfl) (pe_or (pe_cmp (pc_isN (pv 4))) (pe_one (pe_cmpR op_ge (pv 5) (pe_op op_add (pv 4) (pe_ix (r := rIxT K) ix_tup (pv 0) pe_int (fun _ _ => rfl))) (nomark _)))))
       (C8.pss_cut (ps_if (pt_val (pv 6)) (pss_cons (ps_set (i := 3) nd rfl (Or.inl rfl) (pe_callB (call_max2 rfl) (by rfl) T.b_max (by decide +kernel) (pa_cons (pe_op op_sub (pv 3) pe_int) (pa_cons pe_int pa_nil))))
       (pss_one (ps_set (i := 4) nd rfl (Or.inl rfl) (pe_ifExp (pt_cmpR op_eq (pv 3) pe_int (nomark _)) (pv 5) pe_non)))) pss_nil)
       (pss_one (ps_expr (pe_bm PySem.F.plainAttrs_list PySem.F.slot_list_append PySem.F.type_list_append mt_append (pv 2) (pa_cons (pe_tup (pa_cons (pv 5) (pa_cons (pv 6) pa_nil))) pa_nil)))))))
       (pss_one (ps_ret (pv 2))))), ?_⟩
    obtain ⟨ab, rfl, hab⟩ := hb
    refine ⟨(by show 0 ≤ sizeLine; decide), fun l nl => ?_⟩
    have s1 := Same.upd (o := .lst []) nl
    refine ⟨_, rfl, ab, _, 0, .int b.1, rfl, rfl, SqT.of (s1 _ _ hab), rfl, _, _, _, rfl, ?_⟩
    refine ⟨_, rfl, a, rfl, ⟨_, SqL.of (s1 _ _ ha)⟩, ?_⟩
    refine for_list (K := K) (a := a) (xs := ns.map V.int) (fun i σ Hx => ∃ (lf : Int) (sn : V) (v5 v6 : Option V) (zs : List V), σ = [some (.ref ab), some (.ref a), some (.ref l), some (.int lf), some sn, v5, v6] ∧ LfR b (stG b ("closed", 0) (ns.take i)) lf sn ∧ Hx l = some (.lst zs) ∧ Lgs Hx zs (lgG b ("closed", 0) (ns.take i)) ∧ Same H Hx)
      ⟨b.1, .non, none, none, [], rfl, by have := LfR.cl (b := b) 0 (Int.le_refl 0) (by have := okb.1; omega); rwa [Int.sub_zero] at this, upd_same, .nil, s1⟩ (fun i σ Hx _ ⟨_, _, _, _, _, _, _, _, _, sx⟩ => SqL.of (sx _ _ ha)) ?_ ?_
    · rintro i v σ Hx hxi ⟨lf, sn, v5, v6, zs, rfl, hlf, hlx, hz, sx⟩
      rw [List.getElem?_map] at hxi
      obtain ⟨t, ht, rfl⟩ := Option.map_eq_some_iff.mp hxi
      have e : ns.take (i + 1) = ns.take i ++ [t] := by rw [List.take_add_one, ht]; rfl
      have zl := paired_len hz
      rw [lgG_len, List.length_take] at zl
      rw [e, stG_app, lgG_app]
      generalize stG b ("closed", 0) (ns.take i) = s at hlf ⊢
      have habx := sx _ _ hab
      refine ⟨fun σ' H' => σ' = [some (.ref ab), some (.ref a), some (.ref l), some (.int lf), some sn, some (.int t), some (.bl (decide (psB b s t)))] ∧ H' = Hx, ?_, ?_⟩
      · cases hlf with
        | cl n n0 n1 =>
          rw [decide_eq_true (show psB b ("closed", n) t from fun e => absurd e sC_O)]
          exact ⟨_, rfl, _, rfl, iteT ⟨rfl, rfl⟩⟩
        | op u =>
          have e : decide (psB b ("open", u) t) = decide (u + b.2.1 ≤ t) := by
            rw [Bool.eq_iff_iff, decide_eq_true_iff, decide_eq_true_iff]
            exact ⟨fun h => by have h2 : b.2.1 ≤ t - u := h rfl; omega, fun h _ => by show b.2.1 ≤ t - u; omega⟩
          rw [e]
          exact ⟨_, rfl, _, rfl, iteF ⟨_, rfl, _, rfl, _, rfl, ab, _, 1, .int b.2.1, rfl, rfl, SqT.of habx, rfl, _, _, rfl, rfl, _, _, rfl, rfl, rfl, rfl⟩⟩
      rintro σ' H' ⟨rfl, rfl⟩
      refine ⟨fun σ2 H2 => ∃ lf2 sn2, σ2 = [some (.ref ab), some (.ref a), some (.ref l), some (.int lf2), some sn2, some (.int t), some (.bl (decide (psB b s t)))] ∧ LfR b (nxG b s t) lf2 sn2 ∧ H2 = H', ?_, ?_⟩
      · refine ⟨_, rfl, _, rfl, ite2 (fun q => ?_) (fun q => ?_)⟩
        · have q' := of_decide_eq_true q
          rw [show nxG b s t = badS b s t from if_pos q']
          cases hlf with
          | cl n n0 n1 =>
            rw [badS_closed rfl]
            refine ⟨_, rfl, _, _, rfl, rfl, _, _, rfl, ?_⟩
            refine ⟨_, rfl, rfl, _, rfl, ?_⟩
            by_cases c : n + 1 < b.1
            · rw [if_pos c, if_neg (show ¬ (0 : Int) > b.1 - n - 1 by omega), dec_int, show ((b.1 - n - 1 == 0) : Bool) = false from by simpa using (show ¬ b.1 - n - 1 = 0 by omega)]
              refine iteF ⟨_, _, rfl, ?_, rfl⟩
              have := LfR.cl (b := b) (n + 1) (by omega) c
              rwa [show b.1 - (n + 1) = b.1 - n - 1 by omega] at this
            · rw [if_neg c, if_neg (show ¬ (0 : Int) > b.1 - n - 1 by omega), dec_int, show ((b.1 - n - 1 == 0) : Bool) = true from by simpa using (show b.1 - n - 1 = 0 by omega)]
              refine iteT ⟨_, rfl, _, _, rfl, ?_, rfl⟩
              rw [show b.1 - n - 1 = 0 by omega]
              exact .op t
          | op u =>
            rw [badS_other sO_C]
            refine ⟨_, rfl, _, _, rfl, rfl, _, _, rfl, ?_⟩
            exact ⟨_, rfl, rfl, _, rfl, iteT ⟨_, rfl, _, _, rfl, .op t, rfl⟩⟩
        · rw [show nxG b s t = s from if_neg fun z => q (decide_eq_true z)]
          exact ⟨_, _, rfl, hlf, rfl⟩
      rintro σ2 H2 ⟨lf2, sn2, rfl, hlf2, rfl⟩
      refine ⟨_, rfl, .inl ⟨rfl, _, SqL.of hlx⟩, _, rfl, _, rfl, (by show 2 ≤ sizeLine; decide), fun p np => ?_⟩
      have s5 := Same.upd (o := .tup [.int t, .bl (decide (psB b s t))]) np
      have hl5 := s5 _ _ hlx
      refine ⟨l, _, _, rfl, rfl, hl5, small1 (by omega), ?_⟩
      have n6 := NL.upd (o := .lst (zs ++ [.ref p])) hl5
      refine ⟨lf2, sn2, _, _, zs ++ [.ref p], rfl, hlf2, upd_same, ?_, fun u o h => ?_⟩
      · exact paired_app ((hz.same s5).nl n6) (.cons ⟨p, rfl, n6 _ _ upd_same fun _ z => nomatch z⟩ .nil)
      · rw [upd_ne (ne_of_none h nl)]
        exact s5 _ _ (sx _ _ h)
    · rintro σ Hx ⟨lf, sn, v5, v6, zs, rfl, hlf, hlx, hz, sx⟩
      rw [List.length_map, List.take_length] at hz
      exact ⟨_, rfl, k l zs Hx hlx hz sx nl⟩
theorem ok_wlog (T : LX K mg L) : Cal P w K mg base "_law_log" 1 L.f__law_log ["_law_breaker", "_law_times"] (spLLog) := T.d__law_log.cal fun fd F => fn_wlog T F
end
/-! ### k46 (and k47): logs drawn -/
def spSeen : Sp := fun vs H Q _ => ∃ (s : Addr) (m : Int) (n : Nat), vs = [.ref s, .int m] ∧ Src H s n ∧ n ≤ 700000 ∧ 0 ≤ m ∧ m ≤ 12 ∧ ∀ l zs ps H', H' l = some (.lst zs) → Lgs H' zs ps → Asc 0 (ps.map (·.1)) → (ps.length : Int) ≤ m → (∀ p ∈ ps, p.1 ≤ 200) → Src H' s (n + 100) → Kp s H H' → H l = none → Q (.ref l) H'
theorem lgG_fst (b : Tri) : ∀ (ns : List Int) (s : StD), (lgG b s ns).map (·.1) = ns
  | [], _ => rfl
  | t :: r, s => by
    show t :: (lgG b (nxG b s t) r).map (·.1) = _
    rw [lgG_fst b r]
theorem paired_set {α β : Type} {F : α → β → Prop} : ∀ {xs : List α} {ys : List β} {i : Nat} {x : α} {y : β}, Paired F xs ys → F x y → Paired F (xs.set i x) (ys.set i y)
  | _, _, _, _, _, .nil, _ => .nil
  | _, _, 0, _, _, .cons _ t, h => .cons h t
  | _, _, i + 1, _, _, .cons z t, h => .cons z (paired_set (i := i) t h)
theorem map_set_fst : ∀ {ps : Lg} {i : Nat} {t : Int} {p q : Bool}, ps[i]? = some (t, p) → (ps.set i (t, q)).map (·.1) = ps.map (·.1)
  | [], _, _, _, _, h => by cases h
  | x :: r, 0, t, p, q, h => by
    have h := Option.some.inj h
    rw [h]
    rfl
  | x :: r, i + 1, t, p, q, h => by
    show x.1 :: (r.set i (t, q)).map (·.1) = _
    rw [map_set_fst (ps := r) (i := i) (p := p) h]
    rfl
theorem ixN_ofN {n i : Nat} (h : i < n) : ixN n (i : Int) = some i := by
  unfold ixN
  rw [if_pos (show (0 : Int) ≤ i by omega), if_pos (show (i : Int) < n by omega)]
  congr 1
section
variable {P : Program} {w : World} {K : PySem.W.Frag} {mg : Str → Option Value} {base : Heap} {L : LA}
abbrev N_wseen : List Str := ["_law_well_here", "_law_most", "_law_times", "_law_time", "_law_turn", "_law_found", "_law_at"]
theorem sc_wseen : FnScope N_wseen ["_law_well_here", "_law_most"] (defScope st__law_seen) := ⟨rfl, rfl, rfl, by decide +kernel, rfl, by decide +kernel, by decide +kernel⟩
theorem fn_wseen (T : LX K mg L) {fd : FuncData} (F : Fun K "_law_seen" "_law_seen" st__law_seen L.f__law_seen fd) : FnOk P w K mg base CX0 4 L.f__law_seen fd ["_law_well_here", "_law_most"] (spSeen) := by
  have G_wlog := ok_wlog (P := P) (w := w) (base := base) T
  have G_wdraw := ok_wdraw (P := P) (w := w) (base := base) T
  have G_wone := ok_wone (P := P) (w := w) (base := base) T
  have nd := sc_wseen.nd
  refine F.ok sc_wseen (fun vs H Q E h => ?_) (fun cdv A outer S H vs Q E hr h => ?_)
  · obtain ⟨s, m, n, rfl, _⟩ := h
    rfl
  · obtain ⟨s, m, n, rfl, src, hn, m0, m12, k⟩ := h
    refine ⟨_, (pss_cons (ps_par (i := 2) (j := 3) (by rfl) nd rfl rfl (by decide) rfl rfl (pa_cons (pe_lst pa_nil) (pa_cons (pe_c G_wdraw (hr.mono (by decide)) rfl (pa_cons (pv 0) (pa_cons pe_int pa_nil))) pa_nil)) (by rfl))
       (pss_cons (ps_for PassesOwn.never rfl (pi_range1 rfl T.b_range (pa_cons (pe_c G_wdraw (hr.mono (by decide)) rfl (pa_cons (pv 0) (pa_cons (pe_op op_add (pv 1) pe_int) pa_nil))) pa_nil)) (pg_name (i := 4) nd rfl (Or.inl rfl)) (pss_cons (ps_expr (pe_bm PySem.F.plainAttrs_list PySem.F.slot_list_append PySem.F.type_list_append mt_append (pv 2) (pa_cons (pv 3) pa_nil)))
       (pss_one (ps_set (i := 3) nd rfl (Or.inl rfl) (pe_op op_add (pv 3) (pe_c G_wone (hr.mono (by decide)) rfl (pa_cons (pv 0) (pa_cons (pe_lst (pa_cons pe_int (pa_cons pe_int (pa_cons pe_int (pa_cons (pe_op op_add pe_int (pe_c G_wdraw (hr.mono (by decide)) rfl (pa_cons (pv 0) (pa_cons pe_int pa_nil)))) pa_nil))))) pa_nil))))))))
       (pss_cons (ps_set (i := 5) nd rfl (Or.inl rfl) (pe_c G_wlog (hr.mono (by decide)) rfl (pa_cons (pe_tup (pa_cons (pe_op op_add pe_int (pe_c G_wdraw (hr.mono (by decide)) rfl (pa_cons (pv 0) (pa_cons pe_int pa_nil)))) (pa_cons (pe_op op_add pe_int (pe_c G_wdraw (hr.mono (by decide)) rfl (pa_cons (pv 0) (pa_cons pe_int pa_nil)))) (pa_cons pe_int pa_nil)))) (pa_cons (pv 2) pa_nil))))
       (C8.pss_cut (ps_if (PW.pt (pw_and (pt_cmpR (op_neD hr.units) (pv 5) (pe_lst pa_nil) (nomark _)) (pw_and1 (pt_cmpR op_eq (pe_c G_wdraw (hr.mono (by decide)) rfl (pa_cons (pv 0) (pa_cons pe_int pa_nil))) pe_int (nomark _))))) (pss_cons (ps_set (i := 6) nd rfl (Or.inl rfl) (pe_c G_wdraw (hr.mono (by decide)) rfl (pa_cons (pv 0) (pa_cons (pe_callB call_len_seq (by rfl) T.b_len PySem.boot_len (pa_cons (pv 5) pa_nil)) pa_nil))))
       (pss_one (ps_asg (pe_tup (pa_cons (pe_ix (r := rIxT K) ix_tup (pe_ix (r := rIxL K) ix_list (pv 5) (pv 6) (fun _ _ => rfl)) pe_int (fun _ _ => rfl)) (pa_cons (pe_not (pe_ix (r := rIxT K) ix_tup (pe_ix (r := rIxL K) ix_list (pv 5) (pv 6) (fun _ _ => rfl)) pe_int (fun _ _ => rfl))) pa_nil))) (pg_sub (pv 5) (pv 6) set_list)))) pss_nil)
       (pss_one (ps_ret (pv 5))))))), ?_⟩
    obtain ⟨ys, hys⟩ := src.has
    have one : ∀ {lo : Addr} {Hx : Hp} {m : Nat}, Src Hx s m → Hx lo = none → s ≠ lo := fun S e => by
      obtain ⟨y, hy⟩ := S.has
      exact ne_of_none hy e
    refine ⟨(by show 0 ≤ sizeLine; decide), fun l nl => ?_⟩
    have s1 := Same.upd (o := .lst []) nl
    have nls : s ≠ l := ne_of_none hys nl
    refine ⟨_, rfl, s, 3, n, rfl, by decide, by decide +kernel, src.same s1, by omega, fun t0 H1 t00 t01 src1 k1 => ⟨_, _, rfl, ?_⟩⟩
    refine ⟨_, rfl, _, rfl, _, _, rfl, rfl, s, m + 1, _, rfl, by omega, Nat.lt_of_le_of_lt (show (m + 1).natAbs ≤ 13 by omega) (by decide +kernel), src1, by omega, fun q H2 q0 q1 src2 k2 => ⟨q, rfl, by omega, by omega, ?_⟩⟩
    refine for_range (lo := 0) (n := q.toNat) (fun j σ Hx => ∃ (v4 : Option V) (t : Int) (ns : List Int), σ = [some (.ref s), some (.int m), some (.ref l), some (.int t), v4, none, none] ∧ Hx l = some (.lst (ns.map V.int)) ∧ Asc 0 ns ∧ lstG 0 ns ≤ t ∧ t ≤ 2 + 9 * (j : Int) ∧ (∀ x ∈ ns, x ≤ 2 + 9 * (j : Int)) ∧ ns.length = j ∧ Kp s H Hx ∧ Src Hx s (n + 2 + 3 * j))
      ⟨none, t0, [], rfl, k2 _ _ nls.symm (k1 _ _ nls.symm upd_same), True.intro, t00, by omega, fun x h => (nomatch h), rfl, ((Kp.of s1).trans k1).trans k2, src2⟩ ?_ ?_
    · rintro j σ Hx hj ⟨v4, t, ns, rfl, hlx, asc, lt, tb, nb, nj, kx, srcx⟩
      refine ⟨_, rfl, .inl ⟨rfl, _, SqL.of hlx⟩, _, rfl, l, _, _, rfl, rfl, hlx, small1 (by rw [List.length_map]; omega), ?_⟩
      obtain ⟨H3, hH3⟩ : ∃ H3 : Hp, H3 = upd Hx l (.lst (ns.map V.int ++ [.int t])) := ⟨_, rfl⟩
      rw [← hH3]
      have k3 : Kp l Hx H3 := by rw [hH3]; exact Kp.upd
      have hl3 : H3 l = some (.lst ((ns ++ [t]).map V.int)) := by rw [hH3, upd_same, List.map_append]; rfl
      have src3 := src_kp k3 nls srcx
      refine ⟨_, rfl, _, rfl, _, rfl, s, 9, _, rfl, by decide, by decide +kernel, src3, by omega, fun r H4 r0 r1 src4 k4 => ⟨_, _, rfl, rfl, (by show 4 ≤ sizeLine; decide), fun lo hlo => ?_⟩⟩
      have s5 := Same.upd (o := .lst [.int 1, .int 1, .int 2, .int (1 + r)]) hlo
      refine ⟨s, lo, _, _, rfl, one src4 hlo, upd_same, Nat.succ_pos _, (by show 4 ≤ 100000; decide), src4.same s5, by omega, fun v H6 hv src6 k6 => ?_⟩
      obtain ⟨c, rfl, c0, c1⟩ : ∃ c, v = .int c ∧ 1 ≤ c ∧ c ≤ 9 := by
        simp only [List.mem_cons, List.mem_nil_iff, or_false] at hv
        rcases hv with rfl | rfl | rfl | rfl
        all_goals exact ⟨_, rfl, by omega, by omega⟩
      have k36 := (k4.trans (Kp.of s5)).trans k6
      refine ⟨_, _, rfl, rfl, _, _, ns ++ [t], rfl, k36 _ _ nls.symm hl3, asc_app asc lt, ?_, by omega, fun x hx => ?_, by rw [List.length_append, nj]; rfl, ?_, src6.mono (by omega)⟩
      · rw [lst_app]
        show t + 1 ≤ t + c
        omega
      · rcases List.mem_append.mp hx with hx | hx
        · have := nb x hx
          omega
        · have : x = t := by simpa using hx
          omega
      · intro b o nb' e
        refine k36 _ _ nb' ?_
        rw [hH3, upd_ne (ne_of_none e nl)]
        exact kx _ _ nb' e
    · rintro σ Hx ⟨v4, t, ns, rfl, hlx, asc, lt, tb, nb, nj, kx, srcx⟩
      refine ⟨_, rfl, s, 5, _, rfl, by decide, by decide +kernel, srcx, by omega, fun b1 H5 b10 b11 src5 k5 => ⟨_, _, rfl, rfl, _, rfl, s, 12, _, rfl, by decide, by decide +kernel, src5, by omega, fun b2 H6 b20 b21 src6 k6 => ⟨_, _, rfl, rfl, (by show 3 ≤ sizeLine; decide), fun tb ntb => ?_⟩⟩⟩
      have s8 := Same.upd (o := .tup [.int (1 + b1), .int (1 + b2), .int 1]) ntb
      obtain ⟨b, hb⟩ : ∃ b : Tri, b = (1 + b1, 1 + b2, 1) := ⟨_, rfl⟩
      have htb : (upd H6 tb (.tup [.int (1 + b1), .int (1 + b2), .int 1])) tb = some (.tup (TriV b)) := by rw [hb]; exact upd_same
      have okb : OkT b := by
        rw [hb]
        exact ⟨by show 1 ≤ 1 + b1; omega, by show 1 + b1 ≤ _; omega, by show 1 ≤ 1 + b2; omega, by show 1 + b2 ≤ _; omega, by show (1 : Int) ≤ 1; decide, by show (1 : Int) ≤ 1000000000000; decide⟩
      have k48 := (k5.trans k6).trans (Kp.of s8)
      have src8 := src6.same s8
      have hl8 := k48 _ _ nls.symm hlx
      generalize upd H6 tb (.tup [.int (1 + b1), .int (1 + b2), .int 1]) = H8 at htb k48 src8 hl8 s8 ⊢
      refine ⟨_, rfl, .ref tb, b, l, ns, rfl, ⟨tb, rfl, htb⟩, okb, hl8, by omega, fun lf zs H9 hlf hzs s9 nlf => ?_⟩
      have src9 := src8.same s9
      have nlfs : s ≠ lf := one src8 nlf
      obtain ⟨ps, hps⟩ : ∃ ps, ps = lgG b ("closed", 0) ns := ⟨_, rfl⟩
      rw [← hps] at hzs
      have pf : ps.map (·.1) = ns := by rw [hps]; exact lgG_fst b ns _
      have pl : ps.length = ns.length := by rw [← pf, List.length_map]
      clear hps
      have zl := paired_len hzs
      have kx9 : Kp s H H9 := (kx.trans k48).trans (Kp.of s9)
      have nHlf : H lf = none := by
        cases c : H lf with
        | none => rfl
        | some o =>
          have := (kx.trans k48) _ _ nlfs.symm c
          rw [nlf] at this
          cases this
      refine ⟨fun σ' H' => ∃ (v6 : Option V) (zs : List V) (ps : Lg), σ' = [some (.ref s), some (.int m), some (.ref l), some (.int t), v4, some (.ref lf), v6] ∧ H' lf = some (.lst zs) ∧ Lgs H' zs ps ∧ ps.map (·.1) = ns ∧ Src H' s (n + 80) ∧ Kp s H H', ?_, ?_⟩
      · refine ⟨_, rfl, (by show 0 ≤ sizeLine; decide), fun le hle => ?_⟩
        have sE := Same.upd (o := .lst []) hle
        refine ⟨_, _, Lgs.dpl (sE _ _ hlf) (hzs.same sE), Lgs.dpl (ps := []) upd_same .nil, lg_sh _, lg_sh _, _, rfl, ?_⟩
        rw [lg_eq]
        obtain ⟨HE, hHE⟩ : ∃ HE, HE = upd H9 le (.lst []) := ⟨_, rfl⟩
        rw [← hHE] at sE ⊢
        have srcE := src9.same sE
        by_cases c0 : ps = []
        · rw [decide_eq_true c0]
          exact iteF ⟨_, zs, ps, rfl, sE _ _ hlf, hzs.same sE, pf, srcE.mono (by omega), kx9.trans (Kp.of sE)⟩
        rw [decide_eq_false c0]
        have pl0 : 0 < ps.length := List.length_pos_iff.mpr c0
        refine iteT ⟨_, rfl, s, 3, _, rfl, by decide, by decide +kernel, srcE, by omega, fun r1 HF r10 r11 srcF kF => ⟨rfl, _, rfl, ?_⟩⟩
        have hlfF := kF _ _ nlfs.symm (sE _ _ hlf)
        obtain ⟨yE, hyE⟩ := srcE.has
        have hzF : Lgs HF zs ps := (hzs.same sE).nl (Kp.nl kF hyE)
        have kHF : Kp s H HF := (kx9.trans (Kp.of sE)).trans kF
        refine ite2 (fun c1 => ?_) (fun c1 => ⟨_, zs, ps, rfl, hlfF, hzF, pf, srcF.mono (by omega), kHF⟩)
        refine ⟨_, rfl, _, rfl, lf, _, rfl, .inl (SqL.of hlfF), s, (zs.length : Int), _, rfl, by omega, Nat.lt_of_le_of_lt (show (zs.length : Int).natAbs ≤ 13 by omega) (by decide +kernel), srcF, by omega, fun r2 HG r20 r21 srcG kG => ?_⟩
        obtain ⟨i, rfl⟩ := Int.eq_ofNat_of_zero_le r20
        have hlfG := kG _ _ nlfs.symm hlfF
        obtain ⟨yF, hyF⟩ := srcF.has
        have hzG : Lgs HG zs ps := hzF.nl (Kp.nl kG hyF)
        obtain ⟨x, hx⟩ : ∃ x, zs[i]? = some x := ⟨_, List.getElem?_eq_getElem (by omega)⟩
        obtain ⟨⟨t, p⟩, hp, c, rfl, hc⟩ := paired_get hzG hx
        refine ⟨_, rfl, _, rfl, lf, _, (i : Int), .ref c, rfl, rfl, SqL.of hlfG, atI_nat hx, c, _, 0, .int t, rfl, rfl, SqT.of hc, rfl, ?_⟩
        refine ⟨_, rfl, _, rfl, lf, _, (i : Int), .ref c, rfl, rfl, SqL.of hlfG, atI_nat hx, c, _, 1, .bl p, rfl, rfl, SqT.of hc, rfl, ?_⟩
        refine ⟨p, rfl, (by show 2 ≤ sizeLine; decide), fun tq ntq => ?_⟩
        have sQ := Same.upd (o := .tup [.int t, .bl (!p)]) ntq
        have hlfQ := sQ _ _ hlfG
        have n6 := NL.upd (o := .lst (zs.set i (.ref tq))) hlfQ
        refine ⟨_, rfl, _, rfl, lf, zs, (i : Int), i, rfl, rfl, hlfQ, ixN_ofN (by omega), ?_⟩
        have psl : i < ps.length := by omega
        refine ⟨_, zs.set i (.ref tq), ps.set i (t, !p), rfl, upd_same, paired_set ((hzG.same sQ).nl n6) ⟨tq, rfl, n6 _ _ upd_same fun _ z => nomatch z⟩, ?_, ?_, ?_⟩
        · rw [map_set_fst hp, pf]
        · exact src_kp Kp.upd nlfs ((srcG.same sQ).mono (by omega))
        · intro b' o nb' e
          rw [upd_ne (ne_of_none e nHlf)]
          exact sQ _ _ (kG _ _ nb' (kHF _ _ nb' e))
      rintro σ' H' ⟨v6, zs, ps, rfl, hlf', hz', pf', src', k'⟩
      refine ⟨_, rfl, k lf zs ps H' hlf' hz' (by rw [pf']; exact asc) (by rw [← List.length_map (f := (·.1)), pf']; omega) (fun p hp => ?_) (src'.mono (by omega)) k' nHlf⟩
      have : p.1 ∈ ns := by rw [← pf']; exact List.mem_map_of_mem hp
      have := nb _ this
      omega
theorem ok_wseen (T : LX K mg L) : Cal P w K mg base "_law_seen" 4 L.f__law_seen ["_law_well_here", "_law_most"] (spSeen) := T.d__law_seen.cal fun fd F => fn_wseen T F
end
/-! ### k46: all breakers tried -/
def TwAt (H : Hp) (v : V) (p : Int × Int) : Prop := ∃ a, v = .ref a ∧ H a = some (.tup [.int p.1, .int p.2])
theorem TwAt.nl {H H' : Hp} (k : NL H H') {v : V} {p : Int × Int} (h : TwAt H v p) : TwAt H' v p := by
  obtain ⟨a, e, h⟩ := h
  exact ⟨a, e, k _ _ h fun _ z => nomatch z⟩
def fwG (ps : Lg) (top i : Nat) : List Nat := (List.range top).filter fun j => fitC (1 + (i : Int)) (1 + (j : Int)) 0 ps
def fitL (ps : Lg) (top n : Nat) : List (Int × Int) := (List.range n).flatMap fun i => (fwG ps top i).map fun (j : Nat) => (1 + (i : Int), 1 + (j : Int))
theorem fitL_succ (ps : Lg) (top n : Nat) : fitL ps top (n + 1) = fitL ps top n ++ (fwG ps top n).map fun (j : Nat) => (1 + (n : Int), 1 + (j : Int)) := by
  unfold fitL
  rw [List.range_succ, List.flatMap_append]
  simp
theorem fwG_len (ps : Lg) (top i : Nat) : (fwG ps top i).length ≤ top := by
  unfold fwG
  have := List.length_filter_le (fun j : Nat => fitC (1 + (i : Int)) (1 + (j : Int)) 0 ps) (List.range top)
  rwa [List.length_range] at this
theorem fitL_len (ps : Lg) (top : Nat) : ∀ n : Nat, (fitL ps top n).length ≤ top * n
  | 0 => Nat.zero_le _
  | n + 1 => by
    rw [fitL_succ, List.length_append, List.length_map, Nat.mul_succ]
    have := fitL_len ps top n
    have := fwG_len ps top n
    omega
def spFits : Sp := fun vs H Q _ => ∃ (a : Addr) (zs : List V) (ps : Lg) (top : Nat), vs = [.ref a, .int (top : Int)] ∧ H a = some (.lst zs) ∧ Lgs H zs ps ∧ ps.length ≤ 12 ∧ 1 ≤ top ∧ top ≤ 400 ∧ ∀ l ws H', H' l = some (.lst ws) → Paired (TwAt H') ws (fitL ps top (ps.length + 1)) → Same H H' → H l = none → Q (.ref l) H'
section
variable {P : Program} {w : World} {K : PySem.W.Frag} {mg : Str → Option Value} {base : Heap} {L : LA}
abbrev N_wfits : List Str := ["_law_log_here", "_law_most", "_law_times", "_law_found", "_law_failures", "_law_time", "_law_is_passed", "_law_wait"]
theorem sc_wfits : FnScope N_wfits ["_law_log_here", "_law_most"] (defScope st__law_fits) := ⟨rfl, rfl, rfl, by decide +kernel, rfl, by decide +kernel, by decide +kernel⟩
theorem fn_wfits (T : LX K mg L) {fd : FuncData} (F : Fun K "_law_fits" "_law_fits" st__law_fits L.f__law_fits fd) : FnOk P w K mg base CX0 2 L.f__law_fits fd ["_law_log_here", "_law_most"] (spFits) := by
  have G_wlog := ok_wlog (P := P) (w := w) (base := base) T
  have nd := sc_wfits.nd
  refine F.ok sc_wfits (fun vs H Q E h => ?_) (fun cdv A outer S H vs Q E hr h => ?_)
  · obtain ⟨a, zs, ps, top, rfl, _⟩ := h
    rfl
  · obtain ⟨a, zs, ps, top, rfl, ha, hz, pl, t0, t1, k⟩ := h
    refine ⟨_, (pss_cons (ps_asg (pe_tup (pa_cons (pe_lc (own := [("_law_time", 5), ("_law_is_passed", 6)]) (g := gTup K 2 (gCons (gName 5) (gCons (gName 6) (gNil)))) (tt := tYes) rfl nd (pi_list (pv 0)) (blkOk_by (own := [("_law_time", 5), ("_law_is_passed", 6)]) (N := N_wfits) (sc := defScope st__law_fits) (by decide +kernel)) (fun _ _ _ _ _ => pg_tup rfl (pgs_cons (pg_name (i := 5) nd rfl (Or.inl rfl)) (pgs_cons (pg_name (i := 6) nd rfl (Or.inl rfl)) pgs_nil))) (fun _ _ _ _ _ => pts_nil) (fun _ _ _ _ _ => (pv 5))) (pa_cons (pe_lst pa_nil) pa_nil))) (pg_tup rfl (pgs_cons (pg_name (i := 2) nd rfl (Or.inr rfl)) (pgs_cons (pg_name (i := 3) nd rfl (Or.inl rfl)) pgs_nil))))
       (pss_cons (ps_for PassesOwn.never rfl (pi_range2 rfl T.b_range (pa_cons pe_int (pa_cons (pe_op op_add (pe_callB call_len_seq (by rfl) T.b_len PySem.boot_len (pa_cons (pv 0) pa_nil)) pe_int) pa_nil))) (pg_name (i := 4) nd rfl (Or.inr rfl)) (pss_one (ps_expr (pe_bm PySem.F.plainAttrs_list PySem.F.slot_list_extend PySem.F.type_list_extend mt_extend (pv 3) (pa_cons (pe_lc (own := [("_law_wait", 7)]) (g := gName 7) rfl nd (pi_range2 rfl T.b_range (pa_cons pe_int (pa_cons (pe_op op_add (pv 1) pe_int) pa_nil))) (blkOk_by (own := [("_law_wait", 7)]) (N := N_wfits) (sc := defScope st__law_fits) (by decide +kernel)) (fun _ _ _ _ _ => pg_name (i := 7) nd rfl (Or.inl rfl)) (fun _ _ _ _ _ => pts_one (pt_cmpR (op_eqDK (K := K) rfl hr.units) (pe_c G_wlog (hr.mono (by decide)) rfl (pa_cons (pe_tup (pa_cons (pv 4) (pa_cons (pv 7) (pa_cons pe_int pa_nil)))) (pa_cons (pv 2) pa_nil))) (pv 0) (nomark _))) (fun _ _ _ _ _ => (pe_tup (pa_cons (pv 4) (pa_cons (pv 7) pa_nil))))) pa_nil)))))
       (pss_one (ps_ret (pv 3))))), ?_⟩
    have zl := paired_len hz
    refine ⟨_, rfl, a, rfl, ⟨_, SqL.of ha⟩, fun D hD => ?_⟩
    refine lc_list (K := K) (a := a) (xs := zs) (fun j Hx => Hx D = some (.lst (((ps.take j).map (·.1)).map V.int)) ∧ Same H Hx) ⟨upd_same, Same.upd hD⟩ (fun j Hx _ ⟨_, sx⟩ => SqL.of (sx _ _ ha)) ?_ ?_
    · rintro j x Hx hxj ⟨hDx, sx⟩
      obtain ⟨⟨t, p⟩, hp, c, rfl, hc⟩ := paired_get hz hxj
      have hj := (List.getElem?_eq_some_iff.mp hxj).1
      refine ⟨c, _, rfl, SqT.of (sx _ _ hc), rfl, _, _, rfl, _, _, rfl, rfl, rfl, tYes_of ⟨_, rfl, _, hDx, small1 (by rw [List.length_map, List.length_map, List.length_take]; omega), ?_, fun b o e => by rw [upd_ne (ne_of_none e hD)]; exact sx _ _ e⟩⟩
      rw [upd_same, List.take_add_one, hp, List.map_append, List.map_append]
      rfl
    rintro H1 ⟨hD1, s1⟩
    rw [zl, List.take_length] at hD1
    refine ⟨(by show 0 ≤ sizeLine; decide), fun lf nlf => ⟨(by show 2 ≤ sizeLine; decide), fun tp ntp => ⟨tp, _, rfl, SqT.of upd_same, rfl, _, _, rfl, _, _, rfl, rfl, ?_⟩⟩⟩
    have s2 := Same.upd (o := .lst []) nlf
    have s3 := Same.upd (o := .tup [.ref D, .ref lf]) ntp
    have s13 := (s1.trans s2).trans s3
    have hD3 := s3 _ _ (s2 _ _ hD1)
    have hlf3 := s3 _ _ (upd_same (H := H1) (a := lf) (o := .lst []))
    have nHf : H lf = none := none_of s1 nlf
    have nfD : lf ≠ D := (ne_of_none hD1 nlf).symm
    generalize upd (upd H1 lf (.lst [])) tp (.tup [.ref D, .ref lf]) = H3 at s13 hD3 hlf3 ⊢
    refine ⟨_, rfl, a, _, rfl, .inl (SqL.of (s13 _ _ ha)), _, _, rfl, rfl, 1, _, rfl, ⟨by decide, by decide, by omega, by omega⟩, ?_⟩
    rw [show ((zs.length : Int) + 2 - 1).toNat = ps.length + 1 by omega]
    refine for_range (lo := 1) (n := ps.length + 1) (fun i σ Hx => ∃ (v4 v5 v6 v7 : Option V) (ws : List V), σ = [some (.ref a), some (.int (top : Int)), some (.ref D), some (.ref lf), v4, v5, v6, v7] ∧ Hx lf = some (.lst ws) ∧ Paired (TwAt Hx) ws (fitL ps top i) ∧ Hx D = some (.lst ((ps.map (·.1)).map V.int)) ∧ Same H Hx)
      ⟨_, _, _, _, [], rfl, hlf3, .nil, hD3, s13⟩ ?_ ?_
    · rintro i σ Hx hi ⟨v4, v5, v6, v7, ws, rfl, hlf, hw, hDx, sx⟩
      have wl := paired_len hw
      have fl := fitL_len ps top i
      have fl2 : top * i ≤ 400 * 13 := Nat.mul_le_mul t1 (by omega)
      refine ⟨_, rfl, .inl ⟨rfl, _, SqL.of hlf⟩, ?_⟩
      refine ⟨_, rfl, _, _, rfl, rfl, 1, _, rfl, ⟨by decide, by decide, by omega, by omega⟩, fun E0 hE0 => ?_⟩
      rw [show ((top : Int) + 1 - 1).toNat = top by omega]
      have nElf : lf ≠ E0 := ne_of_none hlf hE0
      refine lc_range (lo := 1) (n := top) (fun j Hy => ∃ us, Hy E0 = some (.lst us) ∧ Paired (TwAt Hy) us (((List.range j).filter fun (q : Nat) => fitC (1 + (i : Int)) (1 + (q : Int)) 0 ps).map fun (q : Nat) => (1 + (i : Int), 1 + (q : Int))) ∧ us.length ≤ j ∧ Same Hx Hy) ⟨[], upd_same, .nil, Nat.le_refl _, Same.upd hE0⟩ ?_ ?_
      · rintro j Hy hj ⟨us, hus, hu, ul, sy⟩
        have sHy := sx.trans sy
        refine ⟨rfl, ?_⟩
        refine ⟨_, rfl, _, rfl, (by show 3 ≤ sizeLine; decide), fun tb ntb => ?_⟩
        have s4 := Same.upd (o := .tup [.int (1 + (i : Int)), .int (1 + (j : Int)), .int 1]) ntb
        have okb : OkT (1 + (i : Int), 1 + (j : Int), 1) := ⟨by show 1 ≤ 1 + (i : Int); omega, by show 1 + (i : Int) ≤ _; omega, by show 1 ≤ 1 + (j : Int); omega, by show 1 + (j : Int) ≤ _; omega, by show (1 : Int) ≤ 1; decide, by show (1 : Int) ≤ 1000000000000; decide⟩
        refine ⟨_, rfl, .ref tb, (1 + (i : Int), 1 + (j : Int), 1), D, ps.map (·.1), rfl, ⟨tb, rfl, upd_same⟩, okb, s4 _ _ (sy _ _ hDx), by rw [List.length_map]; omega, fun lg zg Hz hlg hzg s5 nlg => ?_⟩
        have s45 := s4.trans s5
        refine ⟨_, rfl, _, _, Lgs.dpl hlg hzg, Lgs.dpl (s45 _ _ (sHy _ _ ha)) (hz.same (sHy.trans s45)), lg_sh _, lg_sh _, _, rfl, ?_⟩
        rw [lg_eq, lg_closed, List.range_succ, List.filter_append, List.map_append]
        have hus5 := s45 _ _ hus
        by_cases c : fitC (1 + (i : Int)) (1 + (j : Int)) 0 ps = true
        · rw [List.filter_cons, if_pos c, List.filter_nil]
          rw [c]
          refine iteT ⟨_, rfl, _, rfl, (by show 2 ≤ sizeLine; decide), fun t2 nt2 => ?_⟩
          have s6 := Same.upd (o := .tup [.int (1 + (i : Int)), .int (1 + (j : Int))]) nt2
          have hus6 := s6 _ _ hus5
          have n7 := NL.upd (o := .lst (us ++ [.ref t2])) hus6
          refine ⟨us, hus6, small1 (by omega), us ++ [.ref t2], upd_same, paired_app (L2.Paired.mapP hu fun _ _ z => (z.nl (NL.of (s45.trans s6))).nl n7) (.cons ⟨t2, rfl, n7 _ _ upd_same fun _ z => nomatch z⟩ .nil), by rw [List.length_append]; exact Nat.succ_le_succ ul, fun b o e => ?_⟩
          rw [upd_ne (ne_of_none e hE0)]
          exact s6 _ _ (s45 _ _ (sy _ _ e))
        · rw [List.filter_cons, if_neg c, List.filter_nil, List.map_nil, List.append_nil]
          have c' : fitC (1 + (i : Int)) (1 + (j : Int)) 0 ps = false := by simpa using c
          rw [c']
          exact iteF ⟨us, hus5, L2.Paired.mapP hu fun _ _ z => z.nl (NL.of s45), Nat.le_succ_of_le ul, sy.trans s45⟩
      rintro Hy ⟨us, hus, hu, ul, sy⟩
      have hlfy := sy _ _ hlf
      refine ⟨lf, E0, ws, us, rfl, rfl, hlfy, hus, small2 (by omega), ?_⟩
      have n7 := NL.upd (o := .lst (ws ++ us)) hlfy
      have nDf : D ≠ lf := fun e => nfD e.symm
      refine ⟨_, _, _, _, ws ++ us, rfl, upd_same, ?_, ?_, fun b o e => ?_⟩
      · rw [fitL_succ]
        exact paired_app (L2.Paired.mapP hw fun _ _ z => (z.nl (NL.of sy)).nl n7) (L2.Paired.mapP hu fun _ _ z => z.nl n7)
      · rw [upd_ne nDf]
        exact sy _ _ hDx
      · rw [upd_ne (ne_of_none e nHf)]
        exact sy _ _ (sx _ _ e)
    · rintro σ Hx ⟨v4, v5, v6, v7, ws, rfl, hlf, hw, hDx, sx⟩
      exact ⟨_, rfl, k lf ws Hx hlf hw sx nHf⟩
theorem ok_wfits (T : LX K mg L) : Cal P w K mg base "_law_fits" 2 L.f__law_fits ["_law_log_here", "_law_most"] (spFits) := T.d__law_fits.cal fun fd F => fn_wfits T F
end
/-! ### k46: what is due -/
def ivN (a b : Int) : List Int := (List.range (b - a).toNat).map fun (i : Nat) => a + (i : Int)
theorem rgV_iv (a b : Int) : rgV a b = (ivN a b).map V.int := by
  unfold rgV ivN
  rw [List.map_map]
  rfl
theorem ivN_len (a b : Int) : (ivN a b).length = (b - a).toNat := by
  unfold ivN
  rw [List.length_map, List.length_range]
theorem ivN_succ {a b : Int} (h : a ≤ b) : ivN a (b + 1) = ivN a b ++ [b] := by
  unfold ivN
  rw [show (b + 1 - a).toNat = (b - a).toNat + 1 by omega, List.range_succ, List.map_append]
  congr 1
  show [a + ((b - a).toNat : Int)] = [b]
  congr 1
  omega
theorem filter_iv (a b : Nat) : ∀ top : Nat, (List.range top).filter (fun j => decide (a ≤ j) && decide (j < b)) = (List.range (min b top - a)).map (· + a)
  | 0 => by simp
  | top + 1 => by
    rw [List.range_succ, List.filter_append, filter_iv a b top]
    by_cases c : a ≤ top ∧ top < b
    · rw [show [top].filter (fun j => decide (a ≤ j) && decide (j < b)) = [top] from by simp [c.1, c.2], show min b (top + 1) - a = (min b top - a) + 1 by omega, List.range_succ, List.map_append]
      congr 1
      show [top] = [min b top - a + a]
      congr 1
      omega
    · rw [show [top].filter (fun j => decide (a ≤ j) && decide (j < b)) = [] from by
        rw [List.filter_cons, if_neg (fun z => c (by simpa using z)), List.filter_nil], List.append_nil]
      congr 2
      omega
theorem asc_top : ∀ {ns : List Int} {lo : Int}, Asc lo ns → lo ≤ lstG lo ns ∧ ∀ x ∈ ns, x + 1 ≤ lstG lo ns
  | [], lo, _ => ⟨Int.le_refl _, fun x h => nomatch h⟩
  | x :: r, lo, ⟨h1, h2⟩ => by
    obtain ⟨i1, i2⟩ := asc_top h2
    have i1 : x + 1 ≤ lstG (x + 1) r := i1
    refine ⟨?_, fun y hy => ?_⟩
    · show lo ≤ lstG (x + 1) r
      omega
    · show y + 1 ≤ lstG (x + 1) r
      rcases List.mem_cons.mp hy with rfl | hy
      · exact i1
      · exact i2 y hy
def topG (ps : Lg) : Nat := if ps = [] then 2 else (lstG 0 (ps.map (·.1)) + 1).toNat
def dueG (ps : Lg) (i : Nat) : List Tri := if ps = [] then (if i = 0 then [] else [(1, 1, mtE)]) else exUp ps i
theorem dueG_end (ps : Lg) : dueG ps (max 1 ps.length) = exG ps := by
  unfold dueG exG
  by_cases c : ps = []
  · rw [if_pos c, if_pos c, if_neg (by omega)]
  · have := List.length_pos_iff.mpr c
    rw [if_neg c, if_neg c, Nat.max_eq_right (by omega)]
theorem dueG_len (ps : Lg) (i : Nat) : (dueG ps i).length ≤ i + 1 := by
  unfold dueG
  split
  · split
    · exact Nat.zero_le _
    · exact Nat.succ_le_succ (Nat.zero_le _)
  · exact Nat.le_succ_of_le (exUp_len ps i)
theorem fitL_pick (ps : Lg) (top i : Nat) : ∀ n : Nat, ((fitL ps top n).filter fun p => decide (p.1 = 1 + (i : Int))).map (·.2) = if i < n then (fwG ps top i).map (fun (j : Nat) => 1 + (j : Int)) else []
  | 0 => by
    rw [if_neg (Nat.not_lt_zero _)]
    rfl
  | n + 1 => by
    rw [fitL_succ, List.filter_append, List.map_append, fitL_pick ps top i n]
    by_cases c : i = n
    · subst c
      rw [if_neg (Nat.lt_irrefl _), if_pos (Nat.lt_succ_self _), List.filter_eq_self.mpr (fun p hp => by
        obtain ⟨k, _, rfl⟩ := List.mem_map.mp hp
        exact decide_eq_true rfl), List.map_map, List.nil_append]
      rfl
    · rw [List.filter_eq_nil_iff.mpr (fun p hp => by
        obtain ⟨k, _, rfl⟩ := List.mem_map.mp hp
        simp
        omega), List.map_nil, List.append_nil]
      by_cases d : i < n
      · rw [if_pos d, if_pos (by omega)]
      · rw [if_neg d, if_neg (by omega)]
theorem fw_iv {ps : Lg} {top a b i : Nat} (h : ∀ j : Nat, j < top → fitC (1 + (i : Int)) (1 + (j : Int)) 0 ps = (decide (a ≤ j) && decide (j < b))) : (fwG ps top i).map (fun (j : Nat) => 1 + (j : Int)) = ivN (1 + (a : Int)) (1 + ((max a (min b top) : Nat) : Int)) := by
  unfold fwG ivN
  rw [List.filter_congr (q := fun j => decide (a ≤ j) && decide (j < b)) fun j hj => h j (List.mem_range.mp hj), filter_iv, List.map_map, show (1 + ((max a (min b top) : Nat) : Int) - (1 + (a : Int))).toNat = min b top - a by omega]
  refine List.map_congr_left fun j _ => ?_
  show 1 + ((j + a : Nat) : Int) = 1 + (a : Int) + (j : Int)
  omega
theorem fw_none {ps : Lg} {top i : Nat} (h : ∀ j : Nat, j < top → fitC (1 + (i : Int)) (1 + (j : Int)) 0 ps = false) : (fwG ps top i).map (fun (j : Nat) => 1 + (j : Int)) = [] := by
  unfold fwG
  rw [List.filter_eq_nil_iff.mpr fun j hj => by rw [h j (List.mem_range.mp hj)]; decide]
  rfl
theorem due_turn {ps : Lg} (asc : Asc 0 (ps.map (·.1))) (hb : ∀ p ∈ ps, p.1 ≤ 200) {i : Nat} (hi : i < max 1 ps.length) : ((fwG ps (topG ps) i).map (fun (j : Nat) => 1 + (j : Int)) = [] ∧ dueG ps (i + 1) = dueG ps i) ∨
    ∃ lo mn hi' : Int, (fwG ps (topG ps) i).map (fun (j : Nat) => 1 + (j : Int)) = ivN lo (mn + 1) ∧ 1 ≤ lo ∧ lo ≤ mn ∧ mn ≤ 400 ∧ dueG ps (i + 1) = dueG ps i ++ [(1 + (i : Int), lo, hi')] ∧ (if mn < (topG ps : Int) then mn else mtE) = hi' := by
  by_cases c : ps = []
  · subst c
    have i0 : i = 0 := by have : max 1 ([] : Lg).length = 1 := rfl; omega
    subst i0
    exact .inr ⟨1, 2, mtE, by decide +kernel, by decide, by decide, by decide, rfl, by decide +kernel⟩
  have n0 := List.length_pos_iff.mpr c
  have il : i < ps.length := by omega
  obtain ⟨q, hq⟩ : ∃ q, q ∈ ps := List.exists_mem_of_length_pos n0
  obtain ⟨t1, t2⟩ := asc_top asc
  have nn := asc_nn (Int.le_refl 0) asc
  have pb : ∀ p ∈ ps, 0 ≤ p.1 ∧ p.1 ≤ lstG 0 (ps.map (·.1)) - 1 := fun p hp => ⟨nn _ (List.mem_map_of_mem hp), by have := t2 _ (List.mem_map_of_mem hp); omega⟩
  have M0 : 0 ≤ lstG 0 (ps.map (·.1)) - 1 := by have := pb q hq; omega
  have M1 : lstG 0 (ps.map (·.1)) - 1 ≤ 200 := by
    have e : ps.map (·.1) = (ps.map (·.1)).dropLast ++ [(ps.map (·.1)).getLast (by simpa using c)] := (List.dropLast_concat_getLast _).symm
    have hm := List.getLast_mem (l := ps.map (·.1)) (by simpa using c)
    rw [e, lst_app]
    obtain ⟨p, hp, ep⟩ := List.mem_map.mp hm
    have := hb p hp
    omega
  have eT : (topG ps : Int) = lstG 0 (ps.map (·.1)) - 1 + 2 := by
    unfold topG
    rw [if_neg c]
    omega
  have eD : dueG ps (i + 1) = dueG ps i ++ exF ps (i + 1) := by
    unfold dueG
    rw [if_neg c, if_neg c, exUp_succ]
  obtain ⟨⟨b1, b2⟩, b3⟩ := bnG_bd M0 pb (i + 1)
  have mt : mtE = 1000000000000000000000000000000 := rfl
  have key : ∀ j : Nat, j < topG ps → fitC (1 + (i : Int)) (1 + (j : Int)) 0 ps = (decide (i + 1 ≤ aheadG ps) && (decide ((bnG ps (i + 1)).1 ≤ 1 + (j : Int)) && decide (1 + (j : Int) ≤ (bnG ps (i + 1)).2))) := fun j hj => by
    rw [← fitC_bn (ps := ps) (f := i + 1) (w := 1 + (j : Int)) (by omega) (by omega) (by omega) (by omega)]
    congr 1
    omega
  rw [eD]
  unfold exF
  by_cases d : i + 1 ≤ aheadG ps ∧ (bnG ps (i + 1)).1 ≤ (bnG ps (i + 1)).2
  · rw [if_pos d]
    obtain ⟨d1, d2⟩ := d
    generalize bnG ps (i + 1) = bb at key b1 b2 b3 d2 ⊢
    obtain ⟨lo, hi⟩ := bb
    have b1 : 1 ≤ lo := b1
    have b2 : lo ≤ lstG 0 (ps.map (·.1)) - 1 + 1 := b2
    have b3 : hi = mtE ∨ hi ≤ lstG 0 (ps.map (·.1)) - 1 := b3
    have d2 : lo ≤ hi := d2
    have key : ∀ j : Nat, j < topG ps → fitC (1 + (i : Int)) (1 + (j : Int)) 0 ps = (decide ((lo - 1).toNat ≤ j) && decide (j < hi.toNat)) := fun j hj => by
      rw [key j hj, decide_eq_true d1, Bool.true_and]
      congr 1
      · rw [decide_eq_decide]
        show lo ≤ 1 + (j : Int) ↔ _
        omega
      · rw [decide_eq_decide]
        show 1 + (j : Int) ≤ hi ↔ _
        omega
    refine .inr ⟨lo, ((min hi.toNat (topG ps) : Nat) : Int), hi, ?_, b1, by omega, by omega, ?_, ?_⟩
    · rw [fw_iv key]
      congr 1
      · omega
      · omega
    · congr 1
      show [(((i + 1 : Nat) : Int), lo, hi)] = _
      rw [show ((i + 1 : Nat) : Int) = 1 + (i : Int) by omega]
    · rcases b3 with b3 | b3
      · rw [if_neg (by omega), b3]
      · rw [if_pos (by omega)]
        omega
  · rw [if_neg d, List.append_nil]
    refine .inl ⟨fw_none fun j hj => ?_, rfl⟩
    rw [key j hj]
    cases z : (decide (i + 1 ≤ aheadG ps) && (decide ((bnG ps (i + 1)).1 ≤ 1 + (j : Int)) && decide (1 + (j : Int) ≤ (bnG ps (i + 1)).2))) with
    | false => rfl
    | true =>
      simp only [Bool.and_eq_true, decide_eq_true_iff] at z
      exact absurd ⟨z.1, Int.le_trans z.2.1 z.2.2⟩ d
def spDue : Sp := fun vs H Q _ => ∃ a zs ps, vs = [.ref a] ∧ H a = some (.lst zs) ∧ Lgs H zs ps ∧ Asc 0 (ps.map (·.1)) ∧ ps.length ≤ 12 ∧ (∀ p ∈ ps, p.1 ≤ 200) ∧ ∀ l ys H', H' l = some (.lst ys) → Brs H' ys (exG ps) → Same H H' → H l = none → Q (.ref l) H'
theorem atI_lastM {xs : List V} {v : V} {ys : List V} (h : xs = ys ++ [v]) : atI xs (-1) = some v := by
  rw [h]
  exact atI_last ys v
section
variable {P : Program} {w : World} {K : PySem.W.Frag} {mg : Str → Option Value} {base : Heap} {L : LA}
abbrev N_wdue : List Str := ["_law_log_here", "_law_top", "_law_fits_here", "_law_found", "_law_failures", "_law_waits", "_law_number", "_law_wait"]
theorem sc_wdue : FnScope N_wdue ["_law_log_here"] (defScope st__law_due) := ⟨rfl, rfl, rfl, by decide +kernel, rfl, by decide +kernel, by decide +kernel⟩
theorem fn_wdue (T : LX K mg L) {fd : FuncData} (F : Fun K "_law_due" "_law_due" st__law_due L.f__law_due fd) : FnOk P w K mg base CX0 3 L.f__law_due fd ["_law_log_here"] (spDue) := by
  have G_wfits := ok_wfits (P := P) (w := w) (base := base) T
  have nd := sc_wdue.nd
  refine F.ok sc_wdue (fun vs H Q E h => ?_) (fun cdv A outer S H vs Q E hr h => ?_)
  · obtain ⟨a, zs, ps, rfl, _⟩ := h
    rfl
  · obtain ⟨a, zs, ps, rfl, ha, hz, asc, pl, pb, k⟩ := h
    refine ⟨_, (C8.pss_cut (ps_set (i := 1) nd rfl (Or.inl rfl) (pe_ifExp (pt_cmpR (op_neD hr.units) (pv 0) (pe_lst pa_nil) (nomark _)) (pe_op op_add (pe_ix (r := rIxT K) ix_tup (pe_ix (r := rIxL K) ix_list (pv 0) (pe_un un_neg pe_int) (fun _ _ => rfl)) pe_int (fun _ _ => rfl)) pe_int) pe_int))
       (pss_cons (ps_par (i := 2) (j := 3) (by rfl) nd rfl rfl (by decide) rfl rfl (pa_cons (pe_c G_wfits (hr.mono (by decide)) rfl (pa_cons (pv 0) (pa_cons (pv 1) pa_nil))) (pa_cons (pe_lst pa_nil) pa_nil)) (by rfl))
       (pss_cons (ps_for PassesOwn.never rfl (pi_range2 rfl T.b_range (pa_cons pe_int (pa_cons (pe_op op_add (pe_callB (call_max2 rfl) (by rfl) T.b_max (by decide +kernel) (pa_cons pe_int (pa_cons (pe_callB call_len_seq (by rfl) T.b_len PySem.boot_len (pa_cons (pv 0) pa_nil)) pa_nil))) pe_int) pa_nil))) (pg_name (i := 4) nd rfl (Or.inr rfl)) (pss_cons (ps_setLc (i := 5) (own := [("_law_number", 6), ("_law_wait", 7)]) (g := gTup K 2 (gCons (gName 6) (gCons (gName 7) (gNil)))) rfl nd rfl rfl (sw_true rfl rfl rfl (by decide +kernel)) (pi_list (pv 2)) (blkOk_by (own := [("_law_number", 6), ("_law_wait", 7)]) (N := N_wdue) (sc := defScope st__law_due) (by decide +kernel)) (fun _ _ _ _ _ => pg_tup rfl (pgs_cons (pg_name (i := 6) nd rfl (Or.inl rfl)) (pgs_cons (pg_name (i := 7) nd rfl (Or.inl rfl)) pgs_nil))) (fun _ _ _ _ _ => pts_one (pt_cmpR op_eq (pv 6) (pv 4) (nomark _))) (fun _ _ _ _ _ => (pv 7)))
       (pss_cons (ps_if (PW.pt (pw_and (pt_cmpR (op_neD hr.units) (pv 5) (pe_lst pa_nil) (nomark _)) (pw_and1 (pt_cmpR (op_neD hr.units) (pv 5) (pe_listRg rfl (by rfl) T.b_list (prg_2 (by rfl) T.b_range (pe_ix (r := rIxL K) ix_list (pv 5) pe_int (fun _ _ => rfl)) (pe_op op_add (pe_ix (r := rIxL K) ix_list (pv 5) (pe_un un_neg pe_int) (fun _ _ => rfl)) pe_int))) (nomark _))))) (pss_one (ps_ret pe_non)) pss_nil)
       (pss_one (ps_if (pt_cmpR (op_neD hr.units) (pv 5) (pe_lst pa_nil) (nomark _)) (pss_one (ps_expr (pe_bm PySem.F.plainAttrs_list PySem.F.slot_list_append PySem.F.type_list_append mt_append (pv 3) (pa_cons (pe_tup (pa_cons (pv 4) (pa_cons (pe_ix (r := rIxL K) ix_list (pv 5) pe_int (fun _ _ => rfl)) (pa_cons (pe_ifExp (pt_cmpR op_lt (pe_ix (r := rIxL K) ix_list (pv 5) (pe_un un_neg pe_int) (fun _ _ => rfl)) (pv 1) (nomark _)) (pe_ix (r := rIxL K) ix_list (pv 5) (pe_un un_neg pe_int) (fun _ _ => rfl)) (pe_op op_pow pe_int pe_int)) pa_nil)))) pa_nil)))) pss_nil)))))
       (pss_one (ps_ret (pv 3)))))), ?_⟩
    have zl := paired_len hz
    have top1 : 1 ≤ topG ps ∧ topG ps ≤ 400 := by
      rcases due_turn asc pb (i := 0) (by omega) with ⟨_, _⟩ | _
      all_goals
        unfold topG
        split
        · omega
        · rename_i c
          obtain ⟨t1, t2⟩ := asc_top asc
          have e : ps.map (·.1) = (ps.map (·.1)).dropLast ++ [(ps.map (·.1)).getLast (by simpa using c)] := (List.dropLast_concat_getLast _).symm
          have hm := List.getLast_mem (l := ps.map (·.1)) (by simpa using c)
          obtain ⟨p, hp, ep⟩ := List.mem_map.mp hm
          have := pb p hp
          have l1 := lst_app 0 (ps.map (·.1)).dropLast ((ps.map (·.1)).getLast (by simpa using c))
          rw [List.dropLast_concat_getLast] at l1
          omega
    refine ⟨fun σ' H' => σ' = [some (.ref a), some (.int (topG ps : Int)), none, none, none, none, none, none] ∧ Same H H', ?_, ?_⟩
    · refine ⟨_, rfl, (by show 0 ≤ sizeLine; decide), fun le hle => ?_⟩
      have sE := Same.upd (o := .lst []) hle
      refine ⟨_, _, Lgs.dpl (sE _ _ ha) (hz.same sE), Lgs.dpl (ps := []) upd_same .nil, lg_sh _, lg_sh _, _, rfl, ?_⟩
      rw [lg_eq]
      by_cases c : ps = []
      · rw [decide_eq_true c]
        refine iteF ⟨?_, sE⟩
        rw [show topG ps = 2 from if_pos c]
        rfl
      · rw [decide_eq_false c]
        have n0 := List.length_pos_iff.mpr c
        obtain ⟨w0, hw0, hw1⟩ : ∃ v, atI zs (-1) = some v ∧ zs[zs.length - 1]? = some v := by
          have ez : zs ≠ [] := fun z => by rw [z] at zl; simp at zl; omega
          refine ⟨zs.getLast ez, atI_lastM (List.dropLast_concat_getLast ez).symm, ?_⟩
          rw [← List.getLast?_eq_getElem?, List.getLast?_eq_getLast ez]
        obtain ⟨⟨t, p⟩, hp, cc, rfl, hc⟩ := paired_get hz hw1
        refine iteT ⟨_, rfl, 1, rfl, a, _, -1, .ref cc, rfl, rfl, SqL.of (sE _ _ ha), hw0, cc, _, 0, .int t, rfl, rfl, SqT.of (sE _ _ hc), rfl, _, _, rfl, rfl, ?_, sE⟩
        have e : ps.map (·.1) = (ps.map (·.1)).take (zs.length - 1) ++ [t] := by
          have h1 : (ps.map (·.1))[zs.length - 1]? = some t := by rw [List.getElem?_map, hp]; rfl
          have h2 := List.take_add_one (l := ps.map (·.1)) (i := zs.length - 1)
          rw [h1, show zs.length - 1 + 1 = (ps.map (·.1)).length by rw [List.length_map]; omega, List.take_length] at h2
          exact h2
        have e2 : (topG ps : Int) = t + 2 := by
          unfold topG
          rw [if_neg c, e, lst_app]
          have := asc_nn (Int.le_refl 0) asc t (by rw [e]; simp)
          omega
        rw [e2]
        rfl
    rintro σ' H1 ⟨rfl, s1⟩
    refine ⟨_, rfl, _, rfl, a, zs, ps, topG ps, rfl, s1 _ _ ha, hz.same s1, pl, top1.1, top1.2, fun lw ws H2 hlw hws s2 nlw => ⟨(by show 0 ≤ sizeLine; decide), fun lf nlf => ⟨_, _, rfl, ?_⟩⟩⟩
    have s12 := s1.trans s2
    have sf := Same.upd (o := .lst []) nlf
    have s1f := s12.trans sf
    have wl := paired_len hws
    have fl := fitL_len ps (topG ps) (ps.length + 1)
    have fl2 : topG ps * (ps.length + 1) ≤ 400 * 13 := Nat.mul_le_mul top1.2 (by omega)
    refine ⟨_, rfl, a, _, rfl, .inl (SqL.of (s1f _ _ ha)), _, _, rfl, _, _, rfl, rfl, 1, _, rfl, ?_⟩
    rw [show (if (1 : Int) < (zs.length : Nat) then (zs.length : Int) else 1) = ((max 1 ps.length : Nat) : Int) by split <;> omega]
    refine ⟨⟨by decide, by decide, by omega, by omega⟩, ?_⟩
    rw [show (((max 1 ps.length : Nat) : Int) + 1 - 1).toNat = max 1 ps.length by omega]
    refine for_range (lo := 1) (n := max 1 ps.length) (fun i σ Hx => ∃ (v4 v5 v6 v7 : Option V) (ys : List V), σ = [some (.ref a), some (.int (topG ps : Int)), some (.ref lw), some (.ref lf), v4, v5, v6, v7] ∧ Hx lf = some (.lst ys) ∧ Brs Hx ys (dueG ps i) ∧ Same H2 Hx)
      ⟨_, _, _, _, [], rfl, upd_same, by
        have : dueG ps 0 = [] := by
          unfold dueG
          split <;> rfl
        rw [this]
        exact .nil, sf⟩ ?_ ?_
    · rintro i σ Hx hi ⟨v4, v5, v6, v7, ys, rfl, hlf, hys, sx⟩
      have yl := hys.len
      have dl := dueG_len ps i
      have hlwx := sx _ _ hlw
      refine ⟨_, rfl, lw, rfl, ⟨_, SqL.of hlwx⟩, fun E0 hE0 => ?_⟩
      refine lc_list (K := K) (a := lw) (xs := ws) (fun j Hy => Hy E0 = some (.lst (((((fitL ps (topG ps) (ps.length + 1)).take j).filter fun p => decide (p.1 = 1 + (i : Int))).map (·.2)).map V.int)) ∧ Same Hx Hy) ⟨upd_same, Same.upd hE0⟩ (fun j Hy _ ⟨_, sy⟩ => SqL.of (sy _ _ hlwx)) ?_ ?_
      · rintro j x Hy hxj ⟨hDy, sy⟩
        obtain ⟨q, hq, c, rfl, hc⟩ := paired_get hws hxj
        have hj := (List.getElem?_eq_some_iff.mp hxj).1
        refine ⟨c, _, rfl, SqT.of (sy _ _ (sx _ _ hc)), rfl, _, _, rfl, _, _, rfl, rfl, rfl, ?_⟩
        refine ⟨_, rfl, _, rfl, rfl, _, rfl, ?_⟩
        have ev : decide (V.int q.1 = V.int (1 + (i : Int))) = decide (q.1 = 1 + (i : Int)) := by
          rw [decide_eq_decide]
          exact ⟨fun z => V.int.inj z, fun z => by rw [z]⟩
        show if decide (V.int q.1 = V.int (1 + (i : Int))) = true then _ else _
        rw [ev, List.take_add_one, hq, List.filter_append]
        refine ite2 (fun z => ?_) (fun z => ?_)
        · rw [show (some q).toList.filter (fun p => decide (p.1 = 1 + (i : Int))) = [q] from by simpa using z, List.map_append, List.map_append]
          refine ⟨_, rfl, _, hDy, small1 ?_, upd_same, fun u w e => by rw [upd_ne (ne_of_none e hE0)]; exact sy _ _ e⟩
          rw [List.length_map, List.length_map]
          have h1 := List.length_filter_le (fun p : Int × Int => decide (p.1 = 1 + (i : Int))) ((fitL ps (topG ps) (ps.length + 1)).take j)
          rw [List.length_take] at h1
          omega
        · rw [show (some q).toList.filter (fun p => decide (p.1 = 1 + (i : Int))) = [] from by simpa using z, List.append_nil]
          exact ⟨hDy, sy⟩
      rintro H3 ⟨hE3, s3⟩
      rw [wl, List.take_length, fitL_pick, if_pos (by omega)] at hE3
      have turn := due_turn asc pb hi
      generalize (fwG ps (topG ps) i).map (fun (j : Nat) => 1 + (j : Int)) = W at hE3 turn
      have hlf3 := s3 _ _ hlf
      refine ⟨_, rfl, (by show 0 ≤ sizeLine; decide), fun le hle => ?_⟩
      have sE := Same.upd (o := .lst []) hle
      refine ⟨_, _, Dp.ints (sE _ _ hE3), Dp.ints (ns := []) upd_same, shInts _, shInts _, _, rfl, ?_⟩
      rw [eqInts]
      rcases turn with ⟨rfl, eD⟩ | ⟨lo, mn, hi', rfl, lo1, lo2, mn4, eD, em⟩
      · rw [eD, decide_eq_true rfl]
        refine iteF ⟨_, rfl, (by show 0 ≤ sizeLine; decide), fun le2 hle2 => ?_⟩
        have sE2 := sE.trans (Same.upd (o := .lst []) hle2)
        refine ⟨_, _, Dp.ints (sE2 _ _ hE3), Dp.ints (ns := []) upd_same, shInts _, shInts _, _, rfl, ?_⟩
        rw [eqInts, decide_eq_true rfl]
        exact iteF ⟨_, _, _, _, ys, rfl, sE2 _ _ hlf3, hys.nl (NL.of (s3.trans sE2)), sx.trans (s3.trans sE2)⟩
      · have hW : ivN lo (mn + 1) ≠ [] := fun z => by
          have := ivN_len lo (mn + 1)
          rw [z] at this
          have : (0 : Nat) = (mn + 1 - lo).toNat := this
          omega
        have at0 : atI ((ivN lo (mn + 1)).map V.int) ((0 : Nat) : Int) = some (.int lo) := atI_nat (by
          unfold ivN
          rw [List.getElem?_map, List.getElem?_map, List.getElem?_range (by omega)]
          show some (V.int (lo + ((0 : Nat) : Int))) = _
          rw [show lo + ((0 : Nat) : Int) = lo by omega])
        have atL : atI ((ivN lo (mn + 1)).map V.int) (-1) = some (.int mn) := atI_lastM (ys := (ivN lo mn).map V.int) (by rw [ivN_succ lo2, List.map_append]; rfl)
        rw [eD, decide_eq_false hW]
        have hE4 := sE _ _ hE3
        refine iteT ⟨_, rfl, _, rfl, E0, _, 0, .int lo, rfl, rfl, SqL.of hE4, at0, _, rfl, 1, rfl, E0, _, -1, .int mn, rfl, rfl, SqL.of hE4, atL, _, _, rfl, rfl, lo, mn + 1, rfl, rfl, .of_le (by omega) (by omega) (by omega) (by omega), fun lr hlr => ?_⟩
        rw [rgV_iv]
        have sR := sE.trans (Same.upd (o := .lst ((ivN lo (mn + 1)).map V.int)) hlr)
        refine ⟨_, _, Dp.ints (sR _ _ hE3), Dp.ints upd_same, shInts _, shInts _, _, rfl, ?_⟩
        rw [eqInts, decide_eq_true rfl]
        refine iteF ⟨_, rfl, (by show 0 ≤ sizeLine; decide), fun le2 hle2 => ?_⟩
        have sE2 := sR.trans (Same.upd (o := .lst []) hle2)
        have hE5 := sE2 _ _ hE3
        refine ⟨_, _, Dp.ints hE5, Dp.ints (ns := []) upd_same, shInts _, shInts _, _, rfl, ?_⟩
        rw [eqInts, decide_eq_false hW]
        have hlf5 := sE2 _ _ hlf3
        have sx5 := sx.trans (s3.trans sE2)
        have hys5 : Brs _ ys (dueG ps i) := hys.nl (NL.of (s3.trans sE2))
        refine iteT ⟨_, rfl, .inl ⟨rfl, _, SqL.of hlf5⟩, _, rfl, _, rfl, E0, _, 0, .int lo, rfl, rfl, SqL.of hE5, at0, ?_⟩
        generalize upd (upd (upd H3 le (.lst [])) lr (.lst ((ivN lo (mn + 1)).map V.int))) le2 (.lst []) = H5 at hlf5 sx5 hys5 hE5 ⊢
        have fin : ∀ t3 : Addr, H5 t3 = none → ∃ l xs y, V.ref lf = .ref l ∧ [V.ref t3] = [y] ∧ (upd H5 t3 (.tup [.int (1 + (i : Int)), .int lo, .int hi'])) l = some (.lst xs) ∧ xs.length < sizeLine ∧ ∃ (v4 v5 v6 v7 : Option V) (ys : List V), [some (V.ref a), some (V.int (topG ps : Int)), some (V.ref lw), some (V.ref lf), some (V.int (1 + (i : Int))), some (V.ref E0), v6, v7] = [some (.ref a), some (.int (topG ps : Int)), some (.ref lw), some (.ref lf), v4, v5, v6, v7] ∧ (upd (upd H5 t3 (.tup [.int (1 + (i : Int)), .int lo, .int hi'])) l (.lst (xs ++ [y]))) lf = some (.lst ys) ∧ Brs (upd (upd H5 t3 (.tup [.int (1 + (i : Int)), .int lo, .int hi'])) l (.lst (xs ++ [y]))) ys (dueG ps i ++ [(1 + (i : Int), lo, hi')]) ∧ Same H2 (upd (upd H5 t3 (.tup [.int (1 + (i : Int)), .int lo, .int hi'])) l (.lst (xs ++ [y]))) := by
          intro t3 nt3
          have s3' := Same.upd (o := .tup [.int (1 + (i : Int)), .int lo, .int hi']) nt3
          have n6 := NL.upd (o := .lst (ys ++ [.ref t3])) (s3' _ _ hlf5)
          refine ⟨lf, ys, _, rfl, rfl, s3' _ _ hlf5, small1 (by omega), _, _, v6, v7, ys ++ [.ref t3], rfl, upd_same, Brs.app ((hys5.nl (NL.of s3')).nl n6) (.cons ⟨t3, rfl, n6 _ _ upd_same fun _ z => nomatch z⟩ .nil), fun p o e => ?_⟩
          rw [upd_ne (ne_of_none e nlf)]
          exact s3' _ _ (sx5 _ _ e)
        by_cases d : mn < (topG ps : Int)
        · rw [if_pos d] at em
          refine ⟨_, rfl, 1, rfl, E0, _, -1, .int mn, rfl, rfl, SqL.of hE5, atL, _, rfl, _, _, rfl, rfl, _, rfl, ?_⟩
          rw [decide_eq_true d]
          refine iteT ⟨_, rfl, 1, rfl, E0, _, -1, .int mn, rfl, rfl, SqL.of hE5, atL, (by show 3 ≤ sizeLine; decide), fun t3 nt3 => ?_⟩
          rw [em]
          obtain ⟨l, xs, y, q1, q2, q3, q4, _, _, _, _, ys', _, r2, r3, r4⟩ := fin t3 nt3
          exact ⟨l, xs, y, q1, q2, q3, q4, _, _, _, _, ys', rfl, r2, r3, r4⟩
        · rw [if_neg d] at em
          refine ⟨_, rfl, 1, rfl, E0, _, -1, .int mn, rfl, rfl, SqL.of hE5, atL, _, rfl, _, _, rfl, rfl, _, rfl, ?_⟩
          rw [decide_eq_false d]
          refine iteF ⟨_, _, rfl, rfl, ⟨by decide, by decide, by decide⟩, (by show 3 ≤ sizeLine; decide), fun t3 nt3 => ?_⟩
          have e30 : (10 : Int) ^ (30 : Int).toNat = hi' := by rw [← em]; decide +kernel
          dsimp only
          rw [e30]
          obtain ⟨l, xs, y, q1, q2, q3, q4, _, _, _, _, ys', _, r2, r3, r4⟩ := fin t3 nt3
          exact ⟨l, xs, y, q1, q2, q3, q4, _, _, _, _, ys', rfl, r2, r3, r4⟩
    · rintro σ Hx ⟨v4, v5, v6, v7, ys, rfl, hlf, hys, sx⟩
      rw [dueG_end] at hys
      exact ⟨_, rfl, k lf ys Hx hlf hys (s12.trans sx) (none_of s12 nlf)⟩
theorem ok_wdue (T : LX K mg L) : Cal P w K mg base "_law_due" 3 L.f__law_due ["_law_log_here"] (spDue) := T.d__law_due.cal fun fd F => fn_wdue T F
end
/-! ### k46: the law's turns -/
theorem inV_bls : ∀ bs : List Bool, inV (.bl false) (bs.map V.bl) = !(bs.all fun b => b)
  | [] => by simp [inV]
  | b :: r => by
    have ih := inV_bls r
    unfold inV at ih ⊢
    rw [List.map_cons, List.any_cons, ih, List.all_cons]
    cases b <;> rfl
theorem flat_bls (bs : List Bool) : (bs.map V.bl).all flatV = true := List.all_eq_true.mpr fun x hx => by
  obtain ⟨k, _, rfl⟩ := List.mem_map.mp hx
  rfl
theorem shTrL (ts : List Tri) : SeqAt.shaped (.list (ts.map triD)) = true := by
  refine Bool.and_eq_true_iff.mpr ⟨?_, decide_eq_true ?_⟩
  · rw [PyData.canLay0]
    exact canAll ts
  · have := depAll ts
    rw [PyData.depth]
    omega
section
variable {P : Program} {w : World} {K : PySem.W.Frag} {mg : Str → Option Value} {base : Heap} {L : LA}
abbrev N_wright : List Str := ["_law_well_here", "_law_turn", "_law_log_here", "_law_repeat", "_law_told", "_law_breaker", "_law_is_plain", "_law_time", "_law_is_passed"]
theorem sc_wright : FnScope N_wright ["_law_well_here"] (defScope st__law_right) := ⟨rfl, rfl, rfl, by decide +kernel, rfl, by decide +kernel, by decide +kernel⟩
theorem fn_wright (T : LX K mg L) {fd : FuncData} (F : Fun K "_law_right" "_law_right" st__law_right L.f__law_right fd) : FnOk P w K mg base CX0 11 L.f__law_right fd ["_law_well_here"] (spLRight) := by
  have G_wseen := ok_wseen (P := P) (w := w) (base := base) T
  have G_explanations := ok_explanations (P := P) (w := w) (base := base) T
  have G_wdue := ok_wdue (P := P) (w := w) (base := base) T
  have G_wdraw := ok_wdraw (P := P) (w := w) (base := base) T
  have G_logof := ok_logof (P := P) (w := w) (base := base) T
  have nd := sc_wright.nd
  refine F.ok sc_wright (fun vs H Q E h => ?_) (fun cdv A outer S H vs Q E hr h => ?_)
  · obtain ⟨s, rfl, _⟩ := h
    rfl
  · obtain ⟨s, rfl, src, k⟩ := h
    refine ⟨_, (pss_cons (ps_for PassesOwn.never rfl (pi_range1 rfl T.b_range (pa_cons pe_int pa_nil)) (pg_name (i := 1) nd rfl (Or.inl rfl)) (pss_cons (ps_set (i := 2) nd rfl (Or.inl rfl) (pe_c G_wseen (hr.mono (by decide)) rfl (pa_cons (pv 0) (pa_cons pe_int pa_nil))))
       (pss_cons (ps_for PassesOwn.never rfl (pi_range1 rfl T.b_range (pa_cons pe_int pa_nil)) (pg_name (i := 3) nd rfl (Or.inl rfl)) (pss_cons (ps_set (i := 4) nd rfl (Or.inl rfl) (pe_c G_explanations (hr.mono (by decide)) rfl (pa_cons (pv 2) pa_nil)))
       (pss_cons (ps_if (pt_cmpR (op_neD hr.units) (pv 4) (pe_c G_wdue (hr.mono (by decide)) rfl (pa_cons (pv 2) pa_nil)) (nomark _)) (pss_one (ps_ret pe_bl)) pss_nil)
       (pss_one (ps_expr (pe_bm PySem.F.plainAttrs_list PySem.F.slot_list_append PySem.F.type_list_append mt_append (pv 4) (pa_cons pe_non pa_nil)))))))
       (pss_cons (ps_set (i := 5) nd rfl (Or.inl rfl) (pe_tup (pa_cons (pe_op op_add (pe_op op_add (pe_callB call_len_seq (by rfl) T.b_len PySem.boot_len (pa_cons (pv 2) pa_nil)) pe_int) (pe_c G_wdraw (hr.mono (by decide)) rfl (pa_cons (pv 0) (pa_cons pe_int pa_nil)))) (pa_cons (pe_op op_add pe_int (pe_c G_wdraw (hr.mono (by decide)) rfl (pa_cons (pv 0) (pa_cons pe_int pa_nil)))) (pa_cons pe_int pa_nil)))))
       (pss_cons (ps_set (i := 6) nd rfl (Or.inl rfl) (pe_cmpR op_notIn_seq pe_bl (pe_lc (own := [("_law_time", 7), ("_law_is_passed", 8)]) (g := gTup K 2 (gCons (gName 7) (gCons (gName 8) (gNil)))) (tt := tYes) rfl nd (pi_list (pv 2)) (blkOk_by (own := [("_law_time", 7), ("_law_is_passed", 8)]) (N := N_wright) (sc := defScope st__law_right) (by decide +kernel)) (fun _ _ _ _ _ => pg_tup rfl (pgs_cons (pg_name (i := 7) nd rfl (Or.inl rfl)) (pgs_cons (pg_name (i := 8) nd rfl (Or.inl rfl)) pgs_nil))) (fun _ _ _ _ _ => pts_nil) (fun _ _ _ _ _ => (pv 8))) rfl))
       (pss_one (ps_if (PW.pt (pw_and (pt_val (pv 6)) (pw_and1 (pt_cmpR (op_neD hr.units) (pe_c G_logof (hr.mono (by decide)) rfl (pa_cons (pv 5) (pa_cons (pe_lc (own := [("_law_time", 7), ("_law_is_passed", 8)]) (g := gTup K 2 (gCons (gName 7) (gCons (gName 8) (gNil)))) (tt := tYes) rfl nd (pi_list (pv 2)) (blkOk_by (own := [("_law_time", 7), ("_law_is_passed", 8)]) (N := N_wright) (sc := defScope st__law_right) (by decide +kernel)) (fun _ _ _ _ _ => pg_tup rfl (pgs_cons (pg_name (i := 7) nd rfl (Or.inl rfl)) (pgs_cons (pg_name (i := 8) nd rfl (Or.inl rfl)) pgs_nil))) (fun _ _ _ _ _ => pts_nil) (fun _ _ _ _ _ => (pv 7))) pa_nil))) (pv 2) (nomark _))))) (pss_one (ps_ret pe_bl)) pss_nil)))))))
       (pss_one (ps_ret pe_bl))), ?_⟩
    refine ⟨3, rfl, by decide, by decide, ?_⟩
    refine for_range (lo := 0) (n := 3) (fun i σ Hx => ∃ v1 v2 v3 v4 v5 v6 : Option V, σ = [some (.ref s), v1, v2, v3, v4, v5, v6, none, none] ∧ Kp s H Hx ∧ Src Hx s (300 * i))
      ⟨_, _, _, _, _, _, rfl, Kp.refl, src.mono (by omega)⟩ ?_ ?_
    · rintro i σ Hx hi ⟨v1, v2, v3, v4, v5, v6, rfl, kx, srcx⟩
      obtain ⟨yx, hyx⟩ := srcx.has
      refine ⟨_, rfl, s, 12, _, rfl, srcx, by omega, by decide, by decide, fun a zs ps H2 ha hz asc pl pb src2 k2 na => ?_⟩
      have zl := paired_len hz
      have nas : a ≠ s := (ne_of_none hyx na).symm
      have ok : OkLog ps := ⟨asc, by omega⟩
      have pl : ps.length ≤ 12 := by omega
      refine ⟨2, rfl, by decide, by decide, ?_⟩
      refine for_range (lo := 0) (n := 2) (fun j σ Hy => ∃ v3 v4 : Option V, σ = [some (.ref s), some (.int (0 + (i : Int))), some (.ref a), v3, v4, v5, v6, none, none] ∧ Same H2 Hy) ⟨_, _, rfl, Same.refl _⟩ ?_ ?_
      · rintro j σ Hy hj ⟨v3, v4, rfl, sy⟩
        refine ⟨_, rfl, a, zs, ps, rfl, sy _ _ ha, hz.same sy, ok, fun l1 ys1 H3 hl1 hy1 s3 nl1 => ?_⟩
        have yl1 := hy1.len
        have el : (exG ps).length ≤ 13 := by
          rw [← dueG_end]
          have := dueG_len ps (max 1 ps.length)
          omega
        refine ⟨_, rfl, _, rfl, a, zs, ps, rfl, s3 _ _ (sy _ _ ha), (hz.same sy).same s3, asc, pl, pb, fun l2 ys2 H4 hl2 hy2 s4 nl2 => ?_⟩
        have hl14 := s4 _ _ hl1
        refine ⟨_, _, .lst (SqL.of hl14) (hy1.nl (NL.of s4)).dp, .lst (SqL.of hl2) hy2.dp, shTrL _, shTrL _, false, ?_, iteF ?_⟩
        · rw [PyData.eqv, triDs_eq, decide_eq_true rfl]
          rfl
        refine ⟨_, rfl, .inl ⟨rfl, _, SqL.of hl14⟩, l1, ys1, .non, rfl, rfl, hl14, small1 (by omega), _, _, rfl, fun p o e => ?_⟩
        have e' := sy _ _ e
        rw [upd_ne (ne_of_none e' nl1)]
        exact s4 _ _ (s3 _ _ e')
      rintro σ Hy ⟨v3, v4, rfl, sy⟩
      have srcy := src2.same sy
      have hay := sy _ _ ha
      refine ⟨_, rfl, a, _, rfl, .inl (SqL.of hay), _, _, rfl, rfl, _, rfl, s, 9, _, rfl, by decide, by decide +kernel, srcy, by omega, fun d1 H5 d10 d11 src5 k5 => ⟨_, _, rfl, rfl, _, rfl, s, 9, _, rfl, by decide, by decide +kernel, src5, by omega, fun d2 H6 d20 d21 src6 k6 => ⟨_, _, rfl, rfl, (by show 3 ≤ sizeLine; decide), fun tb ntb => ?_⟩⟩⟩
      have s7 := Same.upd (o := .tup [.int ((zs.length : Int) + 1 + d1), .int (1 + d2), .int 1]) ntb
      have htb : (upd H6 tb (.tup [.int ((zs.length : Int) + 1 + d1), .int (1 + d2), .int 1])) tb = some (.tup (TriV ((zs.length : Int) + 1 + d1, 1 + d2, 1))) := upd_same
      have k27 := (((Kp.of sy).trans k5).trans k6).trans (Kp.of s7)
      have src7 := src6.same s7
      generalize upd H6 tb (.tup [.int ((zs.length : Int) + 1 + d1), .int (1 + d2), .int 1]) = H7 at htb k27 src7 s7 ⊢
      obtain ⟨y2, hy2⟩ := src2.has
      have ha7 := k27 _ _ nas ha
      have hz7 : Lgs H7 zs ps := hz.nl (Kp.nl k27 hy2)
      have okb : OkT ((zs.length : Int) + 1 + d1, 1 + d2, 1) := ⟨by show 1 ≤ (zs.length : Int) + 1 + d1; omega, by show (zs.length : Int) + 1 + d1 ≤ _; omega, by show 1 ≤ 1 + d2; omega, by show 1 + d2 ≤ _; omega, by show (1 : Int) ≤ 1; decide, by show (1 : Int) ≤ 1000000000000; decide⟩
      -- all passed
      refine ⟨_, rfl, a, rfl, ⟨_, SqL.of ha7⟩, fun E hE => ?_⟩
      refine lc_list (K := K) (a := a) (xs := zs) (fun j Hw => Hw E = some (.lst (((ps.take j).map (·.2)).map V.bl)) ∧ Same H7 Hw) ⟨upd_same, Same.upd hE⟩ (fun j Hw _ ⟨_, sw⟩ => SqL.of (sw _ _ ha7)) ?_ ?_
      · rintro j x Hw hxj ⟨hEw, sw⟩
        obtain ⟨⟨t, p⟩, hp, c, rfl, hc⟩ := paired_get hz7 hxj
        have hj := (List.getElem?_eq_some_iff.mp hxj).1
        refine ⟨c, _, rfl, SqT.of (sw _ _ hc), rfl, _, _, rfl, _, _, rfl, rfl, rfl, tYes_of ⟨_, rfl, _, hEw, small1 (by rw [List.length_map, List.length_map, List.length_take]; omega), ?_, fun b o e => by rw [upd_ne (ne_of_none e hE)]; exact sw _ _ e⟩⟩
        rw [upd_same, List.take_add_one, hp, List.map_append, List.map_append]
        rfl
      rintro H8 ⟨hE8, s8⟩
      rw [zl, List.take_length] at hE8
      refine ⟨E, _, rfl, .inl (SqL.of hE8), rfl, flat_bls _, ?_⟩
      show gName 6 (.bl (!inV (.bl false) ((ps.map (·.2)).map V.bl))) _ _ _
      rw [inV_bls, Bool.not_not, List.all_map]
      have ha8 := s8 _ _ ha7
      have hz8 := hz7.same s8
      obtain ⟨pp, hpp⟩ : ∃ pp, pp = ps.all ((fun b => b) ∘ fun x => x.2) := ⟨_, rfl⟩
      rw [← hpp]
      have kE8 : Kp s H H8 := ((kx.trans k2).trans k27).trans (Kp.of s8)
      have src8 := src7.same s8
      refine ⟨_, rfl, _, rfl, ?_⟩
      cases hq : pp with
      | false => exact iteF ⟨_, _, _, _, _, _, rfl, kE8, src8.mono (by omega)⟩
      | true =>
        refine iteT ⟨_, rfl, _, rfl, a, rfl, ⟨_, SqL.of ha8⟩, fun G hG => ?_⟩
        refine lc_list (K := K) (a := a) (xs := zs) (fun j Hw => Hw G = some (.lst (((ps.take j).map (·.1)).map V.int)) ∧ Same H8 Hw) ⟨upd_same, Same.upd hG⟩ (fun j Hw _ ⟨_, sw⟩ => SqL.of (sw _ _ ha8)) ?_ ?_
        · rintro j x Hw hxj ⟨hGw, sw⟩
          obtain ⟨⟨t, p⟩, hp, c, rfl, hc⟩ := paired_get hz8 hxj
          have hj := (List.getElem?_eq_some_iff.mp hxj).1
          refine ⟨c, _, rfl, SqT.of (sw _ _ hc), rfl, _, _, rfl, _, _, rfl, rfl, rfl, tYes_of ⟨_, rfl, _, hGw, small1 (by rw [List.length_map, List.length_map, List.length_take]; omega), ?_, fun b o e => by rw [upd_ne (ne_of_none e hG)]; exact sw _ _ e⟩⟩
          rw [upd_same, List.take_add_one, hp, List.map_append, List.map_append]
          rfl
        rintro H9 ⟨hG9, s9⟩
        rw [zl, List.take_length] at hG9
        have s89 := s8.trans s9
        refine ⟨.ref tb, _, G, ps.map (·.1), rfl, ⟨tb, rfl, s89 _ _ htb⟩, okb, hG9, asc, by rw [List.length_map]; omega, fun lo ws H10 hlo hws s10 nlo => ?_⟩
        have s90 := s9.trans s10
        have eL : lgG ((zs.length : Int) + 1 + d1, 1 + d2, 1) ("closed", 0) (ps.map (·.1)) = ps := by
          have h1 := lg_closed ((zs.length : Int) + 1 + d1) (1 + d2) ps 0
          rw [fitC_past (by omega)] at h1
          have h2 : ps.all (·.2) = true := by rw [← hq, hpp]; rfl
          rw [h2] at h1
          exact of_decide_eq_true h1
        rw [eL] at hws
        refine ⟨_, rfl, _, _, Lgs.dpl hlo hws, Lgs.dpl (s90 _ _ ha8) (hz8.same s90), lg_sh _, lg_sh _, false, by rw [lg_eq, decide_eq_true rfl]; rfl, iteF ?_⟩
        exact ⟨_, _, _, _, _, _, rfl, kE8.trans (Kp.of s90), (src8.same s90).mono (by omega)⟩
    · rintro σ Hx ⟨v1, v2, v3, v4, v5, v6, rfl, kx, srcx⟩
      exact k Hx kx
theorem ok_wright (T : LX K mg L) : Cal P w K mg base "_law_right" 11 L.f__law_right ["_law_well_here"] (spLRight) := T.d__law_right.cal fun fd F => fn_wright T F
end
/-! ### the law over its cells -/
def spLaw (K : PySem.W.Frag) : Sp := fun vs H Q _ => ∃ (a : Addr) (ns : List Int), vs = [.ref a] ∧ SqL K H a (ns.map V.int) ∧ ns.length ≤ 63 ∧ ∀ H', Q (.bl true) H'
section
variable {P : Program} {w : World} {K : PySem.W.Frag} {mg : Str → Option Value} {base : Heap} {L : LA}
abbrev N_law : List Str := ["_law_script", "_law_cell"]
theorem sc_law : FnScope N_law ["_law_script"] (defScope st_law) := ⟨rfl, rfl, rfl, by decide +kernel, rfl, by decide +kernel, by decide +kernel⟩
theorem ok_law {aLaw : Addr} {fd : FuncData} (F : Fun K "law" "law" st_law aLaw fd) (T : LX K mg L) : FnOk P w K mg base CX0 12 aLaw fd ["_law_script"] (spLaw K) := by
  have G_wright := ok_wright (P := P) (w := w) (base := base) T
  have G_wwell := ok_wwell (P := P) (w := w) (base := base) T
  have nd := sc_law.nd
  refine F.ok sc_law (fun vs H Q E h => ?_) (fun cdv A outer S H vs Q E hr h => ?_)
  · obtain ⟨a, ns, rfl, _⟩ := h
    rfl
  · obtain ⟨a, ns, rfl, hS, ln, k⟩ := h
    refine ⟨_, (pss_cons (ps_for PassesOwn.never rfl (pi_list (pe_op op_cat (pe_slice (r := rSlL K) sl_list (pv 0) po_none (po_some pe_int)) (pe_lst (pa_cons pe_int pa_nil)))) (pg_name (i := 1) nd rfl (Or.inl rfl)) (pss_one (ps_if (pt_not (pt_val (pe_c G_wright (hr.mono (by decide)) rfl (pa_cons (pe_c G_wwell (hr.mono (by decide)) rfl (pa_cons (pv 1) pa_nil)) pa_nil)))) (pss_one (ps_ret pe_bl)) pss_nil)))
       (pss_one (ps_ret pe_bl))), ?_⟩
    refine ⟨_, rfl, 3, rfl, a, ns.map V.int, rfl, hS, fun l1 hl1 => ⟨(by show 1 ≤ sizeLine; decide), fun l2 hl2 => ?_⟩⟩
    refine ⟨l1, l2, _, _, rfl, rfl, (Same.upd hl2) _ _ upd_same, upd_same, small2 (by have := cutV_length (ns.map V.int) none (some 3); rw [List.length_map] at this; show _ + 1 ≤ 100000; omega), fun l3 hl3 => ?_⟩
    have items : ∀ v ∈ cutV (ns.map V.int) none (some 3) ++ [V.int 0], ∃ c, v = .int c := fun v hv => by
      rcases List.mem_append.mp hv with hv | hv
      · obtain ⟨c, _, e⟩ := List.mem_map.mp (List.mem_of_mem_drop (List.mem_of_mem_take hv))
        exact ⟨c, e.symm⟩
      · exact ⟨0, by simpa using hv⟩
    generalize hit : cutV (ns.map V.int) none (some 3) ++ [V.int 0] = its at items
    refine ⟨l3, rfl, ⟨_, SqL.of upd_same⟩, ?_⟩
    refine for_list (K := K) (a := l3) (xs := its) (fun i σ H2 => ∃ v1 : Option V, σ = [some (.ref a), v1] ∧ H2 l3 = some (.lst its)) ⟨none, rfl, by rw [upd_same]⟩ (fun i σ H2 _ ⟨_, _, e⟩ => SqL.of e) ?_ ?_
    · rintro i v σ H0 hi ⟨v1, rfl, hL⟩
      obtain ⟨cc, rfl⟩ := items v (List.mem_of_getElem? hi)
      refine ⟨_, rfl, cc, rfl, fun s H1 hs0 y1 src1 => ⟨s, rfl, src1, fun H2 k2 => ⟨_, rfl, iteF ⟨_, rfl, ?_⟩⟩⟩⟩
      exact k2 _ _ (ne_of_none hL hs0) (y1 _ _ hL)
    · rintro σ H2 ⟨v1, rfl, _⟩
      exact k H2
end
/-! ### the end -/
theorem bn_q0 (kV doc pm : Value) (an : Option Addr) (cdv ct : Value) (us : List Value) (hl : us.length = (["value"] : List Str).length) : bindArgs (PySem.W.fnOf "is_integer" "is_integer" (defArgs st_is_integer) (defBody st_is_integer) (defScope st_is_integer) .none kV doc pm an cdv ct) ⟨us, []⟩ = pure ((["value"] : List Str).zip us) :=
  match us, hl with | [_], _ => rfl
theorem bn_q1 (kV doc pm : Value) (an : Option Addr) (cdv ct : Value) (us : List Value) (hl : us.length = (["value", "least"] : List Str).length) : bindArgs (PySem.W.fnOf "is_at_least" "is_at_least" (defArgs st_is_at_least) (defBody st_is_at_least) (defScope st_is_at_least) .none kV doc pm an cdv ct) ⟨us, []⟩ = pure ((["value", "least"] : List Str).zip us) :=
  match us, hl with | [_, _], _ => rfl
theorem bn_q2 (kV doc pm : Value) (an : Option Addr) (cdv ct : Value) (us : List Value) (hl : us.length = (["value", "least", "most"] : List Str).length) : bindArgs (PySem.W.fnOf "is_within" "is_within" (defArgs st_is_within) (defBody st_is_within) (defScope st_is_within) .none kV doc pm an cdv ct) ⟨us, []⟩ = pure ((["value", "least", "most"] : List Str).zip us) :=
  match us, hl with | [_, _, _], _ => rfl
theorem bn_q3 (kV doc pm : Value) (an : Option Addr) (cdv ct : Value) (us : List Value) (hl : us.length = (["value"] : List Str).length) : bindArgs (PySem.W.fnOf "is_breaker" "is_breaker" (defArgs st_is_breaker) (defBody st_is_breaker) (defScope st_is_breaker) .none kV doc pm an cdv ct) ⟨us, []⟩ = pure ((["value"] : List Str).zip us) :=
  match us, hl with | [_], _ => rfl
theorem bn_q4 (kV doc pm : Value) (an : Option Addr) (cdv ct : Value) (us : List Value) (hl : us.length = (["breaker", "state", "time"] : List Str).length) : bindArgs (PySem.W.fnOf "passes" "passes" (defArgs st_passes) (defBody st_passes) (defScope st_passes) .none kV doc pm an cdv ct) ⟨us, []⟩ = pure ((["breaker", "state", "time"] : List Str).zip us) :=
  match us, hl with | [_, _, _], _ => rfl
theorem bn_q5 (kV doc pm : Value) (an : Option Addr) (cdv ct : Value) (us : List Value) (hl : us.length = (["breaker", "state", "time", "succeeded"] : List Str).length) : bindArgs (PySem.W.fnOf "state_behind" "state_behind" (defArgs st_state_behind) (defBody st_state_behind) (defScope st_state_behind) .none kV doc pm an cdv ct) ⟨us, []⟩ = pure ((["breaker", "state", "time", "succeeded"] : List Str).zip us) :=
  match us, hl with | [_, _, _, _], _ => rfl
theorem bn_q6 (kV doc pm : Value) (an : Option Addr) (cdv ct : Value) (us : List Value) (hl : us.length = (["times"] : List Str).length) : bindArgs (PySem.W.fnOf "check_times" "check_times" (defArgs st_check_times) (defBody st_check_times) (defScope st_check_times) .none kV doc pm an cdv ct) ⟨us, []⟩ = pure ((["times"] : List Str).zip us) :=
  match us, hl with | [_], _ => rfl
theorem bn_q7 (kV doc pm : Value) (an : Option Addr) (cdv ct : Value) (us : List Value) (hl : us.length = (["breaker", "times"] : List Str).length) : bindArgs (PySem.W.fnOf "log_of" "log_of" (defArgs st_log_of) (defBody st_log_of) (defScope st_log_of) .none kV doc pm an cdv ct) ⟨us, []⟩ = pure ((["breaker", "times"] : List Str).zip us) :=
  match us, hl with | [_, _], _ => rfl
theorem bn_q8 (kV doc pm : Value) (an : Option Addr) (cdv ct : Value) (us : List Value) (hl : us.length = (["value"] : List Str).length) : bindArgs (PySem.W.fnOf "is_entry" "is_entry" (defArgs st_is_entry) (defBody st_is_entry) (defScope st_is_entry) .none kV doc pm an cdv ct) ⟨us, []⟩ = pure ((["value"] : List Str).zip us) :=
  match us, hl with | [_], _ => rfl
theorem bn_q9 (kV doc pm : Value) (an : Option Addr) (cdv ct : Value) (us : List Value) (hl : us.length = (["log"] : List Str).length) : bindArgs (PySem.W.fnOf "check_log" "check_log" (defArgs st_check_log) (defBody st_check_log) (defScope st_check_log) .none kV doc pm an cdv ct) ⟨us, []⟩ = pure ((["log"] : List Str).zip us) :=
  match us, hl with | [_], _ => rfl
theorem bn_q10 (kV doc pm : Value) (an : Option Addr) (cdv ct : Value) (us : List Value) (hl : us.length = (["log"] : List Str).length) : bindArgs (PySem.W.fnOf "passes_ahead" "passes_ahead" (defArgs st_passes_ahead) (defBody st_passes_ahead) (defScope st_passes_ahead) .none kV doc pm an cdv ct) ⟨us, []⟩ = pure ((["log"] : List Str).zip us) :=
  match us, hl with | [_], _ => rfl
theorem bn_q11 (kV doc pm : Value) (an : Option Addr) (cdv ct : Value) (us : List Value) (hl : us.length = (["log"] : List Str).length) : bindArgs (PySem.W.fnOf "gaps_of" "gaps_of" (defArgs st_gaps_of) (defBody st_gaps_of) (defScope st_gaps_of) .none kV doc pm an cdv ct) ⟨us, []⟩ = pure ((["log"] : List Str).zip us) :=
  match us, hl with | [_], _ => rfl
theorem bn_q12 (kV doc pm : Value) (an : Option Addr) (cdv ct : Value) (us : List Value) (hl : us.length = (["bounds", "gap", "passed"] : List Str).length) : bindArgs (PySem.W.fnOf "narrowed" "narrowed" (defArgs st_narrowed) (defBody st_narrowed) (defScope st_narrowed) .none kV doc pm an cdv ct) ⟨us, []⟩ = pure ((["bounds", "gap", "passed"] : List Str).zip us) :=
  match us, hl with | [_, _, _], _ => rfl
theorem bn_q13 (kV doc pm : Value) (an : Option Addr) (cdv ct : Value) (us : List Value) (hl : us.length = (["log"] : List Str).length) : bindArgs (PySem.W.fnOf "explanations" "explanations" (defArgs st_explanations) (defBody st_explanations) (defScope st_explanations) .none kV doc pm an cdv ct) ⟨us, []⟩ = pure ((["log"] : List Str).zip us) :=
  match us, hl with | [_], _ => rfl
theorem bn_q14 (kV doc pm : Value) (an : Option Addr) (cdv ct : Value) (us : List Value) (hl : us.length = (["_law_cell", "_law_k"] : List Str).length) : bindArgs (PySem.W.fnOf "_law_mixed" "_law_mixed" (defArgs st__law_mixed) (defBody st__law_mixed) (defScope st__law_mixed) .none kV doc pm an cdv ct) ⟨us, []⟩ = pure ((["_law_cell", "_law_k"] : List Str).zip us) :=
  match us, hl with | [_, _], _ => rfl
theorem bn_q15 (kV doc pm : Value) (an : Option Addr) (cdv ct : Value) (us : List Value) (hl : us.length = (["_law_cell"] : List Str).length) : bindArgs (PySem.W.fnOf "_law_well" "_law_well" (defArgs st__law_well) (defBody st__law_well) (defScope st__law_well) .none kV doc pm an cdv ct) ⟨us, []⟩ = pure ((["_law_cell"] : List Str).zip us) :=
  match us, hl with | [_], _ => rfl
theorem bn_q16 (kV doc pm : Value) (an : Option Addr) (cdv ct : Value) (us : List Value) (hl : us.length = (["_law_well_here", "_law_many"] : List Str).length) : bindArgs (PySem.W.fnOf "_law_draw" "_law_draw" (defArgs st__law_draw) (defBody st__law_draw) (defScope st__law_draw) .none kV doc pm an cdv ct) ⟨us, []⟩ = pure ((["_law_well_here", "_law_many"] : List Str).zip us) :=
  match us, hl with | [_, _], _ => rfl
theorem bn_q17 (kV doc pm : Value) (an : Option Addr) (cdv ct : Value) (us : List Value) (hl : us.length = (["_law_well_here", "_law_some"] : List Str).length) : bindArgs (PySem.W.fnOf "_law_one" "_law_one" (defArgs st__law_one) (defBody st__law_one) (defScope st__law_one) .none kV doc pm an cdv ct) ⟨us, []⟩ = pure ((["_law_well_here", "_law_some"] : List Str).zip us) :=
  match us, hl with | [_, _], _ => rfl
theorem bn_q18 (kV doc pm : Value) (an : Option Addr) (cdv ct : Value) (us : List Value) (hl : us.length = (["_law_breaker", "_law_times"] : List Str).length) : bindArgs (PySem.W.fnOf "_law_log" "_law_log" (defArgs st__law_log) (defBody st__law_log) (defScope st__law_log) .none kV doc pm an cdv ct) ⟨us, []⟩ = pure ((["_law_breaker", "_law_times"] : List Str).zip us) :=
  match us, hl with | [_, _], _ => rfl
theorem bn_q19 (kV doc pm : Value) (an : Option Addr) (cdv ct : Value) (us : List Value) (hl : us.length = (["_law_well_here", "_law_most"] : List Str).length) : bindArgs (PySem.W.fnOf "_law_seen" "_law_seen" (defArgs st__law_seen) (defBody st__law_seen) (defScope st__law_seen) .none kV doc pm an cdv ct) ⟨us, []⟩ = pure ((["_law_well_here", "_law_most"] : List Str).zip us) :=
  match us, hl with | [_, _], _ => rfl
theorem bn_q20 (kV doc pm : Value) (an : Option Addr) (cdv ct : Value) (us : List Value) (hl : us.length = (["_law_log_here", "_law_most"] : List Str).length) : bindArgs (PySem.W.fnOf "_law_fits" "_law_fits" (defArgs st__law_fits) (defBody st__law_fits) (defScope st__law_fits) .none kV doc pm an cdv ct) ⟨us, []⟩ = pure ((["_law_log_here", "_law_most"] : List Str).zip us) :=
  match us, hl with | [_, _], _ => rfl
theorem bn_q21 (kV doc pm : Value) (an : Option Addr) (cdv ct : Value) (us : List Value) (hl : us.length = (["_law_log_here"] : List Str).length) : bindArgs (PySem.W.fnOf "_law_due" "_law_due" (defArgs st__law_due) (defBody st__law_due) (defScope st__law_due) .none kV doc pm an cdv ct) ⟨us, []⟩ = pure ((["_law_log_here"] : List Str).zip us) :=
  match us, hl with | [_], _ => rfl
theorem bn_q22 (kV doc pm : Value) (an : Option Addr) (cdv ct : Value) (us : List Value) (hl : us.length = (["_law_well_here"] : List Str).length) : bindArgs (PySem.W.fnOf "_law_right" "_law_right" (defArgs st__law_right) (defBody st__law_right) (defScope st__law_right) .none kV doc pm an cdv ct) ⟨us, []⟩ = pure ((["_law_well_here"] : List Str).zip us) :=
  match us, hl with | [_], _ => rfl
theorem mk_dfn {K : PySem.W.Frag} {h : Heap} {mg : Str → Option Value} {x : Str} {st : Stmt} {f : Addr} {ps : List Str} {oc : Value} {od an : Option Addr} {sl : Array (Option Value)} {kV dc pm cd ct : Value} (X : K.In h) (G : h.Ns mainGlobals mg) (a : PySem.W.nsIn K mainGlobals x = some (some (.ref f)))
    (l : K.lookup f = some ⟨oc, od, .func (PySem.W.fnOf x x (defArgs st) (defBody st) (defScope st) .none kV dc pm an cd ct), sl⟩) (c : PySem.W.codeIn K cd x = true) (k : PySem.W.keepIn K (.ref f) = true)
    (hb : ∀ (kV doc pm : Value) (an : Option Addr) (cdv ct : Value) (us : List Value), us.length = ps.length → bindArgs (PySem.W.fnOf x x (defArgs st) (defBody st) (defScope st) .none kV doc pm an cdv ct) ⟨us, []⟩ = pure (ps.zip us)) : Dfn K mg x st f ps :=
  ⟨⟨_, fun_mk l c k, (fun_mk l c k).binds hb⟩, PySem.W.mg_of X G a⟩
theorem mk_mth {K : PySem.W.Frag} {C : Addr} {x q : Str} {st : Stmt} {f : Addr} {ps : List Str} {oc : Value} {od an : Option Addr} {sl : Array (Option Value)} {kV dc pm cd ct : Value} (a : PySem.W.findIn K (.ref C) x = some (some (.ref f))) (i : PySem.W.isFn K (.ref f) = true) (fk : PySem.W.fnIn K f = true)
    (l : K.lookup f = some ⟨oc, od, .func (PySem.W.fnOf x q (defArgs st) (defBody st) (defScope st) .none kV dc pm an cd ct), sl⟩) (c : PySem.W.codeIn K cd q = true) (k : PySem.W.keepIn K (.ref f) = true)
    (hb : ∀ (kV doc pm : Value) (an : Option Addr) (cdv ct : Value) (us : List Value), us.length = ps.length → bindArgs (PySem.W.fnOf x q (defArgs st) (defBody st) (defScope st) .none kV doc pm an cdv ct) ⟨us, []⟩ = pure (ps.zip us)) : Mth K C x q st f ps :=
  ⟨⟨_, fun_mk l c k, (fun_mk l c k).binds hb⟩, a, i, fk⟩
set_option maxHeartbeats 16000000 in
theorem all_mk {P : Program} {w : World} {K : PySem.W.Frag} {h : Heap} {mg : Str → Option Value} {lv : List (Str × PySem.W.WData)} {fa aLaw fq0 fq1 fq2 fq3 fq4 fq5 fq6 fq7 fq8 fq9 fq10 fq11 fq12 fq13 fq14 fq15 fq16 fq17 fq18 fq19 fq20 fq21 fq22 : Addr} {tNMOST_ENTRIES : Tok} {odq0 anq0 odq1 anq1 odq2 anq2 odq3 anq3 odq4 anq4 odq5 anq5 odq6 anq6 odq7 anq7 odq8 anq8 odq9 anq9 odq10 anq10 odq11 anq11 odq12 anq12 odq13 anq13 odq14 anq14 odq15 anq15 odq16 anq16 odq17 anq17 odq18 anq18 odq19 anq19 odq20 anq20 odq21 anq21 odq22 anq22 odY anY : Option Addr} {slq0 slq1 slq2 slq3 slq4 slq5 slq6 slq7 slq8 slq9 slq10 slq11 slq12 slq13 slq14 slq15 slq16 slq17 slq18 slq19 slq20 slq21 slq22 slY : Array (Option Value)} {ocq0 kVq0 dcq0 pmq0 cdq0 ctq0 ocq1 kVq1 dcq1 pmq1 cdq1 ctq1 ocq2 kVq2 dcq2 pmq2 cdq2 ctq2 ocq3 kVq3 dcq3 pmq3 cdq3 ctq3 ocq4 kVq4 dcq4 pmq4 cdq4 ctq4 ocq5 kVq5 dcq5 pmq5 cdq5 ctq5 ocq6 kVq6 dcq6 pmq6 cdq6 ctq6 ocq7 kVq7 dcq7 pmq7 cdq7 ctq7 ocq8 kVq8 dcq8 pmq8 cdq8 ctq8 ocq9 kVq9 dcq9 pmq9 cdq9 ctq9 ocq10 kVq10 dcq10 pmq10 cdq10 ctq10 ocq11 kVq11 dcq11 pmq11 cdq11 ctq11 ocq12 kVq12 dcq12 pmq12 cdq12 ctq12 ocq13 kVq13 dcq13 pmq13 cdq13 ctq13 ocq14 kVq14 dcq14 pmq14 cdq14 ctq14 ocq15 kVq15 dcq15 pmq15 cdq15 ctq15 ocq16 kVq16 dcq16 pmq16 cdq16 ctq16 ocq17 kVq17 dcq17 pmq17 cdq17 ctq17 ocq18 kVq18 dcq18 pmq18 cdq18 ctq18 ocq19 kVq19 dcq19 pmq19 cdq19 ctq19 ocq20 kVq20 dcq20 pmq20 cdq20 ctq20 ocq21 kVq21 dcq21 pmq21 cdq21 ctq21 ocq22 kVq22 dcq22 pmq22 cdq22 ctq22 ocY kVY dcY pmY cdY ctY : Value}
    (X : K.In h) (G : h.Ns mainGlobals mg) (LL : PySem.W.LooseAre lv mg h) (hLMOST_COUNT : (("MOST_COUNT" : Str), PySem.W.WData.int 1000000000000) ∈ lv) (hLMOST_TIME : (("MOST_TIME" : Str), PySem.W.WData.int 1000000000000000000000000000000) ∈ lv) (hfa : mg "law" = some (.ref fa))
    (aq0 : PySem.W.nsIn K mainGlobals "is_integer" = some (some (.ref fq0)))
    (lq0 : K.lookup fq0 = some ⟨ocq0, odq0, .func (PySem.W.fnOf "is_integer" "is_integer" (defArgs st_is_integer) (defBody st_is_integer) (defScope st_is_integer) .none kVq0 dcq0 pmq0 anq0 cdq0 ctq0), slq0⟩)
    (cq0 : PySem.W.codeIn K cdq0 "is_integer" = true)
    (kq0 : PySem.W.keepIn K (.ref fq0) = true)
    (aq1 : PySem.W.nsIn K mainGlobals "is_at_least" = some (some (.ref fq1)))
    (lq1 : K.lookup fq1 = some ⟨ocq1, odq1, .func (PySem.W.fnOf "is_at_least" "is_at_least" (defArgs st_is_at_least) (defBody st_is_at_least) (defScope st_is_at_least) .none kVq1 dcq1 pmq1 anq1 cdq1 ctq1), slq1⟩)
    (cq1 : PySem.W.codeIn K cdq1 "is_at_least" = true)
    (kq1 : PySem.W.keepIn K (.ref fq1) = true)
    (aq2 : PySem.W.nsIn K mainGlobals "is_within" = some (some (.ref fq2)))
    (lq2 : K.lookup fq2 = some ⟨ocq2, odq2, .func (PySem.W.fnOf "is_within" "is_within" (defArgs st_is_within) (defBody st_is_within) (defScope st_is_within) .none kVq2 dcq2 pmq2 anq2 cdq2 ctq2), slq2⟩)
    (cq2 : PySem.W.codeIn K cdq2 "is_within" = true)
    (kq2 : PySem.W.keepIn K (.ref fq2) = true)
    (aq3 : PySem.W.nsIn K mainGlobals "is_breaker" = some (some (.ref fq3)))
    (lq3 : K.lookup fq3 = some ⟨ocq3, odq3, .func (PySem.W.fnOf "is_breaker" "is_breaker" (defArgs st_is_breaker) (defBody st_is_breaker) (defScope st_is_breaker) .none kVq3 dcq3 pmq3 anq3 cdq3 ctq3), slq3⟩)
    (cq3 : PySem.W.codeIn K cdq3 "is_breaker" = true)
    (kq3 : PySem.W.keepIn K (.ref fq3) = true)
    (aq4 : PySem.W.nsIn K mainGlobals "passes" = some (some (.ref fq4)))
    (lq4 : K.lookup fq4 = some ⟨ocq4, odq4, .func (PySem.W.fnOf "passes" "passes" (defArgs st_passes) (defBody st_passes) (defScope st_passes) .none kVq4 dcq4 pmq4 anq4 cdq4 ctq4), slq4⟩)
    (cq4 : PySem.W.codeIn K cdq4 "passes" = true)
    (kq4 : PySem.W.keepIn K (.ref fq4) = true)
    (aq5 : PySem.W.nsIn K mainGlobals "state_behind" = some (some (.ref fq5)))
    (lq5 : K.lookup fq5 = some ⟨ocq5, odq5, .func (PySem.W.fnOf "state_behind" "state_behind" (defArgs st_state_behind) (defBody st_state_behind) (defScope st_state_behind) .none kVq5 dcq5 pmq5 anq5 cdq5 ctq5), slq5⟩)
    (cq5 : PySem.W.codeIn K cdq5 "state_behind" = true)
    (kq5 : PySem.W.keepIn K (.ref fq5) = true)
    (aq6 : PySem.W.nsIn K mainGlobals "check_times" = some (some (.ref fq6)))
    (lq6 : K.lookup fq6 = some ⟨ocq6, odq6, .func (PySem.W.fnOf "check_times" "check_times" (defArgs st_check_times) (defBody st_check_times) (defScope st_check_times) .none kVq6 dcq6 pmq6 anq6 cdq6 ctq6), slq6⟩)
    (cq6 : PySem.W.codeIn K cdq6 "check_times" = true)
    (kq6 : PySem.W.keepIn K (.ref fq6) = true)
    (aq7 : PySem.W.nsIn K mainGlobals "log_of" = some (some (.ref fq7)))
    (lq7 : K.lookup fq7 = some ⟨ocq7, odq7, .func (PySem.W.fnOf "log_of" "log_of" (defArgs st_log_of) (defBody st_log_of) (defScope st_log_of) .none kVq7 dcq7 pmq7 anq7 cdq7 ctq7), slq7⟩)
    (cq7 : PySem.W.codeIn K cdq7 "log_of" = true)
    (kq7 : PySem.W.keepIn K (.ref fq7) = true)
    (aq8 : PySem.W.nsIn K mainGlobals "is_entry" = some (some (.ref fq8)))
    (lq8 : K.lookup fq8 = some ⟨ocq8, odq8, .func (PySem.W.fnOf "is_entry" "is_entry" (defArgs st_is_entry) (defBody st_is_entry) (defScope st_is_entry) .none kVq8 dcq8 pmq8 anq8 cdq8 ctq8), slq8⟩)
    (cq8 : PySem.W.codeIn K cdq8 "is_entry" = true)
    (kq8 : PySem.W.keepIn K (.ref fq8) = true)
    (aq9 : PySem.W.nsIn K mainGlobals "check_log" = some (some (.ref fq9)))
    (lq9 : K.lookup fq9 = some ⟨ocq9, odq9, .func (PySem.W.fnOf "check_log" "check_log" (defArgs st_check_log) (defBody st_check_log) (defScope st_check_log) .none kVq9 dcq9 pmq9 anq9 cdq9 ctq9), slq9⟩)
    (cq9 : PySem.W.codeIn K cdq9 "check_log" = true)
    (kq9 : PySem.W.keepIn K (.ref fq9) = true)
    (aq10 : PySem.W.nsIn K mainGlobals "passes_ahead" = some (some (.ref fq10)))
    (lq10 : K.lookup fq10 = some ⟨ocq10, odq10, .func (PySem.W.fnOf "passes_ahead" "passes_ahead" (defArgs st_passes_ahead) (defBody st_passes_ahead) (defScope st_passes_ahead) .none kVq10 dcq10 pmq10 anq10 cdq10 ctq10), slq10⟩)
    (cq10 : PySem.W.codeIn K cdq10 "passes_ahead" = true)
    (kq10 : PySem.W.keepIn K (.ref fq10) = true)
    (aq11 : PySem.W.nsIn K mainGlobals "gaps_of" = some (some (.ref fq11)))
    (lq11 : K.lookup fq11 = some ⟨ocq11, odq11, .func (PySem.W.fnOf "gaps_of" "gaps_of" (defArgs st_gaps_of) (defBody st_gaps_of) (defScope st_gaps_of) .none kVq11 dcq11 pmq11 anq11 cdq11 ctq11), slq11⟩)
    (cq11 : PySem.W.codeIn K cdq11 "gaps_of" = true)
    (kq11 : PySem.W.keepIn K (.ref fq11) = true)
    (aq12 : PySem.W.nsIn K mainGlobals "narrowed" = some (some (.ref fq12)))
    (lq12 : K.lookup fq12 = some ⟨ocq12, odq12, .func (PySem.W.fnOf "narrowed" "narrowed" (defArgs st_narrowed) (defBody st_narrowed) (defScope st_narrowed) .none kVq12 dcq12 pmq12 anq12 cdq12 ctq12), slq12⟩)
    (cq12 : PySem.W.codeIn K cdq12 "narrowed" = true)
    (kq12 : PySem.W.keepIn K (.ref fq12) = true)
    (aq13 : PySem.W.nsIn K mainGlobals "explanations" = some (some (.ref fq13)))
    (lq13 : K.lookup fq13 = some ⟨ocq13, odq13, .func (PySem.W.fnOf "explanations" "explanations" (defArgs st_explanations) (defBody st_explanations) (defScope st_explanations) .none kVq13 dcq13 pmq13 anq13 cdq13 ctq13), slq13⟩)
    (cq13 : PySem.W.codeIn K cdq13 "explanations" = true)
    (kq13 : PySem.W.keepIn K (.ref fq13) = true)
    (aq14 : PySem.W.nsIn K mainGlobals "_law_mixed" = some (some (.ref fq14)))
    (lq14 : K.lookup fq14 = some ⟨ocq14, odq14, .func (PySem.W.fnOf "_law_mixed" "_law_mixed" (defArgs st__law_mixed) (defBody st__law_mixed) (defScope st__law_mixed) .none kVq14 dcq14 pmq14 anq14 cdq14 ctq14), slq14⟩)
    (cq14 : PySem.W.codeIn K cdq14 "_law_mixed" = true)
    (kq14 : PySem.W.keepIn K (.ref fq14) = true)
    (aq15 : PySem.W.nsIn K mainGlobals "_law_well" = some (some (.ref fq15)))
    (lq15 : K.lookup fq15 = some ⟨ocq15, odq15, .func (PySem.W.fnOf "_law_well" "_law_well" (defArgs st__law_well) (defBody st__law_well) (defScope st__law_well) .none kVq15 dcq15 pmq15 anq15 cdq15 ctq15), slq15⟩)
    (cq15 : PySem.W.codeIn K cdq15 "_law_well" = true)
    (kq15 : PySem.W.keepIn K (.ref fq15) = true)
    (aq16 : PySem.W.nsIn K mainGlobals "_law_draw" = some (some (.ref fq16)))
    (lq16 : K.lookup fq16 = some ⟨ocq16, odq16, .func (PySem.W.fnOf "_law_draw" "_law_draw" (defArgs st__law_draw) (defBody st__law_draw) (defScope st__law_draw) .none kVq16 dcq16 pmq16 anq16 cdq16 ctq16), slq16⟩)
    (cq16 : PySem.W.codeIn K cdq16 "_law_draw" = true)
    (kq16 : PySem.W.keepIn K (.ref fq16) = true)
    (aq17 : PySem.W.nsIn K mainGlobals "_law_one" = some (some (.ref fq17)))
    (lq17 : K.lookup fq17 = some ⟨ocq17, odq17, .func (PySem.W.fnOf "_law_one" "_law_one" (defArgs st__law_one) (defBody st__law_one) (defScope st__law_one) .none kVq17 dcq17 pmq17 anq17 cdq17 ctq17), slq17⟩)
    (cq17 : PySem.W.codeIn K cdq17 "_law_one" = true)
    (kq17 : PySem.W.keepIn K (.ref fq17) = true)
    (aq18 : PySem.W.nsIn K mainGlobals "_law_log" = some (some (.ref fq18)))
    (lq18 : K.lookup fq18 = some ⟨ocq18, odq18, .func (PySem.W.fnOf "_law_log" "_law_log" (defArgs st__law_log) (defBody st__law_log) (defScope st__law_log) .none kVq18 dcq18 pmq18 anq18 cdq18 ctq18), slq18⟩)
    (cq18 : PySem.W.codeIn K cdq18 "_law_log" = true)
    (kq18 : PySem.W.keepIn K (.ref fq18) = true)
    (aq19 : PySem.W.nsIn K mainGlobals "_law_seen" = some (some (.ref fq19)))
    (lq19 : K.lookup fq19 = some ⟨ocq19, odq19, .func (PySem.W.fnOf "_law_seen" "_law_seen" (defArgs st__law_seen) (defBody st__law_seen) (defScope st__law_seen) .none kVq19 dcq19 pmq19 anq19 cdq19 ctq19), slq19⟩)
    (cq19 : PySem.W.codeIn K cdq19 "_law_seen" = true)
    (kq19 : PySem.W.keepIn K (.ref fq19) = true)
    (aq20 : PySem.W.nsIn K mainGlobals "_law_fits" = some (some (.ref fq20)))
    (lq20 : K.lookup fq20 = some ⟨ocq20, odq20, .func (PySem.W.fnOf "_law_fits" "_law_fits" (defArgs st__law_fits) (defBody st__law_fits) (defScope st__law_fits) .none kVq20 dcq20 pmq20 anq20 cdq20 ctq20), slq20⟩)
    (cq20 : PySem.W.codeIn K cdq20 "_law_fits" = true)
    (kq20 : PySem.W.keepIn K (.ref fq20) = true)
    (aq21 : PySem.W.nsIn K mainGlobals "_law_due" = some (some (.ref fq21)))
    (lq21 : K.lookup fq21 = some ⟨ocq21, odq21, .func (PySem.W.fnOf "_law_due" "_law_due" (defArgs st__law_due) (defBody st__law_due) (defScope st__law_due) .none kVq21 dcq21 pmq21 anq21 cdq21 ctq21), slq21⟩)
    (cq21 : PySem.W.codeIn K cdq21 "_law_due" = true)
    (kq21 : PySem.W.keepIn K (.ref fq21) = true)
    (aq22 : PySem.W.nsIn K mainGlobals "_law_right" = some (some (.ref fq22)))
    (lq22 : K.lookup fq22 = some ⟨ocq22, odq22, .func (PySem.W.fnOf "_law_right" "_law_right" (defArgs st__law_right) (defBody st__law_right) (defScope st__law_right) .none kVq22 dcq22 pmq22 anq22 cdq22 ctq22), slq22⟩)
    (cq22 : PySem.W.codeIn K cdq22 "_law_right" = true)
    (kq22 : PySem.W.keepIn K (.ref fq22) = true)
    (gNMOST_ENTRIES : PySem.W.nsIn K mainGlobals "MOST_ENTRIES" = some (some (.int 1000 tNMOST_ENTRIES)))
    (aY : PySem.W.nsIn K mainGlobals "law" = some (some (.ref aLaw)))
    (lY : K.lookup aLaw = some ⟨ocY, odY, .func (PySem.W.fnOf "law" "law" (defArgs st_law) (defBody st_law) (defScope st_law) .none kVY dcY pmY anY cdY ctY), slY⟩)
    (cY : PySem.W.codeIn K cdY "law" = true)
    (kY : PySem.W.keepIn K (.ref aLaw) = true)
    (z_bool : PySem.W.nsIn K mainGlobals "bool" = some none)
    (z_enumerate : PySem.W.nsIn K mainGlobals "enumerate" = some none)
    (z_int : PySem.W.nsIn K mainGlobals "int" = some none)
    (z_isinstance : PySem.W.nsIn K mainGlobals "isinstance" = some none)
    (z_len : PySem.W.nsIn K mainGlobals "len" = some none)
    (z_list : PySem.W.nsIn K mainGlobals "list" = some none)
    (z_max : PySem.W.nsIn K mainGlobals "max" = some none)
    (z_min : PySem.W.nsIn K mainGlobals "min" = some none)
    (z_range : PySem.W.nsIn K mainGlobals "range" = some none)
    (z_tuple : PySem.W.nsIn K mainGlobals "tuple" = some none) :
    ∃ fd : FuncData, (∀ (s : Shared) (v : Value), BindsTo s fd ⟨[v], []⟩ [("_law_script", v)]) ∧ ∀ base : Heap, K.In base → base.Ns mainGlobals mg → FnOk P w K mg base CX0 12 fa fd ["_law_script"] (spLaw K) := by
  have e := hfa.symm.trans (PySem.W.mg_of X G aY)
  cases e
  obtain ⟨vMOST_COUNT, hvMOST_COUNT, rMOST_COUNT⟩ := LL.val _ hLMOST_COUNT
  obtain ⟨tMOST_COUNT, rfl, -⟩ := PySem.W.readsW_int_inv rMOST_COUNT
  obtain ⟨vMOST_TIME, hvMOST_TIME, rMOST_TIME⟩ := LL.val _ hLMOST_TIME
  obtain ⟨tMOST_TIME, rfl, -⟩ := PySem.W.readsW_int_inv rMOST_TIME
  have T : LX K mg ⟨fq0, fq1, fq2, fq3, fq4, fq5, fq6, fq7, fq8, fq9, fq10, fq11, fq12, fq13, fq14, fq15, fq16, fq17, fq18, fq19, fq20, fq21, fq22⟩ := ⟨PySem.W.mg_none_of X G z_bool,
    PySem.W.mg_none_of X G z_enumerate,
    PySem.W.mg_none_of X G z_int,
    PySem.W.mg_none_of X G z_isinstance,
    PySem.W.mg_none_of X G z_len,
    PySem.W.mg_none_of X G z_list,
    PySem.W.mg_none_of X G z_max,
    PySem.W.mg_none_of X G z_min,
    PySem.W.mg_none_of X G z_range,
    PySem.W.mg_none_of X G z_tuple,
    ⟨_, hvMOST_COUNT⟩,
    ⟨_, hvMOST_TIME⟩,
    ⟨_, PySem.W.mg_of X G gNMOST_ENTRIES⟩,
    mk_dfn X G aq0 lq0 cq0 kq0 bn_q0,
    mk_dfn X G aq1 lq1 cq1 kq1 bn_q1,
    mk_dfn X G aq2 lq2 cq2 kq2 bn_q2,
    mk_dfn X G aq3 lq3 cq3 kq3 bn_q3,
    mk_dfn X G aq4 lq4 cq4 kq4 bn_q4,
    mk_dfn X G aq5 lq5 cq5 kq5 bn_q5,
    mk_dfn X G aq6 lq6 cq6 kq6 bn_q6,
    mk_dfn X G aq7 lq7 cq7 kq7 bn_q7,
    mk_dfn X G aq8 lq8 cq8 kq8 bn_q8,
    mk_dfn X G aq9 lq9 cq9 kq9 bn_q9,
    mk_dfn X G aq10 lq10 cq10 kq10 bn_q10,
    mk_dfn X G aq11 lq11 cq11 kq11 bn_q11,
    mk_dfn X G aq12 lq12 cq12 kq12 bn_q12,
    mk_dfn X G aq13 lq13 cq13 kq13 bn_q13,
    mk_dfn X G aq14 lq14 cq14 kq14 bn_q14,
    mk_dfn X G aq15 lq15 cq15 kq15 bn_q15,
    mk_dfn X G aq16 lq16 cq16 kq16 bn_q16,
    mk_dfn X G aq17 lq17 cq17 kq17 bn_q17,
    mk_dfn X G aq18 lq18 cq18 kq18 bn_q18,
    mk_dfn X G aq19 lq19 cq19 kq19 bn_q19,
    mk_dfn X G aq20 lq20 cq20 kq20 bn_q20,
    mk_dfn X G aq21 lq21 cq21 kq21 bn_q21,
    mk_dfn X G aq22 lq22 cq22 kq22 bn_q22⟩
  exact ⟨_, fun s v => .of_eq rfl, fun base _ _ => ok_law (fun_mk lY cY kY) T⟩
/-- as the hand layer's end, with what the loose names hold -/
theorem walk_loose {l : PySem.W.OpenLaw} {q p : Program} {lv : List (Str × PySem.W.WData)} {loose : List Str} {YP : World → Heap → Prop} {d : DefRec} {K : Params → PySem.W.Frag} (hn : l.most = some 63) (hd : d.params.defaults = []) (hY : ∀ (w : World) (h : Heap), YP w h → (K w.params).In h)
    (F : ∀ (w : World) (mg : Str → Option Value) (fa : Addr) (h : Heap), (K w.params).In h → h.Ns mainGlobals mg → PySem.W.LooseAre lv mg h → mg d.name = some (.ref fa) → ∃ fd : FuncData, (∀ (s : Shared) (u : Value), BindsTo s fd ⟨[u], []⟩ [("_law_script", u)]) ∧ ∀ base : Heap, (K w.params).In base → base.Ns mainGlobals mg → FnOk l.prog w (K w.params) mg base CX0 12 fa fd ["_law_script"] (spLaw (K w.params))) :
    PySem.W.WalkO q loose (PySem.W.XL p lv) YP l.row.toRowW d [] (fun f vs => PySem.call f vs) := Att.attach_call hn hd fun w _ s₁ mg mb fa _ _ _ _ a vs ns G Y _ _ _ hmg hobj hints hlen hg => by
  obtain ⟨fd, hb, hF⟩ := F w mg fa s₁.heap (hY w s₁.heap Y) G.T.g G.X.2 hmg
  exact law_call (hY w s₁.heap Y) G.T.g G.T.b G.T.builtins G.T.nolimit hg hobj hints (Nat.le_trans hlen (by decide)) ⟨rfl, by decide, by decide⟩ hF hb (fun H _ hS => ⟨a, ns, rfl, hS, hlen, fun _ => rfl⟩) fun _ _ _ z => z

end Toy
open PySem PySem.W PyProof.Rows
set_option maxRecDepth 100000 in
set_option maxHeartbeats 0 in
theorem PySem.Challenge.cw_breakerrow_k46_breakers_that_explain_log_holds : PySem.Challenge.rw_breakerrow_k46_breakers_that_explain_log.Holds := by
  w_on; o_law; k_head; (case hw => w_witness2)
  k_fill
  refine Toy.walk_loose (l := PySem.Challenge.rw_breakerrow_k46_breakers_that_explain_log) rfl rfl (fun w h Y => PySem.W.kIn_of Y) ?F
  intro w mg fa h KX G LL hmg
  refine' Toy.all_mk KX G LL (by first | exact .head _ | exact .tail _ (.head _) | exact .tail _ (.tail _ (.head _)) | exact .tail _ (.tail _ (.tail _ (.head _))) | exact .tail _ (.tail _ (.tail _ (.tail _ (.head _)))) | exact .tail _ (.tail _ (.tail _ (.tail _ (.tail _ (.head _))))) | exact .tail _ (.tail _ (.tail _ (.tail _ (.tail _ (.tail _ (.head _)))))) | exact .tail _ (.tail _ (.tail _ (.tail _ (.tail _ (.tail _ (.tail _ (.head _))))))) | exact .tail _ (.tail _ (.tail _ (.tail _ (.tail _ (.tail _ (.tail _ (.tail _ (.head _)))))))) | exact .tail _ (.tail _ (.tail _ (.tail _ (.tail _ (.tail _ (.tail _ (.tail _ (.tail _ (.head _)))))))))) (by first | exact .head _ | exact .tail _ (.head _) | exact .tail _ (.tail _ (.head _)) | exact .tail _ (.tail _ (.tail _ (.head _))) | exact .tail _ (.tail _ (.tail _ (.tail _ (.head _)))) | exact .tail _ (.tail _ (.tail _ (.tail _ (.tail _ (.head _))))) | exact .tail _ (.tail _ (.tail _ (.tail _ (.tail _ (.tail _ (.head _)))))) | exact .tail _ (.tail _ (.tail _ (.tail _ (.tail _ (.tail _ (.tail _ (.head _))))))) | exact .tail _ (.tail _ (.tail _ (.tail _ (.tail _ (.tail _ (.tail _ (.tail _ (.head _)))))))) | exact .tail _ (.tail _ (.tail _ (.tail _ (.tail _ (.tail _ (.tail _ (.tail _ (.tail _ (.head _)))))))))) hmg ?aq0 ?lq0 ?cq0 ?kq0 ?aq1 ?lq1 ?cq1 ?kq1 ?aq2 ?lq2 ?cq2 ?kq2 ?aq3 ?lq3 ?cq3 ?kq3 ?aq4 ?lq4 ?cq4 ?kq4 ?aq5 ?lq5 ?cq5 ?kq5 ?aq6 ?lq6 ?cq6 ?kq6 ?aq7 ?lq7 ?cq7 ?kq7 ?aq8 ?lq8 ?cq8 ?kq8 ?aq9 ?lq9 ?cq9 ?kq9 ?aq10 ?lq10 ?cq10 ?kq10 ?aq11 ?lq11 ?cq11 ?kq11 ?aq12 ?lq12 ?cq12 ?kq12 ?aq13 ?lq13 ?cq13 ?kq13 ?aq14 ?lq14 ?cq14 ?kq14 ?aq15 ?lq15 ?cq15 ?kq15 ?aq16 ?lq16 ?cq16 ?kq16 ?aq17 ?lq17 ?cq17 ?kq17 ?aq18 ?lq18 ?cq18 ?kq18 ?aq19 ?lq19 ?cq19 ?kq19 ?aq20 ?lq20 ?cq20 ?kq20 ?aq21 ?lq21 ?cq21 ?kq21 ?aq22 ?lq22 ?cq22 ?kq22 ?gNMOST_ENTRIES ?aY ?lY ?cY ?kY ?z_bool ?z_enumerate ?z_int ?z_isinstance ?z_len ?z_list ?z_max ?z_min ?z_range ?z_tuple
  (case aq0 => k_is)
  (case lq0 => k_is)
  (case cq0 => k_is)
  (case kq0 => k_is)
  (case aq1 => k_is)
  (case lq1 => k_is)
  (case cq1 => k_is)
  (case kq1 => k_is)
  (case aq2 => k_is)
  (case lq2 => k_is)
  (case cq2 => k_is)
  (case kq2 => k_is)
  (case aq3 => k_is)
  (case lq3 => k_is)
  (case cq3 => k_is)
  (case kq3 => k_is)
  (case aq4 => k_is)
  (case lq4 => k_is)
  (case cq4 => k_is)
  (case kq4 => k_is)
  (case aq5 => k_is)
  (case lq5 => k_is)
  (case cq5 => k_is)
  (case kq5 => k_is)
  (case aq6 => k_is)
  (case lq6 => k_is)
  (case cq6 => k_is)
  (case kq6 => k_is)
  (case aq7 => k_is)
  (case lq7 => k_is)
  (case cq7 => k_is)
  (case kq7 => k_is)
  (case aq8 => k_is)
  (case lq8 => k_is)
  (case cq8 => k_is)
  (case kq8 => k_is)
  (case aq9 => k_is)
  (case lq9 => k_is)
  (case cq9 => k_is)
  (case kq9 => k_is)
  (case aq10 => k_is)
  (case lq10 => k_is)
  (case cq10 => k_is)
  (case kq10 => k_is)
  (case aq11 => k_is)
  (case lq11 => k_is)
  (case cq11 => k_is)
  (case kq11 => k_is)
  (case aq12 => k_is)
  (case lq12 => k_is)
  (case cq12 => k_is)
  (case kq12 => k_is)
  (case aq13 => k_is)
  (case lq13 => k_is)
  (case cq13 => k_is)
  (case kq13 => k_is)
  (case aq14 => k_is)
  (case lq14 => k_is)
  (case cq14 => k_is)
  (case kq14 => k_is)
  (case aq15 => k_is)
  (case lq15 => k_is)
  (case cq15 => k_is)
  (case kq15 => k_is)
  (case aq16 => k_is)
  (case lq16 => k_is)
  (case cq16 => k_is)
  (case kq16 => k_is)
  (case aq17 => k_is)
  (case lq17 => k_is)
  (case cq17 => k_is)
  (case kq17 => k_is)
  (case aq18 => k_is)
  (case lq18 => k_is)
  (case cq18 => k_is)
  (case kq18 => k_is)
  (case aq19 => k_is)
  (case lq19 => k_is)
  (case cq19 => k_is)
  (case kq19 => k_is)
  (case aq20 => k_is)
  (case lq20 => k_is)
  (case cq20 => k_is)
  (case kq20 => k_is)
  (case aq21 => k_is)
  (case lq21 => k_is)
  (case cq21 => k_is)
  (case kq21 => k_is)
  (case aq22 => k_is)
  (case lq22 => k_is)
  (case cq22 => k_is)
  (case kq22 => k_is)
  (case gNMOST_ENTRIES => k_is)
  (case aY => k_is)
  (case lY => k_is)
  (case cY => k_is)
  (case kY => k_is)
  (case z_bool => k_is)
  (case z_enumerate => k_is)
  (case z_int => k_is)
  (case z_isinstance => k_is)
  (case z_len => k_is)
  (case z_list => k_is)
  (case z_max => k_is)
  (case z_min => k_is)
  (case z_range => k_is)
  (case z_tuple => k_is)
