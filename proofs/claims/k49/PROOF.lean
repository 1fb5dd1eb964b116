import PyProof.Rows.All
import Wide.All
import OpenK.AllK
import Wide.FinOn
import HandS.ForMost
import HandS.IsInst
import HandS.Wide
import HandS.Style
import HandS.Defaults
import HandS.MakeKwOnly
import HandS.Zip
import HandS.SortRule
import HandS.TupAny
import HandS.Lambda
import KE.GoesEnum
import HandS.Flow
import HandS.Codes
import HandS.WideBits
import HandS.OwnEq
import HandS.TryOnly
import HandS.TupLe
import HandS.SetFor
import KE.DataMinMax
import HandS.Conv
import KE.DataFind
import PyProof.Rows.CallKwBuiltin
import PyProof.LongRange
import HandS.ExcInit
import KE.KExcInit
import HandS.WordsExc
import HandS.ExcField
import KE.KExcIs
import HandS.RaiseMore
import HandS.EndTab
import KE.KNestM
import PySem.Challenge.RW_breakerrow_k49_waits_by_periods
set_option Elab.async false
set_option linter.all false
set_option maxRecDepth 100000
set_option maxHeartbeats 4000000
namespace Own
open PySem PySem.Spec PyProof.Rows L2
open Builtin

section
variable {X : Cx} {CX : CXT} {k : Nat} {f C : Addr} {fd : FuncData} {ps : List Str} {sp : Sp} {E : XK}

theorem rr {p : Addr} : L2.RelV (.ref p) (.ref p) := rfl
/-- a promise used under any frame below the body -/
theorem run_at {A : Around} {pins : List (Addr × Obj)} {σ : L2.St} {H : Hp} {s : Shared} {Q : VK} {us : List Value} {vs : List V} (F : FnOk X.prog X.w X.K X.mg X.base CX k f fd ps sp) (hr : Room k A) (hA : A.frames = X.A.frames)
    (hb : Binds X.K fd ps []) (hx : Passes CX X E) (I : Inv X pins σ H s) (r : Vals vs us) (h : sp vs H Q E) : wpAny (model X.prog X.w) A (call (.ref f) us) (EP X pins σ Q) X.xe s := by
  have hl : us.length = ps.length := by rw [← r.length]; exact F.len _ _ _ _ h
  have e0 : Env0 X.prog X.w X.K X.mg X.base A X.stack s H := by
    have e := I.env0
    exact ⟨by rw [hA]; exact e.frames, e.mod, e.bs, e.bsz, e.funs, e.frf, e.hok, e.bare⟩
  have hB : BindsTo s fd ⟨us, []⟩ (ps.zip us) := by
    have := hb s us I.kIn (by rw [List.append_nil]; exact hl)
    rwa [List.append_nil] at this
  refine wpAny_call (codeAny_mono (F.run A X.stack s H ⟨us, []⟩ us vs Q E hr e0 hB r h) fun r s' hq => ?_)
  cases r with
  | error e => exact hx pins σ H s e s' I hq
  | ok fl =>
    cases fl with
    | ret u => exact I.after hq
    | next => exact False.elim hq
    | brk => exact False.elim hq
    | cont => exact False.elim hq

theorem inst_of {pins : List (Addr × Obj)} {σ : L2.St} {H : Hp} {s : Shared} {p dx : Addr} {fs : List (Str × V)} (I : Inv X pins σ H s) (e : H p = some (.ins C dx fs)) : ∃ od, PySem.W.InstAt s.heap p (PySem.W.instObj C dx) C od := by
  obtain ⟨mA, O, _⟩ := ins_get I.hok e
  obtain ⟨od, J, _⟩ := O.look
  exact ⟨_, J⟩

/-- a bool is wanted of the method -/
def BlQ (Q : VK) (g : Bool → Bool) : VK := fun v H' => ∃ b, v = .bl b ∧ Q (.bl (g b)) H'
def rOwnIn (C : Addr) (sp : Sp) (E : XK) (g : Bool → Bool) : R2 := fun x y H Q => ∃ p dx fs, y = .ref p ∧ H p = some (.ins C dx fs) ∧ sp [.ref p, x] H (BlQ Q g) E
theorem op_own_in (F : FnOk X.prog X.w X.K X.mg X.base CX k f fd ps sp) (hr : Room k X.A) (hs : PySem.W.findIn X.K (.ref C) "__contains__" = some (some (.ref f))) (hf : PySem.W.isFn X.K (.ref f) = true) (hb : Binds X.K fd ps []) (hx : Passes CX X E) :
    OpR X (compareOp .In) (rOwnIn C sp E id) := by
  intro pins s σ H x y v u Q I rx ry h
  obtain ⟨p, dx, fs, rfl, hp, q⟩ := h
  cases ry
  obtain ⟨od, J⟩ := inst_of I hp
  obtain ⟨m, hF⟩ := I.fr
  refine PySem.W.in_K hF I.ok.mod.kin J hs hf (thn (run_at F hr rfl hb hx I (.cons rr (.cons rx .nil)) q) fun r s' hh => ?_)
  obtain ⟨z, H', I', rz, b, ez, q'⟩ := hh
  subst ez
  cases rz
  exact wpAny_truthy_bool ⟨.bl b, H', I', rfl, q'⟩
theorem op_own_notin (F : FnOk X.prog X.w X.K X.mg X.base CX k f fd ps sp) (hr : Room k X.A) (hs : PySem.W.findIn X.K (.ref C) "__contains__" = some (some (.ref f))) (hf : PySem.W.isFn X.K (.ref f) = true) (hb : Binds X.K fd ps []) (hx : Passes CX X E) :
    OpR X (compareOp .NotIn) (rOwnIn C sp E not) := by
  intro pins s σ H x y v u Q I rx ry h
  obtain ⟨p, dx, fs, rfl, hp, q⟩ := h
  cases ry
  obtain ⟨od, J⟩ := inst_of I hp
  obtain ⟨m, hF⟩ := I.fr
  refine PySem.W.notIn_K hF I.ok.mod.kin J hs hf (thn (run_at F hr rfl hb hx I (.cons rr (.cons rx .nil)) q) fun r s' hh => ?_)
  obtain ⟨z, H', I', rz, b, ez, q'⟩ := hh
  subst ez
  cases rz
  exact wpAny_truthy_bool ⟨.bl (!b), H', I', rfl, q'⟩
/-- len(o) -/
def rOwnLen (C : Addr) (sp : Sp) (E : XK) : List V → Hp → VK → Prop := fun xs H Q => ∃ p dx fs, xs = [.ref p] ∧ H p = some (.ins C dx fs) ∧ sp [.ref p] H (fun v H' => ∃ n : Int, v = .int n ∧ 0 ≤ n ∧ n < 2 ^ 63 ∧ Q (.int n) H') E
theorem call_own_len (F : FnOk X.prog X.w X.K X.mg X.base CX k f fd ps sp) (hr : Room (k + 1) X.A) (hs : PySem.W.findIn X.K (.ref C) "__len__" = some (some (.ref f))) (hf : PySem.W.isFn X.K (.ref f) = true) (hb : Binds X.K fd ps []) (hx : Passes CX X E) :
    CallR X (.builtin "len") (rOwnLen C sp E) := by
  intro pins s σ H xs us Q I r h
  obtain ⟨p, dx, fs, rfl, hp, q⟩ := h
  obtain ⟨u, rfl, ru⟩ := vals1 r
  cases ru
  obtain ⟨od, J⟩ := inst_of I hp
  obtain ⟨m, hF⟩ := I.fr
  refine PySem.W.len_K hF I.ok.mod.kin J hs hf (thn (run_at F hr.in1 rfl hb hx I (.cons rr .nil) q) fun r s' hh => ?_)
  obtain ⟨z, H', I', rz, n, ez, h0, h1, q'⟩ := hh
  subst ez
  obtain ⟨t, rfl⟩ := rz
  exact ⟨⟨h0, h1⟩, ⟨.int n, H', I'.tok _, ⟨_, rfl⟩, q'⟩⟩
/-- o + p, both of the class -/
def rOwnAdd (C : Addr) (sp : Sp) (E : XK) : R2 := fun x y H Q => ∃ p dx fs q dy gs, x = .ref p ∧ H p = some (.ins C dx fs) ∧ y = .ref q ∧ H q = some (.ins C dy gs) ∧ sp [.ref p, .ref q] H (fun v H' => (∃ a, v = .ref a) ∧ Q v H') E
theorem op_own_add (F : FnOk X.prog X.w X.K X.mg X.base CX k f fd ps sp) (hr : Room k X.A) (hc : PySem.W.selfFirst X.K C = true) (hs : PySem.W.findIn X.K (.ref C) "__add__" = some (some (.ref f))) (hf : PySem.W.isFn X.K (.ref f) = true) (hb : Binds X.K fd ps []) (hx : Passes CX X E) :
    OpR X (binaryOp .Add) (rOwnAdd C sp E) := by
  intro pins s σ H x y v u Q I rx ry h
  obtain ⟨p, dx, fs, q, dy, gs, rfl, hp, rfl, hq, hh⟩ := h
  cases rx
  cases ry
  obtain ⟨od, J⟩ := inst_of I hp
  obtain ⟨od', J'⟩ := inst_of I hq
  obtain ⟨m, hF⟩ := I.fr
  refine PySem.W.binop_K hF I.ok.mod.kin J J'.type hc hs hf (thn (run_at F hr rfl hb hx I (.cons rr (.cons rr .nil)) hh) fun r s' hh => ?_)
  obtain ⟨z, H', I', rz, ⟨a, ez⟩, q'⟩ := hh
  subst ez
  cases rz
  exact ⟨.ref a, H', I', rfl, q'⟩
/-- o[i] -/
def rOwnIx (C : Addr) (sp : Sp) (E : XK) : R2 := fun x y H Q => ∃ p dx fs, x = .ref p ∧ H p = some (.ins C dx fs) ∧ sp [.ref p, y] H Q E
theorem pe_own_ix {a b : Expr} {ta tb : TE} {pos : Pos} (F : FnOk X.prog X.w X.K X.mg X.base CX k f fd ps sp) (hr : Room (k + 1) X.A) (hs : PySem.W.findIn X.K (.ref C) "__getitem__" = some (some (.ref f))) (hfn : PySem.W.fnIn X.K f = true) (hf : PySem.W.isFn X.K (.ref f) = true)
    (hb : Binds X.K fd ps []) (hx : Passes CX X E) (ha : PE X a ta) (hb' : PE X b tb) (hsl : ∀ o i, subscripted b true o i = runValue (.builtin "lifetime.subscript" ⟨[o, i], []⟩) := by exact fun _ _ => rfl) :
    PE X (.Subscript a b pos) (tOp (rOwnIx C sp E) ta tb) := by
  refine ⟨fun pins s σ H Q I h => ?_⟩
  refine Subscript_ (binT ha hb' I h fun v u s2 x y H2 I2 rx ry q => ?_)
  obtain ⟨p, dx, fs, rfl, hp, q⟩ := q
  cases rx
  obtain ⟨od, J⟩ := inst_of I2 hp
  obtain ⟨m, hF⟩ := I2.fr
  exact PySem.W.sub_K hF I2.ok.mod.kin J hs hfn hf (run_at F hr.in1 rfl hb hx I2 (.cons rr (.cons ry .nil)) q) (hsl _ _)

/-! ### own == and the != that comes with it -/
theorem sub_ty {K : PySem.W.Frag} {C : Addr} {T : String} {l : List String} (e : fastBuiltinMro T = some (l.map Value.type)) : PySem.W.subIn K (.type T) (.ref C) = some false := by
  show (fastBuiltinMro T).map (·.contains (.ref C)) = some false
  rw [e]
  have : ∀ l : List String, (l.map Value.type).contains (Value.ref C) = false := by
    intro l
    induction l with
    | nil => rfl
    | cons a r ih =>
      rw [List.map_cons, List.contains_cons, ih]
      rfl
  rw [Option.map_some, this]
/-- a value's type, not one below the class C -/
inductive TyN (H : Hp) (C : Addr) : V → Value → Prop where
  | non : TyN H C .non (.type "NoneType")
  | bl (x : Bool) : TyN H C (.bl x) (.type "bool")
  | int (i : Int) : TyN H C (.int i) (.type "int")
  | str (x : Str) : TyN H C (.str x) (.type "str")
  | lst {a : Addr} {xs : List V} (e : H a = some (.lst xs)) : TyN H C (.ref a) (.type "list")
  | tup {a : Addr} {xs : List V} (e : H a = some (.tup xs)) : TyN H C (.ref a) (.type "tuple")
  | ins {a dx : Addr} {fs : List (Str × V)} (e : H a = some (.ins C dx fs)) : TyN H C (.ref a) (.ref C)
theorem TyN.notFirst {K : PySem.W.Frag} {H : Hp} {x : V} {t : Value} (h : TyN H C x t) : PySem.W.notFirst K C t = true := by
  cases h with
  | non => exact Bool.or_eq_true_iff.mpr (.inr (beq_iff_eq.mpr (sub_ty (l := ["NoneType", "object"]) (by decide +kernel))))
  | bl _ => exact Bool.or_eq_true_iff.mpr (.inr (beq_iff_eq.mpr (sub_ty (l := ["bool", "int", "object"]) (by decide +kernel))))
  | int _ => exact Bool.or_eq_true_iff.mpr (.inr (beq_iff_eq.mpr (sub_ty (l := ["int", "object"]) (by decide +kernel))))
  | str _ => exact Bool.or_eq_true_iff.mpr (.inr (beq_iff_eq.mpr (sub_ty (l := ["str", "object"]) (by decide +kernel))))
  | lst _ => exact Bool.or_eq_true_iff.mpr (.inr (beq_iff_eq.mpr (sub_ty (l := ["list", "object"]) (by decide +kernel))))
  | tup _ => exact Bool.or_eq_true_iff.mpr (.inr (beq_iff_eq.mpr (sub_ty (l := ["tuple", "object"]) (by decide +kernel))))
  | ins _ => exact Bool.or_eq_true_iff.mpr (.inl (by simp))
theorem looks_obj {M : Model} {h : Heap} {a : Addr} {o : Obj} (e : h.get? a = some o) : PySem.W.Looks M h (typeOf (.ref a)) o.cls := fun A Q E s kp q => PySem.wpAny_typeOf_ref (kp _ _ e) q
theorem TyN.looks {M : Model} {pins : List (Addr × Obj)} {σ : L2.St} {H : Hp} {s : Shared} {x : V} {u t : Value} (I : Inv X pins σ H s) (r : RelV x u) (h : TyN H C x t) : PySem.W.Looks M s.heap (typeOf u) t := by
  cases h with
  | non => cases r; exact PySem.W.Looks.of_pure rfl
  | bl _ => cases r; exact PySem.W.Looks.of_pure rfl
  | int _ => obtain ⟨_, rfl⟩ := r; exact PySem.W.Looks.of_pure rfl
  | str _ => obtain ⟨_, rfl⟩ := r; exact PySem.W.Looks.of_pure rfl
  | @lst a xs e =>
    cases r
    obtain ⟨_, _, n, _, h1⟩ := (show ObjOk X.prog X.w H s.heap a (.lst xs) from I.hok a _ e)
    exact looks_obj h1
  | @tup a xs e =>
    cases r
    obtain ⟨_, _, _, o, h1, h2, _⟩ := (show ObjOk X.prog X.w H s.heap a (.tup xs) from I.hok a _ e)
    have := looks_obj (M := M) h1
    rw [h2] at this
    exact this
  | ins e =>
    cases r
    obtain ⟨od, J⟩ := inst_of I e
    exact J.type
def rOwnEq (C : Addr) (sp : Sp) (E : XK) (g : Bool → Bool) : R2 := fun x y H Q => ∃ p dx fs t, x = .ref p ∧ H p = some (.ins C dx fs) ∧ TyN H C y t ∧ sp [.ref p, y] H (BlQ Q g) E
theorem op_own_eq (F : FnOk X.prog X.w X.K X.mg X.base CX k f fd ps sp) (hr : Room k X.A) (hs : PySem.W.findIn X.K (.ref C) "__eq__" = some (some (.ref f))) (hf : PySem.W.isFn X.K (.ref f) = true) (hb : Binds X.K fd ps []) (hx : Passes CX X E) :
    OpR X (compareOp .Eq) (rOwnEq C sp E id) := by
  intro pins s σ H x y v u Q I rx ry h
  obtain ⟨p, dx, fs, t, rfl, hp, ty, q⟩ := h
  cases rx
  obtain ⟨od, J⟩ := inst_of I hp
  obtain ⟨m, hF⟩ := I.fr
  show wpAny (model X.prog X.w) X.A (richCompare .Eq (.ref p) u) (EP X pins σ Q) X.xe s
  refine PySem.W.cmp_K (op := .Eq) hr.units0 hF I.ok.mod.kin J (ty.looks I ry) ty.notFirst hs hf (thn (run_at F hr rfl hb hx I (.cons rr (.cons ry .nil)) q) fun r s' hh => ?_)
  obtain ⟨z, H', I', rz, b, ez, q'⟩ := hh
  subst ez
  cases rz
  exact ⟨.bl b, H', I', rfl, q'⟩
section
variable {prog : Program} {w : World} {A : Around} {E' : Value → Shared → Prop} {s : Shared} {K : PySem.W.Frag} {x : Addr} {ox : Obj} {od : Option Obj} {b : Value}
theorem objNe_entry (hX : K.In s.heap) (I : PySem.W.InstAt s.heap x ox C od) (hs : PySem.W.findIn K (.ref C) "__eq__" = some (some (.ref f))) (hf : PySem.W.isFn K (.ref f) = true) (hu : A.units < cLine) {Q : Fin → Shared → Prop}
    (hcall : wpAny (model prog w) A (call (.ref f) [.ref x, b]) (fun v s' => ∃ k, v = .bool k ∧ Q (.done (.ret (.bool (!k)))) s') E' s) :
    wpAny (model prog w) A (Builtin.«object.__ne__» ⟨[.ref x, b], []⟩) Q E' s := by
  unfold Builtin.«object.__ne__»
  repeat (first
    | with_reducible refine wpAny_cRoomFor hu ?_
    | (refine wpAny_bind (m := callSpecialIfBound? (.ref x) (Str.ofString "__eq__") [b])
        (PySem.W.ifBound_K hX I hs hf (wpAny_mono hcall (fun r s' hr => by
          obtain ⟨k, rfl, hq⟩ := hr
          repeat (first | exact hq | exact wpAny_pure hq | exact wpAny_truthy_bool hq | (refine wpAny_bind (m := truthy (.bool _)) (wpAny_truthy_bool ?_)) | wp_step)) fun _ _ e => e)))
    | wp_step)
theorem call_objNe (hX : K.In s.heap) (I : PySem.W.InstAt s.heap x ox C od) (hm : PySem.W.mroIn K C (.type "object") = some true) (hs : PySem.W.findIn K (.ref C) "__eq__" = some (some (.ref f))) (hf : PySem.W.isFn K (.ref f) = true) (hu : A.units + 1 < cLine) {Q : Value → Shared → Prop}
    (hcall : wpAny (model prog w) A.in1 (call (.ref f) [.ref x, b]) (fun v s' => ∃ k, v = .bool k ∧ Q (.bool (!k)) s') E' s) :
    wpAny (model prog w) A (call (.builtin "object.__ne__") [.ref x, b]) Q E' s :=
  wpAny_call (codeAny_call_builtin PySem.F.cmp_object.ne.plain PySem.F.cmpEntry_ne (PySem.W.check_slot PySem.F.cmpKind_ne PySem.F.cmpSplit_ne (I.type.andThen (PySem.W.looks_mroIn hX hm)) (PySem.F.cmpArgs_ne _ _)
    (objNe_entry (A := A.in1) hX I hs hf hu (wpAny_mono hcall (fun v s' hv => by
      obtain ⟨k, e, hq⟩ := hv
      exact ⟨k, e, hq⟩) fun _ _ e => e))))
theorem ifBound_objNe {M : Model} {args : List Value} {Q : Option Value → Shared → Prop} (hX : K.In s.heap) (I : PySem.W.InstAt s.heap x ox C od) (hs : PySem.W.findIn K (.ref C) "__ne__" = some (some (.builtin "object.__ne__")))
    (h : wpAny M A (call (.builtin "object.__ne__") (.ref x :: args)) (fun v => Q (some v)) E' s) : wpAny M A (callSpecialIfBound? (.ref x) "__ne__" args) Q E' s := by
  simp only [callSpecialIfBound?, bindSpecialIfBound?]
  refine wpAny_holding (wpAny_bind (wpAny_bind (wpAny_bind (I.type.here ((PySem.W.looks_findIn hX hs).here ?_)))))
  refine wpAny_bind (wpAny_askSetting (wpAny_ite ?_))
  have fin : wpAny M A (call (.builtin "object.__ne__") ([.ref x] ++ args) >>= fun v => pure (some v)) Q E' s := wpAny_bind (wpAny_mono h (fun v s' h' => wpAny_pure h') fun _ _ h' => h')
  split
  · exact wpAny_bind (wpAny_of_eq (PySem.F.cmp_object.ne.bind _) (wpAny_pure (by exact fin)))
  · exact wpAny_tryCatch (wpAny_bind (wpAny_of_eq (PySem.F.cmp_object.ne.bind _) (wpAny_pure (by exact fin))))
theorem rc_ne {tb : Value} {Q : Value → Shared → Prop} (hu : A.units + 1 < cLine) (hX : K.In s.heap) (I : PySem.W.InstAt s.heap x ox C od) (hb : PySem.W.Looks (model prog w) s.heap (typeOf b) tb) (hn : PySem.W.notFirst K C tb = true)
    (hm : PySem.W.mroIn K C (.type "object") = some true) (hne : PySem.W.findIn K (.ref C) "__ne__" = some (some (.builtin "object.__ne__"))) (hs : PySem.W.findIn K (.ref C) "__eq__" = some (some (.ref f))) (hf : PySem.W.isFn K (.ref f) = true)
    (hcall : wpAny (model prog w) A.in1 (call (.ref f) [.ref x, b]) (fun v s' => ∃ k, v = .bool k ∧ Q (.bool (!k)) s') E' s) : wpAny (model prog w) A (richCompare .NotEq (.ref x) b) Q E' s := by
  have one : wpAny (model prog w) A (tryCompare (.ref x) "__ne__" b) (fun r s' => ∃ v, r = some v ∧ Q v s') E' s := by
    unfold tryCompare
    refine wpAny_bind (ifBound_objNe hX I hne (call_objNe hX I hm hs hf hu (wpAny_mono hcall (fun v s' hv => ?_) fun _ _ e => e)))
    obtain ⟨k, rfl, hq⟩ := hv
    exact ⟨k, rfl, wpAny_pure ⟨_, rfl, hq⟩⟩
  unfold richCompare
  simp only [oneThing_ref, cmpInfo_NotEq]
  refine wpAny_holding (wpAny_bind (wpAny_cRoomFor (Nat.lt_of_succ_lt hu) ?_))
  refine wpAny_bind (I.type.here (wpAny_bind (hb.here ?_)))
  split
  · rename_i q
    have e : PySem.W.subIn K tb (.ref C) = some false := by
      rcases Bool.or_eq_true_iff.mp hn with e | e
      · rw [beq_iff_eq.mp e] at q; simp at q
      · exact beq_iff_eq.mp e
    refine wpAny_bind ((PySem.W.looks_subIn hX e).here ?_)
    simp only [Bool.false_eq_true, if_false]
    refine wpAny_bind (wpAny_mono one (fun r s' z => ?_) fun _ _ e => e)
    obtain ⟨v, rfl, hq⟩ := z
    exact wpAny_pure hq
  · refine wpAny_bind (wpAny_pure ?_)
    simp only [Bool.false_eq_true, if_false]
    refine wpAny_bind (wpAny_mono one (fun r s' z => ?_) fun _ _ e => e)
    obtain ⟨v, rfl, hq⟩ := z
    exact wpAny_pure hq
end
theorem op_own_ne (F : FnOk X.prog X.w X.K X.mg X.base CX k f fd ps sp) (hr : Room (k + 1) X.A) (hm : PySem.W.mroIn X.K C (.type "object") = some true) (hne : PySem.W.findIn X.K (.ref C) "__ne__" = some (some (.builtin "object.__ne__")))
    (hs : PySem.W.findIn X.K (.ref C) "__eq__" = some (some (.ref f))) (hf : PySem.W.isFn X.K (.ref f) = true) (hb : Binds X.K fd ps []) (hx : Passes CX X E) :
    OpR X (compareOp .NotEq) (rOwnEq C sp E not) := by
  intro pins s σ H x y v u Q I rx ry h
  obtain ⟨p, dx, fs, t, rfl, hp, ty, q⟩ := h
  cases rx
  obtain ⟨od, J⟩ := inst_of I hp
  show wpAny (model X.prog X.w) X.A (richCompare .NotEq (.ref p) u) (EP X pins σ Q) X.xe s
  refine rc_ne (hu_of hr) I.kIn J (ty.looks I ry) ty.notFirst hm hne hs hf (thn (run_at F hr.in1 rfl hb hx I (.cons rr (.cons ry .nil)) q) fun r s' hh => ?_)
  obtain ⟨z, H', I', rz, b, ez, q'⟩ := hh
  subst ez
  cases rz
  exact ⟨b, rfl, .bl (!b), H', I', rfl, q'⟩
end
end Own

namespace Toy
open PySem L2 Own
/-! ### exceptions of the text's own, over ArithmeticError, with fields of their own -/
abbrev aeT : List Value := [.type "ArithmeticError", .type "Exception", .type "BaseException", .type "object"]
theorem no_taker {K : PySem.W.Frag} {C : Addr} {f : Str} (h : PySem.W.findIn K (.ref C) f = some none) : PySem.W.takerIn K C f = some none := by
  unfold PySem.W.takerIn
  rw [h]
  rfl
section
variable {prog : Program} {w : World} {A : Around} {R : Result → Shared → Prop} {hp : Heap} {g : Array GenState} {d : Drawn} {t : Nat} {os : OsState}
/-- the first field -/
theorem ae_first {K : PySem.W.Frag} {f : Str} {tk : Tok} {u : Value} {x C : Addr} {fv : Array Value} {cd : ClassData} (X : K.In hp) (hx : hp.get? x = some { cls := .ref C, data := .fields fv }) (hc : PySem.W.clsIn K C = some cd) (hd : cd.hasDict = true)
    (over : PySem.W.excOver K C aeT = true) (no : PySem.W.findIn K (.ref C) f = some none)
    (k : ∀ h' tk' dx, (∀ b o, b ≠ x → hp.get? b = some o → h'.get? b = some o) → hp.objs.size ≤ dx → dx ≠ x → h'.get? x = some { cls := .ref C, dict := some dx, data := .fields fv } → h'.Ns1 dx (fun y => if y = f then some u else none) → R (.ok (.ret .none)) ⟨h', g, d, tk', os⟩) :
    codeAny (model prog w) A (.call (.builtin "object.__setattr__") ⟨[.ref x, .str f tk, u], []⟩) R ⟨hp, g, d, t, os⟩ := by
  have I : PySem.W.InstAt hp x { cls := .ref C, data := .fields fv } C none := ⟨hx, rfl, rfl, trivial⟩
  refine PySem.W.osa_openX PySem.F.store_ArithmeticError X I over (no_taker no) fun b => ?_
  have look : PySem.W.Looks (model prog w) hp (classData C) cd := PySem.W.looks_clsIn X hc
  have old : x ≠ hp.objs.size := Nat.ne_of_lt (Heap.lt_size hx)
  obtain ⟨nm, bs, mro, ns, qn, hdd, sn, sb, ab, col, dl⟩ := cd
  dsimp only at hd
  subst hd
  dsimp only
  unfold Builtin.ObjectAttr.storeInOwnDict Builtin.ObjectAttr.ownDictForStores
  repeat (first
    | with_reducible refine look.at ?_
    | with_reducible refine wpAny_loadPart_at hx ?_
    | with_reducible refine PySem.HandSPX.store_in_new ?_ ?_
    | wp_step)
  · exact ⟨_, #[], _, (Heap.get?_update_ne _ _ _ _ old.symm).trans (Heap.get?_push_at rfl rfl), rfl, (fun e he => absurd he (by simp)), fun _ => rfl⟩
  · intro h' tk' n1 sb'
    have hx' : (hp.push { cls := .type "dict", data := .dict #[] }).get? x = some { cls := .ref C, data := .fields fv } := Heap.get?_push_of_some _ hx
    refine k h' tk' hp.objs.size (fun b o nb e => ?_) (Nat.le_refl _) old.symm ((sb'.2 x old).trans (Heap.get?_update_self _ hx' rfl)) n1
    rw [sb'.2 b (Nat.ne_of_lt (Heap.lt_size e)), Heap.get?_update_ne _ _ _ _ nb]
    exact Heap.get?_push_of_some _ e
/-- a further one -/
theorem ae_more {K : PySem.W.Frag} {f : Str} {tk : Tok} {u : Value} {x C dx : Addr} {fv : Array Value} {cd : ClassData} {m0 : Str → Option Value} {nl : List Str} (X : K.In hp) (hx : hp.get? x = some { cls := .ref C, dict := some dx, data := .fields fv }) (hn : hp.Ns1 dx m0) (hw : Within m0 nl) (hz : nl.length ≤ 1000)
    (hc : PySem.W.clsIn K C = some cd) (hd : cd.hasDict = true) (over : PySem.W.excOver K C aeT = true) (no : PySem.W.findIn K (.ref C) f = some none)
    (k : ∀ h' tk', (∀ b o, b ≠ dx → hp.get? b = some o → h'.get? b = some o) → h'.Ns1 dx (fun y => if y = f then some u else m0 y) → R (.ok (.ret .none)) ⟨h', g, d, tk', os⟩) :
    codeAny (model prog w) A (.call (.builtin "object.__setattr__") ⟨[.ref x, .str f tk, u], []⟩) R ⟨hp, g, d, t, os⟩ := by
  obtain ⟨oD, _, _, hoD, _, _⟩ := hn.count hw
  have I : PySem.W.InstAt hp x { cls := .ref C, dict := some dx, data := .fields fv } C (some oD) := ⟨hx, rfl, rfl, hoD⟩
  refine PySem.W.osa_openX PySem.F.store_ArithmeticError X I over (no_taker no) fun b => ?_
  have look : PySem.W.Looks (model prog w) hp (classData C) cd := PySem.W.looks_clsIn X hc
  obtain ⟨nm, bs, mro, ns, qn, hdd, sn, sb, ab, col, dl⟩ := cd
  dsimp only at hd
  subst hd
  dsimp only
  unfold Builtin.ObjectAttr.storeInOwnDict Builtin.ObjectAttr.ownDictForStores
  repeat (first
    | with_reducible refine look.at ?_
    | with_reducible refine wpAny_loadPart_at hx ?_
    | with_reducible refine PySem.OEX.store_in_old hn hw hz ?_
    | wp_step)
  intro h' tk' n1 sb'
  exact k h' tk' (fun b o nb e => (sb'.2 b nb).trans e) n1
end
/-- what the text has written of such a class -/
structure AeC (K : PySem.W.Frag) (C : Addr) : Prop where
  obj : ∃ nm q N bs bm sn sub ab col dd k0 k1 k2 k3 k5, K.lookup C = some (excClassObj nm q C N bs bm true sn sub ab col dd k0 k1 k2 k3 k5 "ArithmeticError.__new__") ∧ PySem.W.excTail aeT bm = true
  sa : PySem.W.findIn K (.ref C) "__setattr__" = some (some (.builtin "object.__setattr__"))
  ex : PySem.W.subIn K (.ref C) (.type "BaseException") = some true
  ty : PySem.W.typeIn K (.ref C) = some (.type "type")
  kp : PySem.W.keepIn K (.ref C) = true
theorem AeC.cd {K : PySem.W.Frag} {C : Addr} (T : AeC K C) : ∃ cd, PySem.W.clsIn K C = some cd ∧ cd.hasDict = true ∧ PySem.W.excOver K C aeT = true := by
  obtain ⟨nm, q, N, bs, bm, sn, sub, ab, col, dd, k0, k1, k2, k3, k5, hC, ht⟩ := T.obj
  have hc : PySem.W.clsIn K C = some { name := nm, bases := bs, mro := .ref C :: bm, ns := N, qualname := q, hasDict := true, slotNames := sn, subclasses := sub, abstract := ab, collection := col, hasDel := false } := by
    unfold PySem.W.clsIn
    rw [hC] <;> rfl
  refine ⟨_, hc, rfl, ?_⟩
  unfold PySem.W.excOver
  rw [hc]
  show (C == C && PySem.W.excTail aeT bm) = true
  rw [ht, beq_self_eq_true] <;> rfl
section
variable {X : Cx} {pins : List (Addr × Obj)} {σ : L2.St} {H : Hp} {s : Shared} {a C dx : Addr} {f : Str} {y : V} {u : Value} {fs : List (Str × V)} {Q : Unit → Shared → Prop} {E : Value → Shared → Prop} {A : Around}
theorem ast_first (T : AeC X.K C) (I : L2.Inv X pins σ H s) (e : H a = some (L2.exo a C none)) (no : PySem.W.findIn X.K (.ref C) f = some none) (ry : L2.RelV y u)
    (k : ∀ dx s', H dx = none → dx ≠ a → L2.Inv X pins σ (upd (upd H dx (L2.exd dx [(f, y)])) a (L2.exo a C (some dx))) s' → Q () s') : wpAny (model X.prog X.w) A (setAttr (.ref a) f u) Q E s := by
  obtain ⟨cd, hc, hd, over⟩ := T.cd
  obtain ⟨t1, ho⟩ := L2.exo_at I.hok e
  obtain ⟨hp, g, d, t, os⟩ := s
  refine PySem.W.set_plain I.kIn (ox := { cls := .ref C, dict := none, data := .fields #[.ref t1, .none, .none, .none, .bool false, .none] }) (od := none) ⟨ho, rfl, rfl, trivial⟩ T.sa ?_
  refine ae_first I.kIn ho hc hd over no fun h' tk' dx keep big ne hx n1 => ?_
  -- between the two there is a heap with the dict, and the exception still without it
  let G := h'.update a fun _ => { cls := .ref C, dict := none, data := .fields #[.ref t1, .none, .none, .none, .bool false, .none] }
  have ga : G.get? a = some { cls := .ref C, dict := none, data := .fields #[.ref t1, .none, .none, .none, .bool false, .none] } := Heap.get?_update_self _ hx rfl
  have gb : ∀ b, b ≠ a → G.get? b = h'.get? b := fun b nb => Heap.get?_update_ne _ _ _ _ nb
  have hdx : H dx = none := I.hok.fresh big
  have I1 := I.laid (t' := tk') (a := dx) (o := L2.exd dx [(f, y)]) (h' := G) (fun b o q => by
    by_cases c : b = a
    · subst c
      rw [ga]
      exact ho.symm.trans q
    · rw [gb b c]
      exact keep b o c q) big (L2.exd_ok (n1.at fun o q => (gb dx ne).trans q) (L2.relO_put (fs := []) ry fun _ => True.intro))
  have ea : (upd H dx (L2.exd dx [(f, y)])) a = some (L2.exo a C none) := by rw [upd_ne ne.symm, e]
  have I2 := I1.write (t' := tk') (x := a) (e := a) (o := L2.exo a C (some dx)) (h' := h') (by rw [ea]; exact True.intro) (.inl rfl) (fun b o nb q => (gb b nb).symm.trans q) ⟨_, hx⟩ (L2.exo_ok hx)
  exact k dx _ hdx ne I2
theorem ast_more (T : AeC X.K C) (I : L2.Inv X pins σ H s) (e : H a = some (L2.exo a C (some dx))) (ed : H dx = some (L2.exd dx fs)) (hl : fs.length ≤ 900) (no : PySem.W.findIn X.K (.ref C) f = some none) (ry : L2.RelV y u)
    (k : ∀ s', L2.Inv X pins σ (upd H dx (L2.exd dx ((f, y) :: fs))) s' → Q () s') : wpAny (model X.prog X.w) A (setAttr (.ref a) f u) Q E s := by
  obtain ⟨cd, hc, hd, over⟩ := T.cd
  obtain ⟨t1, ho⟩ := L2.exo_at I.hok e
  obtain ⟨mA, n1, rel⟩ := L2.exd_at I.hok ed
  have hw := L2.within_of rel
  obtain ⟨hp, g, d, t, os⟩ := s
  obtain ⟨oD, _, _, hoD, _, _⟩ := n1.count hw
  refine PySem.W.set_plain I.kIn (ox := { cls := .ref C, dict := some dx, data := .fields #[.ref t1, .none, .none, .none, .bool false, .none] }) (od := some oD) ⟨ho, rfl, rfl, hoD⟩ T.sa ?_
  refine ae_more I.kIn ho n1 hw (by rw [List.length_map]; omega) hc hd over no fun h' tk' keep n2 => ?_
  have there : ∃ o, h'.get? dx = some o := by
    obtain ⟨o, _, _, q, _⟩ := n2
    exact ⟨o, q⟩
  exact k _ (I.write (t' := tk') (x := dx) (e := dx) (o := L2.exd dx ((f, y) :: fs)) (by rw [ed]; exact True.intro) (.inl rfl) keep there (L2.exd_ok n2 (L2.relO_put ry rel)))
end
/-- o.f = e, o such an exception that is being made -/
def sAe (K : PySem.W.Frag) (f : Str) (to te : TE) : TS := fun D σ H => te σ H fun y H1 => to σ H1 fun x H2 => ∃ a C : Addr, x = .ref a ∧ AeC K C ∧ PySem.W.findIn K (.ref C) f = some none ∧
  ((H2 a = some (L2.exo a C none) ∧ ∀ dx, H2 dx = none → dx ≠ a → D.nx σ (upd (upd H2 dx (L2.exd dx [(f, y)])) a (L2.exo a C (some dx)))) ∨
    ∃ (dx : Addr) (fs : List (Str × V)), H2 a = some (L2.exo a C (some dx)) ∧ H2 dx = some (L2.exd dx fs) ∧ fs.length ≤ 900 ∧ D.nx σ (upd H2 dx (L2.exd dx ((f, y) :: fs))))
theorem ps_ae {X : Cx} {o e : Expr} {to te : TE} {f : Str} {p' pos : Pos} (ho : PE X o to) (he : PE X e te) (hs : swapsWith e (some (.Attribute o f p')) pos.line X.env = pure false := by rfl) : PS X (.Assign [.Attribute o f p'] e pos) (sAe X.K f to te) := by
  refine ⟨fun pins s σ H D I h => plainObj_wpAny_Assign_Attribute (L2.thn (he.run pins s σ H _ I h) fun v s1 ⟨y, H1, I1, r1, q1⟩ => L2.thn (ho.run pins s1 σ H1 _ I1 q1) fun z s2 ⟨x, H2, I2, r2, a, C, ex, T, no, q⟩ => ?_) hs⟩
  subst ex
  obtain rfl : z = Value.ref a := r2
  rcases q with ⟨ea, q⟩ | ⟨dx, fs, ea, ed, hl, q⟩
  · exact ast_first T I2 ea no r1 fun dx s' n ne J => ⟨σ, _, J, q dx n ne⟩
  · exact ast_more T I2 ea ed hl no r1 fun s' J => ⟨σ, _, J, q⟩
/-- C(e, ..): C's own __init__ keeps sp -/
theorem pmk_ae {X : Cx} {CX : CXT} {x : Str} {C f : Addr} {k : Nat} {fd : FuncData} {ps : List Str} {sp : Sp} {ds : List Value} {dvs : List V} {e : Expr} {es : List Expr} {ta : TA} {p pos : Pos} (T : AeC X.K C) (hi : PySem.W.findIn X.K (.ref C) "__init__" = some (some (.ref f))) (ht : PySem.W.typeIn X.K (.ref f) = some (.type "function"))
    (F : FnOk X.prog X.w X.K X.mg X.base CX k f fd ps sp) (hr : Room (k + 1) X.A) (hb : Binds X.K fd ps ds) (hd : L2.Vals dvs ds) (hx : Passes CX X fun _ _ _ => False) (hg : Gl X x) (hm : X.mg x = some (.ref C)) (ha : PA X (e :: es) ta)
    (hdb : (x == ("__debug__" : Str)) = false := by decide) (he : starEach (e :: es) X.env = (false, eval e X.env) :: starEach es X.env := by rfl) (hpl : (backTo pos (starEach es X.env)).any (·.1) = false := by rfl) :
    L2.PMk X (.Call (.Name x p) (e :: es) [] pos) (L2.tMkO C sp dvs ta) := by
  rintro pins s σ H Q I h
  obtain ⟨nm, q, N, bs, bm, sn, sub, ab, col, dd, k0, k1, k2, k3, k5, hC, hbm⟩ := T.obj
  refine wpAny_Call_Name_kw (L2.ld_glob I hg hm ?_ hdb)
  refine PySem.W.callWith_K (h₀ := X.base) I.ok.mod.kin T.kp (L2.thn (ha.run pos pins s σ H _ I h) fun us s1 ⟨vs, H1, I1, r1, hz, q1⟩ => ⟨I1.kIn, ?_⟩) he hpl
  obtain ⟨hp, g, dr, tk, os⟩ := s1
  have up : hp.objs.size ≤ hp.objs.size + 1 := Nat.le_succ _
  have fresh : H1 (hp.objs.size + 1) = none := I1.hok.fresh up
  have prom := q1 _ fresh
  have keep : ∀ b o, hp.get? b = some o → ((hp.push (PySem.W.kdv_tup us)).push (PySem.HandSPX.excO C hp.objs.size)).get? b = some o := fun b o z => Heap.get?_push_of_some _ (Heap.get?_push_of_some _ z)
  have at_ : ((hp.push (PySem.W.kdv_tup us)).push (PySem.HandSPX.excO C hp.objs.size)).get? (hp.objs.size + 1) = some (PySem.HandSPX.excO C hp.objs.size) := by heap_get
  have I2 := I1.laid (t' := tk) (a := hp.objs.size + 1) (o := L2.exo (hp.objs.size + 1) C none) keep up (L2.exo_ok at_)
  have rel : L2.Vals (V.ref (hp.objs.size + 1) :: (vs ++ dvs)) (Value.ref (hp.objs.size + 1) :: (us ++ ds)) := .cons rfl (r1.append hd)
  have len := rel.length
  rw [F.len _ _ _ _ prom] at len
  have small : us.length ≤ sizeLine := by
    rw [← r1.length, sizeLine_eq]
    omega
  have body := F.run _ X.stack _ _ ⟨Value.ref (hp.objs.size + 1) :: us, []⟩ (Value.ref (hp.objs.size + 1) :: (us ++ ds)) _ _ (fun _ _ _ => False) (hr.make C us []) (I2.env0.make C us []) (hb _ (Value.ref (hp.objs.size + 1) :: us) I2.kIn len.symm) rel prom
  refine wpAny_call (PySem.HandSPX.call_own PySem.F.excBase_ArithmeticError (fun Y => PySem.W.excTail_contains Y bm hbm) (I1.kIn _ _ hC) (PySem.W.looks_findIn I1.kIn hi) (fun self => PySem.W.bind_fn I1.kIn self ht) small (codeAny_mono body ?_))
  rintro (er | fl) s' hq
  · exact hx pins σ _ _ er s' I2 hq
  · cases fl with
    | ret u =>
      obtain ⟨v, H2, os2, bare2, un2, hok2, rv, ev, d, fs, ea, ed, hd1, q2⟩ := hq
      subst ev
      obtain ⟨h2, g2, d2, t2, os'⟩ := s'
      exact ⟨rv, L2.mk_end (L2.raises_own T.ex T.ty) I1 up keep un2 hok2 os2 bare2 ea ed hd1 q2⟩
    | next => exact False.elim hq
    | brk => exact False.elim hq
    | cont => exact False.elim hq
/-- what is needed for isinstance(e, ..), e such an exception -/
structure IsC (K : PySem.W.Frag) (D : Addr) : Prop where
  hg : PySem.W.findIn K (.ref D) "__getattribute__" = some (some (.builtin "BaseException.__getattribute__"))
  hk : PySem.W.findIn K (.ref D) "__getattr__" = some none
  hs : PySem.W.subIn K (.ref D) (.type "BaseException") = some true
  hd : PySem.W.hasDictIn K D = true
  ha : PySem.W.findIn K (.ref D) "__class__" = some (some (.builtin "object.__class__"))
  hn : PySem.W.specialIn K (.builtin "object.__class__") "__get__" = some (some (.builtin "getset_descriptor.__get__"))
  ht : PySem.W.takesIn K (.builtin "object.__class__") = some true
  hm : PySem.W.mroIn K D (.type "object") = some true
def rIsX (K : PySem.W.Frag) (D a d : Addr) : List V → Hp → VK → Prop := fun xs H Q => ∃ (c : V) (cv : Value) (b : Bool) (fs : List (Str × V)), xs = [.ref a, c] ∧ H d = some (.xd fs) ∧ (∀ u, L2.RelV c u → u = cv) ∧ PySem.W.kitOne K (.ref D) cv = some b ∧ Q (.bl b) H
/-- isinstance(e, c), e the caught exception with its fields in a dict at d -/
theorem call_isX {X : Cx} {a D d : Addr} {oe : Obj} {pn : List (Addr × Obj)} (T : IsC X.K D) (hz : L2.Zc (.ref D) (some d) oe) (hf : ∃ vs, oe.data = .fields vs) : CallR (X.suite a ((a, oe) :: pn)) (.builtin "isinstance") (rIsX X.K D a d) := by
  rintro pins s σ H xs us Q I r ⟨c, cv, b, fs, rfl, hdd, hcv, e, q⟩
  match us, r with
  | [_, _], .cons rx (.cons rt .nil) =>
    cases rx
    have ec := hcv _ rt
    subst ec
    obtain ⟨hget, _⟩ := I.pin (a, oe) (List.mem_append.mpr (.inl List.mem_cons_self))
    obtain ⟨vs, hv⟩ := hf
    have hx : ObjOk X.prog X.w H s.heap d (.xd fs) := I.hok d _ hdd
    obtain ⟨mA, hns, _⟩ := hx
    obtain ⟨od, ho, _⟩ := lookIn_ns hns
    have J : PySem.W.InstAt s.heap a oe D (some od) := by
      refine ⟨hget, hz.1, by unfold PySem.W.notCls; rw [hv] <;> rfl, ?_⟩
      rw [hz.2]
      exact ho
    have hcl : (PySem.W.clsIn X.K D).isSome = true := by
      obtain ⟨cd, hc, _⟩ := PySem.W.any_some T.hd
      rw [hc] <;> rfl
    exact PySem.W.kia_one (PySem.W.kitx_exc hcl T.hg T.hk T.hs T.ha T.hn T.ht T.hm) I.kIn J e (fun z => nomatch z) fun tk => ⟨.bl b, H, I.kept (t' := tk) fun _ _ z => z, rfl, q⟩
/-- the same where the suite is told of any error -/
def rIsY (K : PySem.W.Frag) (D a : Addr) (cls : Value) (d : Option Addr) : List V → Hp → VK → Prop := fun xs H Q => cls = .ref D ∧ ∃ dd, d = some dd ∧ rIsX K D a dd xs H Q
theorem call_isY {X : Cx} {a D : Addr} {cls : Value} {d : Option Addr} {oe : Obj} {pn : List (Addr × Obj)} (T : IsC X.K D) (hz : L2.Zc cls d oe) (hf : ∃ vs, oe.data = .fields vs) : CallR (X.suite a ((a, oe) :: pn)) (.builtin "isinstance") (rIsY X.K D a cls d) := by
  rintro pins s σ H xs us Q I r ⟨rfl, dd, rfl, h⟩
  exact call_isX T hz hf pins s σ H xs us Q I r h
/-- isinstance(e, (C1, ..)), the tuple new or not -/
def rIsT (K : PySem.W.Frag) (D a : Addr) (cls : Value) (d : Option Addr) : List V → Hp → VK → Prop := fun xs H Q => cls = .ref D ∧ ∃ (dd t : Addr) (cs : List Addr) (fs : List (Str × V)), d = some dd ∧ H dd = some (.xd fs) ∧ xs = [.ref a, .ref t] ∧ H t = some (.tup (cs.map V.ref)) ∧ PySem.W.kitAny K (.ref D) (cs.map Value.ref) = some false ∧ Q (.bl false) H
theorem refs_vals : ∀ {cs : List Addr} {us : List Value}, L2.Vals (cs.map V.ref) us → us = cs.map Value.ref
  | [], _, r => by cases r; rfl
  | c :: cs, _, r => by
    cases r with
    | cons h t =>
      have e : _ = Value.ref c := h
      rw [e, refs_vals t]
      rfl
theorem call_isT {X : Cx} {a D : Addr} {cls : Value} {d : Option Addr} {oe : Obj} {pn : List (Addr × Obj)} (T : IsC X.K D) (hz : L2.Zc cls d oe) (hf : ∃ vs, oe.data = .fields vs) : CallR (X.suite a ((a, oe) :: pn)) (.builtin "isinstance") (rIsT X.K D a cls d) := by
  rintro pins s σ H xs us Q I r ⟨rfl, dd, t, cs, fs, rfl, hdd, rfl, ht, e, q⟩
  match us, r with
  | [_, _], .cons rx (.cons rt .nil) =>
    cases rx
    cases rt
    obtain ⟨hget, _⟩ := I.pin (a, oe) (List.mem_append.mpr (.inl List.mem_cons_self))
    obtain ⟨vs, hv⟩ := hf
    have hx : ObjOk X.prog X.w H s.heap dd (.xd fs) := I.hok dd _ hdd
    obtain ⟨mA, hns, _⟩ := hx
    obtain ⟨od, ho, _⟩ := lookIn_ns hns
    have J : PySem.W.InstAt s.heap a oe D (some od) := by
      refine ⟨hget, hz.1, by unfold PySem.W.notCls; rw [hv] <;> rfl, ?_⟩
      rw [hz.2]
      exact ho
    have hcl : (PySem.W.clsIn X.K D).isSome = true := by
      obtain ⟨cd, hc, _⟩ := PySem.W.any_some T.hd
      rw [hc] <;> rfl
    obtain ⟨its, rv, htp, _⟩ := I.tuple (SqT.of ht)
    have ei := refs_vals rv
    subst ei
    obtain ⟨⟨tc, tdd, tda, tsl⟩, hto, htc, n, htd⟩ := htp
    dsimp only at htc htd
    subst htc htd
    exact PySem.W.kia_tup (PySem.W.kitx_exc hcl T.hg T.hk T.hs T.ha T.hn T.ht T.hm) I.kIn J hto e (fun z => nomatch z) fun tk => ⟨.bl false, H, I.kept (t' := tk) fun _ _ z => z, rfl, q⟩
/-! ### defs in which lambdas are made: what the text says of them -/
/-- a def of the text whose code object stands at c -/
structure FunT (K : PySem.W.Frag) (x q : Str) (st : Stmt) (f c : Addr) (fd : FuncData) : Prop where
  ex : ∃ (oc : Value) (od : Option Addr) (kV doc pm : Value) (an : Option Addr) (ct : Value) (osl : Array (Option Value)), fd = PySem.W.fnOf x q (defArgs st) (defBody st) (defScope st) .none kV doc pm an (.ref c) ct ∧ K.lookup f = some ⟨oc, od, .func fd, osl⟩ ∧ PySem.W.codeIn K (.ref c) q = true
  kp : PySem.W.keepIn K (.ref f) = true
theorem FunT.ok {P : Program} {w : World} {K : PySem.W.Frag} {mg : Str → Option Value} {base : Heap} {x q : Str} {st : Stmt} {f c : Addr} {fd : FuncData} {N ps : List Str} {k : Nat} {sp : Sp} (F : FunT K x q st f c fd) (S : FnScope N ps (defScope st)) (len : ∀ vs H Q E, sp vs H Q E → vs.length = ps.length)
    (hbody : ∀ (A : Around) (outer : List Env) (s : Shared) (H : Hp) (vs : List V) (Q : VK) (E : XK), Room k (A.deeper (PyProof.Rows.envOfC q (defScope st) s.heap.objs.size f (.ref c))) → sp vs H Q E →
      ∃ t, PSs (cxOf CX0 P w K mg base N q (defScope st) f (.ref c) A outer s H E).nox (defBody st) t ∧ t { nx := fun _ H' => Q .non H', rt := Q } (start N vs) H) : FnOk P w K mg base CX0 (k + 1) f fd ps sp := by
  obtain ⟨oc, od, kV, doc, pm, an, ct, osl, rfl, lk, hcd⟩ := F.ex
  refine fn_of lk hcd S len fun A outer s H vs Q E hr hsp => ?_
  obtain ⟨t, h, z⟩ := hbody A outer s H vs Q E hr hsp
  exact ⟨t, h.nox, z⟩
structure DfnT (K : PySem.W.Frag) (mg : Str → Option Value) (x : Str) (st : Stmt) (f c : Addr) (ps : List Str) : Prop where
  ex : ∃ fd, FunT K x x st f c fd ∧ Binds K fd ps []
  g : mg x = some (.ref f)
/-! ### the text by places -/
def top (i : Nat) : Stmt := PySem.Challenge.pw_breakerrow_k49_waits_by_periods.main.body.getD i (.Pass ⟨0, 0, 0, 0⟩)
abbrev st__wall : Stmt := top 0
abbrev st_InvalidRow_init : Stmt := inClass (top 3) 0
abbrev st_InvalidTime_init : Stmt := inClass (top 4) 0
abbrev st_InvalidOutages_init : Stmt := inClass (top 5) 0
abbrev st_InvalidTrains_init : Stmt := inClass (top 6) 0
abbrev st_InvalidIndex_init : Stmt := inClass (top 7) 0
abbrev st_InvalidBound_init : Stmt := inClass (top 8) 0
abbrev st_InvalidLog_init : Stmt := inClass (top 9) 0
abbrev st_InvalidCall_init : Stmt := inClass (top 10) 0
abbrev st_InvalidText_init : Stmt := inClass (top 11) 0
abbrev st_LimitExceeded_init : Stmt := inClass (top 12) 0
abbrev st_is_integer : Stmt := top 14
abbrev st_is_at_least : Stmt := top 15
abbrev st_is_within : Stmt := top 16
abbrev st_steps_to : Stmt := top 17
abbrev st_rounded_up : Stmt := top 18
abbrev st_Row_init : Stmt := inClass (top 23) 0
abbrev st_Row_breaker_list : Stmt := inClass (top 23) 1
abbrev st_Row_step_length : Stmt := inClass (top 23) 2
abbrev st_Row_phase_time : Stmt := inClass (top 23) 3
abbrev st_Row_len : Stmt := inClass (top 23) 4
abbrev st_Row_getitem : Stmt := inClass (top 23) 5
abbrev st_Row_iter : Stmt := inClass (top 23) 6
abbrev st_Row_contains : Stmt := inClass (top 23) 7
abbrev st_Row_add : Stmt := inClass (top 23) 8
abbrev st_Row_eq : Stmt := inClass (top 23) 9
abbrev st_is_breaker : Stmt := top 24
abbrev st_check_breakers : Stmt := top 25
abbrev st_check_step : Stmt := top 26
abbrev st_periods : Stmt := top 27
abbrev st_check_periods : Stmt := top 29
abbrev st_waits_of : Stmt := top 30
abbrev st__law_mixed : Stmt := top 32
abbrev st__law_well : Stmt := top 33
abbrev st__law_draw : Stmt := top 34
abbrev st__law_one : Stmt := top 35
abbrev st__law_place : Stmt := top 36
abbrev st__law_said : Stmt := top 37
abbrev st__law_line : Stmt := top 38
abbrev st__law_periods : Stmt := top 39
abbrev st__law_right : Stmt := top 40
abbrev st_law : Stmt := top 41
/-- a def of the top -/
structure Dfn (K : PySem.W.Frag) (mg : Str → Option Value) (x : Str) (st : Stmt) (f : Addr) (ps : List Str) : Prop where
  ex : ∃ fd, Fun K x x st f fd ∧ Binds K fd ps []
  g : mg x = some (.ref f)
structure Mth (K : PySem.W.Frag) (C : Addr) (m q : Str) (st : Stmt) (f : Addr) (ps : List Str) : Prop where
  ex : ∃ fd, Fun K m q st f fd ∧ Binds K fd ps []
  at_ : PySem.W.findIn K (.ref C) m = some (some (.ref f))
  fn : PySem.W.isFn K (.ref f) = true
  fk : PySem.W.fnIn K f = true
/-- a def that is called by its name, with its promise -/
structure Cal (P : Program) (w : World) (K : PySem.W.Frag) (mg : Str → Option Value) (base : Heap) (x : Str) (k : Nat) (f : Addr) (ps : List Str) (sp : Sp) : Prop where
  ex : ∃ fd, FnOk P w K mg base CX0 k f fd ps sp ∧ Binds K fd ps []
  g : mg x = some (.ref f)
  kp : PySem.W.keepIn K (.ref f) = true
theorem Dfn.cal {P : Program} {w : World} {K : PySem.W.Frag} {mg : Str → Option Value} {base : Heap} {x : Str} {st : Stmt} {f : Addr} {ps : List Str} {k : Nat} {sp : Sp} (D : Dfn K mg x st f ps) (h : ∀ fd, Fun K x x st f fd → FnOk P w K mg base CX0 k f fd ps sp) : Cal P w K mg base x k f ps sp := by
  obtain ⟨fd, F, b⟩ := D.ex
  exact ⟨⟨fd, h fd F, b⟩, D.g, F.kp⟩
theorem pe_c {X : Cx} {x : Str} {k : Nat} {f : Addr} {ps : List Str} {sp : Sp} {t : TA} {e : Expr} {es : List Expr} {p pos : Pos} (c : Cal X.prog X.w X.K X.mg X.base x k f ps sp) (hr : Room k X.A) (hg : Gl X x)
    (ha : PA X (e :: es) t) (hdb : (x == ("__debug__" : Str)) = false := by decide) (he : starEach (e :: es) X.env = (false, eval e X.env) :: starEach es X.env := by rfl) (hpl : (backTo pos (starEach es X.env)).any (·.1) = false := by rfl) :
    PE X (.Call (.Name x p) (e :: es) [] pos) (tCall sp [] E0 t) := by
  obtain ⟨fd, F, b⟩ := c.ex
  exact pe_call F hr hg c.g c.kp b .nil pass0 ha hdb he hpl
/-- a method with its promise -/
structure Met (P : Program) (w : World) (K : PySem.W.Frag) (mg : Str → Option Value) (base : Heap) (C : Addr) (m : Str) (k : Nat) (f : Addr) (ps : List Str) (sp : Sp) : Prop where
  ex : ∃ fd, FnOk P w K mg base CX0 k f fd ps sp ∧ Binds K fd ps []
  me : Meth K C m f
  fk : PySem.W.fnIn K f = true
theorem Mth.met {P : Program} {w : World} {K : PySem.W.Frag} {mg : Str → Option Value} {base : Heap} {C : Addr} {m q : Str} {st : Stmt} {f : Addr} {ps : List Str} {k : Nat} {sp : Sp} (D : Mth K C m q st f ps) (h : ∀ fd, Fun K m q st f fd → FnOk P w K mg base CX0 k f fd ps sp) : Met P w K mg base C m k f ps sp := by
  obtain ⟨fd, F, b⟩ := D.ex
  exact ⟨⟨fd, h fd F, b⟩, ⟨D.at_, D.fn, F.kp⟩, D.fk⟩

/-! ### values of plain kinds -/
inductive Kd (H : Hp) : V → String → Prop where
  | non : Kd H .non "NoneType"
  | bl (b : Bool) : Kd H (.bl b) "bool"
  | int (i : Int) : Kd H (.int i) "int"
  | str (x : Str) : Kd H (.str x) "str"
  | lst {a : Addr} {xs : List V} (e : H a = some (.lst xs)) : Kd H (.ref a) "list"
  | tup {a : Addr} {xs : List V} (e : H a = some (.tup xs)) : Kd H (.ref a) "tuple"
  | dK {a : Addr} {xs : List (Key × V)} (e : H a = some (.dK xs)) : Kd H (.ref a) "dict"
theorem Kd.ty {K : PySem.W.Frag} {H : Hp} {v : V} {n : String} (h : Kd H v n) : TyX K H v (.type n) := by
  cases h with
  | non => exact .base .non
  | bl b => exact .base (.bl b)
  | int i => exact .base (.int i)
  | str x => exact .base (.str x)
  | lst e => exact .base (.lst e)
  | tup e => exact .base (.tup e)
  | dK e => exact .base (.dK e)
def isI : V → Bool
  | .int _ => true
  | _ => false
def toI : V → Int
  | .int i => i
  | _ => 0
theorem Kd.kit {K : PySem.W.Frag} {H : Hp} {v : V} {n : String} (h : Kd H v n) (c : String) (b : Bool) (hc : c = "int" ∧ b = (n == "int" || n == "bool") ∨ c ≠ "int" ∧ c ∈ ["bool", "list", "tuple"] ∧ b = (n == c)) : PySem.W.kitOne K (.type n) (.type c) = some b := by
  rcases hc with ⟨rfl, rfl⟩ | ⟨_, hc, rfl⟩
  · cases h <;> exact kit_ty (by decide +kernel)
  · simp only [List.mem_cons, List.mem_nil_iff, or_false] at hc
    rcases hc with rfl | rfl | rfl <;> cases h <;> exact kit_ty (by decide +kernel)
theorem Kd.same {H H' : Hp} {v : V} {n : String} (h : Kd H v n) (s : ∀ b o, v = .ref b → H b = some o → H' b = some o) : Kd H' v n := by
  cases h with
  | non => exact .non
  | bl b => exact .bl b
  | int i => exact .int i
  | str x => exact .str x
  | lst e => exact .lst (s _ _ rfl e)
  | tup e => exact .tup (s _ _ rfl e)
  | dK e => exact .dK (s _ _ rfl e)
/-- all but what stands at a is kept -/
def Kp (a : Addr) (H H' : Hp) : Prop := ∀ b o, b ≠ a → H b = some o → H' b = some o
theorem Kp.refl {a : Addr} {H : Hp} : Kp a H H := fun _ _ _ h => h
theorem Kp.trans {a : Addr} {H H1 H2 : Hp} (h : Kp a H H1) (h' : Kp a H1 H2) : Kp a H H2 := fun b o n e => h' b o n (h b o n e)
theorem Kp.of {a : Addr} {H H' : Hp} (s : Same H H') : Kp a H H' := fun b o _ e => s b o e
theorem Kp.upd {a : Addr} {H : Hp} {o : HO} : Kp a H (upd H a o) := fun b _ n e => by rw [upd_ne n]; exact e
theorem Same.upd {H : Hp} {p : Addr} {o : HO} (h : H p = none) : Same H (L2.upd H p o) := fun b u e => by rw [upd_ne (ne_of_none e h)]; exact e
theorem Kp.free {a b : Addr} {H H' : Hp} {o : HO} (k : Kp a H H') (ha : H a = some o) (h : H' b = none) (n : b ≠ a) : H b = none := by
  cases q : H b with
  | none => rfl
  | some u => rw [k b u n q] at h; cases h

/-! ### the promises of the small defs -/
def spIsInt : Sp := fun vs H Q _ => ∃ v n, vs = [v] ∧ Kd H v n ∧ Q (.bl (isI v)) H
def spAtL : Sp := fun vs H Q _ => ∃ v n l, vs = [v, .int l] ∧ Kd H v n ∧ Q (.bl (isI v && decide (l ≤ toI v))) H
def spWithin : Sp := fun vs H Q _ => ∃ v n l m, vs = [v, .int l, .int m] ∧ Kd H v n ∧ Q (.bl (isI v && (decide (l ≤ toI v) && decide (toI v ≤ m)))) H
/-- how many steps -/
def stepsUp (d s : Int) : Int := if -(-d / s) > 0 then -(-d / s) else 0
def spSteps : Sp := fun vs H Q _ => ∃ d s, vs = [.int d, .int s] ∧ 0 < s ∧ s.natAbs.log2 < 9000 ∧ Q (.int (stepsUp d s)) H

/-- what is no list is kept -/
def NL (H H' : Hp) : Prop := ∀ b o, H b = some o → (∀ xs, o ≠ .lst xs) → H' b = some o
theorem NL.refl {H : Hp} : NL H H := fun _ _ h _ => h
theorem NL.trans {H H1 H2 : Hp} (a : NL H H1) (b : NL H1 H2) : NL H H2 := fun c o h n => b c o (a c o h n) n
theorem NL.of {H H' : Hp} (s : Same H H') : NL H H' := fun b o e _ => s b o e
theorem Kp.nl {a : Addr} {H H' : Hp} {xs : List V} (k : Kp a H H') (h : H a = some (.lst xs)) : NL H H' := fun b o e n => k b o (fun z => by subst z; rw [h] at e; exact n xs (Option.some.inj e).symm) e
theorem NL.upd {H : Hp} {p : Addr} {xs : List V} {o : HO} (h : H p = some (.lst xs)) : NL H (L2.upd H p o) := Kp.nl Kp.upd h
theorem pe_gI {X : Cx} {x : Str} {i : Int} {t : Tok} {pos : Pos} (hm : X.mg x = some (.int i t)) (hg : Gl X x := by rfl) (hd : (x == ("__debug__" : Str)) = false := by decide) : PE X (.Name x pos) (tC (.int i)) := pe_glob hg hm ⟨t, rfl⟩ hd
@[irreducible] def PB (n : Nat) : Int := 2 ^ n
theorem PB_succ (n : Nat) : PB (n + 1) = PB n + PB n := by
  unfold PB
  rw [Int.pow_succ]
  omega
theorem PB_pos (n : Nat) : 1 ≤ PB n := by
  unfold PB
  have : (0 : Int) < 2 ^ n := Int.pow_pos (by decide)
  omega
theorem PB_le {n m : Nat} (h : n ≤ m) : PB n ≤ PB m := by
  induction m with
  | zero => rw [Nat.le_zero.mp h]; exact Int.le_refl _
  | succ m ih =>
    by_cases e : n = m + 1
    · rw [e]; exact Int.le_refl _
    · have h1 := ih (by omega)
      have h2 := PB_succ m
      have h3 := PB_pos m
      omega
theorem PB_abs {i : Int} {n : Nat} (h0 : 0 ≤ i) (h : i ≤ PB n) : i.natAbs < 2 ^ (n + 1) := by
  unfold PB at h
  have e : (2 : Nat) ^ (n + 1) = 2 ^ n * 2 := Nat.pow_succ 2 n
  have e2 : ((2 ^ n : Nat) : Int) = 2 ^ n := by rw [Int.natCast_pow]; rfl
  rw [← e2] at h
  have : 0 < 2 ^ n := Nat.pow_pos (by decide)
  rw [e]
  generalize 2 ^ n = w at *
  omega
theorem PB_of {i : Int} {n : Nat} (h : i.natAbs < 2 ^ n) : i ≤ PB n := by
  unfold PB
  have e2 : ((2 ^ n : Nat) : Int) = 2 ^ n := by rw [Int.natCast_pow]; rfl
  rw [← e2]
  generalize 2 ^ n = w at *
  omega
def BB : Int := PB 5000
theorem BB0 : 0 ≤ BB := by
  have := PB_pos 5000
  unfold BB
  omega
theorem bb_lt {i : Int} (h0 : 0 ≤ i) (h : i ≤ BB + BB) : i.natAbs < 2 ^ 5002 := PB_abs h0 (by rw [PB_succ]; exact h)
theorem mulBB {i j : Int} (i0 : 0 ≤ i) (i1 : i ≤ BB + BB) (j0 : 0 ≤ j) (j1 : j ≤ BB + BB) : CMulW i j := wide_mul (bb_lt i0 i1) (bb_lt j0 j1) (by decide) (by decide) (by decide)
theorem BB1 : 1 ≤ BB := PB_pos 5000
theorem divBB {j : Int} (j0 : 1 ≤ j) (j1 : j ≤ BB) : j.natAbs.log2 < 9000 := (wide_div (i := 0) (by omega : 0 < j) (bb_lt (by omega) (by have := BB0; omega)) (by decide) (by decide)).2
theorem small2 {n : Nat} (h : n ≤ 100000) : n ≤ sizeLine := Nat.le_trans h (by decide)
theorem small1 {n : Nat} (h : n ≤ 100000) : n < sizeLine := Nat.lt_of_le_of_lt h (by decide)
theorem tYes_of {σ : L2.St} {H : Hp} {A B : Hp → Prop} (h : A H) : tYes σ H (fun b H3 => if b = true then A H3 else B H3) := by
  show if true = true then A H else B H
  rw [if_pos rfl]
  exact h
theorem cut_init (xs : List V) : cutV xs none (some (-1)) = xs.take (xs.length - 1) := by
  show (xs.drop 0).take ((if (-1 : Int) < 0 then ((-1 : Int) + (xs.length : Int)).toNat else min (-1 : Int).toNat xs.length) - 0) = _
  rw [if_pos (by decide), List.drop_zero]
  congr 1
  omega
theorem cut_last (xs : List V) : cutV xs (some (-1)) none = xs.drop (xs.length - 1) := by
  show (xs.drop (if (-1 : Int) < 0 then ((-1 : Int) + (xs.length : Int)).toNat else min (-1 : Int).toNat xs.length)).take (xs.length - (if (-1 : Int) < 0 then ((-1 : Int) + (xs.length : Int)).toNat else min (-1 : Int).toNat xs.length)) = _
  rw [if_pos (by decide)]
  have e : ((-1 : Int) + (xs.length : Int)).toNat = xs.length - 1 := by omega
  rw [e]
  refine List.take_of_length_le ?_
  rw [List.length_drop]
  exact Nat.le_refl _
theorem none_of {H H' : Hp} {l : Addr} (s : Same H H') (h : H' l = none) : H l = none := by
  cases q : H l with
  | none => rfl
  | some o => rw [s _ _ q] at h; cases h
theorem for_enum {K : PySem.W.Frag} {a : Addr} {xs : List V} {g : TG} {tb : TS} {D : Ends} {σ : L2.St} {H : Hp} (Pv : Nat → L2.St → Hp → Prop) (h0 : Pv 0 σ H) (hl : ∀ i σ H, i ≤ xs.length → Pv i σ H → SqL K H a xs)
    (hs : ∀ i x T σ H, xs[i]? = some x → Pv i σ H → H T = none → g (.ref T) σ (upd H T (.tup [.int (i : Nat), x])) fun σ2 H2 => tb { D with nx := Pv (i + 1), ct := Pv (i + 1), bk := D.nx } σ2 H2) (hd : ∀ σ H, Pv xs.length σ H → D.nx σ H) :
    ∃ W : Nat → Nat → L2.St → Hp → Prop, (∃ m, W 0 m σ H) ∧ ∀ i m σ H, W i m σ H →
      ((Ite K a).stop i H ∧ D.nx σ H) ∨ ((Ite K a).go i H ∧ ∃ N : L2.St → Hp → Prop, (∀ σ' H', N σ' H' → ∃ m', m' < m ∧ W (i + 1) m' σ' H') ∧ ∀ x H', (Ite K a).yld i H x H' → g x σ H' fun σ2 H2 => tb { D with nx := N, ct := N, bk := D.nx } σ2 H2) := by
  refine ⟨fun i m σ H => m = xs.length - i ∧ i ≤ xs.length ∧ Pv i σ H, ⟨xs.length, by simp, Nat.zero_le _, h0⟩, ?_⟩
  rintro i m σ H ⟨rfl, hi, p⟩
  have q := hl i σ H hi p
  by_cases hlt : i < xs.length
  · refine .inr ⟨⟨xs, xs[i], q, by simp [hlt]⟩, Pv (i + 1), fun σ' H' p' => ⟨xs.length - (i + 1), by omega, rfl, hlt, p'⟩, fun x H' y => ?_⟩
    obtain ⟨T, x', rfl, hT, rfl, hx⟩ := y
    exact hs i x' T σ H (hx xs q) p hT
  · have e : i = xs.length := by omega
    subst e
    exact .inl ⟨⟨xs, q, Nat.le_refl _⟩, hd σ H p⟩
theorem pe_callN0 {X : Cx} {CX : CXT} {k : Nat} {f : Addr} {fd : FuncData} {ps ks : List Str} {sp : Sp} {E : XK} {x : Str} {p pos : Pos} {kws : List Keyword} {tk : TA} {g : List Value → List Value → List Value} {gV : List V → List V → List V}
    (F : FnOk X.prog X.w X.K X.mg X.base CX k f fd ps sp) (hr : Room k X.A) (hg : Gl X x) (hm : X.mg x = some (.ref f)) (hk : PySem.W.keepIn X.K (.ref f) = true) (hb : KBn X.K fd ps 0 ks g gV) (hx : Passes CX X E) (hkw : PK X kws tk)
    (hall : (backToKw pos (keywordEach kws X.env)).all (·.1.isSome) = true := by rfl) (hks : (backToKw pos (keywordEach kws X.env)).filterMap (·.1) = ks := by rfl) (hdb : (x == ("__debug__" : Str)) = false := by decide)
    (hpl : ((backTo pos (starEach [] X.env)).any (·.1) || (backToKw pos (keywordEach kws X.env)).any (·.1.isNone)) = false := by rfl) :
    PE X (.Call (.Name x p) [] kws pos) (tCallN 0 ks.length sp gV E tNil tk) := by
  refine ⟨fun pins s σ H Q I h => ?_⟩
  refine wpAny_Call_Name_kw (ld_glob I hg hm ?_ hdb)
  refine PySem.W.callWith_KW0 (h₀ := X.base) I.ok.mod.kin hk hall ?_ hpl
  refine thn (hkw.run pos pins s σ H _ I h) fun ws s2 ⟨zs, H2, I2, rz, l1, l2, q2⟩ => ⟨I2.kIn, ?_⟩
  rw [hks]
  exact run_fnN F hr hb hx I2 .nil rz rfl l2 q2
section
variable {X : Cx} {C : Addr} {k : Nat} {f : Addr} {ps : List Str} {sp : Sp}
theorem Met.op_in (c : Met X.prog X.w X.K X.mg X.base C "__contains__" k f ps sp) (hr : Room k X.A) : OpR X (compareOp .In) (rOwnIn C sp E0 _root_.id) := by
  obtain ⟨fd, F, b⟩ := c.ex
  exact op_own_in F hr c.me.at_ c.me.fn b pass0
theorem Met.op_notin (c : Met X.prog X.w X.K X.mg X.base C "__contains__" k f ps sp) (hr : Room k X.A) : OpR X (compareOp .NotIn) (rOwnIn C sp E0 Bool.not) := by
  obtain ⟨fd, F, b⟩ := c.ex
  exact op_own_notin F hr c.me.at_ c.me.fn b pass0
theorem Met.c_len (c : Met X.prog X.w X.K X.mg X.base C "__len__" k f ps sp) (hr : Room (k + 1) X.A) : CallR X (.builtin "len") (rOwnLen C sp E0) := by
  obtain ⟨fd, F, b⟩ := c.ex
  exact call_own_len F hr c.me.at_ c.me.fn b pass0
theorem Met.op_add (c : Met X.prog X.w X.K X.mg X.base C "__add__" k f ps sp) (hr : Room k X.A) (hc : PySem.W.selfFirst X.K C = true) : OpR X (binaryOp .Add) (rOwnAdd C sp E0) := by
  obtain ⟨fd, F, b⟩ := c.ex
  exact op_own_add F hr hc c.me.at_ c.me.fn b pass0
theorem Met.op_eq (c : Met X.prog X.w X.K X.mg X.base C "__eq__" k f ps sp) (hr : Room k X.A) : OpR X (compareOp .Eq) (rOwnEq C sp E0 _root_.id) := by
  obtain ⟨fd, F, b⟩ := c.ex
  exact op_own_eq F hr c.me.at_ c.me.fn b pass0
theorem Met.op_ne (c : Met X.prog X.w X.K X.mg X.base C "__eq__" k f ps sp) (hr : Room (k + 1) X.A) (hm : PySem.W.mroIn X.K C (.type "object") = some true) (hne : PySem.W.findIn X.K (.ref C) "__ne__" = some (some (.builtin "object.__ne__"))) : OpR X (compareOp .NotEq) (rOwnEq C sp E0 Bool.not) := by
  obtain ⟨fd, F, b⟩ := c.ex
  exact op_own_ne F hr hm hne c.me.at_ c.me.fn b pass0
theorem Met.p_ix {a b : Expr} {ta tb : TE} {pos : Pos} (c : Met X.prog X.w X.K X.mg X.base C "__getitem__" k f ps sp) (hr : Room (k + 1) X.A) (ha : PE X a ta) (hb' : PE X b tb) (hsl : ∀ o i, subscripted b true o i = runValue (.builtin "lifetime.subscript" ⟨[o, i], []⟩) := by exact fun _ _ => rfl) :
    PE X (.Subscript a b pos) (tOp (rOwnIx C sp E0) ta tb) := by
  obtain ⟨fd, F, bb⟩ := c.ex
  exact pe_own_ix F hr c.me.at_ c.fk c.me.fn bb pass0 ha hb' hsl
end
theorem Met.p_m0 {X : Cx} {C : Addr} {k : Nat} {f : Addr} {ps : List Str} {sp : Sp} {m : Str} {o : Expr} {ta : TE} {apos pos : Pos} {pl : Sem Bool} (c : Met X.prog X.w X.K X.mg X.base C m k f ps sp) (cl : Cls X.K C) (hr : Room k X.A) (he : PE X o ta)
    (ht : eval (.Call (.Attribute o m apos) [] [] pos) X.env = (do
      let ov ← eval o X.env
      standAt apos.atName
      let (f, first) ← holding [ov] (getMethod ov m pl)
      callWith pos f first (backTo pos (starEach [] X.env)) (backToKw pos (keywordEach [] X.env))) := by rfl) :
    PE X (.Call (.Attribute o m apos) [] [] pos) (tMeth C m sp [] E0 ta tNil) := by
  obtain ⟨fd, F, b⟩ := c.ex
  exact pe_meth0 he cl c.me F hr b .nil pass0 ht
/-! ### a class of the text -/
structure CF (K : PySem.W.Frag) (C : Addr) : Prop where
  cl : Cls K C
  cls : PySem.W.isClsIn K C = true
  ty : PySem.W.typeIn K (.ref C) = some (.type "type")
  oc : PySem.W.findIn K (.ref C) "__class__" = some (some (.builtin "object.__class__"))
  og : PySem.W.specialIn K (.builtin "object.__class__") "__get__" = some (some (.builtin "getset_descriptor.__get__"))
  ot : PySem.W.takesIn K (.builtin "object.__class__") = some true
  om : PySem.W.mroIn K C (.type "object") = some true
  sf : PySem.W.selfFirst K C = true
  ne : PySem.W.findIn K (.ref C) "__ne__" = some (some (.builtin "object.__ne__"))
theorem CF.kitT {K : PySem.W.Frag} {C : Addr} (M : CF K C) {H : Hp} {v : V} {n : String} (h : Kd H v n) : PySem.W.kitOne K (.type n) (.ref C) = some false := by
  have e1 : ((PySem.W.clsIn K C).isSome && PySem.W.typeIn K (.ref C) == some (.type "type")) = true := by
    have h2 : (PySem.W.clsIn K C).isSome = true := M.cls
    rw [h2, M.ty] <;> rfl
  have e2 : PySem.W.subIn K (.type n) (.ref C) = some false := by
    cases h with
    | non => exact sub_ty (l := ["NoneType", "object"]) (by decide +kernel)
    | bl _ => exact sub_ty (l := ["bool", "int", "object"]) (by decide +kernel)
    | int _ => exact sub_ty (l := ["int", "object"]) (by decide +kernel)
    | str _ => exact sub_ty (l := ["str", "object"]) (by decide +kernel)
    | lst _ => exact sub_ty (l := ["list", "object"]) (by decide +kernel)
    | tup _ => exact sub_ty (l := ["tuple", "object"]) (by decide +kernel)
    | dK _ => exact sub_ty (l := ["dict", "object"]) (by decide +kernel)
  show (if (Value.type n == Value.ref C) = true then some true else PySem.W.kitCls K (.type n) (.ref C)) = some false
  rw [if_neg (by intro z; cases z)]
  show (if ((PySem.W.clsIn K C).isSome && PySem.W.typeIn K (.ref C) == some (.type "type")) = true then PySem.W.subIn K (.type n) (.ref C) else none) = some false
  rw [if_pos e1, e2]
theorem CF.tyR {K : PySem.W.Frag} {C : Addr} (M : CF K C) {H : Hp} {p dx : Addr} {fs : List (Str × V)} (h : H p = some (.ins C dx fs)) : TyX K H (.ref p) (.ref C) := .base (.ins h M.cl M.oc M.og M.ot M.om)
theorem vals_rev {vs : List V} {us : List Value} (r : Vals vs us) : Vals vs.reverse us.reverse := by
  induction r with
  | nil => exact .nil
  | cons h t ih =>
    rw [List.reverse_cons, List.reverse_cons]
    exact ih.append (.cons h .nil)
/-- f(c = .., b = .., a = ..) of a def f(a, b, c) -/
theorem pe_kr {X : Cx} {k : Nat} {f : Addr} {sp : Sp} {x : Str} {ps : List Str} {st : Stmt} {kws : List Keyword} {tk : TA} {p pos : Pos} (D : Dfn X.K X.mg x st f ps) (h : ∀ fd, Fun X.K x x st f fd → FnOk X.prog X.w X.K X.mg X.base CX0 k f fd ps sp)
    (hbind : ∀ (kV doc pm : Value) (an : Option Addr) (cdv ct : Value) (us : List Value), us.length = ps.reverse.length → bindArgs (PySem.W.fnOf x x (defArgs st) (defBody st) (defScope st) .none kV doc pm an cdv ct) ⟨[], ps.reverse.zip us⟩ = pure (ps.zip us.reverse))
    (hr : Room k X.A) (hg : Gl X x) (hkw : PK X kws tk) (hall : (backToKw pos (keywordEach kws X.env)).all (·.1.isSome) = true := by rfl) (hks : (backToKw pos (keywordEach kws X.env)).filterMap (·.1) = ps.reverse := by rfl) (hdb : (x == ("__debug__" : Str)) = false := by decide)
    (hpl : ((backTo pos (starEach [] X.env)).any (·.1) || (backToKw pos (keywordEach kws X.env)).any (·.1.isNone)) = false := by rfl) :
    PE X (.Call (.Name x p) [] kws pos) (tCallN 0 ps.reverse.length sp (fun us ws => us ++ ws.reverse) E0 tNil tk) := by
  obtain ⟨fd, F, _⟩ := D.ex
  have hb : KBn X.K fd ps 0 ps.reverse (fun us ws => us ++ ws.reverse) (fun us ws => us ++ ws.reverse) := by
    refine ⟨fun s us ws hX h1 h2 => ?_, fun r1 r2 => r1.append (vals_rev r2)⟩
    obtain ⟨oc, od, kV, doc, pm, an, cdv, ct, osl, rfl, lk, hcd⟩ := F.ex
    match us, h1 with
    | [], _ => exact .of_eq (hbind kV doc pm an cdv ct ws h2)
  exact pe_callN0 (h fd F) hr hg D.g F.kp hb pass0 hkw hall hks hdb hpl
/-- where the defs and classes of the text stand -/
structure LA where
  f__wall : Addr
  f_is_integer : Addr
  f_is_at_least : Addr
  f_is_within : Addr
  f_steps_to : Addr
  f_rounded_up : Addr
  f_is_breaker : Addr
  f_check_breakers : Addr
  f_check_step : Addr
  f_periods : Addr
  f_check_periods : Addr
  f_waits_of : Addr
  f__law_mixed : Addr
  f__law_well : Addr
  f__law_draw : Addr
  f__law_one : Addr
  f__law_place : Addr
  f__law_said : Addr
  f__law_line : Addr
  f__law_periods : Addr
  f__law_right : Addr
  k__law_right : Addr
  t__law_right : Addr
  c_Row : Addr
  i_Row : Addr
  m_Row_breaker_list : Addr
  m_Row_step_length : Addr
  m_Row_phase_time : Addr
  m_Row_len : Addr
  m_Row_getitem : Addr
  m_Row_contains : Addr
  m_Row_add : Addr
  m_Row_eq : Addr
  e_BreakerError : Addr
  e_InvalidRow : Addr
  e_InvalidTime : Addr
  e_InvalidOutages : Addr
  e_InvalidTrains : Addr
  e_InvalidIndex : Addr
  e_InvalidBound : Addr
  e_InvalidLog : Addr
  e_InvalidCall : Addr
  e_InvalidText : Addr
  e_LimitExceeded : Addr
  i_InvalidLog : Addr
/-- what the text says of them -/
structure LX (K : PySem.W.Frag) (mg : Str → Option Value) (L : LA) : Prop where
  b_ArithmeticError : mg "ArithmeticError" = none
  b_bool : mg "bool" = none
  b_enumerate : mg "enumerate" = none
  b_int : mg "int" = none
  b_isinstance : mg "isinstance" = none
  b_len : mg "len" = none
  b_list : mg "list" = none
  b_max : mg "max" = none
  b_min : mg "min" = none
  b_range : mg "range" = none
  b_repr : mg "repr" = none
  b_tuple : mg "tuple" = none
  b_zip : mg "zip" = none
  n_MOST_BREAKERS : ∃ t, mg "MOST_BREAKERS" = some (.int 12 t)
  n_MOST_COUNT : ∃ t, mg "MOST_COUNT" = some (.int 1000000000000 t)
  n_MOST_TIME : ∃ t, mg "MOST_TIME" = some (.int 1000000000000000000000000000000 t)
  d__wall : Dfn K mg "_wall" st__wall L.f__wall ["k"]
  d_is_integer : Dfn K mg "is_integer" st_is_integer L.f_is_integer ["value"]
  d_is_at_least : Dfn K mg "is_at_least" st_is_at_least L.f_is_at_least ["value", "least"]
  d_is_within : Dfn K mg "is_within" st_is_within L.f_is_within ["value", "least", "most"]
  d_steps_to : Dfn K mg "steps_to" st_steps_to L.f_steps_to ["distance", "step"]
  d_rounded_up : Dfn K mg "rounded_up" st_rounded_up L.f_rounded_up ["value", "unit"]
  d_is_breaker : Dfn K mg "is_breaker" st_is_breaker L.f_is_breaker ["value"]
  d_check_breakers : Dfn K mg "check_breakers" st_check_breakers L.f_check_breakers ["breakers", "part"]
  d_check_step : Dfn K mg "check_step" st_check_step L.f_check_step ["step"]
  d_periods : Dfn K mg "periods" st_periods L.f_periods ["row"]
  d_check_periods : Dfn K mg "check_periods" st_check_periods L.f_check_periods ["period_list"]
  d_waits_of : Dfn K mg "waits_of" st_waits_of L.f_waits_of ["period_list"]
  d__law_mixed : Dfn K mg "_law_mixed" st__law_mixed L.f__law_mixed ["_law_cell", "_law_k"]
  d__law_well : Dfn K mg "_law_well" st__law_well L.f__law_well ["_law_cell"]
  d__law_draw : Dfn K mg "_law_draw" st__law_draw L.f__law_draw ["_law_well_here", "_law_many"]
  d__law_one : Dfn K mg "_law_one" st__law_one L.f__law_one ["_law_well_here", "_law_some"]
  d__law_place : Dfn K mg "_law_place" st__law_place L.f__law_place ["_law_well_here", "_law_many"]
  d__law_said : Dfn K mg "_law_said" st__law_said L.f__law_said ["_law_deed"]
  d__law_line : Dfn K mg "_law_line" st__law_line L.f__law_line ["_law_well_here"]
  d__law_periods : Dfn K mg "_law_periods" st__law_periods L.f__law_periods ["_law_step", "_law_waits"]
  d__law_right : DfnT K mg "_law_right" st__law_right L.f__law_right L.k__law_right ["_law_well_here"]
  gc_Row : mg "Row" = some (.ref L.c_Row)
  cf_Row : CF K L.c_Row
  mk_Row : Mk K L.c_Row L.i_Row
  nf_Row_breakers : NoAttr K L.c_Row "breakers"
  nf_Row_step : NoAttr K L.c_Row "step"
  nf_Row_phase : NoAttr K L.c_Row "phase"
  in_Row : ∃ fd, FunD K "__init__" "Row.__init__" (defArgs st_Row_init) (defBody st_Row_init) (defScope st_Row_init) [] [("phase", .int 0)] L.i_Row fd
  mm_Row_breaker_list : Mth K L.c_Row "breaker_list" "Row.breaker_list" st_Row_breaker_list L.m_Row_breaker_list ["self"]
  mm_Row_step_length : Mth K L.c_Row "step_length" "Row.step_length" st_Row_step_length L.m_Row_step_length ["self"]
  mm_Row_phase_time : Mth K L.c_Row "phase_time" "Row.phase_time" st_Row_phase_time L.m_Row_phase_time ["self"]
  mm_Row_len : Mth K L.c_Row "__len__" "Row.__len__" st_Row_len L.m_Row_len ["self"]
  mm_Row_getitem : Mth K L.c_Row "__getitem__" "Row.__getitem__" st_Row_getitem L.m_Row_getitem ["self", "at"]
  mm_Row_contains : Mth K L.c_Row "__contains__" "Row.__contains__" st_Row_contains L.m_Row_contains ["self", "x"]
  mm_Row_add : Mth K L.c_Row "__add__" "Row.__add__" st_Row_add L.m_Row_add ["self", "other"]
  mm_Row_eq : Mth K L.c_Row "__eq__" "Row.__eq__" st_Row_eq L.m_Row_eq ["self", "other"]
  ge_BreakerError : mg "BreakerError" = some (.ref L.e_BreakerError)
  xe_BreakerError : L2.XfC K L.e_BreakerError
  te_BreakerError : PySem.W.typeIn K (.ref L.e_BreakerError) = some (.type "type")
  ge_InvalidRow : mg "InvalidRow" = some (.ref L.e_InvalidRow)
  xe_InvalidRow : L2.XfC K L.e_InvalidRow
  te_InvalidRow : PySem.W.typeIn K (.ref L.e_InvalidRow) = some (.type "type")
  ge_InvalidTime : mg "InvalidTime" = some (.ref L.e_InvalidTime)
  xe_InvalidTime : L2.XfC K L.e_InvalidTime
  te_InvalidTime : PySem.W.typeIn K (.ref L.e_InvalidTime) = some (.type "type")
  ge_InvalidOutages : mg "InvalidOutages" = some (.ref L.e_InvalidOutages)
  xe_InvalidOutages : L2.XfC K L.e_InvalidOutages
  te_InvalidOutages : PySem.W.typeIn K (.ref L.e_InvalidOutages) = some (.type "type")
  ge_InvalidTrains : mg "InvalidTrains" = some (.ref L.e_InvalidTrains)
  xe_InvalidTrains : L2.XfC K L.e_InvalidTrains
  te_InvalidTrains : PySem.W.typeIn K (.ref L.e_InvalidTrains) = some (.type "type")
  ge_InvalidIndex : mg "InvalidIndex" = some (.ref L.e_InvalidIndex)
  xe_InvalidIndex : L2.XfC K L.e_InvalidIndex
  te_InvalidIndex : PySem.W.typeIn K (.ref L.e_InvalidIndex) = some (.type "type")
  ge_InvalidBound : mg "InvalidBound" = some (.ref L.e_InvalidBound)
  xe_InvalidBound : L2.XfC K L.e_InvalidBound
  te_InvalidBound : PySem.W.typeIn K (.ref L.e_InvalidBound) = some (.type "type")
  ge_InvalidLog : mg "InvalidLog" = some (.ref L.e_InvalidLog)
  xe_InvalidLog : L2.XfC K L.e_InvalidLog
  te_InvalidLog : PySem.W.typeIn K (.ref L.e_InvalidLog) = some (.type "type")
  ge_InvalidCall : mg "InvalidCall" = some (.ref L.e_InvalidCall)
  xe_InvalidCall : L2.XfC K L.e_InvalidCall
  te_InvalidCall : PySem.W.typeIn K (.ref L.e_InvalidCall) = some (.type "type")
  ge_InvalidText : mg "InvalidText" = some (.ref L.e_InvalidText)
  xe_InvalidText : L2.XfC K L.e_InvalidText
  te_InvalidText : PySem.W.typeIn K (.ref L.e_InvalidText) = some (.type "type")
  ge_LimitExceeded : mg "LimitExceeded" = some (.ref L.e_LimitExceeded)
  xe_LimitExceeded : L2.XfC K L.e_LimitExceeded
  te_LimitExceeded : PySem.W.typeIn K (.ref L.e_LimitExceeded) = some (.type "type")
  ae_InvalidLog : AeC K L.e_InvalidLog
  hi_InvalidLog : PySem.W.findIn K (.ref L.e_InvalidLog) "__init__" = some (some (.ref L.i_InvalidLog))
  ti_InvalidLog : PySem.W.typeIn K (.ref L.i_InvalidLog) = some (.type "function")
  in_InvalidLog : ∃ fd, Fun K "__init__" "InvalidLog.__init__" st_InvalidLog_init L.i_InvalidLog fd ∧ Binds K fd ["self", "at"] []
  ne_InvalidLog_part : PySem.W.findIn K (.ref L.e_InvalidLog) "part" = some none
  ne_InvalidLog_at : PySem.W.findIn K (.ref L.e_InvalidLog) "at" = some none
  ne_InvalidLog_time : PySem.W.findIn K (.ref L.e_InvalidLog) "time" = some none
  ne_InvalidLog_index : PySem.W.findIn K (.ref L.e_InvalidLog) "index" = some none
  ne_InvalidLog_call : PySem.W.findIn K (.ref L.e_InvalidLog) "call" = some none
  ne_InvalidLog_line : PySem.W.findIn K (.ref L.e_InvalidLog) "line" = some none
  ne_InvalidLog_word : PySem.W.findIn K (.ref L.e_InvalidLog) "word" = some none
  ne_InvalidLog_limit : PySem.W.findIn K (.ref L.e_InvalidLog) "limit" = some none
  is_InvalidLog : IsC K L.e_InvalidLog
  se_InvalidLog_BreakerError : PySem.W.subIn K (.ref L.e_InvalidLog) (.ref L.e_BreakerError) = some true
  se_InvalidLog_InvalidRow : PySem.W.subIn K (.ref L.e_InvalidLog) (.ref L.e_InvalidRow) = some false
  se_InvalidLog_InvalidTime : PySem.W.subIn K (.ref L.e_InvalidLog) (.ref L.e_InvalidTime) = some false
  se_InvalidLog_InvalidOutages : PySem.W.subIn K (.ref L.e_InvalidLog) (.ref L.e_InvalidOutages) = some false
  se_InvalidLog_InvalidTrains : PySem.W.subIn K (.ref L.e_InvalidLog) (.ref L.e_InvalidTrains) = some false
  se_InvalidLog_InvalidIndex : PySem.W.subIn K (.ref L.e_InvalidLog) (.ref L.e_InvalidIndex) = some false
  se_InvalidLog_InvalidBound : PySem.W.subIn K (.ref L.e_InvalidLog) (.ref L.e_InvalidBound) = some false
  se_InvalidLog_InvalidLog : PySem.W.subIn K (.ref L.e_InvalidLog) (.ref L.e_InvalidLog) = some true
  se_InvalidLog_InvalidCall : PySem.W.subIn K (.ref L.e_InvalidLog) (.ref L.e_InvalidCall) = some false
  se_InvalidLog_InvalidText : PySem.W.subIn K (.ref L.e_InvalidLog) (.ref L.e_InvalidText) = some false
  se_InvalidLog_LimitExceeded : PySem.W.subIn K (.ref L.e_InvalidLog) (.ref L.e_LimitExceeded) = some false
  sa_InvalidLog : PySem.W.subIn K (.ref L.e_InvalidLog) (.type "ArithmeticError") = some true
/-- the code objects of the defs in which lambdas are made, and their tables -/
structure TX (base : Heap) (mg : Str → Option Value) (L : LA) : Prop where
  b__law_right : LamX.TabB base mg L.k__law_right L.t__law_right
def LT (L : LA) : List (Addr × Str) := [(L.t__law_right, (("_law_right" : Str) ++ ".<locals>.") ++ "<lambda>")]

/-- a comprehension over zip of two lists -/
theorem lc_zip {K : PySem.W.Frag} {a b : Addr} {xs ys : List V} {g : TG} {tt : TT} {te : TE} {vs : List Nat} {σ : L2.St} {H1 : Hp} {D : Addr} {Qd : Hp → Prop} (hlen : ys.length ≤ xs.length) (Pv : Nat → Hp → Prop) (h0 : Pv 0 (upd H1 D (.lst []))) (hl : ∀ i H, Pv i H → SqL K H a xs ∧ SqL K H b ys)
    (hs : ∀ (i : Nat) (x y : V) (T : Addr) (H : Hp), xs[i]? = some x → ys[i]? = some y → Pv i H → H T = none → g (.ref T) (wipe σ vs) (upd H T (.tup [x, y])) fun σ2 H2 => wipe σ2 vs = wipe σ vs ∧ tt σ2 H2 fun b H3 =>
      if b = true then te σ2 H3 fun y H4 => ∃ acc, H4 D = some (.lst acc) ∧ acc.length < sizeLine ∧ Pv (i + 1) (upd H4 D (.lst (acc ++ [y]))) else Pv (i + 1) H3) (hd : ∀ H, Pv ys.length H → Qd H) :
    ∃ W : Nat → Nat → Hp → Prop, (∃ m, W 0 m (upd H1 D (.lst []))) ∧ ∀ i m H, W i m H → ((Itz K a b).stop i H ∧ Qd H) ∨ ((Itz K a b).go i H ∧ ∃ Nx : Hp → Prop, (∀ H', Nx H' → ∃ m', m' < m ∧ W (i + 1) m' H') ∧ ∀ x H', (Itz K a b).yld i H x H' → g x (wipe σ vs) H' fun σ2 H2 => wipe σ2 vs = wipe σ vs ∧ tt σ2 H2 fun b H3 =>
        if b = true then te σ2 H3 fun y H4 => ∃ acc, H4 D = some (.lst acc) ∧ acc.length < sizeLine ∧ Nx (upd H4 D (.lst (acc ++ [y]))) else Nx H3) := by
  refine ⟨fun i m H => m = ys.length - i ∧ i ≤ ys.length ∧ Pv i H, ⟨ys.length, by omega, Nat.zero_le _, h0⟩, ?_⟩
  rintro i m H ⟨rfl, hi, p⟩
  obtain ⟨qx, qy⟩ := hl i H p
  by_cases hlt : i < ys.length
  · have hx : xs[i]? = some xs[i] := List.getElem?_eq_getElem (by omega)
    have hy : ys[i]? = some ys[i] := List.getElem?_eq_getElem hlt
    refine .inr ⟨⟨xs, ys, _, _, qx, qy, hx, hy⟩, Pv (i + 1), fun H' p' => ⟨ys.length - (i + 1), by omega, rfl, hlt, p'⟩, fun v H' y => ?_⟩
    obtain ⟨T, x', y', rfl, hT, rfl, f1, f2⟩ := y
    exact hs i x' y' T H (f1 xs qx) (f2 ys qy) p hT
  · have e : i = ys.length := by omega
    subst e
    exact .inl ⟨⟨xs, ys, qx, qy, .inr (Nat.le_refl _)⟩, hd H p⟩
/-- an attribute inside a comprehension -/
theorem pe_fldK {X : Cx} {K : PySem.W.Frag} {e : Expr} {f : Str} {pos : Pos} {ta : TE} (hK : X.K = K) (he : PE X e ta) (hb : attributeBase e f X.env (eval e X.env) = eval e X.env) : PE X (.Attribute e f pos) (tFld K ta f) := by
  subst hK
  exact pe_fld he hb
theorem putF_len (f : Str) (v : V) (fs : List (Str × V)) {n : Nat} (h : fs.length ≤ n) : (putF f v fs).length ≤ n + 1 := Nat.le_trans (length_putF f v fs) (Nat.succ_le_succ h)
def spRup : Sp := fun vs H Q _ => ∃ v u : Int, vs = [.int v, .int u] ∧ 0 < u ∧ u.natAbs.log2 < 9000 ∧ CMulW (stepsUp v u) u ∧ Q (.int (stepsUp v u * u)) H
/-! ### the small defs -/
section
variable {P : Program} {w : World} {K : PySem.W.Frag} {mg : Str → Option Value} {base : Heap} {L : LA}
abbrev N_isinteger : List Str := ["value"]
theorem sc_isinteger : FnScope N_isinteger ["value"] (defScope st_is_integer) := ⟨rfl, rfl, rfl, by decide +kernel, rfl, by decide +kernel, by decide +kernel⟩
theorem fn_isinteger (T : LX K mg L) {fd : FuncData} (F : Fun K "is_integer" "is_integer" st_is_integer L.f_is_integer fd) : FnOk P w K mg base CX0 1 L.f_is_integer fd ["value"] (spIsInt) := by
  have nd := sc_isinteger.nd
  refine F.ok sc_isinteger (fun vs H Q E h => ?_) (fun cdv A outer S H vs Q E hr h => ?_)
  · obtain ⟨v, n, rfl, _⟩ := h
    rfl
  · obtain ⟨v, n, rfl, hv, k⟩ := h
    refine ⟨_, (pss_one (ps_ret (pe_and (pe_callB call_isi (by rfl) T.b_isinstance (by decide +kernel) (pa_cons (pv 0) (pa_cons (pe_bltn (by rfl) T.b_int (by decide +kernel : bootBuiltins "int" = some (.type "int")) (v := .ty "int") rfl) pa_nil))) (pe_one (pe_not (pe_callB call_isi (by rfl) T.b_isinstance (by decide +kernel) (pa_cons (pv 0) (pa_cons (pe_bltn (by rfl) T.b_bool (by decide +kernel : bootBuiltins "bool" = some (.type "bool")) (v := .ty "bool") rfl) pa_nil)))))))), ?_⟩
    refine ⟨_, rfl, v, .ty "int", _, _, _, rfl, .ty "int", hv.ty, hv.kit "int" _ (.inl ⟨rfl, rfl⟩), _, rfl, ?_⟩
    refine ite2 (fun c => ?_) (fun c => ?_)
    · refine ⟨_, rfl, v, .ty "bool", _, _, _, rfl, .ty "bool", hv.ty, hv.kit "bool" _ (.inr ⟨by decide, by decide, rfl⟩), _, rfl, ?_⟩
      cases hv <;> first | exact k | (exact absurd c (by decide))
    · cases hv <;> first | exact k | (exact absurd (by decide) c)
theorem ok_isinteger (T : LX K mg L) : Cal P w K mg base "is_integer" 1 L.f_is_integer ["value"] (spIsInt) := T.d_is_integer.cal fun fd F => fn_isinteger T F
abbrev N_isatleast : List Str := ["value", "least"]
theorem sc_isatleast : FnScope N_isatleast ["value", "least"] (defScope st_is_at_least) := ⟨rfl, rfl, rfl, by decide +kernel, rfl, by decide +kernel, by decide +kernel⟩
theorem fn_isatleast (T : LX K mg L) {fd : FuncData} (F : Fun K "is_at_least" "is_at_least" st_is_at_least L.f_is_at_least fd) : FnOk P w K mg base CX0 2 L.f_is_at_least fd ["value", "least"] (spAtL) := by
  have G_isinteger := ok_isinteger (P := P) (w := w) (base := base) T
  have nd := sc_isatleast.nd
  refine F.ok sc_isatleast (fun vs H Q E h => ?_) (fun cdv A outer S H vs Q E hr h => ?_)
  · obtain ⟨v, n, l, rfl, _⟩ := h
    rfl
  · obtain ⟨v, n, l, rfl, hv, k⟩ := h
    refine ⟨_, (pss_one (ps_ret (pe_and (pe_c G_isinteger (hr.mono (by decide)) rfl (pa_cons (pv 0) pa_nil)) (pe_one (pe_cmpR op_ge (pv 0) (pv 1) (nomark _)))))), ?_⟩
    refine ⟨_, rfl, v, n, rfl, hv, _, rfl, ?_⟩
    cases v with
    | int i => exact iteT ⟨_, rfl, _, rfl, _, _, rfl, rfl, k⟩
    | _ => exact iteF k
theorem ok_isatleast (T : LX K mg L) : Cal P w K mg base "is_at_least" 2 L.f_is_at_least ["value", "least"] (spAtL) := T.d_is_at_least.cal fun fd F => fn_isatleast T F
abbrev N_iswithin : List Str := ["value", "least", "most"]
theorem sc_iswithin : FnScope N_iswithin ["value", "least", "most"] (defScope st_is_within) := ⟨rfl, rfl, rfl, by decide +kernel, rfl, by decide +kernel, by decide +kernel⟩
theorem fn_iswithin (T : LX K mg L) {fd : FuncData} (F : Fun K "is_within" "is_within" st_is_within L.f_is_within fd) : FnOk P w K mg base CX0 2 L.f_is_within fd ["value", "least", "most"] (spWithin) := by
  have G_isinteger := ok_isinteger (P := P) (w := w) (base := base) T
  have nd := sc_iswithin.nd
  refine F.ok sc_iswithin (fun vs H Q E h => ?_) (fun cdv A outer S H vs Q E hr h => ?_)
  · obtain ⟨v, n, l, m, rfl, _⟩ := h
    rfl
  · obtain ⟨v, n, l, m, rfl, hv, k⟩ := h
    refine ⟨_, (pss_one (ps_ret (pe_and (pe_c G_isinteger (hr.mono (by decide)) rfl (pa_cons (pv 0) pa_nil)) (pe_one (pe_chain op_le op_le (pv 1) (pv 0) (pv 2)))))), ?_⟩
    refine ⟨_, rfl, v, n, rfl, hv, _, rfl, ?_⟩
    cases v with
    | int i =>
      refine iteT ⟨_, rfl, _, rfl, _, _, rfl, rfl, _, rfl, ?_⟩
      refine ite2 (fun c => ?_) (fun c => ?_)
      · refine ⟨_, rfl, _, _, rfl, rfl, ?_⟩
        have c' : decide (l ≤ i) = true := c
        have k' : Q (.bl (decide (l ≤ i) && decide (i ≤ m))) H := k
        rw [c', Bool.true_and] at k'
        exact k'
      · have c' : decide (l ≤ i) = false := by simpa using c
        have k' : Q (.bl (decide (l ≤ i) && decide (i ≤ m))) H := k
        rw [c', Bool.false_and] at k'
        exact k'
    | _ => exact iteF k
theorem ok_iswithin (T : LX K mg L) : Cal P w K mg base "is_within" 2 L.f_is_within ["value", "least", "most"] (spWithin) := T.d_is_within.cal fun fd F => fn_iswithin T F
abbrev N_stepsto : List Str := ["distance", "step"]
theorem sc_stepsto : FnScope N_stepsto ["distance", "step"] (defScope st_steps_to) := ⟨rfl, rfl, rfl, by decide +kernel, rfl, by decide +kernel, by decide +kernel⟩
theorem fn_stepsto (T : LX K mg L) {fd : FuncData} (F : Fun K "steps_to" "steps_to" st_steps_to L.f_steps_to fd) : FnOk P w K mg base CX0 1 L.f_steps_to fd ["distance", "step"] (spSteps) := by
  have nd := sc_stepsto.nd
  refine F.ok sc_stepsto (fun vs H Q E h => ?_) (fun cdv A outer S H vs Q E hr h => ?_)
  · obtain ⟨d, st, rfl, _⟩ := h
    rfl
  · obtain ⟨d, st, rfl, h0, h1, k⟩ := h
    refine ⟨_, (pss_one (ps_ret (pe_callB (call_max2 rfl) (by rfl) T.b_max (by decide +kernel) (pa_cons pe_int (pa_cons (pe_un un_neg (pe_op op_fdivW (pe_un un_neg (pv 0)) (pv 1))) pa_nil))))), ?_⟩
    exact ⟨_, rfl, _, rfl, _, rfl, _, _, rfl, rfl, ⟨h0, h1⟩, _, rfl, _, _, rfl, k⟩
theorem ok_stepsto (T : LX K mg L) : Cal P w K mg base "steps_to" 1 L.f_steps_to ["distance", "step"] (spSteps) := T.d_steps_to.cal fun fd F => fn_stepsto T F
abbrev N_roundedup : List Str := ["value", "unit"]
theorem sc_roundedup : FnScope N_roundedup ["value", "unit"] (defScope st_rounded_up) := ⟨rfl, rfl, rfl, by decide +kernel, rfl, by decide +kernel, by decide +kernel⟩
theorem fn_roundedup (T : LX K mg L) {fd : FuncData} (F : Fun K "rounded_up" "rounded_up" st_rounded_up L.f_rounded_up fd) : FnOk P w K mg base CX0 2 L.f_rounded_up fd ["value", "unit"] (spRup) := by
  have G_stepsto := ok_stepsto (P := P) (w := w) (base := base) T
  have nd := sc_roundedup.nd
  refine F.ok sc_roundedup (fun vs H Q E h => ?_) (fun cdv A outer S H vs Q E hr h => ?_)
  · obtain ⟨v, u, rfl, _⟩ := h
    rfl
  · obtain ⟨v, u, rfl, h0, h1, hm, k⟩ := h
    refine ⟨_, (pss_one (ps_ret (pe_op op_mulW (pe_c G_stepsto (hr.mono (by decide)) rfl (pa_cons (pv 0) (pa_cons (pv 1) pa_nil))) (pv 1)))), ?_⟩
    exact ⟨_, rfl, _, rfl, v, u, rfl, h0, h1, _, rfl, _, _, rfl, rfl, hm, k⟩
theorem ok_roundedup (T : LX K mg L) : Cal P w K mg base "rounded_up" 2 L.f_rounded_up ["value", "unit"] (spRup) := T.d_rounded_up.cal fun fd F => fn_roundedup T F
end
/-! ### trains as data -/
abbrev Trn := Int × Int × Option Int
def OkTr (t : Trn) : Prop := 0 ≤ t.1 ∧ 1 ≤ t.2.1 ∧ ∀ c, t.2.2 = some c → 1 ≤ c
/-- all times of the first are before the second -/
def Lt (t u : Trn) : Prop := ∃ c, t.2.2 = some c ∧ t.1 + (c - 1) * t.2.1 < u.1
def Srt (ts : List Trn) : Prop := (∀ t ∈ ts, OkTr t) ∧ ts.Pairwise Lt
def minO (n : Int) : Option Int → Int
  | none => n
  | some c => if c < n then c else n
/-- how many times of a train are before x -/
def nbT (t : Trn) (x : Int) : Int := minO (stepsUp (x - t.1) t.2.1) t.2.2
def NB : List Trn → Int → Int
  | [], _ => 0
  | t :: ts, x => nbT t x + NB ts x
def At : List Trn → Int → Option Int
  | [], _ => none
  | t :: ts, i => match t.2.2 with
    | none => some (t.1 + i * t.2.1)
    | some c => if i < c then some (t.1 + i * t.2.1) else At ts (i - c)
def addO (c : Int) : Option Int → Option Int
  | none => none
  | some n => some (c + n)
def Tot : List Trn → Option Int
  | [] => some 0
  | t :: ts => match t.2.2 with
    | none => none
    | some c => addO c (Tot ts)
/-- d / s, rounded up -/
def cl (d s : Int) : Int := -(-d / s)
theorem stepsUp_cl (d s : Int) : stepsUp d s = if cl d s > 0 then cl d s else 0 := rfl
theorem cl_sub (d s c : Int) (hs : 0 < s) : cl (d - c * s) s = cl d s - c := by
  unfold cl
  have e : -(d - c * s) = -d + c * s := by omega
  rw [e, Int.add_mul_ediv_right _ _ (show s ≠ 0 by omega)]
  omega
theorem cl_le {d s n : Int} (hs : 0 < s) : cl d s ≤ n ↔ d ≤ n * s := by
  unfold cl
  have h : -n ≤ -d / s ↔ -n * s ≤ -d := Int.le_ediv_iff_mul_le hs
  rw [Int.neg_mul] at h
  omega
theorem cl_gt {d s n : Int} (hs : 0 < s) : n < cl d s ↔ n * s < d := by
  have h := cl_le (d := d) (s := s) (n := n) hs
  omega
def subO (k : Option Int) (c : Int) : Option Int := match k with
  | none => none
  | some n => some (n - c)
/-- a train is its first c times, and the others -/
theorem nbT_split {s p c : Int} {k : Option Int} (hp : 0 < p) (hc : 0 ≤ c) (hk : ∀ n, k = some n → c ≤ n) (x : Int) : nbT (s, p, k) x = nbT (s, p, some c) x + nbT (s + c * p, p, subO k c) x := by
  have e : x - (s + c * p) = x - s - c * p := by omega
  show minO (stepsUp (x - s) p) k = minO (stepsUp (x - s) p) (some c) + minO (stepsUp (x - (s + c * p)) p) (subO k c)
  rw [e, stepsUp_cl, stepsUp_cl, cl_sub _ _ _ hp]
  cases k with
  | none =>
    show (if cl (x - s) p > 0 then cl (x - s) p else 0) = (if c < (if cl (x - s) p > 0 then cl (x - s) p else 0) then c else (if cl (x - s) p > 0 then cl (x - s) p else 0)) + (if cl (x - s) p - c > 0 then cl (x - s) p - c else 0)
    split <;> split <;> split <;> omega
  | some n =>
    have := hk n rfl
    show (if n < (if cl (x - s) p > 0 then cl (x - s) p else 0) then n else (if cl (x - s) p > 0 then cl (x - s) p else 0)) = (if c < (if cl (x - s) p > 0 then cl (x - s) p else 0) then c else (if cl (x - s) p > 0 then cl (x - s) p else 0)) + (if n - c < (if cl (x - s) p - c > 0 then cl (x - s) p - c else 0) then n - c else (if cl (x - s) p - c > 0 then cl (x - s) p - c else 0))
    split <;> split <;> split <;> split <;> (try split) <;> omega
/-- the step of a single time is nothing -/
theorem nbT_one {s p q : Int} (hp : 0 < p) (hq : 0 < q) (x : Int) : nbT (s, p, some 1) x = nbT (s, q, some 1) x := by
  have one : ∀ p : Int, 0 < p → nbT (s, p, some 1) x = if s < x then 1 else 0 := fun p hp => by
    show (if (1 : Int) < (if cl (x - s) p > 0 then cl (x - s) p else 0) then (1 : Int) else (if cl (x - s) p > 0 then cl (x - s) p else 0)) = _
    have h0 : 0 < cl (x - s) p ↔ 0 * p < x - s := cl_gt hp
    rw [Int.zero_mul] at h0
    split <;> split <;> split <;> omega
  rw [one p hp, one q hq]
theorem NB_app : ∀ (ts us : List Trn) (x : Int), NB (ts ++ us) x = NB ts x + NB us x
  | [], us, x => by show NB us x = 0 + NB us x; omega
  | t :: ts, us, x => by
    show nbT t x + NB (ts ++ us) x = nbT t x + NB ts x + NB us x
    rw [NB_app ts us x]
    omega
theorem addO_addO (a b : Int) (k : Option Int) : addO a (addO b k) = addO (a + b) k := by
  cases k with
  | none => rfl
  | some n => show some (a + (b + n)) = some (a + b + n); rw [Int.add_assoc]
theorem nbT_nn {t : Trn} (h : OkTr t) (x : Int) : 0 ≤ nbT t x := by
  obtain ⟨s, p, k⟩ := t
  show 0 ≤ minO (stepsUp (x - s) p) k
  rw [stepsUp_cl]
  cases k with
  | none => show 0 ≤ if cl (x - s) p > 0 then cl (x - s) p else 0; split <;> omega
  | some c =>
    have := h.2.2 c rfl
    show 0 ≤ if c < (if cl (x - s) p > 0 then cl (x - s) p else 0) then c else (if cl (x - s) p > 0 then cl (x - s) p else 0)
    split <;> (try split) <;> omega
theorem nbT_zero {t : Trn} (h : OkTr t) {x : Int} (hx : x ≤ t.1) : nbT t x = 0 := by
  obtain ⟨s, p, k⟩ := t
  have hp : 0 < p := by
    have h2 : 1 ≤ p := h.2.1
    omega
  have h1 : cl (x - s) p ≤ 0 := (cl_le hp).mpr (by
    have h2 : x ≤ s := hx
    omega)
  show minO (stepsUp (x - s) p) k = 0
  rw [stepsUp_cl, if_neg (by omega)]
  cases k with
  | none => rfl
  | some c =>
    have := h.2.2 c rfl
    show (if c < 0 then c else 0) = 0
    rw [if_neg (by omega)]
theorem nbT_all {t : Trn} (h : OkTr t) {x c : Int} (hc : t.2.2 = some c) (hx : t.1 + (c - 1) * t.2.1 < x) : nbT t x = c := by
  obtain ⟨s, p, k⟩ := t
  have hp : 0 < p := by
    have h2 : 1 ≤ p := h.2.1
    omega
  have h0 : k = some c := hc
  subst h0
  have h1 : c - 1 < cl (x - s) p := (cl_gt hp).mpr (by
    have h2 : s + (c - 1) * p < x := hx
    omega)
  have := h.2.2 c rfl
  show (if c < stepsUp (x - s) p then c else stepsUp (x - s) p) = c
  rw [stepsUp_cl]
  split <;> (try split at *) <;> omega
theorem NB_nn {ts : List Trn} (h : ∀ t ∈ ts, OkTr t) (x : Int) : 0 ≤ NB ts x := by
  induction ts with
  | nil => exact Int.le_refl _
  | cons t ts ih =>
    have h1 := nbT_nn (h t (List.mem_cons_self ..)) x
    have h2 := ih fun u hu => h u (List.mem_cons_of_mem _ hu)
    show 0 ≤ nbT t x + NB ts x
    omega
theorem NB_zero {ts : List Trn} (h : ∀ t ∈ ts, OkTr t) {x : Int} (hx : ∀ t ∈ ts, x ≤ t.1) : NB ts x = 0 := by
  induction ts with
  | nil => rfl
  | cons t ts ih =>
    show nbT t x + NB ts x = 0
    rw [nbT_zero (h t (List.mem_cons_self ..)) (hx t (List.mem_cons_self ..)), ih (fun u hu => h u (List.mem_cons_of_mem _ hu)) fun u hu => hx u (List.mem_cons_of_mem _ hu)]
    rfl
theorem Srt.tail {t : Trn} {ts : List Trn} (h : Srt (t :: ts)) : Srt ts := ⟨fun u hu => h.1 u (List.mem_cons_of_mem _ hu), (List.pairwise_cons.mp h.2).2⟩
theorem Srt.head {t : Trn} {ts : List Trn} (h : Srt (t :: ts)) : OkTr t := h.1 t (List.mem_cons_self ..)
theorem Srt.lt {t : Trn} {ts : List Trn} (h : Srt (t :: ts)) : ∀ u ∈ ts, Lt t u := (List.pairwise_cons.mp h.2).1
theorem lt_start {t u : Trn} (h : OkTr t) (l : Lt t u) : t.1 < u.1 := by
  obtain ⟨c, e, q⟩ := l
  have hc := h.2.2 c e
  have : 0 ≤ (c - 1) * t.2.1 := Int.mul_nonneg (by omega) (by have := h.2.1; omega)
  omega
/-! what is before x, and which time is the i-th -/
theorem nbT_le {t : Trn} {x c : Int} (e : t.2.2 = some c) : nbT t x ≤ c := by
  unfold nbT
  rw [e]
  show (if c < stepsUp (x - t.1) t.2.1 then c else stepsUp (x - t.1) t.2.1) ≤ c
  split <;> omega
/-- the times before x are those with an index below nbT -/
theorem nbT_lt {t : Trn} (h : OkTr t) {x i : Int} (i0 : 0 ≤ i) (hi : ∀ c, t.2.2 = some c → i < c) : i < nbT t x ↔ t.1 + i * t.2.1 < x := by
  obtain ⟨s, p, k⟩ := t
  have hp : 0 < p := by
    have h2 : 1 ≤ p := h.2.1
    omega
  have h1 : i < cl (x - s) p ↔ i * p < x - s := cl_gt hp
  have e : (s + i * p < x) ↔ i * p < x - s := by omega
  show i < minO (stepsUp (x - s) p) k ↔ s + i * p < x
  rw [stepsUp_cl, e, ← h1]
  cases k with
  | none =>
    show i < (if cl (x - s) p > 0 then cl (x - s) p else 0) ↔ _
    split <;> omega
  | some c =>
    have := hi c rfl
    show i < (if c < (if cl (x - s) p > 0 then cl (x - s) p else 0) then c else (if cl (x - s) p > 0 then cl (x - s) p else 0)) ↔ _
    split <;> (try split) <;> (try split at *) <;> omega
theorem At_lt : ∀ {ts : List Trn}, Srt ts → ∀ {i y : Int}, 0 ≤ i → At ts i = some y → ∀ x, i < NB ts x ↔ y < x
  | [], _, i, y, _, e, _ => by cases e
  | t :: ts, h, i, y, i0, e, x => by
    have ht := h.head
    have hs := h.tail
    have nn := NB_nn hs.1 x
    cases hk : t.2.2 with
    | none =>
      have e' : At (t :: ts) i = some (t.1 + i * t.2.1) := by
        show (match t.2.2 with | none => some (t.1 + i * t.2.1) | some c => if i < c then some (t.1 + i * t.2.1) else At ts (i - c)) = _
        rw [hk]
      rw [e'] at e
      have ey := Option.some.inj e
      subst ey
      have nt : ts = [] := by
        cases ts with
        | nil => rfl
        | cons u us =>
          obtain ⟨c, hc, _⟩ := h.lt u (List.mem_cons_self ..)
          rw [hk] at hc
          cases hc
      subst nt
      have := nbT_lt ht (x := x) i0 (fun c hc => by rw [hk] at hc; cases hc)
      show i < nbT t x + 0 ↔ _
      rw [Int.add_zero]
      exact this
    | some c =>
      have e' : At (t :: ts) i = if i < c then some (t.1 + i * t.2.1) else At ts (i - c) := by
        show (match t.2.2 with | none => some (t.1 + i * t.2.1) | some c => if i < c then some (t.1 + i * t.2.1) else At ts (i - c)) = _
        rw [hk]
      rw [e'] at e
      show i < nbT t x + NB ts x ↔ y < x
      by_cases hi : i < c
      · rw [if_pos hi] at e
        have ey := Option.some.inj e
        have h1 := nbT_lt ht (x := x) i0 (fun c' hc => by rw [hk] at hc; cases hc; exact hi)
        by_cases hl : t.1 + (c - 1) * t.2.1 < x
        · have h2 := nbT_all ht hk hl
          omega
        · have h3 : NB ts x = 0 := NB_zero hs.1 fun u hu => by
            obtain ⟨c', hc, q⟩ := h.lt u hu
            rw [hk] at hc
            cases hc
            omega
          omega
      · rw [if_neg hi] at e
        have ih := At_lt hs (i := i - c) (by omega) e x
        have h2 := nbT_le (x := x) hk
        by_cases hl : t.1 + (c - 1) * t.2.1 < x
        · have h3 := nbT_all ht hk hl
          omega
        · have h3 : NB ts x = 0 := NB_zero hs.1 fun u hu => by
            obtain ⟨c', hc, q⟩ := h.lt u hu
            rw [hk] at hc
            cases hc
            omega
          omega
theorem tot_nn : ∀ {ts : List Trn}, (∀ t ∈ ts, OkTr t) → ∀ n, Tot ts = some n → 0 ≤ n
  | [], _, n, e => by cases e; exact Int.le_refl _
  | t :: ts, h, n, e => by
    cases hk : t.2.2 with
    | none =>
      have e2 : Tot (t :: ts) = none := by
        show (match t.2.2 with | none => none | some c => addO c (Tot ts)) = _
        rw [hk]
      rw [e2] at e
      cases e
    | some c =>
      have e2 : Tot (t :: ts) = addO c (Tot ts) := by
        show (match t.2.2 with | none => none | some c => addO c (Tot ts)) = _
        rw [hk]
      rw [e2] at e
      cases ht : Tot ts with
      | none => rw [ht] at e; cases e
      | some m =>
        rw [ht] at e
        have z' : c + m = n := Option.some.inj e
        have := tot_nn (fun u hu => h u (List.mem_cons_of_mem _ hu)) m ht
        have := (h t (List.mem_cons_self ..)).2.2 c hk
        omega
theorem At_none : ∀ {ts : List Trn}, (∀ t ∈ ts, OkTr t) → ∀ {i : Int}, 0 ≤ i → (At ts i = none ↔ ∃ n, Tot ts = some n ∧ n ≤ i)
  | [], _, i, i0 => ⟨fun _ => ⟨0, rfl, i0⟩, fun _ => rfl⟩
  | t :: ts, h, i, i0 => by
    cases hk : t.2.2 with
    | none =>
      have e' : At (t :: ts) i = some (t.1 + i * t.2.1) := by
        show (match t.2.2 with | none => some (t.1 + i * t.2.1) | some c => if i < c then some (t.1 + i * t.2.1) else At ts (i - c)) = _
        rw [hk]
      have e2 : Tot (t :: ts) = none := by
        show (match t.2.2 with | none => none | some c => addO c (Tot ts)) = _
        rw [hk]
      rw [e', e2]
      exact ⟨fun z => (by cases z), fun ⟨n, z, _⟩ => (by cases z)⟩
    | some c =>
      have e' : At (t :: ts) i = if i < c then some (t.1 + i * t.2.1) else At ts (i - c) := by
        show (match t.2.2 with | none => some (t.1 + i * t.2.1) | some c => if i < c then some (t.1 + i * t.2.1) else At ts (i - c)) = _
        rw [hk]
      have e2 : Tot (t :: ts) = addO c (Tot ts) := by
        show (match t.2.2 with | none => none | some c => addO c (Tot ts)) = _
        rw [hk]
      have tn : ∀ n, Tot ts = some n → 0 ≤ n := tot_nn fun u hu => h u (List.mem_cons_of_mem _ hu)
      rw [e', e2]
      by_cases hi : i < c
      · rw [if_pos hi]
        refine ⟨fun z => (by cases z), fun ⟨n, z, hn⟩ => ?_⟩
        cases ht : Tot ts with
        | none => rw [ht] at z; cases z
        | some m =>
          rw [ht] at z
          have := tn m ht
          have z' : c + m = n := Option.some.inj z
          omega
      · rw [if_neg hi]
        have ih := At_none (ts := ts) (fun u hu => h u (List.mem_cons_of_mem _ hu)) (i := i - c) (by omega)
        rw [ih]
        constructor
        · rintro ⟨n, e, hn⟩
          exact ⟨c + n, by rw [e]; rfl, by omega⟩
        · rintro ⟨n, e, hn⟩
          cases ht : Tot ts with
          | none => rw [ht] at e; cases e
          | some m =>
            rw [ht] at e
            have z' : c + m = n := Option.some.inj e
            exact ⟨m, rfl, by omega⟩
theorem NB_tot : ∀ {ts : List Trn}, (∀ t ∈ ts, OkTr t) → ∀ {n : Int}, Tot ts = some n → ∀ x, NB ts x ≤ n
  | [], _, n, e, x => by cases e; exact Int.le_refl _
  | t :: ts, h, n, e, x => by
    cases hk : t.2.2 with
    | none =>
      have e2 : Tot (t :: ts) = none := by
        show (match t.2.2 with | none => none | some c => addO c (Tot ts)) = _
        rw [hk]
      rw [e2] at e
      cases e
    | some c =>
      have e2 : Tot (t :: ts) = addO c (Tot ts) := by
        show (match t.2.2 with | none => none | some c => addO c (Tot ts)) = _
        rw [hk]
      rw [e2] at e
      cases ht : Tot ts with
      | none => rw [ht] at e; cases e
      | some m =>
        rw [ht] at e
        have z' : c + m = n := Option.some.inj e
        have h1 := nbT_le (x := x) hk
        have h2 := NB_tot (fun u hu => h u (List.mem_cons_of_mem _ hu)) ht x
        show nbT t x + NB ts x ≤ n
        omega
theorem nbT_step {t : Trn} (h : OkTr t) (x : Int) : nbT t (x + 1) ≤ nbT t x + 1 := by
  obtain ⟨s, p, k⟩ := t
  have hp : 1 ≤ p := h.2.1
  have h1 : cl (x + 1 - s) p ≤ cl (x - s) p + 1 := by
    refine (cl_le (by omega)).mpr ?_
    have h2 : x - s ≤ cl (x - s) p * p := (cl_le (by omega)).mp (Int.le_refl _)
    rw [Int.add_mul, Int.one_mul]
    omega
  show minO (stepsUp (x + 1 - s) p) k ≤ minO (stepsUp (x - s) p) k + 1
  rw [stepsUp_cl, stepsUp_cl]
  cases k with
  | none =>
    show (if cl (x + 1 - s) p > 0 then cl (x + 1 - s) p else 0) ≤ (if cl (x - s) p > 0 then cl (x - s) p else 0) + 1
    split <;> split <;> omega
  | some c =>
    show (if c < (if cl (x + 1 - s) p > 0 then cl (x + 1 - s) p else 0) then c else (if cl (x + 1 - s) p > 0 then cl (x + 1 - s) p else 0)) ≤ (if c < (if cl (x - s) p > 0 then cl (x - s) p else 0) then c else (if cl (x - s) p > 0 then cl (x - s) p else 0)) + 1
    repeat' split
    all_goals omega
theorem NB_step : ∀ {ts : List Trn}, Srt ts → ∀ x, NB ts (x + 1) ≤ NB ts x + 1
  | [], _, x => by show (0 : Int) ≤ 0 + 1; omega
  | t :: ts, h, x => by
    have ht := h.head
    have hs := h.tail
    have st := nbT_step ht x
    show nbT t (x + 1) + NB ts (x + 1) ≤ nbT t x + NB ts x + 1
    cases hk : t.2.2 with
    | none =>
      have nt : ts = [] := by
        cases ts with
        | nil => rfl
        | cons u us =>
          obtain ⟨c, hc, _⟩ := h.lt u (List.mem_cons_self ..)
          rw [hk] at hc
          cases hc
      subst nt
      show nbT t (x + 1) + 0 ≤ nbT t x + 0 + 1
      omega
    | some c =>
      by_cases hl : t.1 + (c - 1) * t.2.1 < x
      · have h1 := nbT_all ht hk hl
        have h2 := nbT_all ht hk (show t.1 + (c - 1) * t.2.1 < x + 1 by omega)
        have h3 := NB_step hs x
        omega
      · have z : ∀ y, y ≤ x + 1 → NB ts y = 0 := fun y hy => NB_zero hs.1 fun u hu => by
          obtain ⟨c', hc, q⟩ := h.lt u hu
          rw [hk] at hc
          cases hc
          omega
        have h1 := z x (by omega)
        have h2 := z (x + 1) (Int.le_refl _)
        omega
/-- the i-th time is told by what is before x -/
theorem At_iff {ts : List Trn} (h : Srt ts) {i y : Int} (i0 : 0 ≤ i) : At ts i = some y ↔ NB ts y = i ∧ NB ts (y + 1) = i + 1 := by
  have one : ∀ {z}, At ts i = some z → NB ts z = i ∧ NB ts (z + 1) = i + 1 := fun {z} e => by
    have h1 := At_lt h i0 e z
    have h2 := At_lt h i0 e (z + 1)
    have h3 := NB_step h z
    omega
  refine ⟨one, fun ⟨e1, e2⟩ => ?_⟩
  cases q : At ts i with
  | none =>
    obtain ⟨n, e3, e4⟩ := (At_none h.1 i0).mp q
    have := NB_tot h.1 e3 (y + 1)
    omega
  | some w =>
    have h3 := At_lt h i0 q y
    have h4 := At_lt h i0 q (y + 1)
    congr 1
    omega
/-- trains with the same counts have the same times -/
theorem At_same {ts us : List Trn} (h : Srt ts) (h' : Srt us) (e : ∀ x, NB ts x = NB us x) {i : Int} (i0 : 0 ≤ i) : At ts i = At us i := by
  cases q : At ts i with
  | some y =>
    obtain ⟨e1, e2⟩ := (At_iff h i0).mp q
    exact ((At_iff h' i0).mpr ⟨by rw [← e]; exact e1, by rw [← e]; exact e2⟩).symm
  | none =>
    cases q2 : At us i with
    | none => rfl
    | some y =>
      obtain ⟨e1, e2⟩ := (At_iff h' i0).mp q2
      rw [(At_iff h i0).mpr ⟨by rw [e]; exact e1, by rw [e]; exact e2⟩] at q
      cases q
/-! ### rows in the heap -/
/-! ### breakers and rows -/
abbrev Tri := Int × Int × Int
def TriV (t : Tri) : List V := [.int t.1, .int t.2.1, .int t.2.2]
def BrAt (H : Hp) (x : V) (t : Tri) : Prop := ∃ a, x = .ref a ∧ H a = some (.tup (TriV t))
def OkT (t : Tri) : Prop := 1 ≤ t.1 ∧ t.1 ≤ 1000000000000 ∧ 1 ≤ t.2.1 ∧ t.2.1 ≤ 1000000000000000000000000000000 ∧ 1 ≤ t.2.2 ∧ t.2.2 ≤ 1000000000000
abbrev Brs (H : Hp) (xs : List V) (ts : List Tri) : Prop := Paired (BrAt H) xs ts
theorem BrAt.nl {H H' : Hp} (k : NL H H') {x : V} {t : Tri} (h : BrAt H x t) : BrAt H' x t := by
  obtain ⟨a, e, h⟩ := h
  exact ⟨a, e, k _ _ h fun _ z => nomatch z⟩
theorem Brs.nl {H H' : Hp} (k : NL H H') {xs : List V} {ts : List Tri} (h : Brs H xs ts) : Brs H' xs ts := L2.Paired.mapP h fun _ _ z => z.nl k
theorem Brs.len {H : Hp} : ∀ {xs : List V} {ts : List Tri}, Brs H xs ts → xs.length = ts.length
  | _, _, .nil => rfl
  | _, _, .cons _ t => congrArg Nat.succ (Brs.len t)
theorem Brs.get {H : Hp} : ∀ {xs : List V} {ts : List Tri} {i : Nat} {x : V}, Brs H xs ts → xs[i]? = some x → ∃ t, ts[i]? = some t ∧ BrAt H x t
  | _, _, _, _, .nil, e => by simp at e
  | _, _, 0, _, .cons r _, e => by simp at e; subst e; exact ⟨_, rfl, r⟩
  | _, _, i + 1, x, .cons _ t, e => by
    obtain ⟨u, h1, h2⟩ := Brs.get (i := i) (x := x) t (by simpa using e)
    exact ⟨u, by simpa using h1, h2⟩
theorem Brs.app {H : Hp} : ∀ {xs ys : List V} {ts us : List Tri}, Brs H xs ts → Brs H ys us → Brs H (xs ++ ys) (ts ++ us)
  | _, _, _, _, .nil, s => s
  | _, _, _, _, .cons r t, s => .cons r (Brs.app t s)
theorem Brs.rev {H : Hp} : ∀ {xs : List V} {ts : List Tri}, Brs H xs ts → Brs H xs.reverse ts.reverse
  | _, _, .nil => .nil
  | _, _, .cons r t => by
    rw [List.reverse_cons, List.reverse_cons]
    exact Brs.app (Brs.rev t) (.cons r .nil)
theorem Brs.take {H : Hp} : ∀ {xs : List V} {ts : List Tri} (n : Nat), Brs H xs ts → Brs H (xs.take n) (ts.take n)
  | _, _, 0, _ => .nil
  | _, _, _ + 1, .nil => .nil
  | _, _, n + 1, .cons r t => .cons r (Brs.take n t)
theorem Brs.drop {H : Hp} : ∀ {xs : List V} {ts : List Tri} (n : Nat), Brs H xs ts → Brs H (xs.drop n) (ts.drop n)
  | _, _, 0, r => r
  | _, _, _ + 1, .nil => .nil
  | _, _, n + 1, .cons _ t => Brs.drop n t
/-! the attributes of a row, as __init__ stores them -/
theorem k1 : ¬ (("breakers" : Str) = "step") := by decide +kernel
theorem k2 : ¬ (("breakers" : Str) = "phase") := by decide +kernel
theorem k3 : ¬ (("step" : Str) = "phase") := by decide +kernel
def rowF (T : Addr) (st ph : Int) : List (Str × V) := putF "phase" (.int ph) (putF "step" (.int st) (putF "breakers" (.ref T) []))
theorem rowF_b (T : Addr) (st ph : Int) : (rowF T st ph).lookup ("breakers" : Str) = some (.ref T) := by
  unfold rowF
  rw [lookup_putF, if_neg k2, lookup_putF, if_neg k1, lookup_putF, if_pos rfl]
theorem rowF_s (T : Addr) (st ph : Int) : (rowF T st ph).lookup ("step" : Str) = some (.int st) := by
  unfold rowF
  rw [lookup_putF, if_neg k3, lookup_putF, if_pos rfl]
theorem rowF_p (T : Addr) (st ph : Int) : (rowF T st ph).lookup ("phase" : Str) = some (.int ph) := by
  unfold rowF
  rw [lookup_putF, if_pos rfl]
theorem rowF_no (T : Addr) (st ph : Int) {m : Str} (h1 : ¬ m = "phase") (h2 : ¬ m = "step") (h3 : ¬ m = "breakers") : (rowF T st ph).lookup m = none := by
  unfold rowF
  rw [lookup_putF, if_neg h1, lookup_putF, if_neg h2, lookup_putF, if_neg h3]
  all_goals rfl
/-- a Row stands at p -/
structure RowAt (C : Addr) (H : Hp) (p T : Addr) (xs : List V) (ts : List Tri) (st ph : Int) : Prop where
  ob : ∃ dx, H p = some (.ins C dx (rowF T st ph))
  tp : H T = some (.tup xs)
  br : Brs H xs ts
  ok : ∀ t ∈ ts, OkT t
  ln : ts.length ≤ 12
  s0 : 1 ≤ st
  s1 : st ≤ 1000000000000000000000000000000
  p0 : 0 ≤ ph
  p1 : ph ≤ 1000000000000000000000000000000
theorem RowAt.nl {C : Addr} {H H' : Hp} {p T : Addr} {xs : List V} {ts : List Tri} {st ph : Int} (R : RowAt C H p T xs ts st ph) (k : NL H H') : RowAt C H' p T xs ts st ph := by
  obtain ⟨dx, h⟩ := R.ob
  exact ⟨⟨dx, k _ _ h fun _ z => nomatch z⟩, k _ _ R.tp fun _ z => (nomatch z), R.br.nl k, R.ok, R.ln, R.s0, R.s1, R.p0, R.p1⟩
/-! ### promises -/
def spIsBr : Sp := fun vs H Q _ => ∃ x t, vs = [x] ∧ BrAt H x t ∧ OkT t ∧ Q (.bl true) H
def spRChk : Sp := fun vs H Q _ => ∃ a xs ts pt, vs = [.ref a, .str pt] ∧ H a = some (.lst xs) ∧ Brs H xs ts ∧ (∀ t ∈ ts, OkT t) ∧ ts.length ≤ 12 ∧ ∀ H', Same H H' → Q .non H'
def spRStep : Sp := fun vs H Q _ => ∃ st : Int, vs = [.int st] ∧ 1 ≤ st ∧ st ≤ 1000000000000000000000000000000 ∧ Q .non H
def spRInit (C : Addr) : Sp := fun vs H Q _ => ∃ p a st ph xs ts dx, vs = [.ref p, .ref a, .int st, .int ph] ∧ H p = some (.ins C dx []) ∧ H a = some (.lst xs) ∧ Brs H xs ts ∧ (∀ t ∈ ts, OkT t) ∧ ts.length ≤ 12 ∧
  (1 ≤ st ∧ st ≤ 1000000000000000000000000000000 ∧ 0 ≤ ph ∧ ph ≤ 1000000000000000000000000000000) ∧ ∀ T H', RowAt C H' p T xs ts st ph → Kp p H H' → Q .non H'
def spRBl (C : Addr) : Sp := fun vs H Q _ => ∃ p T xs ts st ph, vs = [.ref p] ∧ RowAt C H p T xs ts st ph ∧ ∀ l H', H l = none → H' = upd H l (.lst xs) → Q (.ref l) H'
def spRSt (C : Addr) : Sp := fun vs H Q _ => ∃ p T xs ts st ph, vs = [.ref p] ∧ RowAt C H p T xs ts st ph ∧ Q (.int st) H
def spRPh (C : Addr) : Sp := fun vs H Q _ => ∃ p T xs ts st ph, vs = [.ref p] ∧ RowAt C H p T xs ts st ph ∧ Q (.int ph) H
def spRLen (C : Addr) : Sp := fun vs H Q _ => ∃ p T xs ts st ph, vs = [.ref p] ∧ RowAt C H p T xs ts st ph ∧ Q (.int xs.length) H
def spRGet (C : Addr) : Sp := fun vs H Q _ => ∃ p T xs ts st ph i x, vs = [.ref p, .int i] ∧ RowAt C H p T xs ts st ph ∧ 0 ≤ i ∧ atI xs i = some x ∧ i < xs.length ∧ Q x H
def spRCon (C : Addr) : Sp := fun vs H Q _ => ∃ p T xs ts st ph x n, vs = [.ref p, x] ∧ RowAt C H p T xs ts st ph ∧ Kd H x n ∧ Q (.bl (isI x && (decide (ph ≤ toI x) && decide ((toI x - ph) % st = 0)))) H
def spRRt (C : Addr) : Sp := fun vs H Q _ => ∃ p T xs ts st ph i, vs = [.ref p, .int i] ∧ RowAt C H p T xs ts st ph ∧ 0 ≤ i ∧ i ≤ BB ∧ Q (.int (ph + i * st)) H
def spRFr (C : Addr) : Sp := fun vs H Q _ => ∃ p T xs ts st ph i, vs = [.ref p, .int i] ∧ RowAt C H p T xs ts st ph ∧ 0 ≤ i ∧ Q (.int (stepsUp (i - ph) st)) H
theorem row_made {C : Addr} {H : Hp} {Q : Addr → Hp → Prop} {a : Addr} {st ph : Int} {xs : List V} {ts : List Tri} (ha : H a = some (.lst xs)) (hb : Brs H xs ts) (ho : ∀ t ∈ ts, OkT t) (hl : ts.length ≤ 12)
    (bd : 1 ≤ st ∧ st ≤ 1000000000000000000000000000000 ∧ 0 ≤ ph ∧ ph ≤ 1000000000000000000000000000000) (k : ∀ p T H', RowAt C H' p T xs ts st ph → Same H H' → H p = none → Q p H') :
    ∀ x dx, H x = none → H dx = none → dx ≠ x → spRInit C [.ref x, .ref a, .int st, .int ph] (upd (upd H dx (.own x)) x (.ins C dx [])) (fun v H3 => v = .non ∧ Q x H3) E0 := by
  intro x dx hx hd hne
  have s0 : Same H (upd (upd H dx (.own x)) x (.ins C dx [])) := fun b o e => by
    rw [upd_ne (ne_of_none e hx), upd_ne (ne_of_none e hd)]
    exact e
  refine ⟨x, a, st, ph, xs, ts, dx, rfl, upd_same, s0 _ _ ha, hb.nl (NL.of s0), ho, hl, bd, fun T H' R kp => ⟨rfl, k x T H' R (fun b o e => kp b o (ne_of_none e hx) (s0 b o e)) hx⟩⟩
abbrev RDat := List Tri × Int × Int
/-- what == is asked of -/
inductive EqOf (C : Addr) (H : Hp) (d : RDat) : V → Bool → Prop where
  | row {q U : Addr} {ys : List V} {us : List Tri} {st ph : Int} (R : RowAt C H q U ys us st ph) : EqOf C H d (.ref q) (decide (d = (us, st, ph)))
  | non : EqOf C H d .non false
  | lst {a : Addr} {xs : List V} (e : H a = some (.lst xs)) : EqOf C H d (.ref a) false
  | tup {a : Addr} {xs : List V} (e : H a = some (.tup xs)) : EqOf C H d (.ref a) false
theorem EqOf.nl {C : Addr} {H H' : Hp} {d : RDat} {v : V} {b : Bool} (h : EqOf C H d v b) (k : Same H H') : EqOf C H' d v b := by
  cases h with
  | row R => exact .row (R.nl (NL.of k))
  | non => exact .non
  | lst e => exact .lst (k _ _ e)
  | tup e => exact .tup (k _ _ e)
/-- breakers as data -/
def triD (t : Tri) : PyData := .tuple [.int t.1, .int t.2.1, .int t.2.2]
theorem Brs.dp {K : PySem.W.Frag} {H : Hp} : ∀ {xs : List V} {ts : List Tri}, Brs H xs ts → DpAll K H xs (ts.map triD)
  | _, _, .nil => .nil
  | _, _, .cons ⟨a, e, h⟩ t => by
    subst e
    exact .cons (.tup (SqT.of h) (.cons (.int _) (.cons (.int _) (.cons (.int _) .nil)))) (Brs.dp t)
theorem triD_eq (t u : Tri) : PyData.eqv (triD t) (triD u) = decide (t = u) := by
  obtain ⟨a, b, c⟩ := t
  obtain ⟨a', b', c'⟩ := u
  simp only [triD, PyData.eqv, PyData.eqvAll, Bool.and_true]
  rw [Bool.eq_iff_iff]
  simp [Prod.ext_iff]
theorem triDs_eq : ∀ ts us : List Tri, PyData.eqvAll (ts.map triD) (us.map triD) = decide (ts = us)
  | [], [] => by simp [PyData.eqvAll]
  | [], _ :: _ => by simp [PyData.eqvAll]
  | _ :: _, [] => by simp [PyData.eqvAll]
  | t :: ts, u :: us => by
    rw [List.map_cons, List.map_cons, PyData.eqvAll, triD_eq, triDs_eq ts us, Bool.eq_iff_iff]
    simp
theorem canAll : ∀ ts : List Tri, PyData.canLayAll0 (ts.map triD) = true
  | [] => by simp [PyData.canLayAll0]
  | t :: ts => by
    rw [List.map_cons, PyData.canLayAll0, canAll ts]
    simp [triD, PyData.canLay0, PyData.canLayAll0]
theorem depAll : ∀ ts : List Tri, PyData.depthAll (ts.map triD) ≤ 10
  | [] => by simp [PyData.depthAll]
  | t :: ts => by
    have := depAll ts
    rw [List.map_cons, PyData.depthAll]
    have h2 : (triD t).depth ≤ 10 := by simp [triD, PyData.depth, PyData.depthAll]
    omega
theorem shT (ts : List Tri) : SeqAt.shaped (.tuple (ts.map triD)) = true := by
  refine Bool.and_eq_true_iff.mpr ⟨?_, decide_eq_true ?_⟩
  · rw [PyData.canLay0]
    exact canAll ts
  · have := depAll ts
    rw [PyData.depth]
    omega

theorem wide200 {i j : Int} (h1 : i.natAbs < 2 ^ 200) (h2 : j.natAbs < 2 ^ 200) : CMulW i j := wide_mul h1 h2 (by decide) (by decide) (by decide)
theorem lt200 {i : Int} (h0 : 0 ≤ i) (h : i ≤ 1000000000000000000000000000000) : i.natAbs < 2 ^ 200 := Nat.lt_of_le_of_lt (show i.natAbs ≤ 1000000000000000000000000000000 by omega) (by decide)
theorem log200 {i : Int} (h0 : 1 ≤ i) (h : i ≤ 1000000000000000000000000000000) : i.natAbs.log2 < 9000 := (wide_div (by omega : 0 < i) (lt200 (by omega) h) (by decide) (by decide) (i := 0)).2
theorem st_bb {s : Int} (h : s ≤ 1000000000000000000000000000000) : s ≤ BB := Int.le_trans h (Int.le_trans (PB_of (n := 100) (by decide +kernel)) (PB_le (by decide)))
theorem k6_pos {P : Prop} {q : Prop} [Decidable P] [Decidable q] (h : P) (h' : q) : (decide P && decide q) = true := by rw [decide_eq_true h, decide_eq_true h']; rfl
section
variable {P : Program} {w : World} {K : PySem.W.Frag} {mg : Str → Option Value} {base : Heap} {L : LA}
abbrev N_isbreaker : List Str := ["value", "failures", "wait", "successes"]
theorem sc_isbreaker : FnScope N_isbreaker ["value"] (defScope st_is_breaker) := ⟨rfl, rfl, rfl, by decide +kernel, rfl, by decide +kernel, by decide +kernel⟩
theorem fn_isbreaker (T : LX K mg L) {fd : FuncData} (F : Fun K "is_breaker" "is_breaker" st_is_breaker L.f_is_breaker fd) : FnOk P w K mg base CX0 3 L.f_is_breaker fd ["value"] (spIsBr) := by
  have G_iswithin := ok_iswithin (P := P) (w := w) (base := base) T
  obtain ⟨tk_MOST_COUNT, c_MOST_COUNT⟩ := T.n_MOST_COUNT
  obtain ⟨tk_MOST_TIME, c_MOST_TIME⟩ := T.n_MOST_TIME
  have nd := sc_isbreaker.nd
  refine F.ok sc_isbreaker (fun vs H Q E h => ?_) (fun cdv A outer S H vs Q E hr h => ?_)
  · obtain ⟨x, t, rfl, _⟩ := h
    rfl
  · obtain ⟨x, t, rfl, ⟨a, rfl, ha⟩, ⟨h1, h2, h3, h4, h5, h6⟩, k⟩ := h
    refine ⟨_, (pss_cons (ps_if (PW.pt (pw_or (pt_not (pt_val (pe_callB call_isi (by rfl) T.b_isinstance (by decide +kernel) (pa_cons (pv 0) (pa_cons (pe_bltn (by rfl) T.b_tuple (by decide +kernel : bootBuiltins "tuple" = some (.type "tuple")) (v := .ty "tuple") rfl) pa_nil))))) (pw_or1 (pt_cmpR op_ne (pe_callB call_len_seq (by rfl) T.b_len PySem.boot_len (pa_cons (pv 0) pa_nil)) pe_int (nomark _))))) (pss_one (ps_ret pe_bl)) pss_nil)
       (pss_cons (ps_asg (pv 0) (pg_tup rfl (pgs_cons (pg_name (i := 1) nd rfl (Or.inl rfl)) (pgs_cons (pg_name (i := 2) nd rfl (Or.inl rfl)) (pgs_cons (pg_name (i := 3) nd rfl (Or.inl rfl)) pgs_nil)))))
       (pss_one (ps_ret (pe_and (pe_c G_iswithin (hr.mono (by decide)) rfl (pa_cons (pv 1) (pa_cons pe_int (pa_cons (pe_gI c_MOST_COUNT) pa_nil)))) (pe_and (pe_c G_iswithin (hr.mono (by decide)) rfl (pa_cons (pv 2) (pa_cons pe_int (pa_cons (pe_gI c_MOST_TIME) pa_nil)))) (pe_one (pe_c G_iswithin (hr.mono (by decide)) rfl (pa_cons (pv 3) (pa_cons pe_int (pa_cons (pe_gI c_MOST_COUNT) pa_nil))))))))))), ?_⟩
    refine ⟨_, rfl, _, .ty "tuple", _, _, _, rfl, .ty "tuple", (Kd.tup ha).ty, (Kd.tup ha).kit "tuple" _ (.inr ⟨by decide, by decide, rfl⟩), _, rfl, iteF ?_⟩
    refine ⟨_, rfl, a, _, rfl, .inr (SqT.of ha), rfl, _, rfl, iteF ?_⟩
    refine ⟨_, rfl, a, _, rfl, SqT.of ha, rfl, _, _, rfl, _, _, rfl, _, _, rfl, rfl, ?_⟩
    refine ⟨_, rfl, _, _, _, _, rfl, .int _, _, rfl, ?_⟩
    have e1 : (decide ((1 : Int) ≤ t.1) && decide (t.1 ≤ 1000000000000)) = true := k6_pos h1 h2
    have e2 : (decide ((1 : Int) ≤ t.2.1) && decide (t.2.1 ≤ 1000000000000000000000000000000)) = true := k6_pos h3 h4
    have e3 : (decide ((1 : Int) ≤ t.2.2) && decide (t.2.2 ≤ 1000000000000)) = true := k6_pos h5 h6
    show if (decide ((1 : Int) ≤ t.1) && decide (t.1 ≤ 1000000000000)) = true then _ else _
    rw [e1]
    refine iteT ?_
    refine ⟨_, rfl, _, _, _, _, rfl, .int _, _, rfl, ?_⟩
    show if (decide ((1 : Int) ≤ t.2.1) && decide (t.2.1 ≤ 1000000000000000000000000000000)) = true then _ else _
    rw [e2]
    refine iteT ?_
    refine ⟨_, rfl, _, _, _, _, rfl, .int _, ?_⟩
    show Q (.bl (decide ((1 : Int) ≤ t.2.2) && decide (t.2.2 ≤ 1000000000000))) H
    rw [e3]
    exact k
theorem ok_isbreaker (T : LX K mg L) : Cal P w K mg base "is_breaker" 3 L.f_is_breaker ["value"] (spIsBr) := T.d_is_breaker.cal fun fd F => fn_isbreaker T F
abbrev N_checkbreakers : List Str := ["breakers", "part", "at", "breaker"]
theorem sc_checkbreakers : FnScope N_checkbreakers ["breakers", "part"] (defScope st_check_breakers) := ⟨rfl, rfl, rfl, by decide +kernel, rfl, by decide +kernel, by decide +kernel⟩
theorem fn_checkbreakers (T : LX K mg L) {fd : FuncData} (F : Fun K "check_breakers" "check_breakers" st_check_breakers L.f_check_breakers fd) : FnOk P w K mg base CX0 4 L.f_check_breakers fd ["breakers", "part"] (spRChk) := by
  obtain ⟨tk_MOST_BREAKERS, c_MOST_BREAKERS⟩ := T.n_MOST_BREAKERS
  have G_isbreaker := ok_isbreaker (P := P) (w := w) (base := base) T
  have nd := sc_checkbreakers.nd
  refine F.ok sc_checkbreakers (fun vs H Q E h => ?_) (fun cdv A outer S H vs Q E hr h => ?_)
  · obtain ⟨a, xs, ts, pt, rfl, _⟩ := h
    rfl
  · obtain ⟨a, xs, ts, pt, rfl, ha, hb, ho, hl, k⟩ := h
    refine ⟨_, (pss_cons (ps_if (PW.pt (pw_or (pt_not (pt_val (pe_callB call_isi (by rfl) T.b_isinstance (by decide +kernel) (pa_cons (pv 0) (pa_cons (pe_bltn (by rfl) T.b_list (by decide +kernel : bootBuiltins "list" = some (.type "list")) (v := .ty "list") rfl) pa_nil))))) (pw_or1 (pt_cmpR op_gt (pe_callB call_len_seq (by rfl) T.b_len PySem.boot_len (pa_cons (pv 0) pa_nil)) (pe_gI c_MOST_BREAKERS) (nomark _))))) (pss_one (ps_never)) pss_nil)
       (pss_one (ps_for PassesOwn.never rfl (pi_enum (by rfl) T.b_enumerate (pa_cons (pv 0) pa_nil)) (pg_tup rfl (pgs_cons (pg_name (i := 2) nd rfl (Or.inl rfl)) (pgs_cons (pg_name (i := 3) nd rfl (Or.inl rfl)) pgs_nil))) (pss_one (ps_if (pt_not (pt_val (pe_c G_isbreaker (hr.mono (by decide)) rfl (pa_cons (pv 3) pa_nil)))) (pss_one (ps_never)) pss_nil))))), ?_⟩
    refine ⟨_, rfl, _, .ty "list", _, _, _, rfl, .ty "list", (Kd.lst ha).ty, (Kd.lst ha).kit "list" _ (.inr ⟨by decide, by decide, rfl⟩), _, rfl, iteF ?_⟩
    refine ⟨_, rfl, a, _, rfl, .inl (SqL.of ha), _, _, rfl, rfl, _, rfl, ?_⟩
    have hn : ¬ ((12 : Int) < (xs.length : Nat)) := by rw [hb.len]; omega
    rw [decide_eq_false hn]
    refine iteF ?_
    refine ⟨_, rfl, a, xs, rfl, SqL.of ha, for_enum (K := K) (a := a) (xs := xs) (fun i σ H2 => ∃ u v : Option V, σ = [some (.ref a), some (.str pt), u, v] ∧ Same H H2) ⟨none, none, rfl, Same.refl H⟩ (fun i σ H2 _ ⟨_, _, _, s2⟩ => SqL.of (s2 _ _ ha)) ?_ ?_⟩
    · rintro i x T' σ H2 hx ⟨u, v, rfl, s2⟩ hT
      obtain ⟨t, ht, hbr⟩ := hb.get hx
      have s3 : Same H (upd H2 T' (.tup [.int (i : Nat), x])) := s2.trans (Same.upd hT)
      refine ⟨T', _, rfl, SqT.of upd_same, rfl, _, _, rfl, _, _, rfl, rfl, ?_⟩
      refine ⟨_, rfl, x, t, rfl, hbr.nl (NL.of s3), ho t (List.mem_of_getElem? ht), _, rfl, iteF ?_⟩
      exact ⟨_, _, rfl, s3⟩
    · rintro σ H2 ⟨u, v, rfl, s2⟩
      exact k H2 s2
theorem ok_checkbreakers (T : LX K mg L) : Cal P w K mg base "check_breakers" 4 L.f_check_breakers ["breakers", "part"] (spRChk) := T.d_check_breakers.cal fun fd F => fn_checkbreakers T F
abbrev N_checkstep : List Str := ["step"]
theorem sc_checkstep : FnScope N_checkstep ["step"] (defScope st_check_step) := ⟨rfl, rfl, rfl, by decide +kernel, rfl, by decide +kernel, by decide +kernel⟩
theorem fn_checkstep (T : LX K mg L) {fd : FuncData} (F : Fun K "check_step" "check_step" st_check_step L.f_check_step fd) : FnOk P w K mg base CX0 3 L.f_check_step fd ["step"] (spRStep) := by
  have G_iswithin := ok_iswithin (P := P) (w := w) (base := base) T
  obtain ⟨tk_MOST_TIME, c_MOST_TIME⟩ := T.n_MOST_TIME
  have nd := sc_checkstep.nd
  refine F.ok sc_checkstep (fun vs H Q E h => ?_) (fun cdv A outer S H vs Q E hr h => ?_)
  · obtain ⟨st, rfl, _⟩ := h
    rfl
  · obtain ⟨st, rfl, b1, b2, k⟩ := h
    refine ⟨_, (pss_one (ps_if (pt_not (pt_val (pe_c G_iswithin (hr.mono (by decide)) rfl (pa_cons (pv 0) (pa_cons pe_int (pa_cons (pe_gI c_MOST_TIME) pa_nil)))))) (pss_one (ps_never)) pss_nil)), ?_⟩
    have e1 : (decide ((1 : Int) ≤ st) && decide (st ≤ 1000000000000000000000000000000)) = true := k6_pos b1 b2
    refine ⟨_, rfl, _, _, _, _, rfl, .int _, _, rfl, ?_⟩
    show if (!(decide ((1 : Int) ≤ st) && decide (st ≤ 1000000000000000000000000000000))) = true then _ else _
    rw [e1]
    exact iteF k
theorem ok_checkstep (T : LX K mg L) : Cal P w K mg base "check_step" 3 L.f_check_step ["step"] (spRStep) := T.d_check_step.cal fun fd F => fn_checkstep T F
abbrev N_Rowinit : List Str := ["self", "breakers", "step", "phase"]
theorem sc_Rowinit : FnScope N_Rowinit ["self", "breakers", "step", "phase"] (defScope st_Row_init) := ⟨rfl, rfl, rfl, by decide +kernel, rfl, by decide +kernel, by decide +kernel⟩
theorem fn_Rowinit (T : LX K mg L) {fd : FuncData} (F : Fun K "__init__" "Row.__init__" st_Row_init L.i_Row fd) : FnOk P w K mg base CX0 5 L.i_Row fd ["self", "breakers", "step", "phase"] (spRInit L.c_Row) := by
  have G_checkbreakers := ok_checkbreakers (P := P) (w := w) (base := base) T
  have G_checkstep := ok_checkstep (P := P) (w := w) (base := base) T
  have G_iswithin := ok_iswithin (P := P) (w := w) (base := base) T
  obtain ⟨tk_MOST_TIME, c_MOST_TIME⟩ := T.n_MOST_TIME
  have nd := sc_Rowinit.nd
  refine F.ok sc_Rowinit (fun vs H Q E h => ?_) (fun cdv A outer S H vs Q E hr h => ?_)
  · obtain ⟨p, a, st, ph, xs, ts, dx, rfl, _⟩ := h
    rfl
  · obtain ⟨p, a, st, ph, xs, ts, dx, rfl, hp, ha, hb, ho, hl, ⟨b1, b2, b3, b4⟩, k⟩ := h
    refine ⟨_, (pss_cons (ps_expr (pe_c G_checkbreakers (hr.mono (by decide)) rfl (pa_cons (pv 1) (pa_cons pe_str pa_nil))))
       (pss_cons (ps_expr (pe_c G_checkstep (hr.mono (by decide)) rfl (pa_cons (pv 2) pa_nil)))
       (pss_cons (ps_if (pt_not (pt_val (pe_c G_iswithin (hr.mono (by decide)) rfl (pa_cons (pv 3) (pa_cons pe_int (pa_cons (pe_gI c_MOST_TIME) pa_nil)))))) (pss_one (ps_never)) pss_nil)
       (pss_cons (ps_fld (pv 0) (pe_callTy call_tuple_of (by rfl) T.b_tuple (by decide +kernel) (pa_cons (pv 1) pa_nil)) rfl)
       (pss_cons (ps_fld (pv 0) (pv 2) rfl)
       (pss_one (ps_fld (pv 0) (pv 3) rfl))))))), ?_⟩
    refine ⟨_, rfl, a, xs, ts, _, rfl, ha, hb, ho, hl, fun H1 s1 => ?_⟩
    have e2 : (decide ((0 : Int) ≤ ph) && decide (ph ≤ 1000000000000000000000000000000)) = true := k6_pos b3 b4
    refine ⟨_, rfl, _, rfl, b1, b2, ?_⟩
    refine ⟨_, rfl, _, _, _, _, rfl, .int _, _, rfl, ?_⟩
    show if (!(decide ((0 : Int) ≤ ph) && decide (ph ≤ 1000000000000000000000000000000))) = true then _ else _
    rw [e2]
    refine iteF ?_
    have hp1 := s1 _ _ hp
    refine ⟨_, rfl, a, xs, rfl, .inl ⟨SqL.of (s1 _ _ ha), fun l hl' => ?_⟩⟩
    have npl : p ≠ l := ne_of_none hp1 hl'
    refine ⟨_, rfl, p, L.c_Row, dx, [], rfl, (by rw [upd_ne npl]; exact hp1), T.cf_Row.cl, T.nf_Row_breakers, (by show 0 < 1000; decide), ?_⟩
    refine ⟨_, rfl, _, rfl, p, L.c_Row, dx, _, rfl, upd_same, T.cf_Row.cl, T.nf_Row_step, Nat.lt_of_le_of_lt (putF_len _ _ [] (Nat.le_refl 0)) (by decide), ?_⟩
    refine ⟨_, rfl, _, rfl, p, L.c_Row, dx, _, rfl, upd_same, T.cf_Row.cl, T.nf_Row_phase, Nat.lt_of_le_of_lt (putF_len _ _ _ (putF_len _ _ [] (Nat.le_refl 0))) (by decide), ?_⟩
    refine k l _ ⟨⟨dx, upd_same⟩, ?_, ?_, ho, hl, b1, b2, b3, b4⟩ ?_
    · rw [upd_ne npl.symm, upd_ne npl.symm, upd_ne npl.symm, upd_same]
    · refine L2.Paired.mapP hb fun x t ⟨b, e, h⟩ => ⟨b, e, ?_⟩
      have nbp : b ≠ p := ne_of h hp (by intro z; cases z)
      have h1 := s1 _ _ h
      rw [upd_ne nbp, upd_ne nbp, upd_ne nbp, upd_ne (ne_of_none h1 hl')]
      exact h1
    · intro b o n e
      have h1 := s1 _ _ e
      rw [upd_ne n, upd_ne n, upd_ne n, upd_ne (ne_of_none h1 hl')]
      exact h1
abbrev N_Rowlen : List Str := ["self"]
theorem sc_Rowlen : FnScope N_Rowlen ["self"] (defScope st_Row_len) := ⟨rfl, rfl, rfl, by decide +kernel, rfl, by decide +kernel, by decide +kernel⟩
theorem fn_Rowlen (T : LX K mg L) {fd : FuncData} (F : Fun K "__len__" "Row.__len__" st_Row_len L.m_Row_len fd) : FnOk P w K mg base CX0 1 L.m_Row_len fd ["self"] (spRLen L.c_Row) := by
  have nd := sc_Rowlen.nd
  refine F.ok sc_Rowlen (fun vs H Q E h => ?_) (fun cdv A outer S H vs Q E hr h => ?_)
  · obtain ⟨p, B, xs, ts, st, ph, rfl, _⟩ := h
    rfl
  · obtain ⟨p, B, xs, ts, st, ph, rfl, R, k⟩ := h
    refine ⟨_, (pss_one (ps_ret (pe_callB call_len_seq (by rfl) T.b_len PySem.boot_len (pa_cons (pe_fld (pv 0) rfl) pa_nil)))), ?_⟩
    obtain ⟨dx, hp⟩ := R.ob
    exact ⟨_, rfl, p, L.c_Row, dx, _, _, rfl, hp, T.cf_Row.cl, T.nf_Row_breakers, rowF_b _ _ _, B, xs, rfl, .inr (SqT.of R.tp), k⟩
theorem ok_Rowlen (T : LX K mg L) : Met P w K mg base L.c_Row "__len__" 1 L.m_Row_len ["self"] (spRLen L.c_Row) := T.mm_Row_len.met fun fd F => fn_Rowlen T F
abbrev N_Rowgetitem : List Str := ["self", "at"]
theorem sc_Rowgetitem : FnScope N_Rowgetitem ["self", "at"] (defScope st_Row_getitem) := ⟨rfl, rfl, rfl, by decide +kernel, rfl, by decide +kernel, by decide +kernel⟩
theorem fn_Rowgetitem (T : LX K mg L) {fd : FuncData} (F : Fun K "__getitem__" "Row.__getitem__" st_Row_getitem L.m_Row_getitem fd) : FnOk P w K mg base CX0 3 L.m_Row_getitem fd ["self", "at"] (spRGet L.c_Row) := by
  have G_iswithin := ok_iswithin (P := P) (w := w) (base := base) T
  have nd := sc_Rowgetitem.nd
  refine F.ok sc_Rowgetitem (fun vs H Q E h => ?_) (fun cdv A outer S H vs Q E hr h => ?_)
  · obtain ⟨p, B, xs, ts, st, ph, i, x, rfl, _⟩ := h
    rfl
  · obtain ⟨p, B, xs, ts, st, ph, i, x, rfl, R, i0, hx, i1, k⟩ := h
    refine ⟨_, (pss_cons (ps_if (pt_not (pt_val (pe_c G_iswithin (hr.mono (by decide)) rfl (pa_cons (pv 1) (pa_cons pe_int (pa_cons (pe_op op_sub (pe_callB call_len_seq (by rfl) T.b_len PySem.boot_len (pa_cons (pe_fld (pv 0) rfl) pa_nil)) pe_int) pa_nil)))))) (pss_one (ps_never)) pss_nil)
       (pss_one (ps_ret (pe_ix (r := rIxT K) ix_tup (pe_fld (pv 0) rfl) (pv 1) (fun _ _ => rfl))))), ?_⟩
    obtain ⟨dx, hp⟩ := R.ob
    refine ⟨_, rfl, _, rfl, p, L.c_Row, dx, _, _, rfl, hp, T.cf_Row.cl, T.nf_Row_breakers, rowF_b _ _ _, B, xs, rfl, .inr (SqT.of R.tp), _, _, rfl, rfl, _, _, _, _, rfl, .int _, _, rfl, ?_⟩
    have e1 : (decide ((0 : Int) ≤ i) && decide (i ≤ (xs.length : Int) - 1)) = true := k6_pos i0 (by omega)
    show if (!(decide ((0 : Int) ≤ i) && decide (i ≤ (xs.length : Int) - 1))) = true then _ else _
    rw [e1]
    refine iteF ?_
    exact ⟨_, rfl, p, L.c_Row, dx, _, _, rfl, hp, T.cf_Row.cl, T.nf_Row_breakers, rowF_b _ _ _, _, rfl, B, xs, i, x, rfl, rfl, SqT.of R.tp, hx, k⟩
theorem ok_Rowgetitem (T : LX K mg L) : Met P w K mg base L.c_Row "__getitem__" 3 L.m_Row_getitem ["self", "at"] (spRGet L.c_Row) := T.mm_Row_getitem.met fun fd F => fn_Rowgetitem T F
abbrev N_Rowcontains : List Str := ["self", "x"]
theorem sc_Rowcontains : FnScope N_Rowcontains ["self", "x"] (defScope st_Row_contains) := ⟨rfl, rfl, rfl, by decide +kernel, rfl, by decide +kernel, by decide +kernel⟩
theorem fn_Rowcontains (T : LX K mg L) {fd : FuncData} (F : Fun K "__contains__" "Row.__contains__" st_Row_contains L.m_Row_contains fd) : FnOk P w K mg base CX0 3 L.m_Row_contains fd ["self", "x"] (spRCon L.c_Row) := by
  have G_isatleast := ok_isatleast (P := P) (w := w) (base := base) T
  have nd := sc_Rowcontains.nd
  refine F.ok sc_Rowcontains (fun vs H Q E h => ?_) (fun cdv A outer S H vs Q E hr h => ?_)
  · obtain ⟨p, B, xs, ts, st, ph, x, n, rfl, _⟩ := h
    rfl
  · obtain ⟨p, B, xs, ts, st, ph, x, n, rfl, R, hx, k⟩ := h
    refine ⟨_, (pss_one (ps_ret (pe_and (pe_c G_isatleast (hr.mono (by decide)) rfl (pa_cons (pv 1) (pa_cons (pe_fld (pv 0) rfl) pa_nil))) (pe_one (pe_cmpR op_eq (pe_op op_mod (pe_op op_sub (pv 1) (pe_fld (pv 0) rfl)) (pe_fld (pv 0) rfl)) pe_int (nomark _)))))), ?_⟩
    obtain ⟨dx, hp⟩ := R.ob
    have s0 := R.s0
    refine ⟨_, rfl, _, rfl, p, L.c_Row, dx, _, _, rfl, hp, T.cf_Row.cl, T.nf_Row_phase, rowF_p _ _ _, x, n, _, rfl, hx, _, rfl, ?_⟩
    refine ite2 (fun c => ?_) (fun c => ?_)
    · cases x with
      | int i =>
        have c' : decide (ph ≤ i) = true := c
        have k' : Q (.bl (decide (ph ≤ i) && decide ((i - ph) % st = 0))) H := k
        rw [c', Bool.true_and] at k'
        refine ⟨_, rfl, _, rfl, p, L.c_Row, dx, _, _, rfl, hp, T.cf_Row.cl, T.nf_Row_phase, rowF_p _ _ _, _, _, rfl, rfl, _, rfl, p, L.c_Row, dx, _, _, rfl, hp, T.cf_Row.cl, T.nf_Row_step, rowF_s _ _ _, _, _, rfl, rfl, by omega, rfl, ?_⟩
        have e : decide (V.int ((i - ph) % st) = V.int 0) = decide ((i - ph) % st = 0) := by rw [dec_int]; rfl
        rw [e]
        exact k'
      | _ => exact absurd (show false = true from c) Bool.false_ne_true
    · cases x with
      | int i =>
        have c' : decide (ph ≤ i) = false := by
          have c2 : ¬ (decide (ph ≤ i) = true) := c
          simpa using c2
        have k' : Q (.bl (decide (ph ≤ i) && decide ((i - ph) % st = 0))) H := k
        rw [c', Bool.false_and] at k'
        exact k'
      | _ => exact k
theorem ok_Rowcontains (T : LX K mg L) : Met P w K mg base L.c_Row "__contains__" 3 L.m_Row_contains ["self", "x"] (spRCon L.c_Row) := T.mm_Row_contains.met fun fd F => fn_Rowcontains T F
end
section
variable {X : Cx} {L : LA}
theorem row_fn {K : PySem.W.Frag} {mg : Str → Option Value} (T : LX K mg L) : ∃ fd, Fun K "__init__" "Row.__init__" st_Row_init L.i_Row fd ∧ FunD K "__init__" "Row.__init__" (defArgs st_Row_init) (defBody st_Row_init) (defScope st_Row_init) [] [("phase", .int 0)] L.i_Row fd := by
  obtain ⟨fd, F⟩ := T.in_Row
  refine ⟨fd, ?_, F⟩
  obtain ⟨oc, od, dV, kV, doc, pm, an, cdv, ct, osl, rfl, lk, hcd, hD, hK⟩ := F.ex
  rcases hD with ⟨_, rfl⟩ | ⟨e, _⟩
  · exact ⟨⟨oc, od, kV, doc, pm, an, cdv, ct, osl, rfl, lk, hcd⟩, F.kp⟩
  · exact absurd rfl e
theorem row_k1 {K : PySem.W.Frag} {mg : Str → Option Value} (T : LX K mg L) : ∃ fd, Fun K "__init__" "Row.__init__" st_Row_init L.i_Row fd ∧ KBn K fd ["self", "breakers", "step", "phase"] 3 ["phase"] (fun us ws => us ++ ws) (fun us ws => us ++ ws) := by
  obtain ⟨fd, F, FD⟩ := row_fn T
  obtain ⟨mv, h⟩ := FD.kbinds0 (ps := ["self", "breakers", "step", "phase"]) 3 ["phase"] [] (fun us _ ws => us ++ ws) (by simp) (by simp) (fun r1 _ r3 => r1.append r3) (fun D doc pm an cdv ct us mv ws h1 h2 h3 => by
    match us, h1, ws, h3, mv, h2 with
    | [_, _, _], _, [_], _, [], _ => rfl)
  exact ⟨fd, F, h⟩
theorem row_k2 {K : PySem.W.Frag} {mg : Str → Option Value} (T : LX K mg L) : ∃ fd ds, Fun K "__init__" "Row.__init__" st_Row_init L.i_Row fd ∧ Vals [.int 0] ds ∧ Binds K fd ["self", "breakers", "step", "phase"] ds := by
  obtain ⟨fd, F, FD⟩ := row_fn T
  obtain ⟨ds, h1, h2⟩ := FD.binds0 (ps := ["self", "breakers", "step", "phase"]) 3 (by simp) rfl (fun D doc pm an cdv ct us ks h1 h2 => by
    match us, h1, ks, h2 with
    | [_, _, _], _, [_], _ => exact ⟨_, _, _, _, _, _, rfl, rfl, rfl⟩)
  exact ⟨fd, ds, F, h1, h2⟩
/-- Row(e, s, phase=f) -/
theorem pe_mkRow_p_phase (T : LX X.K X.mg L) (hr : Room 6 X.A) {p pos : Pos} {e e2 : Expr} {kws : List Keyword} {t tk : TA} (hg : Gl X "Row") (ha : PA X [e, e2] t) (hkw : PK X kws tk)
    (hall : (backToKw pos (keywordEach kws X.env)).all (·.1.isSome) = true := by rfl) (hks : (backToKw pos (keywordEach kws X.env)).filterMap (·.1) = (["phase"] : List Str) := by rfl)
    (he : starEach (e :: [e2]) X.env = (false, eval e X.env) :: starEach [e2] X.env := by rfl) (hpl : ((backTo pos (starEach (e :: [e2]) X.env)).any (·.1) || (backToKw pos (keywordEach kws X.env)).any (·.1.isNone)) = false := by rfl) :
    PE X (.Call (.Name "Row" p) (e :: [e2]) kws pos) (tMakeK L.c_Row 2 1 (spRInit L.c_Row) (fun us ws => us ++ ws) E0 t tk) := by
  obtain ⟨fd, F, b⟩ := row_k1 T
  exact pe_makeK T.mk_Row (fn_Rowinit T F) hr hg T.gc_Row b pass0 ha hkw hall hks (by decide) he hpl
/-- Row(e, s) -/
theorem pe_mkRow (T : LX X.K X.mg L) (hr : Room 6 X.A) {p pos : Pos} {e e2 : Expr} {t : TA} (hg : Gl X "Row") (ha : PA X [e, e2] t)
    (he : starEach (e :: [e2]) X.env = (false, eval e X.env) :: starEach [e2] X.env := by rfl) (hpl : (backTo pos (starEach [e2] X.env)).any (·.1) = false := by rfl) :
    PE X (.Call (.Name "Row" p) (e :: [e2]) [] pos) (tMake L.c_Row (spRInit L.c_Row) [.int 0] E0 t) := by
  obtain ⟨fd, ds, F, hv, b⟩ := row_k2 T
  exact pe_make T.mk_Row (fn_Rowinit T F) hr hg T.gc_Row b hv pass0 ha (by decide) he hpl
end
/-! ### states of breakers, and data of them -/
abbrev StD := Str × Int
def StAt (H : Hp) (x : V) (s : StD) : Prop := ∃ a, x = .ref a ∧ H a = some (.tup [.str s.1, .int s.2])
abbrev Sts (H : Hp) (xs : List V) (ss : List StD) : Prop := Paired (StAt H) xs ss
theorem StAt.nl {H H' : Hp} (k : NL H H') {x : V} {d : StD} (h : StAt H x d) : StAt H' x d := by
  obtain ⟨a, e, h⟩ := h
  exact ⟨a, e, k _ _ h fun _ z => nomatch z⟩
theorem Sts.nl {H H' : Hp} (k : NL H H') {xs : List V} {ss : List StD} (h : Sts H xs ss) : Sts H' xs ss := L2.Paired.mapP h fun _ _ z => z.nl k
theorem paired_len {α β : Type} {F : α → β → Prop} : ∀ {xs : List α} {ys : List β}, Paired F xs ys → xs.length = ys.length
  | _, _, .nil => rfl
  | _, _, .cons _ p => by rw [List.length_cons, List.length_cons, paired_len p]
theorem paired_get {α β : Type} {F : α → β → Prop} : ∀ {xs : List α} {ys : List β} {i : Nat} {x : α}, Paired F xs ys → xs[i]? = some x → ∃ y, ys[i]? = some y ∧ F x y
  | _, _, i, x, .nil, e => by cases e
  | _, _, 0, x, .cons h _, e => by cases e; exact ⟨_, rfl, h⟩
  | _, _, i + 1, x, .cons _ p, e => paired_get (i := i) p e
theorem paired_get2 {α β : Type} {F : α → β → Prop} : ∀ {xs : List α} {ys : List β} {i : Nat} {y : β}, Paired F xs ys → ys[i]? = some y → ∃ x, xs[i]? = some x ∧ F x y
  | _, _, i, x, .nil, e => by cases e
  | _, _, 0, x, .cons h _, e => by cases e; exact ⟨_, rfl, h⟩
  | _, _, i + 1, x, .cons _ p, e => paired_get2 (i := i) p e
theorem paired_app {α β : Type} {F : α → β → Prop} : ∀ {xs us : List α} {ys vs : List β}, Paired F xs ys → Paired F us vs → Paired F (xs ++ us) (ys ++ vs)
  | _, _, _, _, .nil, q => q
  | _, _, _, _, .cons h p, q => .cons h (paired_app p q)
theorem StAt.same {H H' : Hp} (s : Same H H') {x : V} {d : StD} (h : StAt H x d) : StAt H' x d := by
  obtain ⟨a, e, h⟩ := h
  exact ⟨a, e, s _ _ h⟩
theorem Sts.same {H H' : Hp} (s : Same H H') {xs : List V} {ss : List StD} (h : Sts H xs ss) : Sts H' xs ss := L2.Paired.mapP h fun _ _ z => z.same s
/-- the breaker passes a request at t -/
def psB (b : Tri) (s : StD) (t : Int) : Prop := s.1 = "open" → b.2.1 ≤ t - s.2
def hfS (s : StD) : StD := if s.1 = "open" then ("half", 0) else s
def okS (b : Tri) (s : StD) : StD := if (hfS s).1 = "half" ∧ (hfS s).2 + 1 < b.2.2 then ("half", (hfS s).2 + 1) else ("closed", 0)
def badS (b : Tri) (s : StD) (t : Int) : StD := if (hfS s).1 = "closed" ∧ (hfS s).2 + 1 < b.1 then ("closed", (hfS s).2 + 1) else ("open", t)
theorem sC_O : ¬ (("closed" : Str) = "open") := by decide +kernel
theorem sH_O : ¬ (("half" : Str) = "open") := by decide +kernel
theorem sO_C : ¬ (("open" : Str) = "closed") := by decide +kernel
theorem sH_C : ¬ (("half" : Str) = "closed") := by decide +kernel
theorem sC_H : ¬ (("closed" : Str) = "half") := by decide +kernel
theorem sO_H : ¬ (("open" : Str) = "half") := by decide +kernel
theorem hf_closed (n : Int) : hfS (("closed" : Str), n) = (("closed" : Str), n) := if_neg sC_O
theorem hf_half (n : Int) : hfS (("half" : Str), n) = (("half" : Str), n) := if_neg sH_O
theorem hf_open (n : Int) : hfS (("open" : Str), n) = (("half" : Str), 0) := if_pos rfl
/-- what is told of a request that k of n breakers pass -/
def outV (n k : Nat) (inS : Bool) : List V := if k < n then [.str "rejected", .int k] else if inS then [.str "failed"] else [.str "served"]
def okW (s : StD) : Prop := s.1 = "closed" ∨ s.1 = "open" ∨ s.1 = "half"
def stD (s : StD) : PyData := .tuple [.str s.1, .int s.2]
theorem Sts.dp {K : PySem.W.Frag} {H : Hp} : ∀ {xs : List V} {ss : List StD}, Sts H xs ss → DpAll K H xs (ss.map stD)
  | _, _, .nil => .nil
  | _, _, .cons ⟨a, e, h⟩ t => by
    subst e
    exact .cons (.tup (SqT.of h) (.cons (.str _) (.cons (.int _) .nil))) (Sts.dp t)
theorem stD_eq (s u : StD) : PyData.eqv (stD s) (stD u) = decide (s = u) := by
  obtain ⟨a, b⟩ := s
  obtain ⟨a', b'⟩ := u
  simp only [stD, PyData.eqv, PyData.eqvAll, Bool.and_true]
  rw [Bool.eq_iff_iff]
  simp [Prod.ext_iff]
theorem stDs_eq : ∀ ss us : List StD, PyData.eqvAll (ss.map stD) (us.map stD) = decide (ss = us)
  | [], [] => by simp [PyData.eqvAll]
  | [], _ :: _ => by simp [PyData.eqvAll]
  | _ :: _, [] => by simp [PyData.eqvAll]
  | t :: ts, u :: us => by
    rw [List.map_cons, List.map_cons, PyData.eqvAll, stD_eq, stDs_eq ts us, Bool.eq_iff_iff]
    simp
theorem sok_W {s : StD} (h : okW s) : PyData.strOk s.1 = true := by
  obtain ⟨a, b⟩ := s
  rcases h with h | h | h
  · have h : a = "closed" := h
    subst h
    show PyData.strOk "closed" = true
    decide +kernel
  · have h : a = "open" := h
    subst h
    show PyData.strOk "open" = true
    decide +kernel
  · have h : a = "half" := h
    subst h
    show PyData.strOk "half" = true
    decide +kernel
theorem canSts : ∀ {ss : List StD}, (∀ s ∈ ss, okW s) → PyData.canLayAll0 (ss.map stD) = true
  | [], _ => by simp [PyData.canLayAll0]
  | t :: ts, h => by
    rw [List.map_cons, PyData.canLayAll0, canSts fun s hs => h s (List.mem_cons_of_mem _ hs)]
    simp [stD, PyData.canLay0, PyData.canLayAll0, sok_W (h t (List.mem_cons_self ..))]
theorem depSts : ∀ ss : List StD, PyData.depthAll (ss.map stD) ≤ 10
  | [] => by simp [PyData.depthAll]
  | t :: ts => by
    have := depSts ts
    rw [List.map_cons, PyData.depthAll]
    have h2 : (stD t).depth ≤ 10 := by simp [stD, PyData.depth, PyData.depthAll]
    omega
theorem shSts {ss : List StD} (h : ∀ s ∈ ss, okW s) : SeqAt.shaped (.list (ss.map stD)) = true := by
  refine Bool.and_eq_true_iff.mpr ⟨?_, decide_eq_true ?_⟩
  · rw [PyData.canLay0]
    exact canSts h
  · have := depSts ss
    rw [PyData.depth]
    omega
theorem Sts.dpl {K : PySem.W.Frag} {H : Hp} {l : Addr} {ys : List V} {ss : List StD} (h : H l = some (.lst ys)) (s : Sts H ys ss) : Dp K H (.ref l) (.list (ss.map stD)) := .lst (SqL.of h) s.dp
theorem eqSts (ss us : List StD) : PyData.eqv (.list (ss.map stD)) (.list (us.map stD)) = decide (ss = us) := by
  rw [PyData.eqv]
  exact stDs_eq ss us
/-! ### lists of ints as data; what the law asks of told times -/
def intsD (ns : List Int) : PyData := .list (ns.map PyData.int)
theorem ints_dp {K : PySem.W.Frag} {H : Hp} : ∀ ns : List Int, DpAll K H (ns.map V.int) (ns.map PyData.int)
  | [] => .nil
  | n :: ns => .cons (.int n) (ints_dp ns)
theorem canInts : ∀ ns : List Int, PyData.canLayAll0 (ns.map PyData.int) = true
  | [] => by simp [PyData.canLayAll0]
  | n :: ns => by rw [List.map_cons, PyData.canLayAll0, canInts ns]; simp [PyData.canLay0]
theorem depInts : ∀ ns : List Int, PyData.depthAll (ns.map PyData.int) ≤ 10
  | [] => by simp [PyData.depthAll]
  | n :: ns => by
    have := depInts ns
    rw [List.map_cons, PyData.depthAll]
    have h2 : (PyData.int n).depth ≤ 10 := by simp [PyData.depth]
    omega
theorem shInts (ns : List Int) : SeqAt.shaped (intsD ns) = true := by
  refine Bool.and_eq_true_iff.mpr ⟨?_, decide_eq_true ?_⟩
  · unfold intsD
    rw [PyData.canLay0]
    exact canInts ns
  · have := depInts ns
    unfold intsD
    rw [PyData.depth]
    omega
theorem eqInts1 : ∀ ns ms : List Int, PyData.eqvAll (ns.map PyData.int) (ms.map PyData.int) = decide (ns = ms)
  | [], [] => by simp [PyData.eqvAll]
  | [], _ :: _ => by simp [PyData.eqvAll]
  | _ :: _, [] => by simp [PyData.eqvAll]
  | n :: ns, m :: ms => by
    rw [List.map_cons, List.map_cons, PyData.eqvAll, eqInts1 ns ms, Bool.eq_iff_iff]
    simp [PyData.eqv]
theorem eqInts (ns ms : List Int) : PyData.eqv (intsD ns) (intsD ms) = decide (ns = ms) := by
  unfold intsD
  rw [PyData.eqv]
  exact eqInts1 ns ms
theorem Dp.ints {K : PySem.W.Frag} {H : Hp} {a : Addr} {ns : List Int} (h : H a = some (.lst (ns.map V.int))) : Dp K H (.ref a) (intsD ns) := .lst (SqL.of h) (ints_dp ns)
/-! ### rules inside comprehensions -/
theorem call_lenK {X : Cx} {K : PySem.W.Frag} (h : X.K = K) : CallR X (.builtin "len") (fun xs H Q => ∃ p ys, xs = [.ref p] ∧ (SqL K H p ys ∨ SqT K H p ys) ∧ Q (.int ys.length) H) := h ▸ call_len_seq
theorem call_listK {X : Cx} {K : PySem.W.Frag} (h : X.K = K) : CallR X (.type "list") (fun xs H Q => ∃ p ys, xs = [.ref p] ∧ (SqL K H p ys ∨ SqT K H p ys) ∧ ∀ l, H l = none → Q (.ref l) (upd H l (.lst ys))) := h ▸ call_list_of
theorem op_neDK {X : Cx} {K : PySem.W.Frag} (h : X.K = K) (hu : X.A.units + 64 < cLine) : OpR X (compareOp .NotEq) (rNeD K) := h ▸ op_neD hu
theorem op_eqDK {X : Cx} {K : PySem.W.Frag} (h : X.K = K) (hu : X.A.units + 64 < cLine) : OpR X (compareOp .Eq) (rEqD K) := h ▸ op_eqD hu
theorem op_inK {X : Cx} {K : PySem.W.Frag} (h : X.K = K) : OpR X (compareOp CmpOp.In) (rIn K false) := h ▸ op_in_seq
theorem op_notInK {X : Cx} {K : PySem.W.Frag} (h : X.K = K) : OpR X (compareOp CmpOp.NotIn) (rIn K true) := h ▸ op_notIn_seq
/-! ### list.count of strings -/
def eqs (k : Str) (v : Value) : Bool := match v with
  | .str n _ => n == k
  | _ => false
def rCntS (K : PySem.W.Frag) : V → List V → Hp → VK → Prop := fun x xs H Q => ∃ (p : Addr) (ss : List Str) (k : Str), x = .ref p ∧ xs = [.str k] ∧ SqL K H p (ss.map V.str) ∧ Q (.int (ss.countP (fun y => decide (y = k)) : Nat)) H
theorem eqs_at {k : Str} {t : Tok} {A : Around} {s : Shared} : ∀ {ss : List Str} {us : List Value}, Vals (ss.map V.str) us → ∀ y ∈ us, SeqAt.EqAt A s y (.str k t) (eqs k y)
  | [], us, r => by
    rw [List.map_nil] at r
    cases r
    exact fun y hy => nomatch hy
  | n :: ss, us, r => by
    rw [List.map_cons] at r
    cases r with
    | cons r1 r2 =>
      obtain ⟨t', rfl⟩ := r1
      intro y hy
      rcases List.mem_cons.mp hy with q | q
      · rw [q]
        exact SeqAt.EqAt.str_str n t' k t
      · exact eqs_at r2 y q
theorem eqs_count {k : Str} : ∀ {ss : List Str} {us : List Value}, Vals (ss.map V.str) us → us.countP (eqs k) = ss.countP fun y => decide (y = k)
  | [], us, r => by
    rw [List.map_nil] at r
    cases r
    rfl
  | n :: ss, us, r => by
    rw [List.map_cons] at r
    cases r with
    | cons r1 r2 =>
      obtain ⟨t', rfl⟩ := r1
      have ih := eqs_count (k := k) r2
      rw [List.countP_cons, List.countP_cons, ih]
      rfl
theorem mt_scount {X : Cx} : MtR X "list.count" (rCntS X.K) := by
  intro pins s σ H x xs v us Q I rx rxs h
  obtain ⟨p, ns, k, rfl, rfl, hs, q⟩ := h
  cases rx
  obtain ⟨u, rfl, ru⟩ := rxs.one
  obtain ⟨t, rfl⟩ := ru
  obtain ⟨its, rv, ⟨⟨cls, dd, data, sl⟩, n, ho, hc, hdn, hd⟩, hlen⟩ := I.list hs
  simp only at hc hd
  subst hc hd
  refine call_meets PySem.F.slot_list_count ⟨_, ho, rfl⟩ PySem.F.entry_list_count (PySem.F.args_list_count_2 _ _)
    (SeqAt.list_countAt p its.toArray n dd sl (.str k t) (eqs k)) ⟨ho, fun y hy => eqs_at rv y (by simpa using hy), ?_⟩
  have ec : its.toArray.toList.countP (eqs k) = ns.countP fun y => decide (y = k) := eqs_count rv
  refine ⟨.int (ns.countP (fun y => decide (y = k)) : Nat), H, I.tok _, ⟨s.toks, ?_⟩, q⟩
  show Value.int ((its.toArray.toList.countP (eqs k) : Nat) : Int) s.toks = Value.int ((ns.countP (fun y => decide (y = k)) : Nat) : Int) s.toks
  rw [ec]
/-- a comprehension over enumerate -/
theorem lc_enum {K : PySem.W.Frag} {a : Addr} {xs : List V} {g : TG} {tt : TT} {te : TE} {vs : List Nat} {σ : L2.St} {H1 : Hp} {D : Addr} {Qd : Hp → Prop} (Pv : Nat → Hp → Prop) (h0 : Pv 0 (upd H1 D (.lst []))) (hl : ∀ i H, Pv i H → SqL K H a xs)
    (hs : ∀ (i : Nat) (x : V) (T : Addr) (H : Hp), xs[i]? = some x → Pv i H → H T = none → g (.ref T) (wipe σ vs) (upd H T (.tup [.int (i : Nat), x])) fun σ2 H2 => wipe σ2 vs = wipe σ vs ∧ tt σ2 H2 fun b H3 =>
      if b = true then te σ2 H3 fun y H4 => ∃ acc, H4 D = some (.lst acc) ∧ acc.length < sizeLine ∧ Pv (i + 1) (upd H4 D (.lst (acc ++ [y]))) else Pv (i + 1) H3) (hd : ∀ H, Pv xs.length H → Qd H) :
    ∃ W : Nat → Nat → Hp → Prop, (∃ m, W 0 m (upd H1 D (.lst []))) ∧ ∀ i m H, W i m H → ((Ite K a).stop i H ∧ Qd H) ∨ ((Ite K a).go i H ∧ ∃ Nx : Hp → Prop, (∀ H', Nx H' → ∃ m', m' < m ∧ W (i + 1) m' H') ∧ ∀ x H', (Ite K a).yld i H x H' → g x (wipe σ vs) H' fun σ2 H2 => wipe σ2 vs = wipe σ vs ∧ tt σ2 H2 fun b H3 =>
        if b = true then te σ2 H3 fun y H4 => ∃ acc, H4 D = some (.lst acc) ∧ acc.length < sizeLine ∧ Nx (upd H4 D (.lst (acc ++ [y]))) else Nx H3) := by
  refine ⟨fun i m H => m = xs.length - i ∧ i ≤ xs.length ∧ Pv i H, ⟨xs.length, by omega, Nat.zero_le _, h0⟩, ?_⟩
  rintro i m H ⟨rfl, hi, p⟩
  have q := hl i H p
  by_cases hlt : i < xs.length
  · refine .inr ⟨⟨xs, xs[i], q, List.getElem?_eq_getElem hlt⟩, Pv (i + 1), fun H' p' => ⟨xs.length - (i + 1), by omega, rfl, hlt, p'⟩, fun v H' y => ?_⟩
    obtain ⟨T, x', rfl, hT, rfl, f⟩ := y
    exact hs i x' T H (f xs q) p hT
  · have e : i = xs.length := by omega
    subst e
    exact .inl ⟨⟨xs, q, Nat.le_refl _⟩, hd H p⟩
theorem op_powW {X : Cx} : OpR X (binaryOp .Pow) (rI (fun i j => 0 ≤ j ∧ (Builtin.Int.intBits i : Int) * j ≤ 2 ^ 27) fun i j => .int (i ^ j.toNat)) := opI fun _ _ _ _ _ _ _ hc q => PyProof.Rows.pow_int hc.1 hc.2 q
/-! ### zip of a tuple and a list -/
section
open PySem.Builtin.SmallTypes
/-- what next() walks: an iterator over a sequence -/
structure Wk (prog : Program) (w : World) where
  it : Heap → Addr → Addr → Nat → Prop
  sq : Heap → Addr → Array Value → Prop
  itx : ∀ {g g' : Heap} {a b l : Addr} {n : Nat}, it g a l n → Heap.ExtBut b g g' → a ≠ b → it g' a l n
  sqx : ∀ {g g' : Heap} {a b : Addr} {xs : Array Value}, sq g a xs → Heap.ExtBut b g g' → a ≠ b → sq g' a xs
  ita : ∀ {g g' : Heap} {a l : Addr} {n : Nat}, it g a l n → (∀ o, g.get? a = some o → g'.get? a = some o) → it g' a l n
  ito : ∀ {g : Heap} {a l : Addr} {n : Nat}, it g a l n → ∃ o, g.get? a = some o ∧ ∃ f, o.data = .fields f
  nxt : ∀ {A : Around} {E : Value → Shared → Prop} {s : Shared} {a l : Addr} {n : Nat} {xs : Array Value} {x : Value} {Q : Value → Shared → Prop}, it s.heap a l n → sq s.heap l xs → xs[n]? = some x →
    (∀ g, it g a l (n + 1) → Heap.SameBut a s.heap g → Q x { s with heap := g }) → wpAny (model prog w) A (nextOf (.ref a)) Q E s
  fin : ∀ {A : Around} {E : Value → Shared → Prop} {s : Shared} {a l : Addr} {n : Nat} {xs : Array Value} {Q : Value → Shared → Prop}, A.handled = none → it s.heap a l n → sq s.heap l xs → xs[n]? = none →
    (∀ g e, Heap.ExtBut a s.heap g → (∃ o, g.get? e = some o ∧ o.cls = .type "StopIteration") → E (.ref e) { s with heap := g }) → wpAny (model prog w) A (nextOf (.ref a)) Q E s
def wkL (prog : Program) (w : World) : Wk prog w where
  it := Heap.IsListIter
  sq := Heap.IsList
  itx := fun x h n => x.extBut h n
  sqx := fun x h n => x.extBut h n
  ita := fun x e => x.at e
  ito := fun x => by obtain ⟨o, e, _, d⟩ := x; exact ⟨o, e, _, d⟩
  nxt := fun a b c d => wpAny_nextOf_list_item a b c d
  fin := fun a b c d e => wpAny_nextOf_list_end a b c d e
def wkT (prog : Program) (w : World) : Wk prog w where
  it := Heap.IsTupleIter
  sq := Heap.IsTuple
  itx := fun x h n => x.extBut h n
  sqx := fun x h n => x.extBut h n
  ita := fun x e => x.at e
  ito := fun x => by obtain ⟨o, e, _, d⟩ := x; exact ⟨o, e, _, d⟩
  nxt := fun a b c d => RZ.nextOf_tuple_item a b c d
  fin := fun a b c d e => RZ.nextOf_tuple_end a b c d e
section
variable {prog : Program} {w : World} {A : Around} {E : Value → Shared → Prop} {s : Shared} (U V : Wk prog w)
/-- the kept of a step -/
def Kz (z T i j : Addr) (g g' : Heap) : Prop := ∀ c o, c ≠ z → c ≠ T → c ≠ i → c ≠ j → g.get? c = some o → g'.get? c = some o
theorem zw_item {z T R i j a b : Addr} {m n : Nat} {xs ys : Array Value} {x y p q : Value} {Q : Value → Shared → Prop} (D : ZipApart z T R i j a b) (hz : IsZip s.heap z T R .none) (hT : IsPair s.heap T (.ref i) (.ref j)) (hR : IsPair s.heap R p q)
    (hi : U.it s.heap i a m) (hj : V.it s.heap j b n) (ha : U.sq s.heap a xs) (hb : V.sq s.heap b ys) (ex : xs[m]? = some x) (ey : ys[n]? = some y)
    (k : ∀ g, IsZip g z T R (rawInt s.heap.objs.size) → IsPair g R x y → U.it g i a (m + 1) → V.it g j b (n + 1) → IsPair g s.heap.objs.size x y → g.objs.size = s.heap.objs.size + 1 → Kz z R i j s.heap g → Q (.ref s.heap.objs.size) { s with heap := g }) :
    wpAny (model prog w) A (Builtin.«zip.__next__» ⟨[.ref z], []⟩) (fun r s' => ∃ v, r = .done (.ret v) ∧ Q v s') E s := by
  show wpAny _ _ (field (.ref z) 2 >>= fun _ => _) _ _ _
  refine wpAny_bind (wpAny_field hz rfl (x := .bool false) rfl (show wpAny _ _ (field (.ref z) 3 >>= fun _ => _) _ _ _ from ?_))
  refine wpAny_bind (wpAny_field hz rfl (x := .ref T) rfl (wpAny_bind (wpAny_seqItems hT rfl (show wpAny _ _ (ownedTupleIsFree (.ref z) >>= fun _ => _) _ _ _ from wpAny_bind ?_))))
  unfold Builtin.SmallTypes.ownedTupleIsFree
  refine wpAny_bind (wpAny_field hz rfl (x := .none) rfl (wpAny_pure ?_)); simp only [if_true]
  refine wpAny_bind (wpAny_rule (wpAny_bind (wpAny_field hz rfl (x := .ref R) rfl (wpAny_bind (wpAny_setField_rec hz (by simp) fun g1 z1 s1 => ?_)))))
  replace z1 : IsZip g1 z T R .ellipsis := z1
  refine wpAny_bind ?_; simp only [List.zipIdx_cons, List.zipIdx_nil, List.forIn_cons, List.forIn_nil]
  refine wpAny_bind (wpAny_bind (wpAny_onRaise (show wpAny _ _ (nextOf (.ref i) >>= fun _ => _) _ _ _ from ?_)))
  refine wpAny_bind (U.nxt (U.itx hi s1.extBut D.i1z) (U.sqx ha s1.extBut D.l1z) ex fun g2 i2 s2 => wpAny_pure ?_)
  have R2 : IsPair g2 R p q := s2.extBut _ _ D.TOi1 (s1.extBut _ _ D.TOz hR)
  refine wpAny_bind (wpAny_seqItems R2 rfl (wpAny_bind (wpAny_updateSeq_pair R2 fun g3 R3 s3 => wpAny_bind (wpAny_letGo (wpAny_pure ?_)))))
  replace R3 : IsPair g3 R x q := R3
  refine wpAny_bind (wpAny_bind (wpAny_onRaise (show wpAny _ _ (nextOf (.ref j) >>= fun _ => _) _ _ _ from ?_)))
  refine wpAny_bind (V.nxt (V.itx (V.itx (V.itx hj s1.extBut D.i2z) s2.extBut D.i12.symm) s3.extBut D.TOi2.symm) (V.sqx (V.sqx (V.sqx hb s1.extBut D.l2z) s2.extBut D.l2i1) s3.extBut D.l2TO) ey fun g4 j4 s4 => wpAny_pure ?_)
  have R4 : IsPair g4 R x q := s4.extBut _ _ D.TOi2 R3
  refine wpAny_bind (wpAny_seqItems R4 rfl (wpAny_bind (wpAny_updateSeq_pair R4 fun g5 R5 s5 => wpAny_bind (wpAny_letGo (wpAny_pure (wpAny_pure ?_))))))
  replace R5 : IsPair g5 R x y := R5
  refine wpAny_bind (wpAny_seqItems R5 rfl (wpAny_bind (wpAny_newTuple ?_)))
  have e5 : g5.objs.size = s.heap.objs.size := by rw [s5.1, s4.1, s3.1, s2.1, s1.1]
  have z5 : IsZip g5 z T R .ellipsis := s5.extBut _ _ D.TOz.symm (s4.extBut _ _ D.i2z.symm (s3.extBut _ _ D.TOz.symm (s2.extBut _ _ D.i1z.symm z1)))
  have k5 : Kz z R i j s.heap g5 := fun c o c1 c2 c3 c4 e => s5.extBut _ _ c2 (s4.extBut _ _ c4 (s3.extBut _ _ c2 (s2.extBut _ _ c3 (s1.extBut _ _ c1 e))))
  have i5 : U.it g5 i a (m + 1) := U.itx (U.itx (U.itx i2 s3.extBut D.TOi1.symm) s4.extBut D.i12) s5.extBut D.TOi1.symm
  have j5 : V.it g5 j b (n + 1) := V.itx j4 s5.extBut D.TOi2.symm
  show wpAny _ _ (ownedTupleHandOut (.ref z) (.ref g5.objs.size) >>= fun _ => _) _ _ _
  refine wpAny_bind ?_; unfold Builtin.SmallTypes.ownedTupleHandOut
  have z6 : IsZip (g5.push { cls := .type "tuple", data := .seq #[x, y] }) z T R .ellipsis := Heap.get?_push_of_some _ z5
  refine wpAny_bind (wpAny_setField_rec z6 (by simp) fun g7 z7 s7 => ?_)
  replace z7 : IsZip g7 z T R (rawInt g5.objs.size) := z7
  refine wpAny_setField_rec z7 (by simp) fun g8 z8 s8 => ?_
  replace z8 : IsZip g8 z T R (rawInt g5.objs.size) := z8
  have up : ∀ c o, c ≠ z → g5.get? c = some o → g8.get? c = some o := fun c o c1 e => s8.extBut _ _ c1 (s7.extBut _ _ c1 (Heap.get?_push_of_some _ e))
  have T8 : IsPair g8 g5.objs.size x y := s8.extBut _ _ (Nat.ne_of_gt (Heap.lt_size z5)) (s7.extBut _ _ (Nat.ne_of_gt (Heap.lt_size z5)) (Heap.get?_push_size _ rfl))
  have e8 : g8.objs.size = g5.objs.size + 1 := by rw [s8.1, s7.1, Heap.size_push]
  rw [e5] at z8 T8 e8
  refine wpAny_pure ⟨_, rfl, (show Q (.ref g5.objs.size) _ from ?_)⟩
  rw [e5]
  exact k g8 z8 (up _ _ D.TOz R5) (U.ita i5 fun o e => up _ o D.i1z e) (V.ita j5 fun o e => up _ o D.i2z e) T8 e8 fun c o c1 c2 c3 c4 e => up c o c1 (k5 c o c1 c2 c3 c4 e)
theorem zw_fin {z T R i j a b : Addr} {m n : Nat} {xs ys : Array Value} {p q : Value} {Q : Fin → Shared → Prop} (hh : A.handled = none) (D : ZipApart z T R i j a b) (hz : IsZip s.heap z T R .none) (hT : IsPair s.heap T (.ref i) (.ref j)) (hR : IsPair s.heap R p q)
    (hi : U.it s.heap i a m) (hj : V.it s.heap j b n) (ha : U.sq s.heap a xs) (hb : V.sq s.heap b ys) (en : xs[m]? = none ∨ ys[n]? = none)
    (k : ∀ g e, Kz z R i j s.heap g → (∃ o, g.get? e = some o ∧ o.cls = .type "StopIteration") → E (.ref e) { s with heap := g }) :
    wpAny (model prog w) A (Builtin.«zip.__next__» ⟨[.ref z], []⟩) Q E s := by
  show wpAny _ _ (field (.ref z) 2 >>= fun _ => _) _ _ _
  refine wpAny_bind (wpAny_field hz rfl (x := .bool false) rfl (show wpAny _ _ (field (.ref z) 3 >>= fun _ => _) _ _ _ from ?_))
  refine wpAny_bind (wpAny_field hz rfl (x := .ref T) rfl (wpAny_bind (wpAny_seqItems hT rfl (show wpAny _ _ (ownedTupleIsFree (.ref z) >>= fun _ => _) _ _ _ from wpAny_bind ?_))))
  unfold Builtin.SmallTypes.ownedTupleIsFree
  refine wpAny_bind (wpAny_field hz rfl (x := .none) rfl (wpAny_pure ?_)); simp only [if_true]
  refine wpAny_bind (wpAny_rule (wpAny_bind (wpAny_field hz rfl (x := .ref R) rfl (wpAny_bind (wpAny_setField_rec hz (by simp) fun g1 z1 s1 => ?_)))))
  replace z1 : IsZip g1 z T R .ellipsis := z1
  refine wpAny_bind ?_; simp only [List.zipIdx_cons, List.zipIdx_nil, List.forIn_cons, List.forIn_nil]
  refine wpAny_bind (wpAny_bind (wpAny_onRaise (show wpAny _ _ (nextOf (.ref i) >>= fun _ => _) _ _ _ from ?_)))
  cases ex : xs[m]? with
  | none =>
    refine wpAny_bind (U.fin hh (U.itx hi s1.extBut D.i1z) (U.sqx ha s1.extBut D.l1z) ex fun g2 e s2 he => ?_)
    obtain ⟨oe, h1, h2⟩ := he
    have z2 : IsZip g2 z T R .ellipsis := s2 _ _ D.i1z.symm z1
    have ne : e ≠ z := fun c => by subst c; rw [z2] at h1; cases h1; simp at h2
    exact wpAny_setField_rec z2 (by simp) fun g3 _ s3 => k g3 e (fun c o c1 _ c3 _ r => s3.extBut _ _ c1 (s2 _ _ c3 (s1.extBut _ _ c1 r))) ⟨oe, s3.extBut _ _ ne h1, h2⟩
  | some x =>
    have ey : ys[n]? = none := by rcases en with h | h; (rw [ex] at h; cases h); exact h
    refine wpAny_bind (U.nxt (U.itx hi s1.extBut D.i1z) (U.sqx ha s1.extBut D.l1z) ex fun g2 i2 s2 => wpAny_pure ?_)
    have R2 : IsPair g2 R p q := s2.extBut _ _ D.TOi1 (s1.extBut _ _ D.TOz hR)
    refine wpAny_bind (wpAny_seqItems R2 rfl (wpAny_bind (wpAny_updateSeq_pair R2 fun g3 R3 s3 => wpAny_bind (wpAny_letGo (wpAny_pure ?_)))))
    refine wpAny_bind (wpAny_bind (wpAny_onRaise (show wpAny _ _ (nextOf (.ref j) >>= fun _ => _) _ _ _ from ?_)))
    refine wpAny_bind (V.fin hh (V.itx (V.itx (V.itx hj s1.extBut D.i2z) s2.extBut D.i12.symm) s3.extBut D.TOi2.symm) (V.sqx (V.sqx (V.sqx hb s1.extBut D.l2z) s2.extBut D.l2i1) s3.extBut D.l2TO) ey fun g4 e s4 he => ?_)
    obtain ⟨oe, h1, h2⟩ := he
    have z4 : IsZip g4 z T R .ellipsis := s4 _ _ D.i2z.symm (s3.extBut _ _ D.TOz.symm (s2.extBut _ _ D.i1z.symm z1))
    have ne : e ≠ z := fun c => by subst c; rw [z4] at h1; cases h1; simp at h2
    exact wpAny_setField_rec z4 (by simp) fun g5 _ s5 => k g5 e (fun c o c1 c2 c3 c4 r => s5.extBut _ _ c1 (s4 _ _ c4 (s3.extBut _ _ c2 (s2.extBut _ _ c3 (s1.extBut _ _ c1 r))))) ⟨oe, s5.extBut _ _ ne h1, h2⟩
theorem zw_next {z T R i j a b : Addr} {m n : Nat} {xs ys : Array Value} {x y p q : Value} {Q : Option Value → Shared → Prop} (D : ZipApart z T R i j a b) (hz : IsZip s.heap z T R .none) (hT : IsPair s.heap T (.ref i) (.ref j)) (hR : IsPair s.heap R p q)
    (hi : U.it s.heap i a m) (hj : V.it s.heap j b n) (ha : U.sq s.heap a xs) (hb : V.sq s.heap b ys) (ex : xs[m]? = some x) (ey : ys[n]? = some y)
    (k : ∀ g, IsZip g z T R (rawInt s.heap.objs.size) → IsPair g R x y → U.it g i a (m + 1) → V.it g j b (n + 1) → IsPair g s.heap.objs.size x y → g.objs.size = s.heap.objs.size + 1 → Kz z R i j s.heap g → Q (some (.ref s.heap.objs.size)) { s with heap := g }) :
    wpAny (model prog w) A (pyNext (.ref z)) Q E s := by
  have hT' : s.TypeIs (.ref z) "zip" := ⟨_, hz, rfl⟩
  unfold pyNext
  exact wpAny_bind (wpAny_attempt (wpAny_callSpecial?_slot (name := Str.ofString "__next__") hT' F.slot_zip_next (wpAny_call_entry F.slot_zip_next hT' F.entry_zip_next
    (zw_item U V D hz hT hR hi hj ha hb ex ey fun g a1 a2 a3 a4 a5 a6 a7 => wpAny_pure (k g a1 a2 a3 a4 a5 a6 a7)) (F.args_zip_next_1 _))))
theorem zw_done {z T R i j a b : Addr} {m n : Nat} {xs ys : Array Value} {p q : Value} {Q : Option Value → Shared → Prop} (hh : A.handled = none) (D : ZipApart z T R i j a b) (hz : IsZip s.heap z T R .none) (hT : IsPair s.heap T (.ref i) (.ref j)) (hR : IsPair s.heap R p q)
    (hi : U.it s.heap i a m) (hj : V.it s.heap j b n) (ha : U.sq s.heap a xs) (hb : V.sq s.heap b ys) (en : xs[m]? = none ∨ ys[n]? = none) (k : ∀ g, Kz z R i j s.heap g → Q none { s with heap := g }) : wpAny (model prog w) A (pyNext (.ref z)) Q E s := by
  have hT' : s.TypeIs (.ref z) "zip" := ⟨_, hz, rfl⟩
  unfold pyNext
  refine wpAny_bind (wpAny_attempt (wpAny_callSpecial?_slot (name := Str.ofString "__next__") hT' F.slot_zip_next (wpAny_call_entry F.slot_zip_next hT' F.entry_zip_next (zw_fin U V hh D hz hT hR hi hj ha hb en fun g e hk he => ?_) (F.args_zip_next_1 _))))
  obtain ⟨o, ho, hc⟩ := he
  exact wpAny_bind (wpAny_isInstance (T := "StopIteration") (b := true) ⟨o, ho, hc⟩ isSubtype_stop (wpAny_pure (k _ hk)))
end
abbrev zmA (h : Heap) (a : Addr) : Heap := h.push { cls := .type "tuple_iterator", data := .fields #[.ref a, .int 0 0] }
abbrev zmB (h : Heap) (a b : Addr) : Heap := (zmA h a).push { cls := .type "list_iterator", data := .fields #[.ref b, .int 0 0] }
abbrev zmC (h : Heap) (a b : Addr) : Heap := (zmB h a b).push { cls := .type "tuple", data := .seq #[.ref h.objs.size, .ref (zmA h a).objs.size] }
abbrev zmD (h : Heap) (a b : Addr) : Heap := (zmC h a b).push { cls := .type "tuple", data := .seq #[.none, .none] }
abbrev zmE (h : Heap) (a b : Addr) : Heap := (zmD h a b).push { cls := .type "zip", data := .fields #[.none, .bool false, .bool false, .ref (zmB h a b).objs.size, .ref (zmC h a b).objs.size] }
theorem zm_new (a b : Addr) (xs ys : Array Value) :
    Meets (Builtin.«zip.__new__» ⟨[.type "zip", .ref a, .ref b], []⟩) (fun _ R s => s.heap.IsTuple a xs ∧ s.heap.IsList b ys ∧ R (.ok (.ret (.ref (zmD s.heap a b).objs.size))) { s with heap := zmE s.heap a b }) :=
  .of_wp fun prog w A R s h => by
    obtain ⟨hp, g, d, tk, os⟩ := s; obtain ⟨h1, h2, h⟩ := h
    have hsub := sub_zip
    have h3 : Heap.IsTuple (Shared.heap ⟨hp, g, d, tk, os⟩) a xs := h1
    have h4 : Heap.IsList (Shared.heap ⟨hp.push { cls := .type "tuple_iterator", data := .fields #[.ref a, .int 0 0] }, g, d, tk, os⟩) b ys := Heap.IsList.push h2 _
    wp_walk using wpAny_pyIter_tuple h3, wpAny_pyIter_list h4
    exact ⟨_, rfl, h⟩
theorem call_zipM {prog : Program} {w : World} {A : Around} {E : Value → Shared → Prop} {s : Shared} {a b : Addr} {xs ys : Array Value} {Q : Value → Shared → Prop} (h1 : s.heap.IsTuple a xs) (h2 : s.heap.IsList b ys)
    (k : ∀ g, IsZip g (s.heap.objs.size + 4) (s.heap.objs.size + 2) (s.heap.objs.size + 3) .none → IsPair g (s.heap.objs.size + 2) (.ref s.heap.objs.size) (.ref (s.heap.objs.size + 1)) → IsPair g (s.heap.objs.size + 3) .none .none →
      g.IsTupleIter s.heap.objs.size a 0 → g.IsListIter (s.heap.objs.size + 1) b 0 → (∀ c o, s.heap.get? c = some o → g.get? c = some o) → Q (.ref (s.heap.objs.size + 4)) { s with heap := g }) :
    wpAny (model prog w) A (call (.type "zip") [.ref a, .ref b]) Q E s := by
  refine callType_new F.called_zip (by decide) (F.typeCall_zip_2 _ _) (F.newCall_zip_2 _ _) (fun o => F.args_object_init_3 o _ _) F.entry_zip_new (zm_new a b xs ys) ⟨h1, h2, ?_⟩
  have z1 : (zmA s.heap a).objs.size = s.heap.objs.size + 1 := Heap.size_push ..
  have z2 : (zmB s.heap a b).objs.size = s.heap.objs.size + 2 := by rw [Heap.size_push, z1]
  have z3 : (zmC s.heap a b).objs.size = s.heap.objs.size + 3 := by rw [Heap.size_push, z2]
  have z4 : (zmD s.heap a b).objs.size = s.heap.objs.size + 4 := by rw [Heap.size_push, z3]
  have g5 : (zmE s.heap a b).get? (zmD s.heap a b).objs.size = some _ := Heap.get?_push_size _ rfl
  have g4 : (zmE s.heap a b).get? (zmC s.heap a b).objs.size = some _ := Heap.get?_push_of_some _ (Heap.get?_push_size _ rfl)
  have g3 : (zmE s.heap a b).get? (zmB s.heap a b).objs.size = some _ := Heap.get?_push_of_some _ (Heap.get?_push_of_some _ (Heap.get?_push_size _ rfl))
  have g2 : (zmE s.heap a b).get? (zmA s.heap a).objs.size = some _ := Heap.get?_push_of_some _ (Heap.get?_push_of_some _ (Heap.get?_push_of_some _ (Heap.get?_push_size _ rfl)))
  have g1 : (zmE s.heap a b).get? s.heap.objs.size = some _ := Heap.get?_push_of_some _ (Heap.get?_push_of_some _ (Heap.get?_push_of_some _ (Heap.get?_push_of_some _ (Heap.get?_push_size _ rfl))))
  show _ ∧ _
  rw [z2, z3, z4] at g5
  rw [z1, z2] at g3
  rw [z3] at g4
  rw [z1] at g2
  rw [z4]
  exact ⟨⟨_, g5, rfl⟩, k _ g5 g3 g4 ⟨_, g1, rfl, rfl⟩ ⟨_, g2, rfl, rfl⟩ fun c o x => Heap.get?_push_of_some _ (Heap.get?_push_of_some _ (Heap.get?_push_of_some _ (Heap.get?_push_of_some _ (Heap.get?_push_of_some _ x))))⟩
end
section
open PyProof.Rows
/-- the tuple at a and the list at b, item by item in new pairs -/
def ItzM (K : PySem.W.Frag) (a b : Addr) : It :=
  ⟨fun i H => ∃ (xs ys : List V) (x y : V), SqT K H a xs ∧ SqL K H b ys ∧ xs[i]? = some x ∧ ys[i]? = some y,
    fun i H v H' => ∃ T x y, v = .ref T ∧ H T = none ∧ H' = upd H T (.tup [x, y]) ∧ (∀ xs, SqT K H a xs → xs[i]? = some x) ∧ ∀ ys, SqL K H b ys → ys[i]? = some y,
    fun i H => ∃ xs ys : List V, SqT K H a xs ∧ SqL K H b ys ∧ (xs.length ≤ i ∨ ys.length ≤ i)⟩
theorem turn_zipM {P : Program} {w : World} {K : PySem.W.Frag} {elts : List Expr} {kk : Nat} {tpos : Pos} {a b z T R i j : Addr} (D : ZipApart z T R i j a b) :
    Turn P w K (.Tuple elts kk tpos) (ItzM K a b) [z, T, R, i, j] z (fun n h => IsZip h z T R .none ∧ IsPair h T (.ref i) (.ref j) ∧ (∃ x y, IsPair h R x y) ∧ h.IsTupleIter i a n ∧ h.IsListIter j b n) where
  mem := List.mem_cons_self ..
  obj := fun n h st c hc => by
    obtain ⟨hz, hT, ⟨x, y, hR⟩, ⟨o1, e1, _, d1⟩, ⟨o2, e2, _, d2⟩⟩ := st
    simp only [List.mem_cons, List.mem_nil_iff, or_false] at hc
    rcases hc with rfl | rfl | rfl | rfl | rfl
    · exact ⟨_, hz, fun v q => nomatch q⟩
    · exact ⟨_, hT, fun v q => nomatch q⟩
    · exact ⟨_, hR, fun v q => nomatch q⟩
    · exact ⟨o1, e1, fun v q => by rw [d1] at q; cases q⟩
    · exact ⟨o2, e2, fun v q => by rw [d2] at q; cases q⟩
  keep := fun n h h' st k => by
    obtain ⟨hz, hT, ⟨x, y, hR⟩, h1, h2⟩ := st
    exact ⟨k z (by simp) _ hz, k T (by simp) _ hT, ⟨x, y, k R (by simp) _ hR⟩, h1.at fun o q => k i (by simp) o q, h2.at fun o q => k j (by simp) o q⟩
  item := by
    intro X eP ew eK hc n pins s σ H E I hf st hg
    subst eP ew eK
    obtain ⟨hz, hT, ⟨x0, y0, hR⟩, h1, h2⟩ := st
    obtain ⟨xs, ys, x, y, qx, qy, hx, hy⟩ := hg
    obtain ⟨its, rv, p, _⟩ := I.tuple qx
    obtain ⟨its2, rv2, p2, _⟩ := I.list qy
    obtain ⟨u, hu, ru⟩ := rv.get hx
    obtain ⟨u2, hu2, ru2⟩ := rv2.get hy
    have lz : z < s.heap.objs.size := Heap.lt_size hz
    refine zw_next (wkT X.prog X.w) (wkL X.prog X.w) D hz hT hR h1 h2 p p2.isList (x := u) (y := u2) (by simpa using hu) (by simpa using hu2) fun h' z' R' h1' h2' hN hsz hk => ?_
    refine ⟨_, rfl, wpAny_letOwnedTupleGo_zip (s := { s with heap := h' }) z' fun h'' z'' sb => ?_⟩
    have hN2 : h''.get? s.heap.objs.size = some { cls := .type "tuple", data := .seq #[u, u2] } := (sb.2 _ (Nat.ne_of_gt lz)).trans hN
    have new : ObjOk X.prog X.w (upd H s.heap.objs.size (.tup [x, y])) h'' s.heap.objs.size (.tup [x, y]) := ⟨by show 2 ≤ sizeLine; decide, [u, u2], .cons ru (.cons ru2 .nil), ⟨_, hN2, rfl, _, rfl⟩⟩
    have I1 : Inv X pins σ (upd H s.heap.objs.size (.tup [x, y])) { s with heap := h'' } := I.turnedNew (t' := s.toks) (ch := [z, T, R, i, j])
      (fun c o hb q => (sb.2 c (fun r => hb (by simp [r]))).trans (hk c o (fun r => hb (by simp [r])) (fun r => hb (by simp [r])) (fun r => hb (by simp [r])) (fun r => hb (by simp [r])) q)) hf (Nat.le_refl _) new
    refine ⟨.ref s.heap.objs.size, _, I1, rfl, ⟨_, x, y, rfl, I.hok.fresh (Nat.le_refl _), rfl, fun l hl => by rw [I.tuple_inj hl qx]; exact hx, fun l hl => by rw [I.list_inj hl qy]; exact hy⟩, ⟨z'', ?_, ⟨u, u2, ?_⟩, ?_, ?_⟩, fun c hcm => ?_⟩
    · exact (sb.2 _ D.TIz).trans (hk _ _ D.TIz D.TITO D.TIi1 D.TIi2 hT)
    · exact (sb.2 _ D.TOz).trans R'
    · exact (wkT X.prog X.w).ita h1' fun o q => (sb.2 _ D.i1z).trans q
    · exact (wkL X.prog X.w).ita h2' fun o q => (sb.2 _ D.i2z).trans q
    · have lt : c < s.heap.objs.size := by
        have hc2 := hcm
        simp only [List.mem_cons, List.mem_nil_iff, or_false] at hc2
        rcases hc2 with rfl | rfl | rfl | rfl | rfl
        · exact lz
        · exact Heap.lt_size hT
        · exact Heap.lt_size hR
        · obtain ⟨_, e1, _⟩ := h1; exact Heap.lt_size e1
        · obtain ⟨_, e2, _⟩ := h2; exact Heap.lt_size e2
      rw [upd_ne (Nat.ne_of_lt lt)]
      exact (hf c hcm).1
  done := by
    intro X eP ew eK hc n pins s σ H E I hf st hg
    subst eP ew eK
    obtain ⟨hz, hT, ⟨x0, y0, hR⟩, h1, h2⟩ := st
    obtain ⟨xs, ys, qx, qy, hend⟩ := hg
    obtain ⟨its, rv, p, _⟩ := I.tuple qx
    obtain ⟨its2, rv2, p2, _⟩ := I.list qy
    have l1 := rv.length
    have l2 := rv2.length
    have he : its.toArray[n]? = none ∨ its2.toArray[n]? = none := by
      rcases hend with q | q
      · left; simp; omega
      · right; simp; omega
    exact zw_done (wkT X.prog X.w) (wkL X.prog X.w) (I.ok.hd hc) D hz hT hR h1 h2 p p2.isList he fun h' hk => ⟨rfl, I.turnedL (t' := s.toks) (ch := [z, T, R, i, j])
      (fun c o hb q => hk c o (fun r => hb (by simp [r])) (fun r => hb (by simp [r])) (fun r => hb (by simp [r])) (fun r => hb (by simp [r])) q) hf⟩
  self := fun A n s Q E st h => wpAny_pyIter_zip st.1 h
def iZipM (K : PySem.W.Frag) (ta : TA) : TI := fun σ H R => ta σ H fun vs H1 => ∃ a b xs ys, vs = [.ref a, .ref b] ∧ SqT K H1 a xs ∧ SqL K H1 b ys ∧ R (ItzM K a b) H1
theorem pi_zipM {X : Cx} {e e2 : Expr} {ta : TA} {p pos tpos : Pos} {elts : List Expr} {kk : Nat} (hg : Gl X "zip") (hm : X.mg "zip" = none) (ha : PA X [e, e2] ta)
    (hs : starEach [e, e2] X.env = (false, eval e X.env) :: starEach [e2] X.env := by rfl) (hpl : (backTo pos (starEach [e2] X.env)).any (·.1) = false := by rfl) : PI X (.Tuple elts kk tpos) (.Call (.Name "zip" p) [e, e2] [] pos) (iZipM X.K ta) := by
  refine ⟨fun pins s σ H R I w0 => ?_⟩
  refine Call_ (ld_blt I hg hm PyProof.Rows.boot_zip (PyProof.Rows.callWith_type1 (thn (ha.run pos pins s σ H _ I w0) fun us s1 ⟨vs, H1, I1, r1, q1⟩ => ?_) hs hpl))
  obtain ⟨a, b, xs, ys, ex, qx, qy, q⟩ := q1
  subst ex
  cases r1 with
  | cons r rr =>
    cases rr with
    | cons r' rr =>
      cases rr; cases r; cases r'
      obtain ⟨its, rv, p1, _⟩ := I1.tuple qx
      obtain ⟨its2, rv2, p2, _⟩ := I1.list qy
      obtain ⟨o1, ho1, _⟩ := id p1
      have fr : ∀ c, c ∈ [s1.heap.objs.size + 4, s1.heap.objs.size + 2, s1.heap.objs.size + 3, s1.heap.objs.size, s1.heap.objs.size + 1] → FpOk X pins H1 c := fun c hcm => by
        have e' : c = s1.heap.objs.size + 4 ∨ c = s1.heap.objs.size + 2 ∨ c = s1.heap.objs.size + 3 ∨ c = s1.heap.objs.size ∨ c = s1.heap.objs.size + 1 := by simpa using hcm
        have le : s1.heap.objs.size ≤ c := by
          rcases e' with c | c | c | c | c
          · rw [c]; exact Nat.le_add_right _ _
          · rw [c]; exact Nat.le_add_right _ _
          · rw [c]; exact Nat.le_add_right _ _
          · rw [c]; exact Nat.le_refl _
          · rw [c]; exact Nat.le_add_right _ _
        exact I1.fpOk le (I1.hok.fresh le)
      refine call_zipM (show s1.heap.IsTuple a its.toArray from p1) p2.isList fun h' hz hT hR h1 h2 hk => wpAny_pyIter_zip hz ?_
      have I2 : Inv X pins σ H1 { s1 with heap := h' } := I1.kept (t' := s1.toks) hk
      exact ⟨s1.heap.objs.size + 4, [s1.heap.objs.size + 4, s1.heap.objs.size + 2, s1.heap.objs.size + 3, s1.heap.objs.size, s1.heap.objs.size + 1], _, _, H1, rfl, I2, turn_zipM (PySem.W.ktu_apart s1.heap.objs.size a b (Heap.lt_size ho1) p2.lt), ⟨hz, hT, ⟨_, _, hR⟩, h1, h2⟩, fr, q⟩
/-- a comprehension over zip of a tuple and a list -/
theorem lc_zipM {K : PySem.W.Frag} {a b : Addr} {xs ys : List V} {g : TG} {tt : TT} {te : TE} {vs : List Nat} {σ : L2.St} {H1 : Hp} {D : Addr} {Qd : Hp → Prop} (hlen : xs.length ≤ ys.length) (Pv : Nat → Hp → Prop) (h0 : Pv 0 (upd H1 D (.lst []))) (hl : ∀ i H, Pv i H → SqT K H a xs ∧ SqL K H b ys)
    (hs : ∀ (i : Nat) (x y : V) (T : Addr) (H : Hp), xs[i]? = some x → ys[i]? = some y → Pv i H → H T = none → g (.ref T) (wipe σ vs) (upd H T (.tup [x, y])) fun σ2 H2 => wipe σ2 vs = wipe σ vs ∧ tt σ2 H2 fun b H3 =>
      if b = true then te σ2 H3 fun y H4 => ∃ acc, H4 D = some (.lst acc) ∧ acc.length < sizeLine ∧ Pv (i + 1) (upd H4 D (.lst (acc ++ [y]))) else Pv (i + 1) H3) (hd : ∀ H, Pv xs.length H → Qd H) :
    ∃ W : Nat → Nat → Hp → Prop, (∃ m, W 0 m (upd H1 D (.lst []))) ∧ ∀ i m H, W i m H → ((ItzM K a b).stop i H ∧ Qd H) ∨ ((ItzM K a b).go i H ∧ ∃ Nx : Hp → Prop, (∀ H', Nx H' → ∃ m', m' < m ∧ W (i + 1) m' H') ∧ ∀ x H', (ItzM K a b).yld i H x H' → g x (wipe σ vs) H' fun σ2 H2 => wipe σ2 vs = wipe σ vs ∧ tt σ2 H2 fun b H3 =>
        if b = true then te σ2 H3 fun y H4 => ∃ acc, H4 D = some (.lst acc) ∧ acc.length < sizeLine ∧ Nx (upd H4 D (.lst (acc ++ [y]))) else Nx H3) := by
  refine ⟨fun i m H => m = xs.length - i ∧ i ≤ xs.length ∧ Pv i H, ⟨xs.length, by omega, Nat.zero_le _, h0⟩, ?_⟩
  rintro i m H ⟨rfl, hi, p⟩
  obtain ⟨qx, qy⟩ := hl i H p
  by_cases c : i < xs.length
  · have hx : xs[i]? = some xs[i] := List.getElem?_eq_getElem c
    have hy : ys[i]? = some ys[i] := List.getElem?_eq_getElem (by omega)
    refine .inr ⟨⟨xs, ys, _, _, qx, qy, hx, hy⟩, Pv (i + 1), fun H' p' => ⟨xs.length - (i + 1), by omega, rfl, c, p'⟩, fun v H' yl => ?_⟩
    obtain ⟨T, x', y', rfl, hT, rfl, f1, f2⟩ := yl
    exact hs i x' y' T H (f1 xs qx) (f2 ys qy) p hT
  · have e : i = xs.length := by omega
    subst e
    exact .inl ⟨⟨xs, ys, qx, qy, .inl (Nat.le_refl _)⟩, hd H p⟩
end
/-! ### list.count over data -/
def rCntD (K : PySem.W.Frag) : V → List V → Hp → VK → Prop := fun x xs H Q => ∃ (p : Addr) (ys : List V) (ds : List PyData) (y : V) (d : PyData), x = .ref p ∧ xs = [y] ∧ SqL K H p ys ∧ DpAll K H ys ds ∧ Dp K H y d ∧ PyData.plainAll ds = true ∧ d.plain = true ∧ d.depth ≤ 10 ∧ Q (.int (ds.countP (fun e => PyData.eqv e d) : Nat)) H
theorem mt_dcount {X : Cx} (hu : X.A.units + 64 < cLine) : MtR X "list.count" (rCntD X.K) := by
  intro pins s σ H x xs v us Q I rx rxs h
  obtain ⟨p, ys, ds, y, d, rfl, rfl, hs, hd, hy, p1, p2, dl, q⟩ := h
  cases rx
  obtain ⟨u, rfl, ru⟩ := rxs.one
  obtain ⟨its, rv, hl, hlen⟩ := I.list hs
  obtain ⟨as, r1⟩ := Dp.readsAll I ds _ its hd rv
  obtain ⟨bs, r2⟩ := Dp.reads I d y u hy ru
  refine SeqAt.count_list_data hl.isList r1 r2 p1 p2 (by omega) ?_
  exact ⟨.int _, H, I.tok _, ⟨s.toks, rfl⟩, q⟩
theorem call_tupK {X : Cx} {K : PySem.W.Frag} (h : X.K = K) : CallR X (.type "tuple") (fun xs H Q => ∃ p ys, xs = [V.ref p] ∧ ((SqL K H p ys ∧ ∀ l : Addr, H l = none → Q (.ref l) (upd H l (.tup ys))) ∨ SqT K H p ys ∧ Q (.ref p) H)) := h ▸ call_tuple_of
/-! ### defs that may raise -/
/-- a def that may raise, called by its name -/
structure CalX (P : Program) (w : World) (K : PySem.W.Frag) (mg : Str → Option Value) (base : Heap) (x : Str) (k : Nat) (f : Addr) (ps : List Str) (sp : Sp) : Prop where
  ex : ∃ fd, FnOk P w K mg base (L2.CX P w) k f fd ps sp ∧ Binds K fd ps []
  g : mg x = some (.ref f)
  kp : PySem.W.keepIn K (.ref f) = true
theorem Dfn.calX {P : Program} {w : World} {K : PySem.W.Frag} {mg : Str → Option Value} {base : Heap} {x : Str} {st : Stmt} {f : Addr} {ps : List Str} {k : Nat} {sp : Sp} (D : Dfn K mg x st f ps) (h : ∀ fd, Fun K x x st f fd → FnOk P w K mg base (L2.CX P w) k f fd ps sp) : CalX P w K mg base x k f ps sp := by
  obtain ⟨fd, F, b⟩ := D.ex
  exact ⟨⟨fd, h fd F, b⟩, D.g, F.kp⟩
theorem pe_cX {X : Cx} {x : Str} {k : Nat} {f : Addr} {ps : List Str} {sp : Sp} {t : TA} {e : Expr} {es : List Expr} {p pos : Pos} {E : L2.St → XK} (c : CalX X.prog X.w X.K X.mg X.base x k f ps sp) (hr : Room k X.A) (hg : Gl X x) (hx : ∀ σ, L2.PassesAt (L2.CX X.prog X.w) X σ (E σ))
    (ha : PA X (e :: es) t) (hdb : (x == ("__debug__" : Str)) = false := by decide) (he : starEach (e :: es) X.env = (false, eval e X.env) :: starEach es X.env := by rfl) (hpl : (backTo pos (starEach es X.env)).any (·.1) = false := by rfl) :
    PE X (.Call (.Name x p) (e :: es) [] pos) (L2.tCallS sp E t) := by
  obtain ⟨fd, F, b⟩ := c.ex
  exact L2.pe_callS F hr hg c.g c.kp b hx ha hdb he hpl
/-- the making of an error with one field -/
def spEI1 (C : Addr) (f : Str) : Sp := fun vs H Q _ => ∃ a v, vs = [.ref a, v] ∧ H a = some (L2.exo a C none) ∧ ∀ dx, H dx = none → dx ≠ a → Q .non (upd (upd H dx (L2.exd dx [(f, v)])) a (L2.exo a C (some dx)))
theorem raise1 {C : Addr} {f : Str} {v : V} {H : Hp} {Q E : XK} (k : ∀ d H', H' d = some (.xd [(f, v)]) → Same H H' → Q (.ref C) (some d) H') : ∀ a, H a = none → spEI1 C f [.ref a, v] (upd H a (L2.exo a C none))
    (fun u H2 => u = .non ∧ ∃ (d : Addr) (fs : List (Str × V)), H2 a = some (L2.exo a C (some d)) ∧ H2 d = some (L2.exd d fs) ∧ H d = none ∧ Q (.ref C) (some d) (upd (L2.del H2 a) d (.xd fs))) E := fun a na => by
  refine ⟨a, v, rfl, upd_same, fun dx nx ne => ⟨rfl, dx, [(f, v)], upd_same, by rw [upd_ne ne, upd_same], by rwa [upd_ne ne] at nx, k dx _ upd_same fun b o e => ?_⟩⟩
  rw [upd_ne ne] at nx
  have ba : b ≠ a := ne_of_none e na
  have bd : b ≠ dx := ne_of_none e nx
  rw [upd_ne bd, L2.del_ne ba, upd_ne ba, upd_ne bd, upd_ne ba]
  exact e
/-- in a suite the term may not speak of the suite's own context -/
theorem ix_listK {X : Cx} {K : PySem.W.Frag} (hK : X.K = K) : IxR X (rIxL K) := by
  subst hK
  exact ix_list
theorem mt_dcountK {X : Cx} {K : PySem.W.Frag} (hK : X.K = K) (hu : X.A.units + 64 < cLine) : MtR X "list.count" (rCntD K) := by
  subst hK
  exact mt_dcount hu
/-! ### a suite that is told of any error of the text -/
def rIsZ (K : PySem.W.Frag) (a : Addr) (cls : Value) (d : Option Addr) : List V → Hp → VK → Prop := fun xs H Q => ∃ D dd : Addr, cls = .ref D ∧ d = some dd ∧ IsC K D ∧ rIsX K D a dd xs H Q
theorem call_isZ {X : Cx} {K : PySem.W.Frag} {a : Addr} {cls : Value} {d : Option Addr} {oe : Obj} {pn : List (Addr × Obj)} (hK : X.K = K) (hz : L2.Zc cls d oe) (hf : ∃ vs, oe.data = .fields vs) : CallR (X.suite a ((a, oe) :: pn)) (.builtin "isinstance") (rIsZ K a cls d) := by
  subst hK
  rintro pins s σ H xs us Q I r ⟨D, dd, rfl, rfl, T, h⟩
  exact call_isX T hz hf pins s σ H xs us Q I r h
def rIsTZ (K : PySem.W.Frag) (a : Addr) (cls : Value) (d : Option Addr) : List V → Hp → VK → Prop := fun xs H Q => ∃ D : Addr, IsC K D ∧ rIsT K D a cls d xs H Q
theorem call_isTZ {X : Cx} {K : PySem.W.Frag} {a : Addr} {cls : Value} {d : Option Addr} {oe : Obj} {pn : List (Addr × Obj)} (hK : X.K = K) (hz : L2.Zc cls d oe) (hf : ∃ vs, oe.data = .fields vs) : CallR (X.suite a ((a, oe) :: pn)) (.builtin "isinstance") (rIsTZ K a cls d) := by
  subst hK
  rintro pins s σ H xs us Q I r ⟨D, T, h⟩
  exact call_isT T hz hf pins s σ H xs us Q I r h
def tXfZ (K : PySem.W.Frag) (a : Addr) (cls : Value) (d : Option Addr) (f : Str) (te : TE) : TE := fun σ H Q => ∃ C : Addr, L2.XfC K C ∧ PySem.W.findIn K (.ref C) f = some none ∧ L2.tXf a cls d C f te σ H Q
theorem pe_xfZ {X : Cx} {K : PySem.W.Frag} {a : Addr} {oe : Obj} {cls : Value} {d : Option Addr} {pn : List (Addr × Obj)} {e : Expr} {te : TE} {pos : Pos} {n : Str} (hK : X.K = K) (hz : L2.Zc cls d oe) (hf : ∃ vs, oe.data = .fields vs) (he : PE (X.suite a ((a, oe) :: pn)) e te) (hb : attributeBase e n X.env (eval e X.env) = eval e X.env := by rfl) :
    PE (X.suite a ((a, oe) :: pn)) (.Attribute e n pos) (tXfZ K a cls d n te) := by
  subst hK
  refine ⟨fun pins s σ H Q I ⟨C, T, no, h⟩ => ?_⟩
  exact (L2.pe_xf T no hz hf he hb).run pins s σ H Q I h
/-- a method of a builtin, the term over a K of its own -/
theorem pe_bmK {X : Cx} {K : PySem.W.Frag} {o e : Expr} {es : List Expr} {to : TE} {t : TA} {name : Str} {apos cpos : Pos} {T id : String} {r : V → List V → Hp → VK → Prop} (hK : X.K = K) (pa : PlainAttrs T) (slot : Slot T name id) (hty : typeOf (.builtin id) = pure (.type "method_descriptor")) (hm : L2.MtR X id r) (ho : PE X o to) (ha : PA X (e :: es) t)
    (hbase : attributeBase o name X.env (eval o X.env) = eval o X.env := by rfl)
    (hfew : ((backTo cpos (starEach (e :: es) X.env)).all (fun x => !x.1) && (backToKw cpos (keywordEach [] X.env)).all (fun x => x.1.isSome) && decide ((e :: es).length + ([] : List Keyword).length + (if ([] : List Keyword).isEmpty then 0 else 1) < 30)) = true := by rfl)
    (hline : (apos.endLine == cpos.line) = true := by rfl) (hs : starEach (e :: es) X.env = (false, eval e X.env) :: starEach es X.env := by rfl) (hplain : (backTo cpos (starEach es X.env)).any (·.1) = false := by rfl) :
    PE X (.Call (.Attribute o name apos) (e :: es) [] cpos) (L2.tBM K T r to t) := by
  subst hK
  exact pe_bm pa slot hty hm ho ha hbase hfew hline hs hplain
theorem clsIn_of {K : PySem.W.Frag} {B : Addr} (h : PySem.W.hasDictIn K B = true) : (PySem.W.clsIn K B).isSome = true := by
  obtain ⟨cd, hc, _⟩ := PySem.W.any_some h
  rw [hc] <;> rfl
/-- whether the error D is a B -/
theorem kit_of {K : PySem.W.Frag} {D B : Addr} {b : Bool} (xB : L2.XfC K B) (tB : PySem.W.typeIn K (.ref B) = some (.type "type")) (sd : PySem.W.subIn K (.ref D) (.ref D) = some true) (s : PySem.W.subIn K (.ref D) (.ref B) = some b) : PySem.W.kitOne K (.ref D) (.ref B) = some b := by
  unfold PySem.W.kitOne
  by_cases e : D = B
  · subst e
    rw [sd] at s
    rw [if_pos (beq_self_eq_true _)]
    exact s
  · rw [if_neg (by simpa using e)]
    have e2 : ((PySem.W.clsIn K B).isSome && PySem.W.typeIn K (.ref B) == some (.type "type")) = true := by rw [clsIn_of xB.hdC, tB] <;> rfl
    show (if ((PySem.W.clsIn K B).isSome && PySem.W.typeIn K (.ref B) == some (.type "type")) = true then PySem.W.subIn K (.ref D) (.ref B) else none) = some b
    rw [if_pos e2]
    exact s
theorem kit_ar {K : PySem.W.Frag} {D : Addr} {b : Bool} {x : String} (hm : PySem.W.kitMeta x = true) (s : PySem.W.subIn K (.ref D) (.type x) = some b) : PySem.W.kitOne K (.ref D) (.type x) = some b := by
  unfold PySem.W.kitOne
  rw [if_neg (by intro z; exact absurd (beq_iff_eq.mp z) (by intro q; cases q))]
  show (if PySem.W.kitMeta x = true then PySem.W.subIn K (.ref D) (.type x) else none) = some b
  rw [if_pos hm]
  exact s
/-- the text of repr, of what has a plain one -/
inductive ReprV : V → Str → Prop
  | int (i : Int) (h : i.natAbs.log2 < 1920) : ReprV (.int i) (toString i : String)
  | non : ReprV .non "None"
  | bl (b : Bool) : ReprV (.bl b) (if b then "True" else "False")
  | str (x : Str) (h : (reprText x).length ≤ sizeLine) : ReprV (.str x) (reprText x)
theorem call_reprP {X : Cx} : CallR X (.builtin "repr") (fun xs H Q => ∃ v s, xs = [v] ∧ ReprV v s ∧ Q (.str s) H) := by
  rintro pins s σ H xs us Q I r ⟨v, x, rfl, h, q⟩
  match us, r with
  | [_], .cons rx .nil =>
    cases h with
    | int i h =>
      obtain ⟨t, rfl⟩ := rx
      exact PySem.P.repr_of_int h ⟨.str _, H, I.tok _, ⟨_, rfl⟩, q⟩
    | non =>
      cases rx
      exact PySem.P.repr_of_none ⟨.str _, H, I.tok _, ⟨_, rfl⟩, q⟩
    | bl b =>
      cases rx
      cases b <;> exact PySem.P.repr_of_bool ⟨.str _, H, I.tok _, ⟨_, rfl⟩, q⟩
    | str x h =>
      obtain ⟨t, rfl⟩ := rx
      exact PySem.P.repr_of_str ⟨.str _, H, I.tok _, ⟨_, rfl⟩, q⟩ h
theorem exm_of {K : PySem.W.Frag} {D B : Addr} {b : Bool} (xB : L2.XfC K B) (tB : PySem.W.typeIn K (.ref B) = some (.type "type")) (s : PySem.W.subIn K (.ref D) (.ref B) = some b) : PySem.W.exmOne K (.ref D) (.ref B) = some b := by
  unfold PySem.W.exmOne
  rw [if_pos (by rw [xB.exC] <;> rfl)]
  have e2 : ((PySem.W.clsIn K B).isSome && PySem.W.typeIn K (.ref B) == some (.type "type")) = true := by rw [clsIn_of xB.hdC, tB] <;> rfl
  show (if ((PySem.W.clsIn K B).isSome && PySem.W.typeIn K (.ref B) == some (.type "type")) = true then PySem.W.subIn K (.ref D) (.ref B) else none) = some b
  rw [if_pos e2]
  exact s
/-! ### defs in which lambdas are made -/
theorem DfnT.cal {P : Program} {w : World} {K : PySem.W.Frag} {mg : Str → Option Value} {base : Heap} {x : Str} {st : Stmt} {f c : Addr} {ps : List Str} {k : Nat} {sp : Sp} (D : DfnT K mg x st f c ps) (h : ∀ fd, FunT K x x st f c fd → FnOk P w K mg base CX0 k f fd ps sp) : Cal P w K mg base x k f ps sp := by
  obtain ⟨fd, F, b⟩ := D.ex
  exact ⟨⟨fd, h fd F, b⟩, D.g, F.kp⟩
/-- x(lambda: body), x a def of the text -/
theorem pe_lamc {X : Cx} {T : List (Addr × Str)} {TT : (XK → Hp → VK → Prop) → Hp → VK → Prop} {x a : Str} {g c P : Addr} {k : Nat} {st : Stmt} {Ng : List Str} {params : Arguments} {body : Expr} {scope : Scope} {t : XK → TE} {p lpos pos : Pos} (D : Dfn X.K X.mg x st g [a]) (Sg : FnScope Ng [a] (defScope st)) (hNg : Ng[0]? = some a) (hva : L2.Vis (defScope st) a)
    (hG : ∀ cdv : Value, LamX.GivesTo X Ng x (defScope st) g cdv (defBody st) a (X.env.qual ++ "<lambda>") TT) (TB : LamX.TabB X.base X.mg c P) (hcode : X.env.code = .ref c) (hmT : (P, X.env.qual ++ "<lambda>") ∈ T) (hu : ∀ p ∈ T, p.1 = P → p.2 = X.env.qual ++ "<lambda>") (hr : Room (k + 2) X.A) (Ls : LamX.LamS X.env.scope scope) (hdef : defaultsOf params X.env = ([], []))
    (hbind : ∀ (q : Str) (cl : List (Str × Addr)) (pm cv ctv : Value), bindArgs (PySem.W.kla_fn "<lambda>" q params body scope cl pm cv ctv) ⟨[], []⟩ = pure [])
    (hbody : ∀ (A : Around) (outer : List Env) (s : Shared) (H : Hp) (E : XK) (f c' : Addr), Room k (A.deeper (LamX.lamEnv X scope s.heap.objs.size f c')) → PE (LamX.lamCx X A outer s H E scope f c') body (t E))
    (hg : Gl X x := by rfl) (hdb : (x == ("__debug__" : Str)) = false := by decide) (hd : (a == ("__debug__" : Str)) = false := by decide) (hcd : (a == ("__classdict__" : Str)) = false := by decide) :
    PE X (.Call (.Name x p) [.Lambda params body scope lpos] [] pos) (LamX.tLam T TT t) := by
  obtain ⟨fd, F, b⟩ := D.ex
  obtain ⟨oc, od, kV, doc, pm, an, cdv, ct, osl, rfl, lk, hc⟩ := F.ex
  exact LamX.pe_lamcall hg D.g F.kp lk hc b Sg hNg hva (hG cdv) TB hcode hmT hu hr Ls hdef hbind hbody hdb hd hcd
/-- what stays of a heap over calls that make lambdas -/
theorem ExtN.lst {H H' : Hp} (e : LamX.ExtN H H') {a : Addr} {xs : List V} (h : H a = some (.lst xs)) : H' a = some (.lst xs) := e _ _ h fun _ z => nomatch z
theorem mk_dfnT {K : PySem.W.Frag} {h : Heap} {mg : Str → Option Value} {x : Str} {st : Stmt} {f c : Addr} {oc : Value} {od an : Option Addr} {osl : Array (Option Value)} {kV doc pm ct : Value} {ps : List Str} (X : K.In h) (G : h.Ns mainGlobals mg) (g : PySem.W.nsIn K mainGlobals x = some (some (.ref f)))
    (l : K.lookup f = some ⟨oc, od, .func (PySem.W.fnOf x x (defArgs st) (defBody st) (defScope st) .none kV doc pm an (.ref c) ct), osl⟩) (cd : PySem.W.codeIn K (.ref c) x = true) (k : PySem.W.keepIn K (.ref f) = true)
    (hb : ∀ (kV doc pm : Value) (an : Option Addr) (cdv ct : Value) (us : List Value), us.length = ps.length → bindArgs (PySem.W.fnOf x x (defArgs st) (defBody st) (defScope st) .none kV doc pm an cdv ct) ⟨us, []⟩ = pure (ps.zip us)) : DfnT K mg x st f c ps :=
  ⟨⟨_, ⟨⟨oc, od, kV, doc, pm, an, ct, osl, rfl, l, cd⟩, k⟩, .all (hb kV doc pm an (.ref c) ct)⟩, PySem.W.mg_of X G g⟩
/-- what the end knows of a table and its code object -/
def TabE (K : PySem.W.Frag) (h : Heap) (c P : Addr) : Prop := h.get? P = some { cls := .none, data := .fields #[] } ∧ PySem.W.codeHdIn K c P = true ∧ K.lookup P = none
theorem tabE_of {K : PySem.W.Frag} {h : Heap} {c P : Addr} (h1 : h.get? P = some (PySem.W.tabObj #[])) (h2 : PySem.W.codeHdIn K c P = true) (h3 : K.lookup P = none) : TabE K h c P := ⟨h1, h2, h3⟩
/-! ### a op b op c op d, asked as a test -/
def tFour (r r2 r3 : R2) (ta tb tc td : TE) : TT := fun σ H Q => ta σ H fun x H1 => tb σ H1 fun y H2 => r x y H2 fun z H3 => ∃ k : Bool, z = .bl k ∧
  if k = true then (tc σ H3 fun y2 H4 => r2 y y2 H4 fun z2 H5 => ∃ k2 : Bool, z2 = .bl k2 ∧ if k2 = true then (td σ H5 fun y3 H6 => r3 y2 y3 H6 fun z3 H7 => ∃ k3 : Bool, z3 = .bl k3 ∧ Q k3 H7) else Q false H5) else Q false H3
theorem pt_four {X : Cx} {a b c d : Expr} {ta tb tc td : TE} {pos : Pos} {o1 o2 o3 : CmpOp} {r r2 r3 : R2} (h1 : OpR X (compareOp o1) r) (h2 : OpR X (compareOp o2) r2) (h3 : OpR X (compareOp o3) r3) (ha : PE X a ta) (hb : PE X b tb) (hc : PE X c tc) (hd : PE X d td)
    (hm : lastMarks [o1, o2, o3] [b, c, d] = false := by with_unfolding_all rfl) : PT X (.Compare a [o1, o2, o3] [b, c, d] pos) (tFour r r2 r3 ta tb tc td) := by
  constructor
  intro pins s0 σ H Q I0 w0
  refine PyProof.Rows.isTrue_chain ?_ hm
  refine thn (ha.run pins s0 σ H _ I0 w0) ?_
  rintro v sa ⟨x, Ha, Ia, rx, wa⟩
  refine PyProof.Rows.test_link ?_
  refine thn (hb.run pins sa σ Ha _ Ia wa) ?_
  rintro u sb ⟨y, Hb, Ib, ry, wb⟩
  refine thn (h1 pins sb σ Hb x y v u _ Ib rx ry wb) ?_
  rintro e1 sc ⟨z, Hc, Ic, rz, k, rfl, wc⟩
  cases rz
  refine wpAny_truthy_bool ?_
  cases k with
  | false => exact iteF ⟨Hc, Ic, wc⟩
  | true =>
    refine iteT (PyProof.Rows.test_link ?_)
    refine thn (hc.run pins sc σ Hc _ Ic wc) ?_
    rintro u2 sd ⟨y2, Hd, Id, ry2, wd⟩
    refine thn (h2 pins sd σ Hd y y2 u u2 _ Id ry ry2 wd) ?_
    rintro e2 se ⟨z2, He, Ie, rz2, k2, rfl, we⟩
    cases rz2
    refine wpAny_truthy_bool ?_
    cases k2 with
    | false => exact iteF ⟨He, Ie, we⟩
    | true =>
      refine iteT (PyProof.Rows.test_last ?_)
      refine thn (hd.run pins se σ He _ Ie we) ?_
      rintro u3 sf ⟨y3, Hf, If, ry3, wf⟩
      refine thn (h3 pins sf σ Hf y2 y3 u2 u3 _ If ry2 ry3 wf) ?_
      rintro e3 sg ⟨z3, Hg, Ig, rz3, k3, rfl, wg⟩
      cases rz3
      exact wpAny_truthy_bool ⟨Hg, Ig, wg⟩
/-! ### k49: periods refused -/
section
variable {P : Program} {w : World} {K : PySem.W.Frag} {mg : Str → Option Value} {base : Heap} {L : LA}
abbrev N_InvalidLoginit : List Str := ["self", "at"]
theorem sc_InvalidLoginit : FnScope N_InvalidLoginit ["self", "at"] (defScope st_InvalidLog_init) := ⟨rfl, rfl, rfl, by decide +kernel, rfl, by decide +kernel, by decide +kernel⟩
theorem fn_InvalidLoginit (T : LX K mg L) {fd : FuncData} (F : Fun K "__init__" "InvalidLog.__init__" st_InvalidLog_init L.i_InvalidLog fd) : FnOk P w K mg base CX0 1 L.i_InvalidLog fd ["self", "at"] (spEI1 L.e_InvalidLog "at") := by
  have nd := sc_InvalidLoginit.nd
  refine F.ok sc_InvalidLoginit (fun vs H Q E h => ?_) (fun cdv A outer S H vs Q E hr h => ?_)
  · obtain ⟨a, v, rfl, _⟩ := h
    rfl
  · obtain ⟨a, v, rfl, ha, k⟩ := h
    refine ⟨_, (pss_one (ps_ae (pv 0) (pv 1))), ?_⟩
    exact ⟨_, rfl, _, rfl, a, L.e_InvalidLog, rfl, T.ae_InvalidLog, T.ne_InvalidLog_at, .inl ⟨ha, fun dx nx ne => k dx nx ne⟩⟩
end
theorem mk_InvalidLog {X : Cx} {L : LA} (T : LX X.K X.mg L) (hr : Room 2 X.A) {e : Expr} {ta : TA} {p pos : Pos} (hg : Gl X "InvalidLog") (ha : PA X [e] ta)
    (he : starEach (e :: []) X.env = (false, eval e X.env) :: starEach [] X.env := by rfl) (hpl : (backTo pos (starEach [] X.env)).any (·.1) = false := by rfl) :
    L2.PMk X (.Call (.Name "InvalidLog" p) [e] [] pos) (L2.tMkO L.e_InvalidLog (spEI1 L.e_InvalidLog "at") [] ta) := by
  obtain ⟨fd, F, b⟩ := T.in_InvalidLog
  exact pmk_ae T.ae_InvalidLog T.hi_InvalidLog T.ti_InvalidLog (fn_InvalidLoginit T F) hr b .nil pass0 hg T.ge_InvalidLog ha (by decide) he hpl
def mt30 : Int := 1000000000000000000000000000000
/-- the item at i is as it must be -/
def okAt (ns : List Int) : Nat → Prop
  | 0 => ∃ p, ns[0]? = some p ∧ 1 ≤ p ∧ p ≤ mt30
  | i + 1 => ∃ c p, ns[i]? = some c ∧ ns[i + 1]? = some p ∧ c ≤ p ∧ p ≤ c + mt30 - 1 ∧ p % c = 0
theorem okAt_pos {ns : List Int} : ∀ {j : Nat} {c : Int}, (∀ i, i ≤ j → okAt ns i) → ns[j]? = some c → 1 ≤ c
  | 0, c, h, e => by
    obtain ⟨p, hp, h1, _⟩ := h 0 (Nat.le_refl _)
    rw [e] at hp
    cases hp
    exact h1
  | j + 1, c, h, e => by
    obtain ⟨b, p, hb, hp, h1, _⟩ := h (j + 1) (Nat.le_refl _)
    rw [e] at hp
    cases hp
    have := okAt_pos (j := j) (fun i hi => h i (by omega)) hb
    omega
def spChkP (C : Addr) : Sp := fun vs H Q E => ∃ a ns, vs = [.ref a] ∧ H a = some (.lst (ns.map V.int)) ∧ 1 ≤ ns.length ∧ ns.length ≤ 13 ∧
  ((∀ i, i < ns.length → okAt ns i) → Q .non H) ∧ (∀ i, i < ns.length → (∀ j, j < i → okAt ns j) → ¬ okAt ns i → ∀ d H', H' d = some (.xd [("at", .int (i : Nat))]) → Same H H' → E (.ref C) (some d) H')
section
variable {P : Program} {w : World} {K : PySem.W.Frag} {mg : Str → Option Value} {base : Heap} {L : LA}
abbrev N_checkperiods : List Str := ["period_list", "at", "coming", "period"]
theorem sc_checkperiods : FnScope N_checkperiods ["period_list"] (defScope st_check_periods) := ⟨rfl, rfl, rfl, by decide +kernel, rfl, by decide +kernel, by decide +kernel⟩
theorem fn_checkperiods (T : LX K mg L) {fd : FuncData} (F : Fun K "check_periods" "check_periods" st_check_periods L.f_check_periods fd) : FnOk P w K mg base (L2.CX P w) 3 L.f_check_periods fd ["period_list"] (spChkP L.e_InvalidLog) := by
  have G_iswithin := ok_iswithin (P := P) (w := w) (base := base) T
  obtain ⟨tk_MOST_TIME, c_MOST_TIME⟩ := T.n_MOST_TIME
  obtain ⟨tk_MOST_BREAKERS, c_MOST_BREAKERS⟩ := T.n_MOST_BREAKERS
  have nd := sc_checkperiods.nd
  refine F.okX sc_checkperiods (fun vs H Q E h => ?_) (fun cdv A outer S H vs Q E hr h => ?_)
  · obtain ⟨a, ns, rfl, _⟩ := h
    rfl
  · obtain ⟨a, ns, rfl, ha, l1, l13, kok, kbad⟩ := h
    refine ⟨_, (pss_cons (ps_if (PW.pt (pw_or (pt_not (pt_val (pe_callB call_isi (by rfl) T.b_isinstance (by decide +kernel) (pa_cons (pv 0) (pa_cons (pe_bltn (by rfl) T.b_list (by decide +kernel : bootBuiltins "list" = some (.type "list")) (v := .ty "list") rfl) pa_nil))))) (pw_or1 (pt_not (pt_chain op_le op_le pe_int (pe_callB call_len_seq (by rfl) T.b_len PySem.boot_len (pa_cons (pv 0) pa_nil)) (pe_op op_add (pe_gI c_MOST_BREAKERS) pe_int)))))) (pss_one (ps_raise rfl (takes_of rfl rfl rfl rfl) (mk_InvalidLog T (hr.mono (by decide)) rfl (pa_cons (pe_un un_neg pe_int) pa_nil)))) pss_nil)
       (pss_cons (ps_if (pt_not (pt_val (pe_c G_iswithin (hr.mono (by decide)) rfl (pa_cons (pe_ix (r := rIxL K) ix_list (pv 0) pe_int (fun _ _ => rfl)) (pa_cons pe_int (pa_cons (pe_gI c_MOST_TIME) pa_nil)))))) (pss_one (ps_raise rfl (takes_of rfl rfl rfl rfl) (mk_InvalidLog T (hr.mono (by decide)) rfl (pa_cons pe_int pa_nil)))) pss_nil)
       (pss_one (ps_for (passes_of rfl) rfl (pi_range2 rfl T.b_range (pa_cons pe_int (pa_cons (pe_callB call_len_seq (by rfl) T.b_len PySem.boot_len (pa_cons (pv 0) pa_nil)) pa_nil))) (pg_name (i := 1) nd rfl (Or.inl rfl)) (pss_cons (ps_set (i := 2) nd rfl (Or.inl rfl) (pe_ix (r := rIxL K) ix_list (pv 0) (pe_op op_sub (pv 1) pe_int) (fun _ _ => rfl)))
       (pss_cons (ps_set (i := 3) nd rfl (Or.inl rfl) (pe_ix (r := rIxL K) ix_list (pv 0) (pv 1) (fun _ _ => rfl)))
       (pss_one (ps_if (PW.pt (pw_or (pt_not (pt_val (pe_c G_iswithin (hr.mono (by decide)) rfl (pa_cons (pv 3) (pa_cons (pv 2) (pa_cons (pe_op op_sub (pe_op op_add (pv 2) (pe_gI c_MOST_TIME)) pe_int) pa_nil)))))) (pw_or1 (pt_cmpR op_ne (pe_op op_mod (pv 3) (pv 2)) pe_int (nomark _))))) (pss_one (ps_raise rfl (takes_of rfl rfl rfl rfl) (mk_InvalidLog T (hr.mono (by decide)) rfl (pa_cons (pv 1) pa_nil)))) pss_nil)))))))), ?_⟩
    have at0 : ∃ p, ns[0]? = some p := ⟨_, List.getElem?_eq_getElem (by omega)⟩
    obtain ⟨p0, hp0⟩ := at0
    refine ⟨_, rfl, _, .ty "list", _, _, _, rfl, .ty "list", (Kd.lst ha).ty, (Kd.lst ha).kit "list" _ (.inr ⟨by decide, by decide, rfl⟩), _, rfl, iteF ?_⟩
    refine ⟨_, rfl, a, _, rfl, .inl (SqL.of ha), _, _, rfl, rfl, _, rfl, ?_⟩
    rw [List.length_map]
    rw [decide_eq_true (show (1 : Int) ≤ (ns.length : Nat) by omega)]
    refine iteT ⟨_, _, rfl, rfl, _, _, rfl, rfl, _, rfl, ite2 (fun c => absurd c (by simp; omega)) (fun _ => ?_)⟩
    have atv : ∀ {i : Nat} {x : Int} {H' : Hp}, ns[i]? = some x → H' a = some (.lst (ns.map V.int)) → ∃ v, v = V.int x ∧ SqL K H' a (ns.map V.int) ∧ atI (ns.map V.int) (i : Int) = some v := fun {i x H'} e h => ⟨_, rfl, SqL.of h, atI_nat (by rw [List.getElem?_map, e]; rfl)⟩
    obtain ⟨_, rfl, q1, q2⟩ := atv hp0 ha
    refine ⟨_, rfl, a, _, 0, .int p0, rfl, rfl, q1, q2, .int p0, _, _, _, rfl, Kd.int p0, _, rfl, ?_⟩
    refine ite2 (fun c => ?_) (fun c => ?_)
    · have bad : ¬ okAt ns 0 := fun ⟨p, e, h1, h2⟩ => by
        rw [hp0] at e
        cases e
        simp [isI, toI] at c
        unfold mt30 at h2
        rcases c with c | c
        · exact of_decide_eq_false c h1
        · exact of_decide_eq_false c h2
      exact ⟨by decide, fun e he => raise1 (kbad 0 (by omega) (fun j h => absurd h (Nat.not_lt_zero _)) bad) e he⟩
    have ok0 : okAt ns 0 := by
      have : 1 ≤ p0 ∧ p0 ≤ mt30 := Classical.byContradiction fun h => c (by
        simp [isI, toI]
        by_cases h1 : 1 ≤ p0
        · refine .inr (decide_eq_false fun h2 => h ⟨h1, h2⟩)
        · exact .inl (decide_eq_false h1))
      exact ⟨p0, hp0, this⟩
    refine ⟨_, rfl, a, _, rfl, .inl (SqL.of ha), 1, _, rfl, ⟨by decide, by decide, by omega, by rw [List.length_map]; omega⟩, ?_⟩
    refine for_range (lo := 1) (n := ((((ns.map V.int).length : Nat) : Int) - 1).toNat) (fun j σ Hx => ∃ v1 v2 v3 : Option V, σ = [some (.ref a), v1, v2, v3] ∧ Hx = H ∧ ∀ i, i ≤ j → okAt ns i) ⟨none, none, none, rfl, rfl, fun i hi => by rw [Nat.le_zero.mp hi]; exact ok0⟩ ?_ ?_
    · rintro j σ Hx hj ⟨v1, v2, v3, rfl, rfl, hok⟩
      rw [List.length_map] at hj
      obtain ⟨c, hc⟩ : ∃ c, ns[j]? = some c := ⟨_, List.getElem?_eq_getElem (by omega)⟩
      obtain ⟨p, hp⟩ : ∃ p, ns[j + 1]? = some p := ⟨_, List.getElem?_eq_getElem (by omega)⟩
      have c1 := okAt_pos hok hc
      obtain ⟨_, rfl, q1, q2⟩ := atv hc ha
      obtain ⟨_, rfl, q3, q4⟩ := atv hp ha
      have e1 : (1 : Int) + ((j : Nat) : Int) = ((j + 1 : Nat) : Int) := by omega
      refine ⟨_, rfl, _, rfl, _, _, rfl, rfl, a, _, ((j : Nat) : Int), .int c, rfl, congrArg V.int (by omega), q1, q2, ?_⟩
      refine ⟨_, rfl, _, rfl, a, _, ((j + 1 : Nat) : Int), .int p, rfl, congrArg V.int e1, q3, q4, ?_⟩
      refine ⟨_, rfl, _, rfl, _, rfl, _, _, rfl, rfl, _, _, rfl, rfl, .int p, _, _, _, rfl, Kd.int p, _, rfl, ?_⟩
      have bad : ∀ (h : ¬ (c ≤ p ∧ p ≤ c + mt30 - 1 ∧ p % c = 0)), ¬ okAt ns (j + 1) := fun h ⟨c', p', ec, ep, z⟩ => by
        rw [hc] at ec
        rw [hp] at ep
        cases ec
        cases ep
        exact h z
      have hk := kbad (j + 1) (by omega) (fun i hi => hok i (by omega))
      refine ite2 (fun w => ?_) (fun w => ?_)
      · have h : ¬ (c ≤ p ∧ p ≤ c + mt30 - 1 ∧ p % c = 0) := fun ⟨h1, h2, _⟩ => by
          unfold mt30 at h2
          simp [isI, toI] at w
          rcases w with w | w
          · exact of_decide_eq_false w h1
          · exact of_decide_eq_false w h2
        refine iteT ⟨_, rfl, (by show 1 ≤ 1000; decide), fun e he => ?_⟩
        show spEI1 _ _ [.ref e, .int (1 + ((j : Nat) : Int))] _ _ _
        rw [e1]
        exact raise1 (hk (bad h)) e he
      · have h12 : c ≤ p ∧ p ≤ c + mt30 - 1 := Classical.byContradiction fun h => w (by
          simp [isI, toI]
          by_cases h1 : c ≤ p
          · exact .inr (decide_eq_false fun h2 => h ⟨h1, h2⟩)
          · exact .inl (decide_eq_false h1))
        refine ⟨_, rfl, _, rfl, _, _, rfl, rfl, by omega, rfl, _, rfl, ite2 (fun u => ?_) (fun u => ?_)⟩
        · have h : ¬ (c ≤ p ∧ p ≤ c + mt30 - 1 ∧ p % c = 0) := fun ⟨_, _, h3⟩ => by simp [h3] at u
          refine ⟨_, rfl, (by show 1 ≤ 1000; decide), fun e he => ?_⟩
          show spEI1 _ _ [.ref e, .int (1 + ((j : Nat) : Int))] _ _ _
          rw [e1]
          exact raise1 (hk (bad h)) e he
        · have h3 : p % c = 0 := by simpa using u
          refine ⟨_, _, _, rfl, rfl, fun i hi => ?_⟩
          by_cases q : i ≤ j
          · exact hok i q
          · have : i = j + 1 := by omega
            subst this
            exact ⟨c, p, hc, hp, h12.1, h12.2, h3⟩
    · rintro σ Hx ⟨v1, v2, v3, rfl, rfl, hok⟩
      rw [List.length_map] at hok
      exact kok fun i hi => hok i (by omega)
theorem ok_checkperiods (T : LX K mg L) : CalX P w K mg base "check_periods" 3 L.f_check_periods ["period_list"] (spChkP L.e_InvalidLog) := T.d_check_periods.calX fun fd F => fn_checkperiods T F
end
/-! ### the waits that a breaker can have -/
def PrW (H : Hp) (xs : List V) (ps : List (Int × Int)) : Prop := Paired (fun x o => ∃ c, x = .ref c ∧ H c = some (.tup [.int o.1, .int o.2])) xs ps
theorem PrW.nl {H H' : Hp} (k : NL H H') {xs : List V} {ps : List (Int × Int)} (h : PrW H xs ps) : PrW H' xs ps := L2.Paired.mapP h fun _ _ ⟨c, e, z⟩ => ⟨c, e, k _ _ z fun _ q => nomatch q⟩
theorem cut_dr (xs : List V) (k : Nat) (h : k ≤ xs.length) : cutV xs (some (k : Int)) none = xs.drop k := by
  unfold cutV
  rw [HT.sIx_nat, HT.sIx_none, Nat.min_eq_left h, List.take_of_length_le (by rw [List.length_drop]; exact Nat.le_refl _)]
def wtG (ns : List Int) : List (Int × Int) := List.zipWith (fun c p => (p - c + 1, if mt30 < p then mt30 else p)) ns (ns.drop 1)
def spWaits (C : Addr) : Sp := fun vs H Q E => ∃ a ns, vs = [.ref a] ∧ H a = some (.lst (ns.map V.int)) ∧ 1 ≤ ns.length ∧ ns.length ≤ 13 ∧
  ((∀ i, i < ns.length → okAt ns i) → ∀ l xs H', H' l = some (.lst xs) → PrW H' xs (wtG ns) → Same H H' → H l = none → Q (.ref l) H') ∧ (∀ i, i < ns.length → (∀ j, j < i → okAt ns j) → ¬ okAt ns i → ∀ d H', H' d = some (.xd [("at", .int (i : Nat))]) → Same H H' → E (.ref C) (some d) H')
section
variable {P : Program} {w : World} {K : PySem.W.Frag} {mg : Str → Option Value} {base : Heap} {L : LA}
abbrev N_waitsof : List Str := ["period_list", "coming", "period"]
theorem sc_waitsof : FnScope N_waitsof ["period_list"] (defScope st_waits_of) := ⟨rfl, rfl, rfl, by decide +kernel, rfl, by decide +kernel, by decide +kernel⟩
theorem fn_waitsof (T : LX K mg L) {fd : FuncData} (F : Fun K "waits_of" "waits_of" st_waits_of L.f_waits_of fd) : FnOk P w K mg base (L2.CX P w) 4 L.f_waits_of fd ["period_list"] (spWaits L.e_InvalidLog) := by
  have G_checkperiods := ok_checkperiods (P := P) (w := w) (base := base) T
  obtain ⟨tk_MOST_TIME, c_MOST_TIME⟩ := T.n_MOST_TIME
  have nd := sc_waitsof.nd
  refine F.okX sc_waitsof (fun vs H Q E h => ?_) (fun cdv A outer S H vs Q E hr h => ?_)
  · obtain ⟨a, ns, rfl, _⟩ := h
    rfl
  · obtain ⟨a, ns, rfl, ha, l1, l13, kok, kbad⟩ := h
    refine ⟨_, (pss_cons (ps_expr (pe_cX G_checkperiods (hr.mono (by decide)) rfl (fun σ => passAt (takes_of rfl rfl rfl rfl) σ) (pa_cons (pv 0) pa_nil)))
       (pss_one (ps_ret (pe_lc (own := [("coming", 1), ("period", 2)]) (g := gTup K 2 (gCons (gName 1) (gCons (gName 2) (gNil)))) (tt := tYes) rfl nd (pi_zip (by rfl) T.b_zip (pa_cons (pv 0) (pa_cons (pe_slice (r := rSlL K) sl_list (pv 0) (po_some pe_int) po_none) pa_nil))) (blkOk_by (own := [("coming", 1), ("period", 2)]) (N := N_waitsof) (sc := defScope st_waits_of) (by decide +kernel)) (fun _ _ _ _ _ => pg_tup rfl (pgs_cons (pg_name (i := 1) nd rfl (Or.inl rfl)) (pgs_cons (pg_name (i := 2) nd rfl (Or.inl rfl)) pgs_nil))) (fun _ _ _ _ _ => pts_nil) (fun _ _ _ _ _ => (pe_tup (pa_cons (pe_op op_add (pe_op op_sub (pv 2) (pv 1)) pe_int) (pa_cons (pe_callB (call_min2 rfl) (by rfl) T.b_min (by decide +kernel) (pa_cons (pv 2) (pa_cons (pe_gI c_MOST_TIME) pa_nil))) pa_nil)))))))), ?_⟩
    refine ⟨_, rfl, a, ns, rfl, ha, l1, l13, fun hok => ?_, fun i hi hj hb d H' hd s => kbad i hi hj hb d H' hd s⟩
    have kok := kok hok
    refine ⟨_, rfl, _, rfl, 1, rfl, a, _, rfl, SqL.of ha, fun l2 nl2 => ?_⟩
    rw [show cutV (ns.map V.int) (some 1) none = (ns.drop 1).map V.int from by rw [show (some (1 : Int)) = some ((1 : Nat) : Int) from rfl, cut_dr _ _ (by rw [List.length_map]; omega), List.map_drop]]
    have s1 := Same.upd (o := .lst ((ns.drop 1).map V.int)) nl2
    refine ⟨a, l2, _, _, rfl, SqL.of (s1 _ _ ha), SqL.of upd_same, fun D nD => ?_⟩
    refine lc_zip (K := K) (a := a) (b := l2) (xs := ns.map V.int) (ys := (ns.drop 1).map V.int) (by rw [List.length_map, List.length_map, List.length_drop]; omega) (fun j Hy => ∃ ws, Hy D = some (.lst ws) ∧ PrW Hy ws ((wtG ns).take j) ∧ Same (upd H l2 (.lst ((ns.drop 1).map V.int))) Hy)
      ⟨[], upd_same, .nil, Same.upd nD⟩ (fun j Hy ⟨_, _, _, sy⟩ => ⟨SqL.of (sy _ _ (s1 _ _ ha)), SqL.of (sy _ _ upd_same)⟩) ?_ ?_
    · rintro j x y T' Hy hx hy ⟨ws, hws, hz, sy⟩ hT
      rw [List.getElem?_map] at hx hy
      obtain ⟨c, hc, rfl⟩ := Option.map_eq_some_iff.mp hx
      obtain ⟨p, hp, rfl⟩ := Option.map_eq_some_iff.mp hy
      have sT := Same.upd (o := .tup [.int c, .int p]) hT
      have wl := paired_len hz
      refine ⟨T', _, rfl, SqT.of upd_same, rfl, _, _, rfl, _, _, rfl, rfl, rfl, tYes_of ?_⟩
      refine ⟨_, rfl, _, rfl, _, _, rfl, rfl, _, _, rfl, rfl, _, rfl, ?_⟩
      refine ⟨_, _, rfl, (by show 2 ≤ sizeLine; decide), fun q nq => ?_⟩
      have sq := Same.upd (o := .tup [.int (p - c + 1), .int (if mt30 < p then mt30 else p)]) nq
      have hwq := sq _ _ (sT _ _ hws)
      have ez : (wtG ns)[j]? = some (p - c + 1, if mt30 < p then mt30 else p) := by
        unfold wtG
        rw [List.getElem?_zipWith, hc, hp]
      have wj := (List.getElem?_eq_some_iff.mp ez).1
      have wll : (wtG ns).length ≤ 13 := by
        unfold wtG
        rw [List.length_zipWith]
        omega
      rw [List.length_take] at wl
      have n7 := NL.upd (o := .lst (ws ++ [.ref q])) hwq
      refine ⟨ws, hwq, small1 (by omega), ws ++ [.ref q], upd_same, ?_, fun b o e => by rw [upd_ne (ne_of_none e nD)]; exact sq _ _ (sT _ _ (sy _ _ e))⟩
      rw [List.take_add_one, ez]
      exact paired_app (((hz.nl (NL.of sT)).nl (NL.of sq)).nl n7) (.cons ⟨q, rfl, n7 _ _ upd_same fun _ z => nomatch z⟩ .nil)
    · rintro Hy ⟨ws, hws, hz, sy⟩
      rw [List.take_of_length_le (by unfold wtG; rw [List.length_zipWith, List.length_map]; omega)] at hz
      exact kok D ws Hy hws hz (s1.trans sy) (none_of s1 nD)
theorem ok_waitsof (T : LX K mg L) : CalX P w K mg base "waits_of" 4 L.f_waits_of ["period_list"] (spWaits L.e_InvalidLog) := T.d_waits_of.calX fun fd F => fn_waitsof T F
end
/-! ### which error a call raises (_law_said) -/
abbrev N_wsaid : List Str := ["_law_deed", "_law_found", "e", "_law_kinds", "_law_others"]
theorem sc_wsaid : FnScope N_wsaid ["_law_deed"] (defScope st__law_said) := ⟨rfl, rfl, rfl, by decide +kernel, rfl, by decide +kernel, by decide +kernel⟩
def sdB : List Bool → List V := List.map V.bl
/-- what the text says of an error D: of which of the classes it is -/
structure ErrF (K : PySem.W.Frag) (L : LA) (D : Addr) (r t o i b l : Bool) : Prop where
  isC : IsC K D
  xf : L2.XfC K D
  kr : PySem.W.kitOne K (.ref D) (.ref L.e_InvalidRow) = some r
  kt : PySem.W.kitOne K (.ref D) (.ref L.e_InvalidTime) = some t
  ko : PySem.W.kitOne K (.ref D) (.ref L.e_InvalidOutages) = some o
  ki : PySem.W.kitOne K (.ref D) (.ref L.e_InvalidIndex) = some i
  kb : PySem.W.kitOne K (.ref D) (.ref L.e_InvalidBound) = some b
  kl : PySem.W.kitOne K (.ref D) (.ref L.e_InvalidLog) = some l
  oth : PySem.W.kitAny K (.ref D) [.ref L.e_InvalidTrains, .ref L.e_InvalidCall, .ref L.e_InvalidText, .ref L.e_LimitExceeded] = some false
  ar : PySem.W.kitOne K (.ref D) (.type "ArithmeticError") = some true
  br : PySem.W.exmOne K (.ref D) (.ref L.e_BreakerError) = some true
/-- an error that the call may raise, and what _law_said makes of it -/
inductive SaidA (K : PySem.W.Frag) (D dd : Addr) (H : Hp) (Q : VK) : List Bool → Prop where
  | row (x y : V) (n1 : PySem.W.findIn K (.ref D) "part" = some none) (n2 : PySem.W.findIn K (.ref D) "at" = some none) (h : H dd = some (.xd [("at", y), ("part", x)])) (k : ∀ p H', H' p = some (.tup [.str "row", x, y]) → Same H H' → H p = none → Q (.ref p) H') : SaidA K D dd H Q [true, false, false, false, false, false]
  | time (v : V) (z : Str) (n1 : PySem.W.findIn K (.ref D) "time" = some none) (h : H dd = some (.xd [("time", v)])) (r : ReprV v z) (k : ∀ p H', H' p = some (.tup [.str "time", .str z]) → Same H H' → H p = none → Q (.ref p) H') : SaidA K D dd H Q [false, true, false, false, false, false]
  | outages (v : V) (n1 : PySem.W.findIn K (.ref D) "at" = some none) (h : H dd = some (.xd [("at", v)])) (k : ∀ p H', H' p = some (.tup [.str "outages", v]) → Same H H' → H p = none → Q (.ref p) H') : SaidA K D dd H Q [false, false, true, false, false, false]
  | index (v : V) (z : Str) (n1 : PySem.W.findIn K (.ref D) "index" = some none) (h : H dd = some (.xd [("index", v)])) (r : ReprV v z) (k : ∀ p H', H' p = some (.tup [.str "index", .str z]) → Same H H' → H p = none → Q (.ref p) H') : SaidA K D dd H Q [false, false, false, true, false, false]
  | bound (v : V) (n1 : PySem.W.findIn K (.ref D) "part" = some none) (h : H dd = some (.xd [("part", v)])) (k : ∀ p H', H' p = some (.tup [.str "bound", v]) → Same H H' → H p = none → Q (.ref p) H') : SaidA K D dd H Q [false, false, false, false, true, false]
  | log (v : V) (n1 : PySem.W.findIn K (.ref D) "at" = some none) (h : H dd = some (.xd [("at", v)])) (k : ∀ p H', H' p = some (.tup [.str "log", v]) → Same H H' → H p = none → Q (.ref p) H') : SaidA K D dd H Q [false, false, false, false, false, true]
theorem SaidA.has {K : PySem.W.Frag} {D dd : Addr} {H : Hp} {Q : VK} {bs : List Bool} (h : SaidA K D dd H Q bs) : (∃ fs, H dd = some (.xd fs)) ∧ bs.count true = 1 := by
  cases h with
  | row x y n1 n2 h k => exact ⟨⟨_, h⟩, rfl⟩
  | time v z n1 h r k => exact ⟨⟨_, h⟩, rfl⟩
  | outages v n1 h k => exact ⟨⟨_, h⟩, rfl⟩
  | index v z n1 h r k => exact ⟨⟨_, h⟩, rfl⟩
  | bound v n1 h k => exact ⟨⟨_, h⟩, rfl⟩
  | log v n1 h k => exact ⟨⟨_, h⟩, rfl⟩
def SaidR (K : PySem.W.Frag) (L : LA) (cls : Value) (d : Option Addr) (H : Hp) (Q : VK) : Prop := ∃ (D dd : Addr) (r t o i b l : Bool), cls = .ref D ∧ d = some dd ∧ ErrF K L D r t o i b l ∧ SaidA K D dd H Q [r, t, o, i, b, l]
theorem ixB {K : PySem.W.Frag} {σ : L2.St} {H : Hp} {p : Addr} {bs : List Bool} {j : Nat} {c : Bool} {Q : Bool → Hp → Prop} (h1 : σ[3]? = some (some (.ref p))) (h2 : H p = some (.lst (sdB bs))) (h3 : bs[j]? = some c) (q : Q c H) : tB (tOp (rIxL K) (tVar 3) (tC (V.int (j : Nat)))) σ H Q :=
  ⟨_, h1, p, _, (j : Nat), .bl c, rfl, rfl, SqL.of h2, atI_nat (by unfold sdB; rw [List.getElem?_map, h3]; rfl), c, rfl, q⟩
theorem cntB {r t o i b l : Bool} (one : [r, t, o, i, b, l].count true = 1) : ([.bool r, .bool t, .bool o, .bool i, .bool b, .bool l] : List PyData).countP (fun e => PyData.eqv e (.bool true)) = 1 := by
  revert one
  cases r <;> cases t <;> cases o <;> cases i <;> cases b <;> cases l <;> simp [PyData.eqv]
/-- the lambda ends well, or with such an error -/
def TTsaid (K : PySem.W.Frag) (L : LA) : (XK → Hp → VK → Prop) → Hp → VK → Prop := fun tl H Q => ∀ (E : XK) (N : VK), (∀ cls d H', SaidR K L cls d H' Q → E cls d H') → (∀ v H', Q .non H' → N v H') → tl E H N
theorem Takes.long {X : Cx} {W : L2.WX} (tk : L2.Takes X W) : L2.Takes X (fun cls d σ H => σ.length = X.N.length → W cls d σ H) := fun u s' x => by
  obtain ⟨a, B, sI, pins, σ, H, cls, d, e, I, nb, up, sky, na, os, ag, w⟩ := x
  exact tk u s' ⟨a, B, sI, pins, σ, H, cls, d, e, I, nb, up, sky, na, os, ag, w I.len⟩
theorem said_gives {X : Cx} {L : LA} (T : LX X.K X.mg L) (hr9 : Room 3 X.A) {g : Addr} {cdg : Value} {q : Str} : LamX.GivesTo X N_wsaid "_law_said" (defScope st__law_said) g cdg (defBody st__law_said) "_law_deed" q (TTsaid X.K L) := by
  intro f c' s H Q tl act hc h
  have nd := sc_wsaid.nd
  have hr := hr9.deeper (PyProof.Rows.envOfC "_law_said" (defScope st__law_said) s.heap.objs.size g cdg)
  refine ⟨_, (pss_cons (ps_set (i := 1) nd rfl (Or.inl rfl) pe_non) (pss_cons (ps_try_as (i := 2) (Wout := fun _ _ _ _ => False) (tb := fun W D σ H => ∃ Ech : XK, (∀ cls d (σ' : L2.St) H', σ'.length = 5 → Ech cls d H' → W cls d σ' H') ∧ σ[0]? = some (some (.ref f)) ∧ H c' = some (LamX.CodeO c' q) ∧ tl Ech H fun _ H' => D.nx σ H') rfl rfl nd rfl rfl ⟨rfl, by decide, Or.inl T.ge_BreakerError⟩ takes0 (fun W pn xe tk _ => ?_) (fun a oe cls d pn hz hf => by exact (pss_cons (ps_set (i := 3) nd rfl (Or.inl rfl) (pe_lst (pa_cons (pe_callB (call_isZ (K := X.K) (by rfl) hz hf) (by rfl) T.b_isinstance (by decide +kernel) (pa_cons (pv 2) (pa_cons (pe_glob rfl T.ge_InvalidRow rr) pa_nil))) (pa_cons (pe_callB (call_isZ (K := X.K) (by rfl) hz hf) (by rfl) T.b_isinstance (by decide +kernel) (pa_cons (pv 2) (pa_cons (pe_glob rfl T.ge_InvalidTime rr) pa_nil))) (pa_cons (pe_callB (call_isZ (K := X.K) (by rfl) hz hf) (by rfl) T.b_isinstance (by decide +kernel) (pa_cons (pv 2) (pa_cons (pe_glob rfl T.ge_InvalidOutages rr) pa_nil))) pa_nil)))))
 (pss_cons (ps_set (i := 3) nd rfl (Or.inl rfl) (pe_op op_cat (pv 3) (pe_lst (pa_cons (pe_callB (call_isZ (K := X.K) (by rfl) hz hf) (by rfl) T.b_isinstance (by decide +kernel) (pa_cons (pv 2) (pa_cons (pe_glob rfl T.ge_InvalidIndex rr) pa_nil))) (pa_cons (pe_callB (call_isZ (K := X.K) (by rfl) hz hf) (by rfl) T.b_isinstance (by decide +kernel) (pa_cons (pv 2) (pa_cons (pe_glob rfl T.ge_InvalidBound rr) pa_nil))) (pa_cons (pe_callB (call_isZ (K := X.K) (by rfl) hz hf) (by rfl) T.b_isinstance (by decide +kernel) (pa_cons (pv 2) (pa_cons (pe_glob rfl T.ge_InvalidLog rr) pa_nil))) pa_nil))))))
 (pss_cons (ps_set (i := 4) nd rfl (Or.inl rfl) (pe_callB (call_isTZ (K := X.K) (by rfl) hz hf) (by rfl) T.b_isinstance (by decide +kernel) (pa_cons (pv 2) (pa_cons (pe_tup (pa_cons (pe_glob rfl T.ge_InvalidTrains rr) (pa_cons (pe_glob rfl T.ge_InvalidCall rr) (pa_cons (pe_glob rfl T.ge_InvalidText rr) (pa_cons (pe_glob rfl T.ge_LimitExceeded rr) pa_nil))))) pa_nil))))
 (pss_one (ps_if (PW.pt (pw_or (pt_cmpR op_ne (pe_bmK (K := X.K) (by rfl) PySem.F.plainAttrs_list PySem.F.slot_list_count PySem.F.type_list_count (mt_dcountK (K := X.K) (by rfl) (by exact hr.units)) (pv 3) (pa_cons pe_bl pa_nil)) pe_int (nomark _)) (pw_or (pt_val (pv 4)) (pw_or1 (pt_not (pt_val (pe_callB (call_isZ (K := X.K) (by rfl) hz hf) (by rfl) T.b_isinstance (by decide +kernel) (pa_cons (pv 2) (pa_cons (pe_bltn (by rfl) T.b_ArithmeticError (by decide +kernel : bootBuiltins "ArithmeticError" = some (.type "ArithmeticError")) (v := .ty "ArithmeticError") rfl) pa_nil))))))))) (pss_one (ps_set (i := 1) nd rfl (Or.inl rfl) pe_str)) (pss_one (ps_if (pt_val (pe_ix (r := rIxL X.K) (ix_listK (K := X.K) (by rfl)) (pv 3) pe_int (fun _ _ => rfl))) (pss_one (ps_set (i := 1) nd rfl (Or.inl rfl) (pe_tup (pa_cons pe_str (pa_cons (pe_xfZ (K := X.K) (by rfl) hz hf (pv 2)) (pa_cons (pe_xfZ (K := X.K) (by rfl) hz hf (pv 2)) pa_nil)))))) (pss_one (ps_if (PW.pt (pw_or (pt_val (pe_ix (r := rIxL X.K) (ix_listK (K := X.K) (by rfl)) (pv 3) pe_int (fun _ _ => rfl))) (pw_or1 (pt_val (pe_ix (r := rIxL X.K) (ix_listK (K := X.K) (by rfl)) (pv 3) pe_int (fun _ _ => rfl)))))) (pss_one (ps_set (i := 1) nd rfl (Or.inl rfl) (pe_ifExp (pt_val (pe_ix (r := rIxL X.K) (ix_listK (K := X.K) (by rfl)) (pv 3) pe_int (fun _ _ => rfl))) (pe_tup (pa_cons pe_str (pa_cons (pe_callB call_reprP (by rfl) T.b_repr (by decide +kernel) (pa_cons (pe_xfZ (K := X.K) (by rfl) hz hf (pv 2)) pa_nil)) pa_nil))) (pe_tup (pa_cons pe_str (pa_cons (pe_callB call_reprP (by rfl) T.b_repr (by decide +kernel) (pa_cons (pe_xfZ (K := X.K) (by rfl) hz hf (pv 2)) pa_nil)) pa_nil)))))) (pss_one (ps_if (PW.pt (pw_or (pt_val (pe_ix (r := rIxL X.K) (ix_listK (K := X.K) (by rfl)) (pv 3) pe_int (fun _ _ => rfl))) (pw_or1 (pt_val (pe_ix (r := rIxL X.K) (ix_listK (K := X.K) (by rfl)) (pv 3) pe_int (fun _ _ => rfl)))))) (pss_one (ps_set (i := 1) nd rfl (Or.inl rfl) (pe_tup (pa_cons (pe_ifExp (pt_val (pe_ix (r := rIxL X.K) (ix_listK (K := X.K) (by rfl)) (pv 3) pe_int (fun _ _ => rfl))) pe_str pe_str) (pa_cons (pe_xfZ (K := X.K) (by rfl) hz hf (pv 2)) pa_nil))))) (pss_one (ps_set (i := 1) nd rfl (Or.inl rfl) (pe_tup (pa_cons pe_str (pa_cons (pe_xfZ (K := X.K) (by rfl) hz hf (pv 2)) pa_nil)))))))))))))))))) (pss_one (ps_ret (pv 1))))), ?_⟩
  · refine pss_one ⟨fun pins s' σ H' D I h' => ?_⟩
    obtain ⟨Ech, hW, h1, h2, h3⟩ := h'
    exact (ps_expr (act _ pn xe Ech _ _ (Takes.long tk) (fun cls d σ' H' e z => hW cls d σ' H' z e))).run pins s' σ H' D I ⟨h1, h2, h3⟩
  · refine ⟨fun cls d H' => SaidR X.K L cls d H' Q, fun cls d σ' H' hl z => ?_, rfl, hc, h _ _ (fun _ _ _ z => z) fun _ H' z => ⟨_, rfl, z⟩⟩
    obtain ⟨D, dd, r, t, o, i, b, l, rfl, rfl, F, alt⟩ := z
    obtain ⟨s0, s1, s2, s3, s4, rfl⟩ : ∃ a0 a1 a2 a3 a4, σ' = [a0, a1, a2, a3, a4] := by
      match σ', hl with
      | [a0, a1, a2, a3, a4], _ => exact ⟨a0, a1, a2, a3, a4, rfl⟩
    obtain ⟨⟨fs, hfs⟩, one⟩ := alt.has
    refine ⟨true, F.br, fun _ a na => ?_, fun z => nomatch z⟩
    have isz : ∀ {v : V} {C : Value} {x : Bool} {Hx : Hp} {Qx : VK}, PySem.W.kitOne X.K (.ref D) C = some x → (∀ u, L2.RelV v u → u = C) → Hx dd = some (.xd fs) → Qx (.bl x) Hx → rIsZ X.K a (.ref D) (some dd) [.ref a, v] Hx Qx := fun {v C x Hx Qx} h1 h2 h3 h4 => ⟨D, dd, rfl, rfl, F.isC, v, C, x, fs, rfl, h3, h2, h1, h4⟩
    have ir : ∀ (p : Addr) (u : Value), L2.RelV (.ref p) u → u = .ref p := fun p u hu => hu
    refine ⟨_, rfl, isz F.kr (ir _) hfs ⟨_, rfl, isz F.kt (ir _) hfs ⟨_, rfl, isz F.ko (ir _) hfs ?_⟩⟩⟩
    refine ⟨(by show 3 ≤ sizeLine; decide), fun p1 n1 => ?_⟩
    have S1 := Same.upd (o := .lst [.bl r, .bl t, .bl o]) n1
    have f1 := S1 _ _ hfs
    refine ⟨_, rfl, _, rfl, isz F.ki (ir _) f1 ⟨_, rfl, isz F.kb (ir _) f1 ⟨_, rfl, isz F.kl (ir _) f1 ?_⟩⟩⟩
    refine ⟨(by show 3 ≤ sizeLine; decide), fun p2 n2 => ?_⟩
    have S2 := Same.upd (o := .lst [.bl i, .bl b, .bl l]) n2
    refine ⟨p1, p2, _, _, rfl, rfl, S2 _ _ upd_same, upd_same, (by show 6 ≤ sizeLine; decide), fun p3 n3 => ?_⟩
    have S3 := Same.upd (o := .lst ([.bl r, .bl t, .bl o] ++ [.bl i, .bl b, .bl l])) n3
    refine ⟨_, rfl, (by show 4 ≤ sizeLine; decide), fun p4 n4 => ?_⟩
    have S4 := Same.upd (o := .tup [.ref L.e_InvalidTrains, .ref L.e_InvalidCall, .ref L.e_InvalidText, .ref L.e_LimitExceeded]) n4
    have SS := ((S1.trans S2).trans S3).trans S4
    have h3 := S4 _ _ (upd_same (a := p3) (o := HO.lst ([.bl r, .bl t, .bl o] ++ [.bl i, .bl b, .bl l])))
    refine ⟨D, F.isC, rfl, dd, p4, [L.e_InvalidTrains, L.e_InvalidCall, L.e_InvalidText, L.e_LimitExceeded], fs, rfl, SS _ _ hfs, rfl, upd_same, F.oth, ?_⟩
    generalize upd (upd (upd (upd H' p1 (.lst [.bl r, .bl t, .bl o])) p2 (.lst [.bl i, .bl b, .bl l])) p3 (.lst ([.bl r, .bl t, .bl o] ++ [.bl i, .bl b, .bl l]))) p4 (.tup [.ref L.e_InvalidTrains, .ref L.e_InvalidCall, .ref L.e_InvalidText, .ref L.e_LimitExceeded]) = H4 at SS h3 ⊢
    have h3 : H4 p3 = some (.lst (sdB [r, t, o, i, b, l])) := h3
    refine ⟨_, rfl, .inl ⟨rfl, _, SqL.of h3⟩, p3, _, [.bool r, .bool t, .bool o, .bool i, .bool b, .bool l], .bl true, .bool true, rfl, rfl, SqL.of h3, .cons (.bl r) (.cons (.bl t) (.cons (.bl o) (.cons (.bl i) (.cons (.bl b) (.cons (.bl l) .nil))))), .bl true, by simp [PyData.plainAll, PyData.plain], by simp [PyData.plain], by simp [PyData.depth], ?_⟩
    rw [cntB one]
    refine ⟨rfl, _, rfl, iteF ⟨_, rfl, _, rfl, iteF ⟨_, rfl, isz F.ar (fun u hu => hu) (SS _ _ hfs) ⟨_, rfl, iteF ?_⟩⟩⟩⟩
    have fld : ∀ {f : Str} {v : V} {fs' : List (Str × V)} {Qx : VK} {a0 a1 a3 a4 : Option V} {Hx : Hp}, PySem.W.findIn X.K (.ref D) f = some none → Hx dd = some (.xd fs') → fs'.lookup f = some v → Qx v Hx → tXfZ X.K a (.ref D) (some dd) f (tVar 2) [a0, a1, some (.ref a), a3, a4] Hx Qx := fun no h1 h2 q => ⟨D, F.xf, no, _, rfl, rfl, rfl, dd, _, _, rfl, h1, h2, q⟩
    cases alt with
    | row x y m1 m2 hd k =>
      exact ixB (j := 0) rfl h3 rfl (iteT (fld m1 (SS _ _ hd) rfl (fld m2 (SS _ _ hd) rfl ⟨(by show 3 ≤ sizeLine; decide), fun p5 n5 => ⟨_, rfl, k _ _ upd_same (SS.trans (Same.upd n5)) (none_of SS n5)⟩⟩)))
    | time v z m1 hd rz k =>
      exact ixB (j := 0) rfl h3 rfl (iteF (ixB (j := 1) rfl h3 rfl (iteT (iteT (ixB (j := 1) rfl h3 rfl (iteT (fld m1 (SS _ _ hd) rfl ⟨_, _, rfl, rz, ⟨(by show 2 ≤ sizeLine; decide), fun p5 n5 => ⟨_, rfl, k _ _ upd_same (SS.trans (Same.upd n5)) (none_of SS n5)⟩⟩⟩)))))))
    | outages v m1 hd k =>
      exact ixB (j := 0) rfl h3 rfl (iteF (ixB (j := 1) rfl h3 rfl (iteF (ixB (j := 3) rfl h3 rfl (iteF (ixB (j := 2) rfl h3 rfl (iteT (iteT (ixB (j := 2) rfl h3 rfl (iteT (fld m1 (SS _ _ hd) rfl ⟨(by show 2 ≤ sizeLine; decide), fun p5 n5 => ⟨_, rfl, k _ _ upd_same (SS.trans (Same.upd n5)) (none_of SS n5)⟩⟩)))))))))))
    | index v z m1 hd rz k =>
      exact ixB (j := 0) rfl h3 rfl (iteF (ixB (j := 1) rfl h3 rfl (iteF (ixB (j := 3) rfl h3 rfl (iteT (ixB (j := 1) rfl h3 rfl (iteF (fld m1 (SS _ _ hd) rfl ⟨_, _, rfl, rz, ⟨(by show 2 ≤ sizeLine; decide), fun p5 n5 => ⟨_, rfl, k _ _ upd_same (SS.trans (Same.upd n5)) (none_of SS n5)⟩⟩⟩))))))))
    | bound v m1 hd k =>
      exact ixB (j := 0) rfl h3 rfl (iteF (ixB (j := 1) rfl h3 rfl (iteF (ixB (j := 3) rfl h3 rfl (iteF (ixB (j := 2) rfl h3 rfl (iteF (ixB (j := 5) rfl h3 rfl (iteF (fld m1 (SS _ _ hd) rfl ⟨(by show 2 ≤ sizeLine; decide), fun p5 n5 => ⟨_, rfl, k _ _ upd_same (SS.trans (Same.upd n5)) (none_of SS n5)⟩⟩))))))))))
    | log v m1 hd k =>
      exact ixB (j := 0) rfl h3 rfl (iteF (ixB (j := 1) rfl h3 rfl (iteF (ixB (j := 3) rfl h3 rfl (iteF (ixB (j := 2) rfl h3 rfl (iteF (ixB (j := 5) rfl h3 rfl (iteT (ixB (j := 2) rfl h3 rfl (iteF (fld m1 (SS _ _ hd) rfl ⟨(by show 2 ≤ sizeLine; decide), fun p5 n5 => ⟨_, rfl, k _ _ upd_same (SS.trans (Same.upd n5)) (none_of SS n5)⟩⟩))))))))))))
/-! ### draws, mixed -/
/-- a source of draws at a: at most n were drawn -/
def Src (H : Hp) (a : Addr) (n : Nat) : Prop := ∃ x y z : Int, H a = some (.lst [.int x, .int y, .int z]) ∧ 0 ≤ x ∧ 0 ≤ z ∧ z ≤ n
theorem Src.mono {H : Hp} {a : Addr} {n m : Nat} (h : Src H a n) (l : n ≤ m) : Src H a m := by
  obtain ⟨x, y, z, e, h1, h2, h3⟩ := h
  exact ⟨x, y, z, e, h1, h2, by omega⟩
theorem Src.same {H H' : Hp} {a : Addr} {n : Nat} (h : Src H a n) (s : Same H H') : Src H' a n := by
  obtain ⟨x, y, z, e, r⟩ := h
  exact ⟨x, y, z, s _ _ e, r⟩
theorem Src.has {H : Hp} {a : Addr} {n : Nat} (h : Src H a n) : ∃ xs, H a = some (.lst xs) := by
  obtain ⟨x, y, z, e, r⟩ := h
  exact ⟨_, e⟩
def spMix : Sp := fun vs H Q _ => ∃ c k, vs = [.int c, .int k] ∧ 0 ≤ k ∧ k ≤ 2000000 ∧ ∀ r, 0 ≤ r → r < 2147483399 → Q (.int r) H
def spWell : Sp := fun vs H Q _ => ∃ c, vs = [.int c] ∧ ∀ a H', H a = none → Same H H' → Src H' a 0 → Q (.ref a) H'
def spNext : Sp := fun vs H Q _ => ∃ (a : Addr) (m : Int) (n : Nat), vs = [.ref a, .int m] ∧ 0 < m ∧ m.natAbs < 2 ^ 1100 ∧ Src H a n ∧ n ≤ 900000 ∧ ∀ (r : Int) H', 0 ≤ r → r < m → Src H' a (n + 1) → Kp a H H' → Q (.int r) H'
def spOne : Sp := fun vs H Q _ => ∃ (a l : Addr) (xs : List V) (n : Nat), vs = [.ref a, .ref l] ∧ a ≠ l ∧ H l = some (.lst xs) ∧ 0 < xs.length ∧ xs.length ≤ 100000 ∧ Src H a n ∧ n ≤ 900000 ∧ ∀ v H', v ∈ xs → Src H' a (n + 1) → Kp a H H' → Q v H'
theorem atI_of {α : Type} {xs : List α} {i : Int} (h0 : 0 ≤ i) (h1 : i < xs.length) : ∃ v, atI xs i = some v ∧ v ∈ xs := by
  have hj : i.toNat < xs.length := by omega
  refine ⟨xs[i.toNat], ?_, List.getElem_mem _⟩
  have e : ((i.toNat : Nat) : Int) = i := by omega
  have := atI_nat (xs := xs) (j := i.toNat) (v := xs[i.toNat]) (List.getElem?_eq_getElem hj)
  rwa [e] at this
section
variable {P : Program} {w : World} {K : PySem.W.Frag} {mg : Str → Option Value} {base : Heap} {L : LA}
abbrev N_wmixed : List Str := ["_law_cell", "_law_k", "_law_figure"]
theorem sc_wmixed : FnScope N_wmixed ["_law_cell", "_law_k"] (defScope st__law_mixed) := ⟨rfl, rfl, rfl, by decide +kernel, rfl, by decide +kernel, by decide +kernel⟩
theorem fn_wmixed (T : LX K mg L) {fd : FuncData} (F : Fun K "_law_mixed" "_law_mixed" st__law_mixed L.f__law_mixed fd) : FnOk P w K mg base CX0 1 L.f__law_mixed fd ["_law_cell", "_law_k"] (spMix) := by
  have nd := sc_wmixed.nd
  refine F.ok sc_wmixed (fun vs H Q E h => ?_) (fun cdv A outer S H vs Q E hr h => ?_)
  · obtain ⟨c, kk, rfl, _⟩ := h
    rfl
  · obtain ⟨c, kk, rfl, k0, k1, k⟩ := h
    refine ⟨_, (pss_cons (ps_set (i := 2) nd rfl (Or.inl rfl) (pe_op op_mod (pe_callTy call_int1 (by rfl) T.b_int (by decide +kernel) (pa_cons (pe_op op_pow (pe_op op_add (pe_op op_add (pe_op op_mod (pe_callTy call_int1 (by rfl) T.b_int (by decide +kernel) (pa_cons (pv 0) pa_nil)) pe_int) (pe_op op_mulW pe_int (pv 1))) pe_int) pe_int) pa_nil)) pe_int))
       (pss_cons (ps_set (i := 2) nd rfl (Or.inl rfl) (pe_op op_mod (pe_callTy call_int1 (by rfl) T.b_int (by decide +kernel) (pa_cons (pe_op op_add (pv 2) (pe_op op_mulW (pe_op op_mod (pe_callTy call_int1 (by rfl) T.b_int (by decide +kernel) (pa_cons (pe_op op_fdivW (pv 0) pe_int) pa_nil)) pe_int) (pe_op op_add (pv 1) pe_int))) pa_nil)) pe_int))
       (pss_cons (ps_set (i := 2) nd rfl (Or.inl rfl) (pe_op op_mod (pe_callTy call_int1 (by rfl) T.b_int (by decide +kernel) (pa_cons (pe_op op_mulW (pv 2) (pe_op op_add (pe_op op_add (pe_op op_fdivW (pv 2) pe_int) pe_int) (pv 1))) pa_nil)) pe_int))
       (pss_one (ps_ret (pe_op op_mod (pe_callTy call_int1 (by rfl) T.b_int (by decide +kernel) (pa_cons (pe_op op_mulW (pv 2) (pe_op op_add (pe_op op_fdivW (pv 2) pe_int) pe_int)) pa_nil)) pe_int)))))), ?_⟩
    have cm1 : CMulW 30011 kk := wide_mul (a := 30) (b := 30) (by decide) (Nat.lt_of_le_of_lt (show kk.natAbs ≤ 2000000 by omega) (by decide)) (by decide) (by decide) (by decide)
    have m0 := Int.emod_nonneg c (show (2147483629 : Int) ≠ 0 by decide)
    have m1 := Int.emod_lt_of_pos c (show (0 : Int) < 2147483629 by decide)
    refine ⟨_, rfl, .inl ⟨_, rfl, _, _, rfl, rfl, (by show (0 : Int) < 2147483629; decide), _, rfl, _, _, rfl, rfl, cm1, _, _, rfl, rfl, _, _, rfl, rfl, _, _, rfl, rfl, ⟨by decide, by decide, ?_⟩, .inl ⟨_, rfl, _, _, rfl, rfl, (by show (0 : Int) < 2147483647; decide), ?_⟩⟩⟩
    · exact Nat.lt_of_le_of_lt (show (c % 2147483629 + 30011 * kk + 7).natAbs ≤ 100000000000 by omega) (by decide)
    have a0 := Int.emod_nonneg ((c % 2147483629 + 30011 * kk + 7) ^ (3 : Int).toNat) (show (2147483647 : Int) ≠ 0 by decide)
    have a1 := Int.emod_lt_of_pos ((c % 2147483629 + 30011 * kk + 7) ^ (3 : Int).toNat) (show (0 : Int) < 2147483647 by decide)
    dsimp only
    generalize (c % 2147483629 + 30011 * kk + 7) ^ (3 : Int).toNat % 2147483647 = f1 at a0 a1 ⊢
    have b0 := Int.emod_nonneg (c / 2147483629) (show (65537 : Int) ≠ 0 by decide)
    have b1 := Int.emod_lt_of_pos (c / 2147483629) (show (0 : Int) < 65537 by decide)
    have cm2 : CMulW (c / 2147483629 % 65537) (kk + 5) := wide_mul (a := 30) (b := 30) (Nat.lt_of_le_of_lt (show (c / 2147483629 % 65537).natAbs ≤ 70000 by omega) (by decide)) (Nat.lt_of_le_of_lt (show (kk + 5).natAbs ≤ 2000005 by omega) (by decide)) (by decide) (by decide) (by decide)
    refine ⟨_, rfl, _, rfl, _, _, rfl, rfl, wide_div (b := 40) (by decide) (by decide) (by decide) (by decide), .inl ⟨_, rfl, _, _, rfl, rfl, (by show (0 : Int) < 65537; decide), _, rfl, _, _, rfl, rfl, _, _, rfl, rfl, cm2, _, _, rfl, rfl, .inl ⟨_, rfl, _, _, rfl, rfl, (by show (0 : Int) < 2147483587; decide), ?_⟩⟩⟩
    have c0 := Int.emod_nonneg (f1 + c / 2147483629 % 65537 * (kk + 5)) (show (2147483587 : Int) ≠ 0 by decide)
    have c1 := Int.emod_lt_of_pos (f1 + c / 2147483629 % 65537 * (kk + 5)) (show (0 : Int) < 2147483587 by decide)
    dsimp only
    generalize (f1 + c / 2147483629 % 65537 * (kk + 5)) % 2147483587 = f2 at c0 c1 ⊢
    have d2 : f2 / 1009 ≤ f2 := Int.ediv_le_self _ c0
    have d3 : 0 ≤ f2 / 1009 := Int.ediv_nonneg c0 (by decide)
    have cm3 : CMulW f2 (f2 / 1009 + 69621 + kk) := wide_mul (a := 40) (b := 40) (Nat.lt_of_le_of_lt (show f2.natAbs ≤ 3000000000 by omega) (by decide)) (Nat.lt_of_le_of_lt (show (f2 / 1009 + 69621 + kk).natAbs ≤ 3000000000 by omega) (by decide)) (by decide) (by decide) (by decide)
    refine ⟨_, rfl, _, rfl, _, _, rfl, rfl, wide_div (b := 40) (by decide) (by decide) (by decide) (by decide), _, _, rfl, rfl, _, rfl, _, _, rfl, rfl, _, _, rfl, rfl, cm3, .inl ⟨_, rfl, _, _, rfl, rfl, (by show (0 : Int) < 2147483563; decide), ?_⟩⟩
    have g0 := Int.emod_nonneg (f2 * (f2 / 1009 + 69621 + kk)) (show (2147483563 : Int) ≠ 0 by decide)
    have g1 := Int.emod_lt_of_pos (f2 * (f2 / 1009 + 69621 + kk)) (show (0 : Int) < 2147483563 by decide)
    dsimp only
    generalize f2 * (f2 / 1009 + 69621 + kk) % 2147483563 = f3 at g0 g1 ⊢
    have h2 : f3 / 2003 ≤ f3 := Int.ediv_le_self _ g0
    have h3 : 0 ≤ f3 / 2003 := Int.ediv_nonneg g0 (by decide)
    have cm4 : CMulW f3 (f3 / 2003 + 40692) := wide_mul (a := 40) (b := 40) (Nat.lt_of_le_of_lt (show f3.natAbs ≤ 3000000000 by omega) (by decide)) (Nat.lt_of_le_of_lt (show (f3 / 2003 + 40692).natAbs ≤ 3000000000 by omega) (by decide)) (by decide) (by decide) (by decide)
    refine ⟨_, rfl, _, rfl, _, _, rfl, rfl, wide_div (b := 40) (by decide) (by decide) (by decide) (by decide), _, _, rfl, rfl, _, _, rfl, rfl, cm4, .inl ⟨_, rfl, _, _, rfl, rfl, (by show (0 : Int) < 2147483399; decide), ?_⟩⟩
    exact k _ (Int.emod_nonneg _ (by decide)) (Int.emod_lt_of_pos _ (by decide))
theorem ok_wmixed (T : LX K mg L) : Cal P w K mg base "_law_mixed" 1 L.f__law_mixed ["_law_cell", "_law_k"] (spMix) := T.d__law_mixed.cal fun fd F => fn_wmixed T F
abbrev N_wwell : List Str := ["_law_cell"]
theorem sc_wwell : FnScope N_wwell ["_law_cell"] (defScope st__law_well) := ⟨rfl, rfl, rfl, by decide +kernel, rfl, by decide +kernel, by decide +kernel⟩
theorem fn_wwell (T : LX K mg L) {fd : FuncData} (F : Fun K "_law_well" "_law_well" st__law_well L.f__law_well fd) : FnOk P w K mg base CX0 1 L.f__law_well fd ["_law_cell"] (spWell) := by
  have nd := sc_wwell.nd
  refine F.ok sc_wwell (fun vs H Q E h => ?_) (fun cdv A outer S H vs Q E hr h => ?_)
  · obtain ⟨c, rfl, _⟩ := h
    rfl
  · obtain ⟨c, rfl, k⟩ := h
    refine ⟨_, (pss_one (ps_ret (pe_lst (pa_cons (pe_op op_mul (pv 0) (pe_callTy call_int1 (by rfl) T.b_int (by decide +kernel) (pa_cons (pe_cmpR op_ge (pv 0) (pe_op op_pow pe_int pe_int) (nomark _)) pa_nil))) (pa_cons (pv 0) (pa_cons pe_int pa_nil)))))), ?_⟩
    refine ⟨_, rfl, _, rfl, _, _, rfl, rfl, ⟨by decide, by decide, by decide⟩, _, _, rfl, rfl, .inr ⟨_, rfl, _, _, rfl, rfl, ?_, ?_⟩⟩
    · refine .inr ?_
      split <;> decide
    · refine ⟨_, rfl, (by show 3 ≤ sizeLine; decide), fun l hl => ?_⟩
      refine k l _ hl (Same.upd hl) ⟨_, _, _, upd_same, ?_, Int.le_refl _, Int.le_refl _⟩
      by_cases hc : (10 : Int) ^ (18 : Int).toNat ≤ c
      · rw [decide_eq_true hc, if_pos rfl, Int.mul_one]
        exact Int.le_trans (by decide) hc
      · rw [decide_eq_false hc, if_neg Bool.false_ne_true, Int.mul_zero]
        exact Int.le_refl _
theorem ok_wwell (T : LX K mg L) : Cal P w K mg base "_law_well" 1 L.f__law_well ["_law_cell"] (spWell) := T.d__law_well.cal fun fd F => fn_wwell T F
abbrev N_wdraw : List Str := ["_law_well_here", "_law_many", "_law_found"]
theorem sc_wdraw : FnScope N_wdraw ["_law_well_here", "_law_many"] (defScope st__law_draw) := ⟨rfl, rfl, rfl, by decide +kernel, rfl, by decide +kernel, by decide +kernel⟩
theorem fn_wdraw (T : LX K mg L) {fd : FuncData} (F : Fun K "_law_draw" "_law_draw" st__law_draw L.f__law_draw fd) : FnOk P w K mg base CX0 2 L.f__law_draw fd ["_law_well_here", "_law_many"] (spNext) := by
  have G_wmixed := ok_wmixed (P := P) (w := w) (base := base) T
  have nd := sc_wdraw.nd
  refine F.ok sc_wdraw (fun vs H Q E h => ?_) (fun cdv A outer S H vs Q E hr h => ?_)
  · obtain ⟨a, m, n, rfl, _⟩ := h
    rfl
  · obtain ⟨a, m, n, rfl, m0, m1, ⟨x, y, z, ha, x0, z0, z1⟩, hn, k⟩ := h
    refine ⟨_, (pss_cons (ps_if (pt_cmpR op_gt (pe_ix (r := rIxL K) ix_list (pv 0) pe_int (fun _ _ => rfl)) pe_int (nomark _)) (pss_cons (ps_set (i := 2) nd rfl (Or.inl rfl) (pe_op op_mod (pe_callTy call_int1 (by rfl) T.b_int (by decide +kernel) (pa_cons (pe_ix (r := rIxL K) ix_list (pv 0) pe_int (fun _ _ => rfl)) pa_nil)) (pv 1)))
       (pss_cons (ps_asg (pe_op op_fdivW (pe_ix (r := rIxL K) ix_list (pv 0) pe_int (fun _ _ => rfl)) (pv 1)) (pg_sub (pv 0) pe_int set_list))
       (pss_one (ps_ret (pv 2))))) pss_nil)
       (pss_cons (ps_asg (pe_op op_add (pe_ix (r := rIxL K) ix_list (pv 0) pe_int (fun _ _ => rfl)) pe_int) (pg_sub (pv 0) pe_int set_list))
       (pss_one (ps_ret (pe_op op_mod (pe_callTy call_int1 (by rfl) T.b_int (by decide +kernel) (pa_cons (pe_c G_wmixed (hr.mono (by decide)) rfl (pa_cons (pe_ix (r := rIxL K) ix_list (pv 0) pe_int (fun _ _ => rfl)) (pa_cons (pe_ix (r := rIxL K) ix_list (pv 0) pe_int (fun _ _ => rfl)) pa_nil))) pa_nil)) (pv 1)))))), ?_⟩
    refine ⟨_, rfl, _, _, _, _, rfl, rfl, SqL.of ha, rfl, _, _, rfl, rfl, _, rfl, ?_⟩
    refine ite2 (fun c => ?_) (fun c => ?_)
    · refine ⟨_, rfl, _, _, _, _, rfl, rfl, SqL.of ha, rfl, .inl ⟨_, rfl, _, rfl, _, _, rfl, rfl, m0, ?_⟩⟩
      refine ⟨_, rfl, _, _, _, _, rfl, rfl, SqL.of ha, rfl, _, rfl, _, _, rfl, rfl, wide_div m0 m1 (by decide) (by decide), ?_⟩
      refine ⟨_, rfl, _, _, _, 0, rfl, rfl, ha, rfl, ?_⟩
      refine ⟨_, rfl, ?_⟩
      exact k _ _ (Int.emod_nonneg _ (by omega)) (Int.emod_lt_of_pos _ m0) ⟨_, _, _, upd_same, Int.ediv_nonneg x0 (by omega), z0, by omega⟩ Kp.upd
    · refine ⟨_, rfl, _, _, _, _, rfl, rfl, SqL.of ha, rfl, _, _, rfl, rfl, ?_⟩
      refine ⟨_, rfl, _, _, _, 2, rfl, rfl, ha, rfl, ?_⟩
      have hA : (upd H a (.lst [.int x, .int y, .int (z + 1)])) a = some (.lst [.int x, .int y, .int (z + 1)]) := upd_same
      refine ⟨_, rfl, _, _, _, _, rfl, rfl, SqL.of hA, rfl, _, rfl, _, _, _, _, rfl, rfl, SqL.of hA, rfl, y, z + 1, rfl, by omega, by omega, fun r r0 r1 => .inl ⟨_, rfl, _, rfl, _, _, rfl, rfl, m0, ?_⟩⟩
      exact k _ _ (Int.emod_nonneg _ (by omega)) (Int.emod_lt_of_pos _ m0) ⟨_, _, _, hA, x0, by omega, by omega⟩ Kp.upd
theorem ok_wdraw (T : LX K mg L) : Cal P w K mg base "_law_draw" 2 L.f__law_draw ["_law_well_here", "_law_many"] (spNext) := T.d__law_draw.cal fun fd F => fn_wdraw T F
abbrev N_wone : List Str := ["_law_well_here", "_law_some"]
theorem sc_wone : FnScope N_wone ["_law_well_here", "_law_some"] (defScope st__law_one) := ⟨rfl, rfl, rfl, by decide +kernel, rfl, by decide +kernel, by decide +kernel⟩
theorem fn_wone (T : LX K mg L) {fd : FuncData} (F : Fun K "_law_one" "_law_one" st__law_one L.f__law_one fd) : FnOk P w K mg base CX0 3 L.f__law_one fd ["_law_well_here", "_law_some"] (spOne) := by
  have G_wdraw := ok_wdraw (P := P) (w := w) (base := base) T
  have nd := sc_wone.nd
  refine F.ok sc_wone (fun vs H Q E h => ?_) (fun cdv A outer S H vs Q E hr h => ?_)
  · obtain ⟨a, l, xs, n, rfl, _⟩ := h
    rfl
  · obtain ⟨a, l, xs, n, rfl, hal, hl, x0, x1, hs, hn, k⟩ := h
    refine ⟨_, (pss_one (ps_ret (pe_ix (r := rIxL K) ix_list (pv 1) (pe_c G_wdraw (hr.mono (by decide)) rfl (pa_cons (pv 0) (pa_cons (pe_callB call_len_seq (by rfl) T.b_len PySem.boot_len (pa_cons (pv 1) pa_nil)) pa_nil))) (fun _ _ => rfl)))), ?_⟩
    refine ⟨_, rfl, _, rfl, _, rfl, l, xs, rfl, .inl (SqL.of hl), a, _, n, rfl, by omega, ?_, hs, hn, fun r H' r0 r1 hs' hk => ?_⟩
    · exact Nat.lt_of_le_of_lt (show ((xs.length : Int)).natAbs ≤ 100000 by omega) (by decide)
    · obtain ⟨v, hv, hm⟩ := atI_of (xs := xs) r0 r1
      exact ⟨l, xs, r, v, rfl, rfl, SqL.of (hk _ _ hal.symm hl), hv, k v H' hm hs' hk⟩
theorem ok_wone (T : LX K mg L) : Cal P w K mg base "_law_one" 3 L.f__law_one ["_law_well_here", "_law_some"] (spOne) := T.d__law_one.cal fun fd F => fn_wone T F
end
/-! ### draws of rows and outages with great numbers -/
def spPlace : Sp := fun vs H Q _ => ∃ (a : Addr) (m : Int) (n : Nat), vs = [.ref a, .int m] ∧ 0 < m ∧ m ≤ 1000000000000000000000000000000000000 ∧ Src H a n ∧ n ≤ 800000 ∧ ∀ (r : Int) H', 0 ≤ r → r < m → Src H' a (n + 4) → Kp a H H' → Q (.int r) H'
theorem nine_step {j : Nat} {m r : Int} (m1 : m ≤ 1000000000000000000000000000000000000) (h : (1000000000 : Int) ^ j < m) : (1000000000 : Int) ^ j * 1000000000 = (1000000000 : Int) ^ (j + 1) ∧ 0 < (1000000000 : Int) ^ j ∧ (1000000000 : Int) ^ j < 1000000000000000000000000000000000000 ∧ j < 4 := by
  have p0 : (0 : Int) < (1000000000 : Int) ^ j := Int.pow_pos (by decide)
  refine ⟨(Int.pow_succ _ _).symm, p0, by omega, ?_⟩
  by_cases c : j < 4
  · exact c
  · obtain ⟨k, rfl⟩ : ∃ k, j = 4 + k := ⟨j - 4, by omega⟩
    rw [Int.pow_add] at h
    have q0 : (0 : Int) < (1000000000 : Int) ^ k := Int.pow_pos (by decide)
    have e : (1000000000 : Int) ^ 4 = 1000000000000000000000000000000000000 := by decide +kernel
    rw [e] at h
    have := Int.mul_le_mul_of_nonneg_left (show (1 : Int) ≤ (1000000000 : Int) ^ k by omega) (show (0 : Int) ≤ 1000000000000000000000000000000000000 by decide)
    omega
section
variable {P : Program} {w : World} {K : PySem.W.Frag} {mg : Str → Option Value} {base : Heap} {L : LA}
abbrev N_wplace : List Str := ["_law_well_here", "_law_many", "_law_found", "_law_reach"]
theorem sc_wplace : FnScope N_wplace ["_law_well_here", "_law_many"] (defScope st__law_place) := ⟨rfl, rfl, rfl, by decide +kernel, rfl, by decide +kernel, by decide +kernel⟩
theorem fn_wplace (T : LX K mg L) {fd : FuncData} (F : Fun K "_law_place" "_law_place" st__law_place L.f__law_place fd) : FnOk P w K mg base CX0 3 L.f__law_place fd ["_law_well_here", "_law_many"] (spPlace) := by
  have G_wdraw := ok_wdraw (P := P) (w := w) (base := base) T
  have nd := sc_wplace.nd
  refine F.ok sc_wplace (fun vs H Q E h => ?_) (fun cdv A outer S H vs Q E hr h => ?_)
  · obtain ⟨a, m, n, rfl, _⟩ := h
    rfl
  · obtain ⟨a, m, n, rfl, m0, m1, src, hn, k⟩ := h
    refine ⟨_, (pss_cons (ps_asg (pe_tup (pa_cons pe_int (pa_cons pe_int pa_nil))) (pg_tup rfl (pgs_cons (pg_name (i := 2) nd rfl (Or.inl rfl)) (pgs_cons (pg_name (i := 3) nd rfl (Or.inl rfl)) pgs_nil))))
       (pss_cons (ps_while PassesOwn.never (pt_cmpR op_lt (pv 3) (pv 1) (nomark _)) (pss_one (ps_par (i := 2) (j := 3) (by rfl) nd rfl rfl (by decide) rfl rfl (pa_cons (pe_op op_add (pe_op op_mulW (pv 2) (pe_op op_pow pe_int pe_int)) (pe_c G_wdraw (hr.mono (by decide)) rfl (pa_cons (pv 0) (pa_cons (pe_op op_pow pe_int pe_int) pa_nil)))) (pa_cons (pe_op op_mulW (pv 3) (pe_op op_pow pe_int pe_int)) pa_nil)) (by rfl))))
       (pss_one (ps_ret (pe_op op_mod (pe_callTy call_int1 (by rfl) T.b_int (by decide +kernel) (pa_cons (pv 2) pa_nil)) (pv 1)))))), ?_⟩
    refine ⟨(by show 2 ≤ sizeLine; decide), fun tp htp => ⟨tp, _, rfl, SqT.of upd_same, rfl, _, _, rfl, _, _, rfl, rfl, ?_⟩⟩
    have s1 := Same.upd (o := .tup [.int 0, .int 1]) htp
    have e9 : (10 : Int) ^ (9 : Int).toNat = 1000000000 := by decide +kernel
    refine while_by (fun σ H2 => ∃ (j : Nat) (f : Int), σ = [some (.ref a), some (.int m), some (.int f), some (.int ((1000000000 : Int) ^ j))] ∧ 0 ≤ f ∧ f < (1000000000 : Int) ^ j ∧ j ≤ 4 ∧ Src H2 a (n + j) ∧ Kp a H H2)
      (fun σ _ => match σ with | [_, _, _, some (.int r)] => (1000000000000000000000000000000000000 - r).toNat | _ => 0)
      ⟨0, 0, rfl, Int.le_refl _, by decide, by decide, src.same s1, Kp.of s1⟩ ?_ ?_
    · rintro σ H2 ⟨j, f, rfl, f0, f1, j3, src2, k2⟩
      refine ⟨_, rfl, _, rfl, _, _, rfl, rfl, _, rfl, ?_⟩
      refine ite2 (fun c => ?_) (fun c => ?_)
      · have c' : (1000000000 : Int) ^ j < m := of_decide_eq_true c
        obtain ⟨q1, q2, q3, q4⟩ := nine_step (r := f) m1 c'
        refine ⟨_, rfl, _, _, rfl, rfl, ⟨by decide, by decide, by decide⟩, _, _, rfl, rfl, ?_, ?_⟩
        · exact wide_mul (a := 130) (b := 40) (Nat.lt_of_le_of_lt (show f.natAbs ≤ 1000000000000000000000000000000000000 by omega) (by decide)) (by decide +kernel) (by decide) (by decide) (by decide)
        refine ⟨_, rfl, _, _, rfl, rfl, ⟨by decide, by decide, by decide⟩, a, _, _, rfl, by decide +kernel, by decide +kernel, src2, by omega, fun r H3 r0 r1 src3 k3 => ⟨_, _, rfl, rfl, _, rfl, _, _, rfl, rfl, ⟨by decide, by decide, by decide⟩, _, _, rfl, rfl, ?_, ?_⟩⟩
        · exact wide_mul (a := 130) (b := 40) (Nat.lt_of_le_of_lt (show ((1000000000 : Int) ^ j).natAbs ≤ 1000000000000000000000000000000000000 by omega) (by decide)) (by decide +kernel) (by decide) (by decide) (by decide)
        rw [e9] at r1
        refine ⟨_, _, rfl, ⟨j + 1, f * 1000000000 + r, ?_, by omega, ?_, by omega, src3, k2.trans k3⟩, ?_⟩
        · show [some (V.ref a), some (V.int m), some (V.int (f * (10 : Int) ^ (9 : Int).toNat + r)), some (V.int ((1000000000 : Int) ^ j * (10 : Int) ^ (9 : Int).toNat))] = _
          rw [e9, q1]
        · rw [← q1]
          omega
        · show (1000000000000000000000000000000000000 - (1000000000 : Int) ^ j * (10 : Int) ^ (9 : Int).toNat).toNat < (1000000000000000000000000000000000000 - (1000000000 : Int) ^ j).toNat
          rw [e9]
          omega
      · refine ⟨_, rfl, .inl ⟨_, rfl, _, rfl, _, _, rfl, rfl, m0, ?_⟩⟩
        exact k _ _ (Int.emod_nonneg _ (by omega)) (Int.emod_lt_of_pos _ m0) (src2.mono (by omega)) k2
    · rintro σ H Q Q' m ⟨v, e, u, e2, i, j, e4, e5, bb, e6, q⟩
      exact ⟨v, e, u, e2, i, j, e4, e5, bb, e6, m _ _ q⟩
theorem ok_wplace (T : LX K mg L) : Cal P w K mg base "_law_place" 3 L.f__law_place ["_law_well_here", "_law_many"] (spPlace) := T.d__law_place.cal fun fd F => fn_wplace T F
end
/-! ### sources kept -/
theorem src_kp {H H' : Hp} {s l : Addr} {n : Nat} (k : Kp l H H') (h : s ≠ l) (S : Src H s n) : Src H' s n := by
  obtain ⟨x, y, z, e, r⟩ := S
  exact ⟨x, y, z, k _ _ h e, r⟩
/-! ### orders of breakers: what is true of them -/
def rupI (w p : Int) : Int := stepsUp w p * p
def perW (p : Int) (ws : List Int) : Int := ws.foldl (fun q w => rupI w q) p
theorem perW_app (p : Int) (xs ys : List Int) : perW p (xs ++ ys) = perW (perW p xs) ys := List.foldl_append ..
theorem perW_cons (p w : Int) (ys : List Int) : perW p (w :: ys) = perW (rupI w p) ys := rfl
theorem st_char {d L : Int} (h : 1 ≤ L) : 0 ≤ stepsUp d L ∧ d ≤ stepsUp d L * L ∧ ∀ j, 0 ≤ j → d ≤ j * L → stepsUp d L ≤ j := by
  have dm := Int.mul_ediv_add_emod (-d) L
  have a := Int.emod_nonneg (-d) (show L ≠ 0 by omega)
  have b := Int.emod_lt_of_pos (-d) (show 0 < L by omega)
  obtain ⟨q, hq⟩ : ∃ q, q = -(-d / L) := ⟨_, rfl⟩
  have mq : L * (-d / L) = -(q * L) := by rw [hq, Int.neg_mul, Int.neg_neg, Int.mul_comm]
  have e : stepsUp d L = if q > 0 then q else 0 := by rw [hq]; rfl
  rw [e]
  refine ⟨by split <;> omega, ?_, fun j j0 hj => ?_⟩
  · split
    · omega
    · have := Int.mul_nonneg (show 0 ≤ -q by omega) (show 0 ≤ L by omega)
      rw [Int.neg_mul] at this
      omega
  · split
    · by_cases c : q ≤ j
      · exact c
      · have := Int.mul_le_mul_of_nonneg_right (show j + 1 ≤ q by omega) (show 0 ≤ L by omega)
        rw [Int.add_mul, Int.one_mul] at this
        omega
    · exact j0
/-- rounded up: at least the wait, at least the unit, less than both together; the least multiple -/
theorem rup_is {w p : Int} (w1 : 1 ≤ w) (p1 : 1 ≤ p) : 1 ≤ stepsUp w p ∧ w ≤ rupI w p ∧ p ≤ rupI w p ∧ rupI w p < w + p ∧ ∀ j, 0 ≤ j → w ≤ j * p → rupI w p ≤ j * p := by
  obtain ⟨a, b, c⟩ := st_char (d := w) p1
  have k1 : 1 ≤ stepsUp w p := by
    by_cases z : 1 ≤ stepsUp w p
    · exact z
    · rw [show stepsUp w p = 0 by omega] at b
      omega
  have lo : (stepsUp w p - 1) * p < w := by
    by_cases z : (stepsUp w p - 1) * p < w
    · exact z
    · have := c (stepsUp w p - 1) (by omega) (by omega)
      omega
  have m := Int.mul_le_mul_of_nonneg_right k1 (show 0 ≤ p by omega)
  rw [Int.sub_mul, Int.one_mul] at lo
  rw [Int.one_mul] at m
  unfold rupI
  exact ⟨k1, b, m, by omega, fun j j0 hj => Int.mul_le_mul_of_nonneg_right (c j j0 hj) (by omega)⟩
/-- as the law rounds up -/
theorem rup_div {w p : Int} (w1 : 1 ≤ w) (p1 : 1 ≤ p) : (w + p - 1) / p * p = rupI w p := by
  obtain ⟨a, b, c, d, e⟩ := rup_is w1 p1
  have dm := Int.mul_ediv_add_emod (w + p - 1) p
  have r0 := Int.emod_nonneg (w + p - 1) (show p ≠ 0 by omega)
  have r1 := Int.emod_lt_of_pos (w + p - 1) (show 0 < p by omega)
  obtain ⟨q, hq⟩ : ∃ q, q = (w + p - 1) / p := ⟨_, rfl⟩
  rw [← hq] at dm ⊢
  rw [Int.mul_comm] at dm
  have q0 : 0 ≤ q := by rw [hq]; exact Int.ediv_nonneg (by omega) (by omega)
  have h1 := e q q0 (by omega)
  unfold rupI at *
  by_cases z : q ≤ stepsUp w p
  · have := Int.mul_le_mul_of_nonneg_right z (show 0 ≤ p by omega)
    omega
  · have := Int.mul_le_mul_of_nonneg_right (show stepsUp w p + 1 ≤ q by omega) (show 0 ≤ p by omega)
    rw [Int.add_mul, Int.one_mul] at this
    omega
theorem perW_1 : ∀ {ws : List Int} {p : Int}, 1 ≤ p → (∀ w ∈ ws, 1 ≤ w) → 1 ≤ perW p ws
  | [], _, h, _ => h
  | w :: r, p, h, ok => by
    have := rup_is (ok w (List.mem_cons_self ..)) h
    exact perW_1 (ws := r) (p := rupI w p) (by omega) fun u hu => ok u (List.mem_cons_of_mem _ hu)
theorem perW_bd {M B : Int} : ∀ {ws : List Int} {p : Int}, 1 ≤ p → p ≤ B → (∀ w ∈ ws, 1 ≤ w ∧ w ≤ M) → perW p ws ≤ B + M * ws.length
  | [], p, _, h, _ => by show p ≤ B + M * ((0 : Nat) : Int); omega
  | w :: r, p, h, hb, ok => by
    have okw := ok w (List.mem_cons_self ..)
    have := rup_is okw.1 h
    have i := perW_bd (M := M) (B := B + M) (ws := r) (p := rupI w p) (by omega) (by omega) fun u hu => ok u (List.mem_cons_of_mem _ hu)
    rw [List.length_cons]
    show perW (rupI w p) r ≤ B + M * ((r.length + 1 : Nat) : Int)
    rw [show ((r.length + 1 : Nat) : Int) = (r.length : Int) + 1 by omega, Int.mul_add, Int.mul_one]
    omega
/-- all orders of so many, of m -/
def ordG (m : Nat) : Nat → List (List Nat)
  | 0 => [[]]
  | j + 1 => (ordG m j).flatMap fun o => ((List.range m).filter fun a => decide (a ∉ o)).map fun a => o ++ [a]
theorem ord_mem {m : Nat} : ∀ {j : Nat} {o : List Nat}, o ∈ ordG m j → o.length = j ∧ o.Nodup ∧ ∀ a ∈ o, a < m
  | 0, o, h => by
    have : o = [] := by simpa [ordG] using h
    subst this
    exact ⟨rfl, List.Pairwise.nil, fun a h => nomatch h⟩
  | j + 1, o, h => by
    obtain ⟨o', h1, h2⟩ := List.mem_flatMap.mp h
    obtain ⟨a, h3, rfl⟩ := List.mem_map.mp h2
    obtain ⟨i1, i2, i3⟩ := ord_mem h1
    rw [List.mem_filter, List.mem_range] at h3
    have na : a ∉ o' := of_decide_eq_true h3.2
    refine ⟨by rw [List.length_append, i1]; rfl, List.nodup_append.mpr ⟨i2, List.pairwise_singleton _ _, fun u hu z hz => ?_⟩, fun u hu => ?_⟩
    · rw [List.mem_singleton.mp hz]
      exact fun e => na (e ▸ hu)
    · rcases List.mem_append.mp hu with hu | hu
      · exact i3 u hu
      · rw [List.mem_singleton.mp hu]
        exact h3.1
theorem flat_len {α β : Type} {f : α → List β} {k : Nat} : ∀ {xs : List α}, (∀ x ∈ xs, (f x).length ≤ k) → (xs.flatMap f).length ≤ xs.length * k
  | [], _ => by simp
  | x :: r, h => by
    rw [List.flatMap_cons, List.length_append, List.length_cons, Nat.succ_mul]
    have := h x (List.mem_cons_self ..)
    have := flat_len (xs := r) fun y hy => h y (List.mem_cons_of_mem _ hy)
    omega
theorem ord_step_len (m : Nat) (o : List Nat) : (((List.range m).filter fun a => decide (a ∉ o)).map fun a => o ++ [a]).length ≤ m := by
  rw [List.length_map]
  have := List.length_filter_le (fun a => decide (a ∉ o)) (List.range m)
  rwa [List.length_range] at this
theorem ord_len (m : Nat) : ∀ j : Nat, (ordG m j).length ≤ m ^ j
  | 0 => Nat.le_refl _
  | j + 1 => by
    have h1 : (ordG m (j + 1)).length ≤ (ordG m j).length * m := flat_len fun o _ => ord_step_len m o
    have h2 := Nat.mul_le_mul_right m (ord_len m j)
    rw [Nat.pow_succ]
    omega
theorem pow_six {m j : Nat} (h : m ≤ 6) (hj : j ≤ m) : m ^ j ≤ 50000 := by
  have h1 : m ^ j ≤ 6 ^ j := Nat.pow_le_pow_left h j
  have h2 : 6 ^ j ≤ 6 ^ 6 := Nat.pow_le_pow_right (by decide) (by omega)
  have h3 : (6 : Nat) ^ 6 = 46656 := by decide
  omega
/-- one that is not among so few -/
theorem pigeon {m : Nat} : ∀ {o : List Nat}, o.length < m → ∃ b, b < m ∧ b ∉ o := by
  induction m with
  | zero => intro o h; omega
  | succ m ih =>
    intro o h
    by_cases c : m ∈ o
    · have l1 : (o.filter fun a => decide (a ≠ m)).length < m := by
        have := List.length_filter_lt_length_iff_exists (l := o) (p := fun a => decide (a ≠ m)) |>.mpr ⟨m, c, by simp⟩
        omega
      obtain ⟨b, hb, nb⟩ := ih l1
      refine ⟨b, Nat.lt_succ_of_lt hb, fun z => nb ?_⟩
      rw [List.mem_filter]
      exact ⟨z, decide_eq_true (by omega)⟩
    · exact ⟨m, Nat.lt_succ_self m, c⟩
theorem ord_first {m a : Nat} (ha : a < m) : ∀ j : Nat, j < m → ∃ o, a :: o ∈ ordG m (j + 1)
  | 0, _ => ⟨[], by
      refine List.mem_flatMap.mpr ⟨[], List.mem_singleton.mpr rfl, List.mem_map.mpr ⟨a, ?_, rfl⟩⟩
      rw [List.mem_filter, List.mem_range]
      exact ⟨ha, by simp⟩⟩
  | j + 1, h => by
    obtain ⟨o, ho⟩ := ord_first ha j (by omega)
    obtain ⟨b, hb, nb⟩ := pigeon (m := m) (o := a :: o) (by have := (ord_mem ho).1; omega)
    refine ⟨o ++ [b], List.mem_flatMap.mpr ⟨a :: o, ho, List.mem_map.mpr ⟨b, ?_, rfl⟩⟩⟩
    rw [List.mem_filter, List.mem_range]
    exact ⟨hb, decide_eq_true nb⟩
theorem ord_ne {m : Nat} : ∃ o, o ∈ ordG m m := by
  cases m with
  | zero => exact ⟨[], List.mem_singleton.mpr rfl⟩
  | succ m =>
    obtain ⟨o, h⟩ := ord_first (m := m + 1) (a := 0) (by omega) m (by omega)
    exact ⟨_, h⟩
/-- all are in a full one -/
theorem full_has {m : Nat} {o : List Nat} (nd : o.Nodup) (l : o.length = m) (b : ∀ a ∈ o, a < m) {a : Nat} (ha : a < m) : a ∈ o := by
  by_cases c : a ∈ o
  · exact c
  · exfalso
    have key : ∀ (k : Nat) (o : List Nat), o.Nodup → (∀ x ∈ o, x < k) → o.length ≤ k := by
      intro k
      induction k with
      | zero =>
        intro o _ h
        cases o with
        | nil => exact Nat.le_refl _
        | cons x r => exact absurd (h x (List.mem_cons_self ..)) (Nat.not_lt_zero _)
      | succ k ih =>
        intro o nd h
        have h1 := ih (o.erase k) (nd.erase k) fun x hx => by
          have h2 := (List.Nodup.mem_erase_iff nd).mp hx
          have := h x h2.2
          have := h2.1
          omega
        rw [List.length_erase] at h1
        split at h1 <;> omega
    have h1 := key m ((a :: o)) (List.nodup_cons.mpr ⟨c, nd⟩) fun x hx => by
      rcases List.mem_cons.mp hx with rfl | hx
      · exact ha
      · exact b x hx
    rw [List.length_cons] at h1
    omega
/-- waits in an order -/
def wsAt (ws : List Int) (o : List Nat) : List Int := o.map fun a => ws.getD a 0
theorem wsAt_ok {ws : List Int} {M : Int} (h : ∀ w ∈ ws, 1 ≤ w ∧ w ≤ M) {o : List Nat} (ho : ∀ a ∈ o, a < ws.length) : ∀ w ∈ wsAt ws o, 1 ≤ w ∧ w ≤ M := fun w hw => by
  obtain ⟨a, ha, rfl⟩ := List.mem_map.mp hw
  have := ho a ha
  rw [List.getD_eq_getElem?_getD, List.getElem?_eq_getElem this]
  exact h _ (List.getElem_mem _)
theorem wsAt_app (ws : List Int) (o : List Nat) (a : Nat) : wsAt ws (o ++ [a]) = wsAt ws o ++ [ws.getD a 0] := by
  unfold wsAt
  rw [List.map_append]
  rfl
/-- a period is a multiple of the one it began with -/
theorem perW_mul : ∀ (ws : List Int) (p : Int), 1 ≤ p → (∀ w ∈ ws, 1 ≤ w) → ∃ k, 1 ≤ k ∧ perW p ws = k * p
  | [], p, _, _ => ⟨1, Int.le_refl _, by rw [Int.one_mul]; rfl⟩
  | w :: r, p, h, ok => by
    have q := rup_is (ok w (List.mem_cons_self ..)) h
    obtain ⟨k, k1, e⟩ := perW_mul r (rupI w p) (by omega) fun u hu => ok u (List.mem_cons_of_mem _ hu)
    refine ⟨k * stepsUp w p, ?_, ?_⟩
    · have := Int.mul_le_mul k1 q.1 (by omega) (by omega)
      omega
    · rw [perW_cons, e, Int.mul_assoc]
      rfl
theorem perW_ge : ∀ {ws : List Int} {p : Int}, 1 ≤ p → (∀ w ∈ ws, 1 ≤ w) → ∀ w ∈ ws, w ≤ perW p ws
  | x :: r, p, h, ok, w, hw => by
    have q := rup_is (ok x (List.mem_cons_self ..)) h
    obtain ⟨k, k1, e⟩ := perW_mul r (rupI x p) (by omega) fun u hu => ok u (List.mem_cons_of_mem _ hu)
    rcases List.mem_cons.mp hw with rfl | hw
    · rw [perW_cons, e]
      have := Int.mul_le_mul_of_nonneg_right k1 (show 0 ≤ rupI w p by omega)
      omega
    · show w ≤ perW (rupI x p) r
      exact perW_ge (p := rupI x p) (by omega) (fun u hu => ok u (List.mem_cons_of_mem _ hu)) w hw
theorem perW_same : ∀ {ws : List Int} {p : Int}, 1 ≤ p → (∀ w ∈ ws, 1 ≤ w ∧ w ≤ p) → perW p ws = p
  | [], _, _, _ => rfl
  | w :: r, p, h, ok => by
    obtain ⟨w1, w2⟩ := ok w (List.mem_cons_self ..)
    have q := rup_is w1 h
    have h1 := q.2.2.2.2 1 (by decide) (by omega)
    rw [perW_cons, show rupI w p = p by omega]
    exact perW_same h fun u hu => ok u (List.mem_cons_of_mem _ hu)
/-- an order's period, and the order -/
def wayG (st : Int) (ws : List Int) (o : List Nat) : Int × List Nat := (perW st (wsAt ws o), o)
def waysG (st : Int) (ws : List Int) (j : Nat) : List (Int × List Nat) := (ordG ws.length j).map (wayG st ws)
/-- the greatest wait, at least 1 -/
def mxW (ws : List Int) : Int := ws.foldl max 1
theorem fold_max : ∀ (ws : List Int) (a : Int), a ≤ ws.foldl max a ∧ (∀ w ∈ ws, w ≤ ws.foldl max a) ∧ (ws.foldl max a = a ∨ ws.foldl max a ∈ ws)
  | [], a => ⟨Int.le_refl _, fun w h => (nomatch h), .inl rfl⟩
  | x :: r, a => by
    obtain ⟨h1, h2, h3⟩ := fold_max r (max a x)
    refine ⟨by show a ≤ r.foldl max (max a x); omega, fun w hw => ?_, ?_⟩
    · show w ≤ r.foldl max (max a x)
      rcases List.mem_cons.mp hw with rfl | hw
      · omega
      · exact h2 w hw
    · show r.foldl max (max a x) = a ∨ r.foldl max (max a x) ∈ x :: r
      rcases h3 with h3 | h3
      · by_cases c : a ≤ x
        · exact .inr (List.mem_cons.mpr (.inl (by omega)))
        · exact .inl (by omega)
      · exact .inr (List.mem_cons_of_mem _ h3)
/-- the least of all -/
theorem least_is {st : Int} {ws : List Int} {M : Int} (s1 : 1 ≤ st) (ok : ∀ w ∈ ws, 1 ≤ w ∧ w ≤ M) : (∀ p ∈ waysG st ws ws.length, rupI (mxW ws) st ≤ p.1) ∧ ∃ p ∈ waysG st ws ws.length, p.1 = rupI (mxW ws) st := by
  obtain ⟨m1, m2, m3⟩ := fold_max ws 1
  have m1 : 1 ≤ mxW ws := m1
  have m2 : ∀ w ∈ ws, w ≤ mxW ws := m2
  have q := rup_is m1 s1
  constructor
  · intro p hp
    obtain ⟨o, ho, rfl⟩ := List.mem_map.mp hp
    obtain ⟨l, nd, b⟩ := ord_mem ho
    have okO := wsAt_ok ok (o := o) b
    obtain ⟨k, k1, e⟩ := perW_mul (wsAt ws o) st s1 fun w hw => (okO w hw).1
    show rupI (mxW ws) st ≤ perW st (wsAt ws o)
    rw [e]
    refine q.2.2.2.2 k (by omega) ?_
    rw [← e]
    rcases m3 with m3 | m3
    · have m3 : mxW ws = 1 := m3
      have := perW_1 s1 fun w hw => (okO w hw).1
      omega
    · have m3 : mxW ws ∈ ws := m3
      refine perW_ge s1 (fun w hw => (okO w hw).1) _ ?_
      obtain ⟨a, ha⟩ := List.mem_iff_getElem?.mp m3
      have al := (List.getElem?_eq_some_iff.mp ha).1
      refine List.mem_map.mpr ⟨a, full_has nd l b al, ?_⟩
      rw [List.getD_eq_getElem?_getD, ha]
      rfl
  · have fin : ∀ o ∈ ordG ws.length ws.length, perW st (wsAt ws o) = rupI (mxW ws) st → ∃ p ∈ waysG st ws ws.length, p.1 = rupI (mxW ws) st := fun o ho e => ⟨wayG st ws o, List.mem_map.mpr ⟨o, ho, rfl⟩, e⟩
    rcases m3 with m3 | m3
    · have m3 : mxW ws = 1 := m3
      obtain ⟨o, ho⟩ := ord_ne (m := ws.length)
      obtain ⟨l, nd, b⟩ := ord_mem ho
      have okO := wsAt_ok (M := 1) (fun w hw => ⟨(ok w hw).1, by have := m2 w hw; omega⟩) (o := o) b
      refine fin o ho ?_
      rw [perW_same s1 fun w hw => ⟨(okO w hw).1, by have := (okO w hw).2; omega⟩, m3]
      have h1 := (rup_is (Int.le_refl 1) s1).2.2.2.2 1 (by decide) (by omega)
      have h2 := (rup_is (Int.le_refl 1) s1).2.2.1
      omega
    · have m3 : mxW ws ∈ ws := m3
      obtain ⟨a, ha⟩ := List.mem_iff_getElem?.mp m3
      have al := (List.getElem?_eq_some_iff.mp ha).1
      obtain ⟨n, hn⟩ : ∃ n, ws.length = n + 1 := ⟨ws.length - 1, by omega⟩
      obtain ⟨o, ho⟩ := ord_first (m := ws.length) al n (by omega)
      rw [← hn] at ho
      obtain ⟨l, nd, b⟩ := ord_mem ho
      have okO := wsAt_ok (M := mxW ws) (fun w hw => ⟨(ok w hw).1, m2 w hw⟩) (o := o) fun x hx => b x (List.mem_cons_of_mem _ hx)
      refine fin _ ho ?_
      have e : wsAt ws (a :: o) = mxW ws :: wsAt ws o := by
        show ws.getD a 0 :: wsAt ws o = _
        rw [List.getD_eq_getElem?_getD, ha]
        rfl
      rw [e, perW_cons]
      exact perW_same (by omega) fun w hw => ⟨(okO w hw).1, by have := (okO w hw).2; omega⟩
/-! ### the periods of a row, as a list -/
def MT : Int := 1000000000000000000000000000000
def prd : Int → List Int → List Int
  | p, [] => [p]
  | p, w :: r => p :: prd (rupI w p) r
theorem prd_len : ∀ (ws : List Int) (p : Int), (prd p ws).length = ws.length + 1
  | [], _ => rfl
  | w :: r, p => by
    show (prd (rupI w p) r).length + 1 = r.length + 1 + 1
    rw [prd_len r]
theorem prd_0 (ws : List Int) (p : Int) : (prd p ws)[0]? = some p := by cases ws <;> rfl
theorem prd_step : ∀ {ws : List Int} {p : Int} {i : Nat} {w c : Int}, ws[i]? = some w → (prd p ws)[i]? = some c → (prd p ws)[i + 1]? = some (rupI w c)
  | [], _, i, w, c, h, _ => by simp at h
  | v :: r, p, 0, w, c, h, h2 => by
    cases h
    cases h2
    show (prd (rupI v p) r)[0]? = _
    exact prd_0 r _
  | v :: r, p, i + 1, w, c, h, h2 => prd_step (ws := r) (p := rupI v p) (i := i) h h2
theorem prd_has {ws : List Int} {p : Int} {i : Nat} (h : i ≤ ws.length) : ∃ c, (prd p ws)[i]? = some c := ⟨_, List.getElem?_eq_getElem (by rw [prd_len]; omega)⟩
theorem prd_last : ∀ (ws : List Int) (p : Int), ∃ init, prd p ws = init ++ [perW p ws]
  | [], p => ⟨[], rfl⟩
  | w :: r, p => by
    obtain ⟨i, h⟩ := prd_last r (rupI w p)
    exact ⟨p :: i, by show p :: prd (rupI w p) r = _; rw [h]; rfl⟩
theorem prd_snoc : ∀ (ws : List Int) (p w : Int), prd p (ws ++ [w]) = prd p ws ++ [rupI w (perW p ws)]
  | [], p, w => rfl
  | v :: r, p, w => by
    show p :: prd (rupI v p) (r ++ [w]) = p :: (prd (rupI v p) r ++ _)
    rw [prd_snoc r]
    rfl
theorem prd_pos {ws : List Int} : ∀ {p : Int} {i : Nat} {c : Int}, 1 ≤ p → (∀ w ∈ ws, 1 ≤ w) → (prd p ws)[i]? = some c → 1 ≤ c := by
  induction ws with
  | nil =>
    intro p i c h0 _ h
    match i, h with
    | 0, h =>
      cases h
      exact h0
  | cons v r ih =>
    intro p i c h0 hw h
    match i, h with
    | 0, h =>
      cases h
      exact h0
    | i + 1, h =>
      obtain ⟨_, _, h3, _⟩ := rup_is (hw v (List.mem_cons_self ..)) h0
      exact ih (p := rupI v p) (by omega) (fun w hm => hw w (List.mem_cons_of_mem _ hm)) h
theorem prd_eq : ∀ {ws vs : List Int} {p : Int}, vs.length = ws.length → (∀ (i : Nat) (v c q : Int), vs[i]? = some v → (prd p ws)[i]? = some c → (prd p ws)[i + 1]? = some q → rupI v c = q) → prd p vs = prd p ws
  | [], [], p, _, _ => rfl
  | [], v :: r, p, h, _ => by simp at h
  | w :: r, [], p, h, _ => by simp at h
  | w :: r, v :: vs, p, h, k => by
    have e : rupI v p = rupI w p := k 0 v p (rupI w p) rfl rfl (prd_0 r _)
    show p :: prd (rupI v p) vs = p :: prd (rupI w p) r
    rw [e, prd_eq (ws := r) (vs := vs) (p := rupI w p) (by simpa using h) fun i v' c q h1 h2 h3 => k (i + 1) v' c q h1 h2 h3]
theorem prd_take : ∀ {ws vs : List Int} {p : Int} {i : Nat}, vs.take i = ws.take i → i ≤ ws.length → i ≤ vs.length → (prd p vs)[i]? = (prd p ws)[i]?
  | ws, vs, p, 0, _, _, _ => by rw [prd_0, prd_0]
  | [], _, p, i + 1, _, h, _ => by simp at h
  | w :: r, [], p, i + 1, _, _, h => by simp at h
  | w :: r, v :: vs, p, i + 1, h, h1, h2 => by
    simp only [List.take_succ_cons, List.cons.injEq] at h
    obtain ⟨rfl, h⟩ := h
    exact prd_take (ws := r) (vs := vs) (p := rupI v p) (i := i) h (by simpa using h1) (by simpa using h2)
/-- rounded up: a multiple, less than the wait and the unit together -/
theorem rup_mul {w c : Int} (w1 : 1 ≤ w) (c1 : 1 ≤ c) : ∃ k : Int, 1 ≤ k ∧ rupI w c = k * c ∧ w ≤ k * c ∧ k * c < w + c := by
  obtain ⟨h1, h2, h3, h4, h5⟩ := rup_is w1 c1
  exact ⟨stepsUp w c, h1, rfl, h2, h4⟩
/-- all that is between one multiple and the next is rounded up to the next one -/
theorem rup_btw {v k c : Int} (c1 : 1 ≤ c) (v1 : 1 ≤ v) (k1 : 1 ≤ k) (h1 : k * c - c < v) (h2 : v ≤ k * c) : rupI v c = k * c := by
  obtain ⟨a1, a2, a3, a4, a5⟩ := rup_is v1 c1
  have u := a5 k (by omega) h2
  have lo : k ≤ stepsUp v c := by
    by_cases z : k ≤ stepsUp v c
    · exact z
    · have m := Int.mul_le_mul_of_nonneg_right (show stepsUp v c ≤ k - 1 by omega) (show 0 ≤ c by omega)
      rw [Int.sub_mul, Int.one_mul] at m
      unfold rupI at a2
      omega
  have m := Int.mul_le_mul_of_nonneg_right lo (show 0 ≤ c by omega)
  unfold rupI at u ⊢
  omega
theorem rup_low {k c : Int} (c1 : 1 ≤ c) (v1 : 1 ≤ k * c - c) : rupI (k * c - c) c ≠ k * c := by
  have e : k * c - c = (k - 1) * c := by rw [Int.sub_mul, Int.one_mul]
  obtain ⟨a1, a2, a3, a4, a5⟩ := rup_is v1 c1
  have k0 : 0 ≤ k - 1 := by
    by_cases z : 0 ≤ k - 1
    · exact z
    · have m := Int.mul_le_mul_of_nonneg_right (show k - 1 ≤ 0 by omega) (show 0 ≤ c by omega)
      rw [Int.zero_mul] at m
      omega
  have := a5 (k - 1) k0 (by omega)
  omega
theorem rup_high {v c q : Int} (c1 : 1 ≤ c) (v1 : 1 ≤ v) (h : q < v) : rupI v c ≠ q := by
  obtain ⟨a1, a2, a3, a4, a5⟩ := rup_is v1 c1
  omega
theorem emod_mul {k c : Int} : (k * c) % c = 0 := Int.mul_emod_left k c
/-! ### k49: periods of drawn rows -/
theorem errF_InvalidLog {K : PySem.W.Frag} {mg : Str → Option Value} {L : LA} (T : LX K mg L) : ErrF K L L.e_InvalidLog false false false false false true :=
  ⟨T.is_InvalidLog, T.xe_InvalidLog, (kit_of T.xe_InvalidRow T.te_InvalidRow T.se_InvalidLog_InvalidLog T.se_InvalidLog_InvalidRow), (kit_of T.xe_InvalidTime T.te_InvalidTime T.se_InvalidLog_InvalidLog T.se_InvalidLog_InvalidTime), (kit_of T.xe_InvalidOutages T.te_InvalidOutages T.se_InvalidLog_InvalidLog T.se_InvalidLog_InvalidOutages), (kit_of T.xe_InvalidIndex T.te_InvalidIndex T.se_InvalidLog_InvalidLog T.se_InvalidLog_InvalidIndex), (kit_of T.xe_InvalidBound T.te_InvalidBound T.se_InvalidLog_InvalidLog T.se_InvalidLog_InvalidBound), (kit_of T.xe_InvalidLog T.te_InvalidLog T.se_InvalidLog_InvalidLog T.se_InvalidLog_InvalidLog), (L2.kitAny_cons (b := false) (kit_of T.xe_InvalidTrains T.te_InvalidTrains T.se_InvalidLog_InvalidLog T.se_InvalidLog_InvalidTrains) (fun _ => (L2.kitAny_cons (b := false) (kit_of T.xe_InvalidCall T.te_InvalidCall T.se_InvalidLog_InvalidLog T.se_InvalidLog_InvalidCall) (fun _ => (L2.kitAny_cons (b := false) (kit_of T.xe_InvalidText T.te_InvalidText T.se_InvalidLog_InvalidLog T.se_InvalidLog_InvalidText) (fun _ => (L2.kitAny_cons (b := false) (kit_of T.xe_LimitExceeded T.te_LimitExceeded T.se_InvalidLog_InvalidLog T.se_InvalidLog_LimitExceeded) (fun _ => L2.kitAny_nil) (fun z => nomatch z))) (fun z => nomatch z))) (fun z => nomatch z))) (fun z => nomatch z)), kit_ar (x := "ArithmeticError") (by decide) T.sa_InvalidLog, exm_of T.xe_BreakerError T.te_BreakerError T.se_InvalidLog_BreakerError⟩
theorem lt_mem_wright {K : PySem.W.Frag} {mg : Str → Option Value} {L : LA} (T : LX K mg L) : (L.t__law_right, (("_law_right" : Str) ++ ".<locals>.") ++ "<lambda>") ∈ LT L := by simp [LT]
theorem lt_one_wright {K : PySem.W.Frag} {mg : Str → Option Value} {L : LA} (T : LX K mg L) : ∀ p ∈ LT L, p.1 = L.t__law_right → p.2 = (("_law_right" : Str) ++ ".<locals>.") ++ "<lambda>" := by
  intro p hp e
  simp only [LT, List.mem_cons, List.mem_nil_iff, or_false] at hp
  rcases hp with rfl
  · rfl

theorem wts_okP {ts : List Tri} (h : ∀ t ∈ ts, OkT t) : ∀ w ∈ ts.map (·.2.1), 1 ≤ w ∧ w ≤ MT := fun w hw => by
  obtain ⟨t, ht, rfl⟩ := List.mem_map.mp hw
  have := h t ht
  exact ⟨this.2.2.1, this.2.2.2.1⟩
def PdM : Int := 13000000000000000000000000000000
theorem pdM_bb : PdM ≤ BB := Int.le_trans (PB_of (n := 108) (by decide +kernel)) (PB_le (by decide))
theorem pdM_bd {st : Int} {ws : List Int} (s0 : 1 ≤ st) (s1 : st ≤ MT) (ok : ∀ w ∈ ws, 1 ≤ w ∧ w ≤ MT) (l : ws.length ≤ 12) : 1 ≤ perW st ws ∧ perW st ws ≤ PdM := by
  refine ⟨perW_1 s0 fun w hw => (ok w hw).1, ?_⟩
  have := perW_bd (B := MT) (M := MT) s0 s1 ok
  have e : PdM = 13000000000000000000000000000000 := rfl
  have e2 : MT = 1000000000000000000000000000000 := rfl
  rw [e2] at this
  omega
theorem rup_askP {w p : Int} (w1 : 1 ≤ w) (w2 : w ≤ MT) (p1 : 1 ≤ p) (p2 : p ≤ PdM) : 0 < p ∧ p.natAbs.log2 < 9000 ∧ CMulW (stepsUp w p) p := by
  have b := pdM_bb
  have e : MT ≤ PdM := by decide
  obtain ⟨a1, a2, a3⟩ := st_char (d := w) p1
  have c : stepsUp w p ≤ w := by
    refine a3 w (by omega) ?_
    have := Int.mul_le_mul_of_nonneg_left p1 (show 0 ≤ w by omega)
    omega
  exact ⟨by omega, divBB p1 (by omega), mulBB a1 (by omega) (by omega) (by omega)⟩
def spPers9 (C : Addr) : Sp := fun vs H Q _ => ∃ r B xs ts st ph, vs = [.ref r] ∧ RowAt C H r B xs ts st ph ∧ ∀ l H', H' l = some (.lst ((prd st (ts.map (·.2.1))).map V.int)) → Same H H' → H l = none → Q (.ref l) H'
def spLPers : Sp := fun vs H Q _ => ∃ (l : Addr) (st : Int) (ws : List Int), vs = [.int st, .ref l] ∧ H l = some (.lst (ws.map V.int)) ∧ 1 ≤ st ∧ st ≤ MT ∧ (∀ w ∈ ws, 1 ≤ w ∧ w ≤ MT) ∧ ws.length ≤ 12 ∧ ∀ p H', H' p = some (.lst ((prd st ws).map V.int)) → Same H H' → H p = none → Q (.ref p) H'
def spLLine : Sp := fun vs H Q _ => ∃ (s : Addr) (n : Nat), vs = [.ref s] ∧ Src H s n ∧ n ≤ 1000 ∧ ∀ (T l : Addr) (st : Int) (ws : List Int) H', H' T = some (.tup [.int st, .ref l]) → H' l = some (.lst (ws.map V.int)) → 1 ≤ st → st ≤ MT → (∀ w ∈ ws, 1 ≤ w ∧ w ≤ MT) → ws.length ≤ 12 → Kp s H H' → l ≠ s → Q (.ref T) H'
section
variable {P : Program} {w : World} {K : PySem.W.Frag} {mg : Str → Option Value} {base : Heap} {L : LA}
abbrev N_periods : List Str := ["row", "found", "breaker"]
theorem sc_periods : FnScope N_periods ["row"] (defScope st_periods) := ⟨rfl, rfl, rfl, by decide +kernel, rfl, by decide +kernel, by decide +kernel⟩
theorem fn_periods (T : LX K mg L) {fd : FuncData} (F : Fun K "periods" "periods" st_periods L.f_periods fd) : FnOk P w K mg base CX0 3 L.f_periods fd ["row"] (spPers9 L.c_Row) := by
  have G_roundedup := ok_roundedup (P := P) (w := w) (base := base) T
  have nd := sc_periods.nd
  refine F.ok sc_periods (fun vs H Q E h => ?_) (fun cdv A outer S H vs Q E hr h => ?_)
  · obtain ⟨r, B, xs, ts, st, ph, rfl, _⟩ := h
    rfl
  · obtain ⟨r, B, xs, ts, st, ph, rfl, R, k⟩ := h
    refine ⟨_, (pss_cons (ps_set (i := 1) nd rfl (Or.inl rfl) (pe_lst (pa_cons (pe_fld (pv 0) rfl) pa_nil)))
       (pss_cons (ps_for PassesOwn.never rfl (pi_tup (pe_fld (pv 0) rfl)) (pg_name (i := 2) nd rfl (Or.inl rfl)) (pss_one (ps_expr (pe_bm PySem.F.plainAttrs_list PySem.F.slot_list_append PySem.F.type_list_append mt_append (pv 1) (pa_cons (pe_c G_roundedup (hr.mono (by decide)) rfl (pa_cons (pe_ix (r := rIxT K) ix_tup (pv 2) pe_int (fun _ _ => rfl)) (pa_cons (pe_ix (r := rIxL K) ix_list (pv 1) (pe_un un_neg pe_int) (fun _ _ => rfl)) pa_nil))) pa_nil)))))
       (pss_one (ps_ret (pv 1))))), ?_⟩
    obtain ⟨dr, hr'⟩ := R.ob
    have xl := R.br.len
    have ln := R.ln
    refine ⟨_, rfl, r, L.c_Row, dr, _, _, rfl, hr', T.cf_Row.cl, T.nf_Row_step, rowF_s _ _ _, (by show 1 ≤ sizeLine; decide), fun l hl => ?_⟩
    have s1 := Same.upd (o := .lst [.int st]) hl
    refine ⟨_, rfl, r, L.c_Row, dr, _, _, rfl, s1 _ _ hr', T.cf_Row.cl, T.nf_Row_breakers, rowF_b _ _ _, B, rfl, ⟨_, SqT.of (s1 _ _ R.tp)⟩, ?_⟩
    refine for_tup (K := K) (a := B) (xs := xs) (fun i σ H2 => ∃ (v2 : Option V), σ = [some (.ref r), some (.ref l), v2] ∧ H2 l = some (.lst ((prd st ((ts.take i).map (·.2.1))).map V.int)) ∧ Same H H2) ⟨none, rfl, upd_same, s1⟩ (fun i σ H2 _ ⟨_, _, _, s⟩ => SqT.of (s _ _ R.tp)) ?_ ?_
    · rintro i x σ H2 hxi ⟨v2, rfl, hc, s2⟩
      obtain ⟨t, ht, q, rfl, hq⟩ := paired_get R.br hxi
      have hq2 := s2 _ _ hq
      have okt := R.ok t (List.mem_of_getElem? ht)
      have hi := (List.getElem?_eq_some_iff.mp ht).1
      have etk : ts.take (i + 1) = ts.take i ++ [t] := by rw [List.take_add_one, ht]; rfl
      obtain ⟨p1, p2⟩ := pdM_bd R.s0 R.s1 (ws := (ts.take i).map (·.2.1)) (wts_okP fun u hu => R.ok u (List.mem_of_mem_take hu)) (by rw [List.length_map, List.length_take]; omega)
      obtain ⟨a1, a2, a3⟩ := rup_askP okt.2.2.1 okt.2.2.2.1 p1 p2
      obtain ⟨init, hin⟩ := prd_last ((ts.take i).map (·.2.1)) st
      have at1 : atI ((prd st ((ts.take i).map (·.2.1))).map V.int) (-1) = some (.int (perW st ((ts.take i).map (·.2.1)))) := by
        rw [hin, List.map_append]
        exact atI_last _ _
      refine ⟨_, rfl, .inl ⟨rfl, _, SqL.of hc⟩, _, rfl, q, _, 1, .int t.2.1, rfl, rfl, SqT.of hq2, rfl, _, rfl, 1, rfl, l, _, -1, .int (perW st ((ts.take i).map (·.2.1))), rfl, rfl, SqL.of hc, at1, t.2.1, perW st ((ts.take i).map (·.2.1)), rfl, a1, a2, a3, l, _, _, rfl, rfl, hc, small1 (by rw [List.length_map, prd_len, List.length_map, List.length_take]; omega), ?_⟩
      refine ⟨_, rfl, ?_, fun c o e => by rw [upd_ne (ne_of_none e hl)]; exact s2 _ _ e⟩
      rw [upd_same, etk, List.map_append]
      show _ = some (HO.lst ((prd st ((ts.take i).map (·.2.1) ++ [t.2.1])).map V.int))
      rw [prd_snoc, List.map_append]
      rfl
    · rintro σ H2 ⟨v2, rfl, hc, s2⟩
      rw [xl, List.take_length] at hc
      exact ⟨_, rfl, k l H2 hc s2 hl⟩
theorem ok_periods (T : LX K mg L) : Cal P w K mg base "periods" 3 L.f_periods ["row"] (spPers9 L.c_Row) := T.d_periods.cal fun fd F => fn_periods T F
abbrev N_wperiods : List Str := ["_law_step", "_law_waits", "_law_wait"]
theorem sc_wperiods : FnScope N_wperiods ["_law_step", "_law_waits"] (defScope st__law_periods) := ⟨rfl, rfl, rfl, by decide +kernel, rfl, by decide +kernel, by decide +kernel⟩
theorem fn_wperiods (T : LX K mg L) {fd : FuncData} (F : Fun K "_law_periods" "_law_periods" st__law_periods L.f__law_periods fd) : FnOk P w K mg base CX0 7 L.f__law_periods fd ["_law_step", "_law_waits"] (spLPers) := by
  have G_periods := ok_periods (P := P) (w := w) (base := base) T
  have nd := sc_wperiods.nd
  refine F.ok sc_wperiods (fun vs H Q E h => ?_) (fun cdv A outer S H vs Q E hr h => ?_)
  · obtain ⟨l, st, ws, rfl, _⟩ := h
    rfl
  · obtain ⟨l, st, ws, rfl, hl, s0, s1, ok, ln, k⟩ := h
    refine ⟨_, (pss_one (ps_ret (pe_c G_periods (hr.mono (by decide)) rfl (pa_cons (pe_mkRow T (hr.mono (by decide)) rfl (pa_cons (pe_lc (own := [("_law_wait", 2)]) (g := gName 2) (tt := tYes) rfl nd (pi_list (pv 1)) (blkOk_by (own := [("_law_wait", 2)]) (N := N_wperiods) (sc := defScope st__law_periods) (by decide +kernel)) (fun _ _ _ _ _ => pg_name (i := 2) nd rfl (Or.inl rfl)) (fun _ _ _ _ _ => pts_nil) (fun _ _ _ _ _ => (pe_tup (pa_cons pe_int (pa_cons (pv 2) (pa_cons pe_int pa_nil)))))) (pa_cons (pv 0) pa_nil))) pa_nil)))), ?_⟩
    refine ⟨_, rfl, l, rfl, ⟨_, SqL.of hl⟩, fun D hD => ?_⟩
    refine lc_list (K := K) (a := l) (xs := ws.map V.int) (fun j Hx => ∃ ys, Hx D = some (.lst ys) ∧ Brs Hx ys ((ws.take j).map fun w => ((1 : Int), w, (1 : Int))) ∧ Same H Hx) ⟨[], upd_same, .nil, Same.upd hD⟩ (fun j Hx _ ⟨_, _, _, sx⟩ => SqL.of (sx _ _ hl)) ?_ ?_
    · rintro j x Hx hx ⟨ys, hy, hb, sx⟩
      rw [List.getElem?_map] at hx
      obtain ⟨c, hc, rfl⟩ := Option.map_eq_some_iff.mp hx
      have hj := (List.getElem?_eq_some_iff.mp hc).1
      have yl := hb.len
      rw [List.length_map, List.length_take] at yl
      refine ⟨rfl, tYes_of ⟨_, rfl, (by show 3 ≤ sizeLine; decide), fun q nq => ?_⟩⟩
      have sq := Same.upd (o := .tup [.int 1, .int c, .int 1]) nq
      have hy2 := sq _ _ hy
      have nD := NL.upd (o := .lst (ys ++ [.ref q])) hy2
      refine ⟨ys, hy2, small1 (by omega), ys ++ [.ref q], upd_same, ?_, fun b o e => by rw [upd_ne (ne_of_none e hD)]; exact sq _ _ (sx _ _ e)⟩
      rw [List.take_add_one, hc, Option.toList_some, List.map_append]
      exact (hb.nl ((NL.of sq).trans nD)).app (.cons ⟨q, rfl, nD _ _ upd_same fun _ z => nomatch z⟩ .nil)
    · rintro Hx ⟨ys, hy, hb, sx⟩
      rw [List.length_map, List.take_length] at hb
      refine ⟨_, rfl, row_made hy hb (fun t ht => ?_) (by rw [List.length_map]; omega) ⟨s0, s1, by decide, by decide⟩ fun p B H1 R1 sp np => ?_⟩
      · obtain ⟨w, hw, rfl⟩ := List.mem_map.mp ht
        obtain ⟨w1, w2⟩ := ok w hw
        exact ⟨Int.le_refl _, (by show (1 : Int) ≤ 1000000000000; decide), w1, w2, Int.le_refl _, (by show (1 : Int) ≤ 1000000000000; decide)⟩
      refine ⟨p, B, ys, _, st, 0, rfl, R1, fun l2 H2 h2 s2 n2 => ?_⟩
      have e : (ws.map fun w => ((1 : Int), w, (1 : Int))).map (·.2.1) = ws := by rw [List.map_map]; exact (List.map_congr_left fun _ _ => rfl).trans (List.map_id _)
      rw [e] at h2
      exact k l2 H2 h2 ((sx.trans sp).trans s2) (none_of (sx.trans sp) n2)
theorem ok_wperiods (T : LX K mg L) : Cal P w K mg base "_law_periods" 7 L.f__law_periods ["_law_step", "_law_waits"] (spLPers) := T.d__law_periods.cal fun fd F => fn_wperiods T F
abbrev N_wline : List Str := ["_law_well_here", "_law_great", "_law_waits", "_law_k"]
theorem sc_wline : FnScope N_wline ["_law_well_here"] (defScope st__law_line) := ⟨rfl, rfl, rfl, by decide +kernel, rfl, by decide +kernel, by decide +kernel⟩
theorem fn_wline (T : LX K mg L) {fd : FuncData} (F : Fun K "_law_line" "_law_line" st__law_line L.f__law_line fd) : FnOk P w K mg base CX0 4 L.f__law_line fd ["_law_well_here"] (spLLine) := by
  have G_wone := ok_wone (P := P) (w := w) (base := base) T
  have G_wplace := ok_wplace (P := P) (w := w) (base := base) T
  have G_wdraw := ok_wdraw (P := P) (w := w) (base := base) T
  have nd := sc_wline.nd
  refine F.ok sc_wline (fun vs H Q E h => ?_) (fun cdv A outer S H vs Q E hr h => ?_)
  · obtain ⟨s, n, rfl, _⟩ := h
    rfl
  · obtain ⟨s, n, rfl, src, hn, k⟩ := h
    refine ⟨_, (pss_cons (ps_set (i := 1) nd rfl (Or.inr rfl) (pe_c G_wone (hr.mono (by decide)) rfl (pa_cons (pv 0) (pa_cons (pe_lst (pa_cons pe_int (pa_cons (pe_op op_pow pe_int pe_int) (pa_cons (pe_op op_pow pe_int pe_int) pa_nil)))) pa_nil))))
       (pss_cons (ps_setLc (i := 2) (own := [("_law_k", 3)]) (g := gName 3) (tt := tYes) rfl nd rfl rfl (sw_true rfl rfl rfl (by decide +kernel)) (pi_range1 rfl T.b_range (pa_cons (pe_c G_wdraw (hr.mono (by decide)) rfl (pa_cons (pv 0) (pa_cons pe_int pa_nil))) pa_nil)) (blkOk_by (own := [("_law_k", 3)]) (N := N_wline) (sc := defScope st__law_line) (by decide +kernel)) (fun _ _ _ _ _ => pg_name (i := 3) nd rfl (Or.inl rfl)) (fun _ _ _ _ _ => pts_nil) (fun _ _ _ _ _ => (pe_op op_add pe_int (pe_c G_wplace (hr.mono (by decide)) rfl (pa_cons (pv 0) (pa_cons (pe_c G_wone (hr.mono (by decide)) rfl (pa_cons (pv 0) (pa_cons (pe_lst (pa_cons (pv 1) (pa_cons pe_int pa_nil))) pa_nil))) pa_nil))))))
       (pss_one (ps_ret (pe_tup (pa_cons (pe_op op_add pe_int (pe_c G_wplace (hr.mono (by decide)) rfl (pa_cons (pv 0) (pa_cons (pe_c G_wone (hr.mono (by decide)) rfl (pa_cons (pv 0) (pa_cons (pe_lst (pa_cons pe_int (pa_cons (pv 1) pa_nil))) pa_nil))) pa_nil)))) (pa_cons (pv 2) pa_nil))))))), ?_⟩
    obtain ⟨y0, hy0⟩ := src.has
    refine ⟨_, rfl, _, _, rfl, rfl, ⟨by decide, by decide, by decide⟩, _, _, rfl, rfl, ⟨by decide, by decide, by decide⟩, (by show 3 ≤ sizeLine; decide), fun l1 n1 => ?_⟩
    have S1 := Same.upd (o := .lst [.int 12, .int ((10 : Int) ^ (12 : Int).toNat), .int ((10 : Int) ^ (30 : Int).toNat)]) n1
    refine ⟨s, l1, _, n, rfl, ne_of_none hy0 n1, upd_same, (by show 0 < 3; decide), (by show 3 ≤ 100000; decide), src.same S1, by omega, fun v H1 hv src1 k1 => ?_⟩
    obtain ⟨g, rfl, g1, g2⟩ : ∃ g, v = .int g ∧ 1 ≤ g ∧ g ≤ MT := by
      simp only [List.mem_cons, List.mem_nil_iff, or_false] at hv
      rcases hv with rfl | rfl | rfl
      · exact ⟨_, rfl, by decide +kernel, by decide +kernel⟩
      · exact ⟨_, rfl, by decide +kernel, by decide +kernel⟩
      · exact ⟨_, rfl, by decide +kernel, by decide +kernel⟩
    have K1 : Kp s H H1 := (Kp.of S1).trans k1
    refine ⟨_, rfl, s, 13, n + 1, rfl, by decide, by decide, src1, by omega, fun m H2 m0 m1 src2 k2 => ?_⟩
    have K2 := K1.trans k2
    obtain ⟨y2, hy2⟩ := src2.has
    refine ⟨m, rfl, by omega, by omega, fun D hD => ?_⟩
    have nDs : D ≠ s := (ne_of_none hy2 hD).symm
    have drawn : ∀ {a b : V} {c : Int} {l : Addr} {Hx Hy : Hp} {e : Nat}, True := fun {a b c l Hx Hy e} => True.intro
    refine lc_range (lo := 0) (n := m.toNat) (fun j Hx => ∃ ws : List Int, Hx D = some (.lst (ws.map V.int)) ∧ ws.length = j ∧ (∀ w ∈ ws, 1 ≤ w ∧ w ≤ MT) ∧ Src Hx s (n + 2 + 10 * j) ∧ Kp s H2 Hx) ⟨[], upd_same, rfl, (fun _ h => nomatch h), src2.same (Same.upd hD), Kp.of (Same.upd hD)⟩ ?_ ?_
    · rintro j Hx hj ⟨ws, hDx, wl, wok, srx, kx⟩
      obtain ⟨yx, hyx⟩ := srx.has
      refine ⟨rfl, tYes_of ⟨_, rfl, _, rfl, _, rfl, (by show 2 ≤ sizeLine; decide), fun l2 n2 => ?_⟩⟩
      have S2 := Same.upd (o := .lst [.int g, .int 20]) n2
      refine ⟨s, l2, _, _, rfl, ne_of_none hyx n2, upd_same, (by show 0 < 2; decide), (by show 2 ≤ 100000; decide), srx.same S2, by omega, fun v H3 hv src3 k3 => ?_⟩
      obtain ⟨h, rfl, h1, h2⟩ : ∃ h, v = .int h ∧ 1 ≤ h ∧ h ≤ MT := by
        simp only [List.mem_cons, List.mem_nil_iff, or_false] at hv
        rcases hv with rfl | rfl
        · exact ⟨_, rfl, g1, g2⟩
        · exact ⟨_, rfl, by decide, by decide⟩
      have e : MT = 1000000000000000000000000000000 := rfl
      refine ⟨s, h, _, rfl, by omega, by omega, src3, by omega, fun r H4 r0 r1 src4 k4 => ⟨_, _, rfl, rfl, ?_⟩⟩
      have K4 := ((Kp.of S2).trans k3).trans k4
      have hD4 := K4 _ _ nDs hDx
      refine ⟨_, hD4, small1 (by rw [List.length_map]; omega), ws ++ [1 + r], by rw [upd_same, List.map_append]; rfl, by rw [List.length_append, wl]; rfl, fun w hw => ?_, src_kp Kp.upd nDs.symm (src4.mono (by omega)), fun b o nb e => by
        have bD : b ≠ D := ne_of_none e hD
        rw [upd_ne bD]
        exact K4 _ _ nb (kx _ _ nb e)⟩
      rcases List.mem_append.mp hw with hw | hw
      · exact wok w hw
      · rw [List.mem_singleton.mp hw]
        omega
    · rintro Hx ⟨ws, hDx, wl, wok, srx, kx⟩
      obtain ⟨yx, hyx⟩ := srx.has
      refine ⟨_, rfl, _, rfl, _, rfl, (by show 2 ≤ sizeLine; decide), fun l2 n2 => ?_⟩
      have S2 := Same.upd (o := .lst [.int 4, .int g]) n2
      refine ⟨s, l2, _, _, rfl, ne_of_none hyx n2, upd_same, (by show 0 < 2; decide), (by show 2 ≤ 100000; decide), srx.same S2, by omega, fun v H3 hv src3 k3 => ?_⟩
      obtain ⟨h, rfl, h1, h2⟩ : ∃ h, v = .int h ∧ 1 ≤ h ∧ h ≤ MT := by
        simp only [List.mem_cons, List.mem_nil_iff, or_false] at hv
        rcases hv with rfl | rfl
        · exact ⟨_, rfl, by decide, by decide⟩
        · exact ⟨_, rfl, g1, g2⟩
      have e : MT = 1000000000000000000000000000000 := rfl
      refine ⟨s, h, _, rfl, by omega, by omega, src3, by omega, fun r H4 r0 r1 src4 k4 => ⟨_, _, rfl, rfl, _, rfl, (by show 2 ≤ sizeLine; decide), fun T5 n5 => ?_⟩⟩
      have S5 := Same.upd (o := .tup [.int (1 + r), .ref D]) n5
      have K4 := ((Kp.of S2).trans k3).trans k4
      refine k T5 D (1 + r) ws _ upd_same (S5 _ _ (K4 _ _ nDs hDx)) (by omega) (by omega) wok (by omega) (((K2.trans kx).trans K4).trans (Kp.of S5)) nDs
theorem ok_wline (T : LX K mg L) : Cal P w K mg base "_law_line" 4 L.f__law_line ["_law_well_here"] (spLLine) := T.d__law_line.cal fun fd F => fn_wline T F
end
/-! ### k49: the waits that have these periods -/
theorem prd_ok {st : Int} {ws : List Int} (s0 : 1 ≤ st) (s1 : st ≤ MT) (ok : ∀ w ∈ ws, 1 ≤ w ∧ w ≤ MT) : ∀ i, i < (prd st ws).length → okAt (prd st ws) i
  | 0, _ => ⟨st, prd_0 _ _, s0, s1⟩
  | i + 1, h => by
    rw [prd_len] at h
    obtain ⟨c, hc⟩ := prd_has (p := st) (ws := ws) (i := i) (by omega)
    obtain ⟨w, hw⟩ : ∃ w, ws[i]? = some w := ⟨_, List.getElem?_eq_getElem (by omega)⟩
    have ow := ok w (List.mem_of_getElem? hw)
    have c1 := prd_pos s0 (fun w hw => (ok w hw).1) hc
    obtain ⟨k, k1, e, lo, hi⟩ := rup_mul ow.1 c1
    obtain ⟨_, _, a3, _⟩ := rup_is ow.1 c1
    have eM : MT = 1000000000000000000000000000000 := rfl
    have em : mt30 = 1000000000000000000000000000000 := rfl
    refine ⟨c, _, hc, prd_step hw hc, a3, by omega, ?_⟩
    rw [e]
    exact emod_mul
theorem wt_len (st : Int) (ws : List Int) : (wtG (prd st ws)).length = ws.length := by
  unfold wtG
  rw [List.length_zipWith, List.length_drop, prd_len]
  omega
theorem wt_get {st w c : Int} {ws : List Int} {i : Nat} (hw : ws[i]? = some w) (hc : (prd st ws)[i]? = some c) : (wtG (prd st ws))[i]? = some (rupI w c - c + 1, if mt30 < rupI w c then mt30 else rupI w c) := by
  unfold wtG
  rw [List.getElem?_zipWith, hc, List.getElem?_drop, Nat.add_comm, prd_step hw hc]
/-- the range of a wait: what is true of it -/
structure Rng (w c lo hi : Int) : Prop where
  l1 : 1 ≤ lo
  lw : lo ≤ w
  wh : w ≤ hi
  hm : hi ≤ MT
  el : rupI lo c = rupI w c
  eh : rupI hi c = rupI w c
  bl : 1 ≤ lo - 1 → rupI (lo - 1) c ≠ rupI w c
  bh : hi + 1 ≤ MT → rupI (hi + 1) c ≠ rupI w c
theorem rng_of {w c : Int} (w1 : 1 ≤ w) (w2 : w ≤ MT) (c1 : 1 ≤ c) : Rng w c (rupI w c - c + 1) (if mt30 < rupI w c then mt30 else rupI w c) := by
  obtain ⟨k, k1, e, lo, hi⟩ := rup_mul w1 c1
  obtain ⟨_, a2, a3, _⟩ := rup_is w1 c1
  have eM : MT = 1000000000000000000000000000000 := rfl
  have em : mt30 = 1000000000000000000000000000000 := rfl
  have hb : ∀ v, 1 ≤ v → k * c - c < v → v ≤ k * c → rupI v c = rupI w c := fun v v1 h1 h2 => by rw [e]; exact rup_btw c1 v1 k1 h1 h2
  by_cases q : mt30 < rupI w c
  · rw [if_pos q]
    exact ⟨by omega, by omega, by omega, by omega, hb _ (by omega) (by omega) (by omega), hb _ (by omega) (by omega) (by omega), fun h => by
      rw [show rupI w c - c + 1 - 1 = k * c - c by omega, e]
      exact rup_low c1 (by omega), fun h => absurd h (by omega)⟩
  · rw [if_neg q]
    exact ⟨by omega, by omega, by omega, by omega, hb _ (by omega) (by omega) (by omega), hb _ (by omega) (by omega) (by omega), fun h => by
      rw [show rupI w c - c + 1 - 1 = k * c - c by omega, e]
      exact rup_low c1 (by omega), fun h => rup_high c1 (by omega) (by omega)⟩
theorem wt_rng {st : Int} {ws : List Int} (s0 : 1 ≤ st) (ok : ∀ w ∈ ws, 1 ≤ w ∧ w ≤ MT) {i : Nat} {o : Int × Int} (h : (wtG (prd st ws))[i]? = some o) : ∃ w c, ws[i]? = some w ∧ (prd st ws)[i]? = some c ∧ (prd st ws)[i + 1]? = some (rupI w c) ∧ 1 ≤ c ∧ Rng w c o.1 o.2 := by
  have hi := (List.getElem?_eq_some_iff.mp h).1
  rw [wt_len] at hi
  obtain ⟨c, hc⟩ := prd_has (p := st) (ws := ws) (i := i) (by omega)
  obtain ⟨w, hw⟩ : ∃ w, ws[i]? = some w := ⟨_, List.getElem?_eq_getElem hi⟩
  have ow := ok w (List.mem_of_getElem? hw)
  have c1 := prd_pos s0 (fun w hw => (ok w hw).1) hc
  rw [wt_get hw hc] at h
  cases h
  exact ⟨w, c, hw, hc, prd_step hw hc, c1, rng_of ow.1 ow.2 c1⟩
/-- one end of a range -/
def endO (j : Nat) (o : Int × Int) : Int := if j = 0 then o.1 else o.2
theorem ends_same {st : Int} {ws : List Int} (s0 : 1 ≤ st) (ok : ∀ w ∈ ws, 1 ≤ w ∧ w ≤ MT) (j : Nat) : prd st ((wtG (prd st ws)).map (endO j)) = prd st ws := by
  refine prd_eq (by rw [List.length_map, wt_len]) fun i v c q h1 h2 h3 => ?_
  rw [List.getElem?_map] at h1
  obtain ⟨o, ho, rfl⟩ := Option.map_eq_some_iff.mp h1
  obtain ⟨w, c', hw, hc, hq, c1, R⟩ := wt_rng s0 ok ho
  rw [h2] at hc
  cases hc
  rw [h3] at hq
  cases hq
  unfold endO
  split
  · exact R.el
  · exact R.eh
theorem ends_ok {st : Int} {ws : List Int} (s0 : 1 ≤ st) (ok : ∀ w ∈ ws, 1 ≤ w ∧ w ≤ MT) (j : Nat) : ∀ w ∈ (wtG (prd st ws)).map (endO j), 1 ≤ w ∧ w ≤ MT := fun v hv => by
  obtain ⟨o, ho, rfl⟩ := List.mem_map.mp hv
  obtain ⟨i, hi⟩ := List.getElem?_of_mem ho
  obtain ⟨w, c, hw, hc, hq, c1, R⟩ := wt_rng s0 ok hi
  have a := R.l1
  have b := R.lw
  have d := R.wh
  have e := R.hm
  unfold endO
  split <;> omega
/-- ws with b in place of what stands at i -/
def setW (ws : List Int) (i : Nat) (b : Int) : List Int := ws.take i ++ [b] ++ ws.drop (i + 1)
theorem setW_len {ws : List Int} {i : Nat} {b : Int} (h : i < ws.length) : (setW ws i b).length = ws.length := by
  unfold setW
  simp only [List.length_append, List.length_take, List.length_drop, List.length_singleton]
  omega
theorem setW_at {ws : List Int} {i : Nat} {b : Int} (h : i < ws.length) : (setW ws i b)[i]? = some b := by
  unfold setW
  rw [List.append_assoc, List.getElem?_append_right (by rw [List.length_take]; omega), List.length_take, show i - min i ws.length = 0 by omega]
  rfl
theorem setW_low {ws : List Int} {i j : Nat} {b : Int} (h : i < ws.length) (hj : j < i) : (setW ws i b)[j]? = ws[j]? := by
  unfold setW
  rw [List.append_assoc, List.getElem?_append_left (by rw [List.length_take]; omega), List.getElem?_take_of_lt hj]
theorem setW_take {ws : List Int} {i : Nat} {b : Int} (h : i < ws.length) : (setW ws i b).take i = ws.take i := by
  unfold setW
  rw [List.append_assoc, List.take_append_of_le_length (by rw [List.length_take]; omega), List.take_take, Nat.min_self]
theorem setW_mem {ws : List Int} {i : Nat} {b : Int} {P : Int → Prop} (h : ∀ w ∈ ws, P w) (hb : P b) : ∀ w ∈ setW ws i b, P w := fun w hw => by
  unfold setW at hw
  rcases List.mem_append.mp hw with hw | hw
  · rcases List.mem_append.mp hw with hw | hw
    · exact h w (List.mem_of_mem_take hw)
    · rw [List.mem_singleton.mp hw]
      exact hb
  · exact h w (List.mem_of_mem_drop hw)
theorem set_ne {st b w c : Int} {ws : List Int} {i : Nat} (hw : ws[i]? = some w) (hc : (prd st ws)[i]? = some c) (ne : rupI b c ≠ rupI w c) : prd st (setW ws i b) ≠ prd st ws := fun e => by
  have hi := (List.getElem?_eq_some_iff.mp hw).1
  have h1 : (prd st (setW ws i b))[i]? = some c := by rw [prd_take (setW_take hi) (by omega) (by rw [setW_len hi]; omega)]; exact hc
  have h2 := prd_step (setW_at hi) h1
  rw [e, prd_step hw hc] at h2
  exact ne (Option.some.inj h2).symm
theorem okAt_congr {ns ms : List Int} : ∀ {j : Nat}, (∀ i, i ≤ j → ns[i]? = ms[i]?) → okAt ms j → okAt ns j
  | 0, h, ⟨p, a, b⟩ => ⟨p, (h 0 (Nat.le_refl _)).trans a, b⟩
  | j + 1, h, ⟨c, p, a, b, d⟩ => ⟨c, p, (h j (by omega)).trans a, (h (j + 1) (Nat.le_refl _)).trans b, d⟩
/-- a period turned is refused at its place -/
theorem bent_bad {st w c : Int} {ws : List Int} {i : Nat} (hw : ws[i]? = some w) (hc : (prd st ws)[i]? = some c) (w1 : 1 ≤ w) (c1 : 1 < c) : ¬ okAt (setW (prd st ws) (i + 1) (rupI w c + 1)) (i + 1) := fun ⟨c', p, a, b, h1, h2, h3⟩ => by
  have hi := (List.getElem?_eq_some_iff.mp hw).1
  have l := prd_len ws st
  rw [setW_low (by omega) (by omega), hc] at a
  cases a
  rw [setW_at (by omega)] at b
  cases b
  obtain ⟨k, k1, e, lo, hi⟩ := rup_mul w1 (show 1 ≤ c by omega)
  rw [e, Int.add_comm, Int.add_mul_emod_self_right, Int.emod_eq_of_lt (by decide) c1] at h3
  cases h3
theorem bent_ok {st b : Int} {ws : List Int} {i j : Nat} (s0 : 1 ≤ st) (s1 : st ≤ MT) (ok : ∀ w ∈ ws, 1 ≤ w ∧ w ≤ MT) (hi : i < ws.length) (hj : j < i + 1) : okAt (setW (prd st ws) (i + 1) b) j := by
  have l := prd_len ws st
  exact okAt_congr (fun t ht => setW_low (by omega) (by omega)) (prd_ok s0 s1 ok j (by omega))
theorem cut_tk {xs : List V} {k : Nat} (h : k ≤ xs.length) : cutV xs none (some (k : Int)) = xs.take k := by
  unfold cutV
  rw [HT.sIx_nat, HT.sIx_none, Nat.min_eq_left h]
  rfl
/-! ### k49: the law's test -/
def KS (s : Addr) (H H' : Hp) : Prop := ∀ b o, b ≠ s → H b = some o → (∀ ps, o ≠ .tbl ps) → H' b = some o
theorem KS.of {s : Addr} {H H' : Hp} (h : Kp s H H') : KS s H H' := fun b o n e _ => h b o n e
theorem KS.ext {s : Addr} {H H' : Hp} (h : LamX.ExtN H H') : KS s H H' := fun b o _ e n => h b o e n
theorem KS.trans {s : Addr} {H H1 H2 : Hp} (h : KS s H H1) (h' : KS s H1 H2) : KS s H H2 := fun b o n e z => h' b o n (h b o n e z) z
theorem TabS.nl {H H' : Hp} {P : Addr} {q : Str} (t : LamX.TabS H P q) (n : NL H H') : LamX.TabS H' P q := by
  obtain ⟨ps, h1, h2, h3⟩ := t
  refine ⟨ps, n _ _ h1 (fun _ z => nomatch z), h2, fun pos cv hc => ?_⟩
  obtain ⟨c, e1, e2⟩ := h3 pos cv hc
  exact ⟨c, e1, n _ _ e2 (fun _ z => by unfold LamX.CodeO at z; cases z)⟩
theorem Tabs.nl {T : List (Addr × Str)} {H H' : Hp} (t : LamX.Tabs T H) (n : NL H H') : LamX.Tabs T H' := fun p hp => TabS.nl (t p hp) n
def wtD (o : Int × Int) : PyData := .tuple [.int o.1, .int o.2]
theorem prw_dp {K : PySem.W.Frag} {H : Hp} {xs : List V} {ps : List (Int × Int)} (h : PrW H xs ps) : DpAll K H xs (ps.map wtD) := by
  induction h with
  | nil => exact .nil
  | cons h _ ih =>
    obtain ⟨c, rfl, hc⟩ := h
    exact .cons (.tup (SqT.of hc) (.cons (.int _) (.cons (.int _) .nil))) ih
theorem PrW.tp {H H' : Hp} {xs : List V} {ps : List (Int × Int)} (h : PrW H xs ps) (k : ∀ b ys, H b = some (.tup ys) → H' b = some (.tup ys)) : PrW H' xs ps := L2.Paired.mapP h fun _ _ ⟨c, e, z⟩ => ⟨c, e, k _ _ z⟩
theorem canW : ∀ ps : List (Int × Int), PyData.canLayAll0 (ps.map wtD) = true
  | [] => by simp [PyData.canLayAll0]
  | o :: r => by rw [List.map_cons, PyData.canLayAll0, canW r]; simp [wtD, PyData.canLay0, PyData.canLayAll0]
theorem depW : ∀ ps : List (Int × Int), PyData.depthAll (ps.map wtD) ≤ 10
  | [] => by simp [PyData.depthAll]
  | o :: r => by
    have := depW r
    rw [List.map_cons, PyData.depthAll]
    have h2 : (wtD o).depth ≤ 9 := by simp [wtD, PyData.depth, PyData.depthAll]
    omega
theorem shW (ps : List (Int × Int)) : SeqAt.shaped (.list (ps.map wtD)) = true := by
  refine Bool.and_eq_true_iff.mpr ⟨?_, decide_eq_true ?_⟩
  · rw [PyData.canLay0]
    exact canW ps
  · have := depW ps
    rw [PyData.depth]
    omega
theorem eqW (ps : List (Int × Int)) : PyData.eqv (.list (ps.map wtD)) (.list (ps.map wtD)) = true := SeqAt.eqv_refl _ (Bool.and_eq_true_iff.mp (shW ps)).1
def logD (i : Int) : PyData := .tuple [.str "log", .int i]
theorem shLog (i : Int) : SeqAt.shaped (logD i) = true := by
  refine Bool.and_eq_true_iff.mpr ⟨by simp [logD, PyData.canLay0, PyData.canLayAll0]; decide +kernel, decide_eq_true (by simp [logD, PyData.depth, PyData.depthAll])⟩
theorem eqLog (i : Int) : PyData.eqv (logD i) (logD i) = true := SeqAt.eqv_refl _ (Bool.and_eq_true_iff.mp (shLog i)).1
theorem dpLog {K : PySem.W.Frag} {H : Hp} {p : Addr} {i : Int} (h : H p = some (.tup [.str "log", .int i])) : Dp K H (.ref p) (logD i) := .tup (SqT.of h) (.cons (.str _) (.cons (.int _) .nil))
theorem said_waits {K : PySem.W.Frag} {mg : Str → Option Value} {L : LA} (T : LX K mg L) {Hy : Hp} {b : Addr} {ns : List Int} {i : Nat} {Q N : VK} {E : XK} (hE : ∀ cls d H', SaidR K L cls d H' Q → E cls d H') (hb : Hy b = some (.lst (ns.map V.int))) (l1 : 1 ≤ ns.length) (l13 : ns.length ≤ 13) (lt : i < ns.length) (low : ∀ j, j < i → okAt ns j) (bad : ¬ okAt ns i)
    (k : ∀ p H', H' p = some (.tup [.str "log", .int (i : Nat)]) → Same Hy H' → Q (.ref p) H') : spWaits L.e_InvalidLog [.ref b] Hy N E :=
  ⟨b, ns, rfl, hb, l1, l13, fun all => absurd (all i lt) bad, fun j hj hlow hbad d H' hd s => by
    have e : j = i := by
      rcases Nat.lt_trichotomy j i with h | h | h
      · exact absurd (low j h) hbad
      · exact h
      · exact absurd (hlow i h) bad
    subst e
    exact hE _ _ _ ⟨L.e_InvalidLog, d, _, _, _, _, _, _, rfl, rfl, errF_InvalidLog T, .log _ T.ne_InvalidLog_at hd fun p H'' hp s2 _ => k p H'' hp (s.trans s2)⟩⟩
theorem cut_set {ws : List Int} {i : Nat} {b : Int} (h : i < ws.length) : cutV (ws.map V.int) none (some ((i : Nat) : Int)) ++ [V.int b] ++ cutV (ws.map V.int) (some (((i : Nat) : Int) + 1)) none = (setW ws i b).map V.int := by
  have e : ((i : Nat) : Int) + 1 = ((i + 1 : Nat) : Int) := rfl
  rw [e, cut_tk (by rw [List.length_map]; omega), cut_dr _ _ (by rw [List.length_map]; omega)]
  unfold setW
  rw [List.map_append, List.map_append, List.map_take, List.map_drop]
  rfl
def spRight9 (L : LA) : Sp := fun vs H Q _ => ∃ s, vs = [.ref s] ∧ Src H s 0 ∧ LamX.Tabs (LT L) H ∧ ∀ H', KS s H H' → LamX.Tabs (LT L) H' → Q (.bl true) H'
section
variable {P : Program} {w : World} {K : PySem.W.Frag} {mg : Str → Option Value} {base : Heap} {L : LA}
abbrev N_wright : List Str := ["_law_well_here", "_law_step", "_law_waits", "_law_seen", "_law_told", "_law_wrong", "_law_place_here", "_law_at", "_law_low", "_law_high", "_law_beside", "_law_some", "_law_bent", "_law_wait", "_law_ends"]
theorem sc_wright : FnScope N_wright ["_law_well_here"] (defScope st__law_right) := ⟨rfl, rfl, rfl, by decide +kernel, rfl, by decide +kernel, by decide +kernel⟩
theorem fn_wright (T : LX K mg L) (B : TX base mg L) {fd : FuncData} (F : FunT K "_law_right" "_law_right" st__law_right L.f__law_right L.k__law_right fd) : FnOk P w K mg base CX0 13 L.f__law_right fd ["_law_well_here"] (spRight9 L) := by
  have G_wline := ok_wline (P := P) (w := w) (base := base) T
  have G_wperiods := ok_wperiods (P := P) (w := w) (base := base) T
  have G_waitsof := ok_waitsof (P := P) (w := w) (base := base) T
  have nd := sc_wright.nd
  refine F.ok sc_wright (fun vs H Q E h => ?_) (fun A outer S H vs Q E hr h => ?_)
  · obtain ⟨s, rfl, _⟩ := h
    rfl
  · obtain ⟨s, rfl, src, tabs, k⟩ := h
    refine ⟨_, (pss_cons (ps_asg (pe_c G_wline (hr.mono (by decide)) rfl (pa_cons (pv 0) pa_nil)) (pg_tup rfl (pgs_cons (pg_name (i := 1) nd rfl (Or.inl rfl)) (pgs_cons (pg_name (i := 2) nd rfl (Or.inl rfl)) pgs_nil))))
       (pss_cons (ps_set (i := 3) nd rfl (Or.inl rfl) (pe_c G_wperiods (hr.mono (by decide)) rfl (pa_cons (pv 1) (pa_cons (pv 2) pa_nil))))
       (pss_cons (ps_set (i := 4) nd rfl (Or.inl rfl) (pe_cX G_waitsof (hr.mono (by decide)) rfl (fun σ => passAt (takes0) σ) (pa_cons (pv 3) pa_nil)))
       (pss_cons (ps_expr (pe_bm PySem.F.plainAttrs_list PySem.F.slot_list_append PySem.F.type_list_append mt_append (pe_cX G_waitsof (hr.mono (by decide)) rfl (fun σ => passAt (takes0) σ) (pa_cons (pv 3) pa_nil)) (pa_cons pe_non pa_nil)))
       (pss_cons (ps_if (pt_cmpR (op_neD hr.units) (pe_cX G_waitsof (hr.mono (by decide)) rfl (fun σ => passAt (takes0) σ) (pa_cons (pv 3) pa_nil)) (pv 4) (nomark _)) (pss_one (ps_ret pe_bl)) pss_nil)
       (pss_cons (ps_setLc (i := 5) (own := [("_law_wait", 13), ("_law_ends", 14)]) (g := gTup K 2 (gCons (gName 13) (gCons (gName 14) (gNil)))) rfl nd rfl rfl (sw_true rfl rfl rfl (by decide +kernel)) (pi_zip (by rfl) T.b_zip (pa_cons (pv 2) (pa_cons (pv 4) pa_nil))) (blkOk_by (own := [("_law_wait", 13), ("_law_ends", 14)]) (N := N_wright) (sc := defScope st__law_right) (by decide +kernel)) (fun _ _ _ _ _ => pg_tup rfl (pgs_cons (pg_name (i := 13) nd rfl (Or.inl rfl)) (pgs_cons (pg_name (i := 14) nd rfl (Or.inl rfl)) pgs_nil))) (fun _ _ _ _ _ => pts_one (pt_not (pt_four op_le op_le op_le pe_int (pe_ix (r := rIxT K) ix_tup (pv 14) pe_int (fun _ _ => rfl)) (pv 13) (pe_ix (r := rIxT K) ix_tup (pv 14) pe_int (fun _ _ => rfl))))) (fun _ _ _ _ _ => pe_int))
       (pss_cons (ps_if (PW.pt (pw_or (pt_cmpR op_ne (pe_callB call_len_seq (by rfl) T.b_len PySem.boot_len (pa_cons (pv 4) pa_nil)) (pe_callB call_len_seq (by rfl) T.b_len PySem.boot_len (pa_cons (pv 2) pa_nil)) (nomark _)) (pw_or1 (pt_cmpR (op_neD hr.units) (pv 5) (pe_lst pa_nil) (nomark _))))) (pss_one (ps_ret pe_bl)) pss_nil)
       (pss_cons (ps_for PassesOwn.never rfl (pi_tup (pe_tup (pa_cons pe_int (pa_cons pe_int pa_nil)))) (pg_name (i := 6) nd rfl (Or.inr rfl)) (pss_one (ps_if (pt_cmpR (op_neD hr.units) (pe_c G_wperiods (hr.mono (by decide)) rfl (pa_cons (pv 1) (pa_cons (pe_lc (own := [("_law_ends", 14)]) (g := gName 14) (tt := tYes) rfl nd (pi_list (pv 4)) (blkOk_by (own := [("_law_ends", 14)]) (N := N_wright) (sc := defScope st__law_right) (by decide +kernel)) (fun _ _ _ _ _ => pg_name (i := 14) nd rfl (Or.inl rfl)) (fun _ _ _ _ _ => pts_nil) (fun _ _ _ _ _ => (pe_ix (r := rIxT K) ix_tup (pv 14) (pv 6) (fun _ _ => rfl)))) pa_nil))) (pv 3) (nomark _)) (pss_one (ps_ret pe_bl)) pss_nil)))
       (pss_cons (ps_for PassesOwn.never rfl (pi_enum (by rfl) T.b_enumerate (pa_cons (pv 4) pa_nil)) (pg_tup rfl (pgs_cons (pg_name (i := 7) nd rfl (Or.inl rfl)) (pgs_cons (pg_tup rfl (pgs_cons (pg_name (i := 8) nd rfl (Or.inl rfl)) (pgs_cons (pg_name (i := 9) nd rfl (Or.inl rfl)) pgs_nil))) pgs_nil))) (pss_cons (ps_for PassesOwn.never rfl (pi_tup (pe_tup (pa_cons (pe_op op_sub (pv 8) pe_int) (pa_cons (pe_op op_add (pv 9) pe_int) pa_nil)))) (pg_name (i := 10) nd rfl (Or.inl rfl)) (pss_cons (ps_set (i := 11) nd rfl (Or.inl rfl) (pe_op op_cat (pe_op op_cat (pe_slice (r := rSlL K) sl_list (pv 2) po_none (po_some (pv 7))) (pe_lst (pa_cons (pv 10) pa_nil))) (pe_slice (r := rSlL K) sl_list (pv 2) (po_some (pe_op op_add (pv 7) pe_int)) po_none)))
       (pss_one (ps_if (PW.pt (pw_and (pt_chain op_le op_le pe_int (pv 10) (pe_op op_pow pe_int pe_int)) (pw_and1 (pt_cmpR (op_eqD hr.units) (pe_c G_wperiods (hr.mono (by decide)) rfl (pa_cons (pv 1) (pa_cons (pv 11) pa_nil))) (pv 3) (nomark _))))) (pss_one (ps_ret pe_bl)) pss_nil))))
       (pss_cons (ps_set (i := 12) nd rfl (Or.inr rfl) (pe_op op_cat (pe_op op_cat (pe_slice (r := rSlL K) sl_list (pv 3) po_none (po_some (pe_op op_add (pv 7) pe_int))) (pe_lst (pa_cons (pe_op op_add (pe_ix (r := rIxL K) ix_list (pv 3) (pe_op op_add (pv 7) pe_int) (fun _ _ => rfl)) pe_int) pa_nil))) (pe_slice (r := rSlL K) sl_list (pv 3) (po_some (pe_op op_add (pv 7) pe_int)) po_none)))
       (pss_one (ps_if (PW.pt (pw_and (pt_cmpR op_gt (pe_ix (r := rIxL K) ix_list (pv 3) (pv 7) (fun _ _ => rfl)) pe_int (nomark _)) (pw_and1 (pt_cmpR (op_neD hr.units) (pe_lamc (T := LT L) (TT := TTsaid K L) (c := L.k__law_right) (P := L.t__law_right) (k := 8) T.d__law_said sc_wsaid rfl (Or.inl rfl) (fun _ => said_gives T (hr.mono (by decide))) B.b__law_right rfl (lt_mem_wright T) (lt_one_wright T) (hr.mono (by decide)) (LamX.lamS_by (sc := defScope st__law_right) (by decide +kernel)) rfl (fun _ _ _ _ _ => rfl) (fun A outer s H E f c2 hr => by exact (pe_cX G_waitsof (hr.mono (by decide)) rfl (fun σ => passAt (takes_of rfl rfl rfl rfl) σ) (pa_cons (pv 12) pa_nil)))) (pe_tup (pa_cons pe_str (pa_cons (pe_op op_add (pv 7) pe_int) pa_nil))) (nomark _))))) (pss_one (ps_ret pe_bl)) pss_nil)))))
       (pss_cons (ps_if (pt_cmpR (op_neD hr.units) (pe_lamc (T := LT L) (TT := TTsaid K L) (c := L.k__law_right) (P := L.t__law_right) (k := 8) T.d__law_said sc_wsaid rfl (Or.inl rfl) (fun _ => said_gives T (hr.mono (by decide))) B.b__law_right rfl (lt_mem_wright T) (lt_one_wright T) (hr.mono (by decide)) (LamX.lamS_by (sc := defScope st__law_right) (by decide +kernel)) rfl (fun _ _ _ _ _ => rfl) (fun A outer s H E f c2 hr => by exact (pe_cX G_waitsof (hr.mono (by decide)) rfl (fun σ => passAt (takes_of rfl rfl rfl rfl) σ) (pa_cons (pe_lst (pa_cons pe_int (pa_cons (pe_op op_mulW pe_int (pe_op op_pow pe_int pe_int)) pa_nil))) pa_nil)))) (pe_tup (pa_cons pe_str (pa_cons pe_int pa_nil))) (nomark _)) (pss_one (ps_ret pe_bl)) pss_nil)
       (pss_cons (ps_if (pt_cmpR (op_neD hr.units) (pe_lamc (T := LT L) (TT := TTsaid K L) (c := L.k__law_right) (P := L.t__law_right) (k := 8) T.d__law_said sc_wsaid rfl (Or.inl rfl) (fun _ => said_gives T (hr.mono (by decide))) B.b__law_right rfl (lt_mem_wright T) (lt_one_wright T) (hr.mono (by decide)) (LamX.lamS_by (sc := defScope st__law_right) (by decide +kernel)) rfl (fun _ _ _ _ _ => rfl) (fun A outer s H E f c2 hr => by exact (pe_cX G_waitsof (hr.mono (by decide)) rfl (fun σ => passAt (takes_of rfl rfl rfl rfl) σ) (pa_cons (pe_lst (pa_cons (pe_op op_add (pe_op op_pow pe_int pe_int) pe_int) pa_nil)) pa_nil)))) (pe_tup (pa_cons pe_str (pa_cons pe_int pa_nil))) (nomark _)) (pss_one (ps_ret pe_bl)) pss_nil)
       (pss_one (ps_ret (pe_and (pe_cmpR (op_eqD hr.units) (pe_cX G_waitsof (hr.mono (by decide)) rfl (fun σ => passAt (takes0) σ) (pa_cons (pe_lst (pa_cons (pe_op op_pow pe_int pe_int) (pa_cons (pe_op op_pow pe_int pe_int) pa_nil))) pa_nil)) (pe_lst (pa_cons (pe_tup (pa_cons pe_int (pa_cons (pe_op op_pow pe_int pe_int) pa_nil))) pa_nil)) (nomark _)) (pe_one (pe_cmpR (op_eqD hr.units) (pe_cX G_waitsof (hr.mono (by decide)) rfl (fun σ => passAt (takes0) σ) (pa_cons (pe_lst (pa_cons pe_int pa_nil)) pa_nil)) (pe_lst pa_nil) (nomark _))))))))))))))))), ?_⟩
    obtain ⟨y0, hy0⟩ := src.has
    refine ⟨_, rfl, s, 0, rfl, src, by decide, fun T0 l st ws H1 hT hl s0 s1 ok ln k1 nls => ⟨T0, _, rfl, SqT.of hT, rfl, _, _, rfl, _, _, rfl, rfl, ?_⟩⟩
    have okW := prd_ok s0 s1 ok
    have pl := prd_len ws st
    have pl1 : 1 ≤ (prd st ws).length := by omega
    have pl13 : (prd st ws).length ≤ 13 := by omega
    have t1 : LamX.Tabs (LT L) H1 := Tabs.nl tabs (Kp.nl k1 hy0)
    refine ⟨_, rfl, _, rfl, l, st, ws, rfl, hl, s0, s1, ok, ln, fun ps H2 hp s2 n2 => ?_⟩
    refine ⟨_, rfl, ps, prd st ws, rfl, hp, pl1, pl13, fun _ tl xs H3 hx hz s3 n3 => ?_, fun i hi _ hb => absurd (okW i hi) hb⟩
    have hp3 := s3 _ _ hp
    refine ⟨_, rfl, ps, prd st ws, rfl, hp3, pl1, pl13, fun _ tl2 xs2 H4 hx2 hz2 s4 n4 => ?_, fun i hi _ hb => absurd (okW i hi) hb⟩
    have hx4 := s4 _ _ hx
    have xl := paired_len hz
    rw [wt_len] at xl
    have xl2 := paired_len hz2
    rw [wt_len] at xl2
    refine ⟨.inl ⟨rfl, _, SqL.of hx2⟩, tl2, _, _, rfl, rfl, hx2, small1 (by omega), ?_⟩
    have S35 : Same H3 (upd H4 tl2 (.lst (xs2 ++ [.non]))) := fun b o e => by rw [upd_ne (ne_of_none e n4)]; exact s4 _ _ e
    generalize upd H4 tl2 (.lst (xs2 ++ [.non])) = H5 at S35 ⊢
    refine ⟨_, rfl, ps, prd st ws, rfl, S35 _ _ hp3, pl1, pl13, fun _ tl3 xs3 H6 hx3 hz3 s6 n6 => ?_, fun i hi _ hb => absurd (okW i hi) hb⟩
    have S36 := S35.trans s6
    have hx6 := S36 _ _ hx
    have hz6 : PrW H6 xs (wtG (prd st ws)) := hz.tp fun b ys e => S36 _ _ e
    refine ⟨_, rfl, .list ((wtG (prd st ws)).map wtD), .list ((wtG (prd st ws)).map wtD), .lst (SqL.of hx3) (prw_dp hz3), .lst (SqL.of hx6) (prw_dp hz6), shW _, shW _, ?_⟩
    rw [eqW]
    refine ⟨_, rfl, iteF ?_⟩
    have S16 := (s2.trans s3).trans S36
    have hl6 := S16 _ _ hl
    have hp6 := S36 _ _ hp3
    have t6 : LamX.Tabs (LT L) H6 := Tabs.nl t1 (NL.of S16)
    have K6 : KS s H H6 := (KS.of k1).trans (KS.of (Kp.of S16))
    refine ⟨_, rfl, _, rfl, l, tl, _, _, rfl, SqL.of hl6, SqL.of hx6, fun D nD => ?_⟩
    refine lc_zip (K := K) (a := l) (b := tl) (xs := ws.map V.int) (ys := xs) (by rw [List.length_map]; omega) (fun j Hy => Hy D = some (.lst []) ∧ Same H6 Hy) ⟨upd_same, Same.upd nD⟩ (fun j Hy ⟨_, sy⟩ => ⟨SqL.of (sy _ _ hl6), SqL.of (sy _ _ hx6)⟩) ?_ ?_
    · rintro j x y T' Hy hxj hyj ⟨hD, sy⟩ hT'
      rw [List.getElem?_map] at hxj
      obtain ⟨wj, hwj, rfl⟩ := Option.map_eq_some_iff.mp hxj
      obtain ⟨o, ho, c, rfl, hc⟩ := paired_get hz6 hyj
      obtain ⟨w', c', hw', hc', hq', c1, R⟩ := wt_rng s0 ok ho
      rw [hwj] at hw'
      cases hw'
      have sT := Same.upd (o := .tup [.int wj, .ref c]) hT'
      have hcT := sT _ _ (sy _ _ hc)
      refine ⟨T', _, rfl, SqT.of upd_same, rfl, _, _, rfl, _, _, rfl, rfl, rfl, ?_⟩
      refine ⟨_, rfl, c, _, 0, .int o.1, rfl, rfl, SqT.of hcT, rfl, _, _, rfl, rfl, _, rfl, ?_⟩
      rw [decide_eq_true R.l1]
      refine iteT ⟨_, rfl, _, _, rfl, rfl, _, rfl, ?_⟩
      rw [decide_eq_true R.lw]
      refine iteT ⟨_, rfl, c, _, 1, .int o.2, rfl, rfl, SqT.of hcT, rfl, _, _, rfl, rfl, _, rfl, ?_⟩
      rw [decide_eq_true R.wh]
      refine iteF ⟨sT _ _ hD, fun b u e => sT _ _ (sy _ _ e)⟩
    rintro H7 ⟨hD7, s7⟩
    refine ⟨_, rfl, tl, xs, rfl, .inl (SqL.of (s7 _ _ hx6)), _, rfl, l, _, rfl, .inl (SqL.of (s7 _ _ hl6)), rfl, _, rfl, ite2 (fun c => ?_) (fun _ => ?_)⟩
    · rw [List.length_map, xl] at c
      simp at c
    refine ⟨_, rfl, (by show 0 ≤ sizeLine; decide), fun l0 n0 => ?_⟩
    have s70 := Same.upd (o := .lst []) n0
    refine ⟨intsD [], intsD [], Dp.ints (ns := []) (s70 _ _ hD7), Dp.ints (ns := []) upd_same, shInts [], shInts [], ?_⟩
    rw [eqInts]
    refine ⟨_, rfl, iteF ?_⟩
    have s68 := s7.trans s70
    generalize upd H7 l0 (.lst []) = H8 at s68 ⊢
    have hx8 := s68 _ _ hx6
    have hz8 : PrW H8 xs (wtG (prd st ws)) := hz6.tp fun b ys e => s68 _ _ e
    have hl8 := s68 _ _ hl6
    have hp8 := s68 _ _ hp6
    have t8 : LamX.Tabs (LT L) H8 := Tabs.nl t6 (NL.of s68)
    have K8 : KS s H H8 := K6.trans (KS.of (Kp.of s68))
    refine ⟨(by show 2 ≤ sizeLine; decide), fun tp ntp => ⟨tp, rfl, ⟨_, SqT.of upd_same⟩, ?_⟩⟩
    refine for_tup (K := K) (a := tp) (xs := [.int 0, .int 1]) (fun i σ Hx => ∃ v6 : Option V, σ = [some (.ref s), some (.int st), some (.ref l), some (.ref ps), some (.ref tl), some (.ref D), v6, none, none, none, none, none, none, none, none] ∧ Same (upd H8 tp (.tup [.int 0, .int 1])) Hx) ⟨none, rfl, Same.refl _⟩ (fun i σ Hx _ ⟨_, _, sx⟩ => SqT.of (sx _ _ upd_same)) ?_ ?_
    · rintro i x σ Hx hi ⟨v6, rfl, sx⟩
      have h8x : ∀ {b o}, H8 b = some o → Hx b = some o := fun e => sx _ _ (Same.upd ntp _ _ e)
      obtain ⟨rfl, hi2⟩ : x = .int (i : Nat) ∧ i ≤ 1 := by
        match i, hi with
        | 0, hi => exact ⟨(Option.some.inj hi).symm, by decide⟩
        | 1, hi => exact ⟨(Option.some.inj hi).symm, by decide⟩
      refine ⟨_, rfl, _, rfl, tl, rfl, ⟨_, SqL.of (h8x hx8)⟩, fun D2 nD2 => ?_⟩
      refine lc_list (K := K) (a := tl) (xs := xs) (fun j Hy => Hy D2 = some (.lst ((((wtG (prd st ws)).take j).map (endO i)).map V.int)) ∧ Same Hx Hy) ⟨upd_same, Same.upd nD2⟩ (fun j Hy _ ⟨_, sy⟩ => SqL.of (sy _ _ (h8x hx8))) ?_ ?_
      · rintro j x Hy hxj ⟨hD2, sy⟩
        obtain ⟨o, ho, c, rfl, hc⟩ := paired_get hz8 hxj
        have hj := (List.getElem?_eq_some_iff.mp ho).1
        rw [wt_len] at hj
        have hcy := sy _ _ (h8x hc)
        have at2 : atI [V.int o.1, V.int o.2] (i : Nat) = some (.int (endO i o)) := by
          match i, hi2 with
          | 0, _ => rfl
          | 1, _ => rfl
        refine ⟨rfl, tYes_of ⟨_, rfl, _, rfl, c, _, (i : Nat), _, rfl, rfl, SqT.of hcy, at2, _, hD2, small1 (by rw [List.length_map, List.length_map, List.length_take]; omega), ?_, fun b u e => by rw [upd_ne (ne_of_none e nD2)]; exact sy _ _ e⟩⟩
        rw [upd_same, List.take_add_one, ho, Option.toList_some, List.map_append, List.map_append]
        rfl
      rintro Hy ⟨hD2, sy⟩
      rw [xl, ← wt_len st ws, List.take_length] at hD2
      refine ⟨D2, st, _, rfl, hD2, s0, s1, ends_ok s0 ok i, by rw [List.length_map, wt_len]; omega, fun p2 Hz hp2 sz nz => ?_⟩
      have sxz := sy.trans sz
      refine ⟨_, rfl, intsD _, intsD (prd st ws), Dp.ints hp2, Dp.ints (sxz _ _ (h8x hp8)), shInts _, shInts _, ?_⟩
      rw [ends_same s0 ok i, eqInts, decide_eq_true rfl]
      exact ⟨_, rfl, iteF ⟨_, rfl, sx.trans sxz⟩⟩
    rintro σ H9 ⟨v6, rfl, s9'⟩
    have s9 := (Same.upd ntp).trans s9'
    have hx9 := s9 _ _ hx8
    have hz9 : PrW H9 xs (wtG (prd st ws)) := hz8.tp fun b ys e => s9 _ _ e
    have hl9 := s9 _ _ hl8
    have hp9 := s9 _ _ hp8
    have t9 : LamX.Tabs (LT L) H9 := Tabs.nl t8 (NL.of s9)
    have K9 : KS s H H9 := K8.trans (KS.of (Kp.of s9))
    refine ⟨_, rfl, tl, xs, rfl, SqL.of hx9, for_enum (K := K) (a := tl) (xs := xs) (fun i σ Hx => ∃ v6 v7 v8 v9 v10 v11 v12 : Option V, σ = [some (.ref s), some (.int st), some (.ref l), some (.ref ps), some (.ref tl), some (.ref D), v6, v7, v8, v9, v10, v11, v12, none, none] ∧ LamX.ExtN H9 Hx ∧ LamX.Tabs (LT L) Hx) ⟨_, _, _, _, _, _, _, rfl, LamX.ExtN.refl _, t9⟩ (fun i σ Hx _ ⟨_, _, _, _, _, _, _, _, ex, _⟩ => SqL.of (ExtN.lst ex hx9)) ?_ ?_⟩
    · rintro i x T' σ Hx hxi ⟨v6, v7, v8, v9, v10, v11, v12, rfl, ex, tx⟩ hT'
      obtain ⟨o, ho, c, rfl, hc⟩ := paired_get hz9 hxi
      obtain ⟨w', c', hw', hc', hq', c1, R⟩ := wt_rng s0 ok ho
      have hi := (List.getElem?_eq_some_iff.mp hw').1
      have ow := ok w' (List.mem_of_getElem? hw')
      have sT := Same.upd (o := .tup [.int (i : Nat), .ref c]) hT'
      have exT : LamX.ExtN H9 (upd Hx T' (.tup [.int (i : Nat), .ref c])) := ex.trans (LamX.ExtN.of sT)
      have txT : LamX.Tabs (LT L) (upd Hx T' (.tup [.int (i : Nat), .ref c])) := Tabs.nl tx (NL.of sT)
      have hcT : (upd Hx T' (.tup [.int (i : Nat), .ref c])) c = some (.tup [.int o.1, .int o.2]) := exT _ _ hc fun _ z => nomatch z
      refine ⟨T', _, rfl, SqT.of upd_same, rfl, _, _, rfl, _, _, rfl, ?_⟩
      generalize upd Hx T' (.tup [.int (i : Nat), .ref c]) = Hy at exT txT hcT ⊢
      have hly := ExtN.lst exT hl9
      have hpy := ExtN.lst exT hp9
      refine ⟨c, _, rfl, SqT.of hcT, rfl, _, _, rfl, _, _, rfl, rfl, rfl, ?_⟩
      refine ⟨_, rfl, _, _, rfl, rfl, _, rfl, _, _, rfl, rfl, (by show 2 ≤ sizeLine; decide), fun tq ntq => ⟨tq, rfl, ⟨_, SqT.of upd_same⟩, ?_⟩⟩
      have sq := Same.upd (o := .tup [.int (o.1 - 1), .int (o.2 + 1)]) ntq
      refine for_tup (K := K) (a := tq) (xs := [.int (o.1 - 1), .int (o.2 + 1)]) (fun i' σ Hz => ∃ v10 v11 : Option V, σ = [some (.ref s), some (.int st), some (.ref l), some (.ref ps), some (.ref tl), some (.ref D), v6, some (.int (i : Nat)), some (.int o.1), some (.int o.2), v10, v11, v12, none, none] ∧ Same (upd Hy tq (.tup [.int (o.1 - 1), .int (o.2 + 1)])) Hz) ⟨_, _, rfl, Same.refl _⟩ (fun i' σ Hz _ ⟨_, _, _, sz⟩ => SqT.of (sz _ _ upd_same)) ?_ ?_
      · rintro i' x σ Hz hxi' ⟨v10, v11, rfl, sz⟩
        obtain ⟨b, rfl, hne⟩ : ∃ b, x = .int b ∧ (1 ≤ b → b ≤ MT → rupI b c' ≠ rupI w' c') := by
          match i', hxi' with
          | 0, e => exact ⟨_, (Option.some.inj e).symm, fun h _ => R.bl h⟩
          | 1, e => exact ⟨_, (Option.some.inj e).symm, fun _ h => R.bh h⟩
        have szy := sq.trans sz
        have hlz := szy _ _ hly
        have hpz := szy _ _ hpy
        refine ⟨_, rfl, _, rfl, _, rfl, l, _, rfl, SqL.of hlz, fun q1 m1 => ?_⟩
        have S1 := Same.upd (o := .lst (cutV (ws.map V.int) none (some ((i : Nat) : Int)))) m1
        refine ⟨_, rfl, (by show 1 ≤ sizeLine; decide), fun q2 m2 => ?_⟩
        have S2 := Same.upd (o := .lst [.int b]) m2
        have cl1 := cutV_length (ws.map V.int) none (some ((i : Nat) : Int))
        have cl2 := cutV_length (ws.map V.int) (some (((i : Nat) : Int) + 1)) none
        rw [List.length_map] at cl1 cl2
        refine ⟨q1, q2, _, _, rfl, rfl, S2 _ _ upd_same, upd_same, small2 (by show _ + 1 ≤ 100000; omega), fun q3 m3 => ?_⟩
        have S3 := Same.upd (o := .lst (cutV (ws.map V.int) none (some ((i : Nat) : Int)) ++ [.int b])) m3
        have SS := (S1.trans S2).trans S3
        refine ⟨_, rfl, _, rfl, _, _, rfl, rfl, _, rfl, l, _, rfl, SqL.of (SS _ _ hlz), fun q4 m4 => ?_⟩
        have S4 := Same.upd (o := .lst (cutV (ws.map V.int) (some (((i : Nat) : Int) + 1)) none)) m4
        refine ⟨q3, q4, _, _, rfl, rfl, S4 _ _ upd_same, upd_same, small2 (by rw [List.length_append]; show _ + 1 + _ ≤ 100000; omega), fun q5 m5 => ?_⟩
        rw [cut_set hi]
        have S5 := Same.upd (o := .lst ((setW ws i b).map V.int)) m5
        have ST := (SS.trans S4).trans S5
        have h5 := upd_same (H := upd (upd (upd (upd Hz q1 (.lst (cutV (ws.map V.int) none (some ((i : Nat) : Int))))) q2 (.lst [.int b])) q3 (.lst (cutV (ws.map V.int) none (some ((i : Nat) : Int)) ++ [.int b]))) q4 (.lst (cutV (ws.map V.int) (some (((i : Nat) : Int) + 1)) none))) (a := q5) (o := .lst ((setW ws i b).map V.int))
        generalize upd (upd (upd (upd (upd Hz q1 (.lst (cutV (ws.map V.int) none (some ((i : Nat) : Int))))) q2 (.lst [.int b])) q3 (.lst (cutV (ws.map V.int) none (some ((i : Nat) : Int)) ++ [.int b]))) q4 (.lst (cutV (ws.map V.int) (some (((i : Nat) : Int) + 1)) none))) q5 (.lst ((setW ws i b).map V.int)) = Hv at ST h5 ⊢
        have done_ : ∀ {Hw : Hp}, Same Hv Hw → ∃ u v : Option V, ([some (V.ref s), some (V.int st), some (V.ref l), some (V.ref ps), some (V.ref tl), some (V.ref D), v6, some (V.int (i : Nat)), some (V.int o.1), some (V.int o.2), some (V.int b), some (V.ref q5), v12, none, none] : L2.St) = [some (.ref s), some (.int st), some (.ref l), some (.ref ps), some (.ref tl), some (.ref D), v6, some (.int (i : Nat)), some (.int o.1), some (.int o.2), u, v, v12, none, none] ∧ Same (upd Hy tq (.tup [.int (o.1 - 1), .int (o.2 + 1)])) Hw := fun {Hw} sw => ⟨_, _, rfl, (sz.trans ST).trans sw⟩
        have e30 : (10 : Int) ^ (30 : Int).toNat = MT := by decide +kernel
        refine ⟨_, rfl, _, _, rfl, rfl, _, rfl, ?_⟩
        refine ite2 (fun c => ?_) (fun c => ⟨_, rfl, iteF (iteF (done_ (Same.refl _)))⟩)
        have b1 : 1 ≤ b := of_decide_eq_true c
        refine ⟨_, _, rfl, rfl, ⟨by decide, by decide, by decide⟩, _, _, rfl, rfl, _, rfl, ?_⟩
        refine ite2 (fun c => ?_) (fun c => iteF (done_ (Same.refl _)))
        rw [e30] at c
        have b2 : b ≤ MT := of_decide_eq_true c
        refine ⟨_, rfl, _, rfl, q5, st, setW ws i b, rfl, h5, s0, s1, setW_mem ok ⟨b1, b2⟩, by rw [setW_len hi]; omega, fun p2 Hw hp2 sw nw => ?_⟩
        refine ⟨_, rfl, intsD _, intsD (prd st ws), Dp.ints hp2, Dp.ints (sw _ _ (ST _ _ hpz)), shInts _, shInts _, ?_⟩
        rw [eqInts, decide_eq_false (set_ne hw' hc' (hne b1 b2))]
        exact ⟨_, rfl, iteF (done_ sw)⟩
      rintro σ Hz ⟨v10, v11, rfl, sz⟩
      have szy := sq.trans sz
      have exZ : LamX.ExtN H9 Hz := exT.trans (LamX.ExtN.of szy)
      have txZ : LamX.Tabs (LT L) Hz := Tabs.nl txT (NL.of szy)
      have hpz := ExtN.lst exZ hp9
      have ip : i + 1 < (prd st ws).length := by omega
      have ei : ((i : Nat) : Int) + 1 = ((i + 1 : Nat) : Int) := rfl
      have at1 : atI ((prd st ws).map V.int) (((i : Nat) : Int) + 1) = some (.int (rupI w' c')) := by
        rw [ei]
        exact atI_nat (by rw [List.getElem?_map, hq']; rfl)
      have at0 : atI ((prd st ws).map V.int) ((i : Nat) : Int) = some (.int c') := atI_nat (by rw [List.getElem?_map, hc']; rfl)
      have cb : cutV ((prd st ws).map V.int) none (some (((i : Nat) : Int) + 1)) ++ [V.int (rupI w' c' + 1)] ++ cutV ((prd st ws).map V.int) (some (((i : Nat) : Int) + 2)) none = (setW (prd st ws) (i + 1) (rupI w' c' + 1)).map V.int := cut_set (i := i + 1) ip
      have cl1 := cutV_length ((prd st ws).map V.int) none (some (((i : Nat) : Int) + 1))
      have cl2 := cutV_length ((prd st ws).map V.int) (some (((i : Nat) : Int) + 2)) none
      rw [List.length_map] at cl1 cl2
      refine ⟨_, rfl, _, rfl, _, _, rfl, rfl, _, rfl, ps, _, rfl, SqL.of hpz, fun q1 m1 => ?_⟩
      have S1 := Same.upd (o := .lst (cutV ((prd st ws).map V.int) none (some (((i : Nat) : Int) + 1)))) m1
      refine ⟨_, rfl, _, rfl, _, _, rfl, rfl, ps, _, _, _, rfl, rfl, SqL.of (S1 _ _ hpz), at1, _, _, rfl, rfl, (by show 1 ≤ sizeLine; decide), fun q2 m2 => ?_⟩
      have S2 := Same.upd (o := .lst [.int (rupI w' c' + 1)]) m2
      refine ⟨q1, q2, _, _, rfl, rfl, S2 _ _ upd_same, upd_same, small2 (by show _ + 1 ≤ 100000; omega), fun q3 m3 => ?_⟩
      have S3 := Same.upd (o := .lst (cutV ((prd st ws).map V.int) none (some (((i : Nat) : Int) + 1)) ++ [.int (rupI w' c' + 1)])) m3
      have SS := (S1.trans S2).trans S3
      refine ⟨_, rfl, _, rfl, _, _, rfl, rfl, _, rfl, ps, _, rfl, SqL.of (SS _ _ hpz), fun q4 m4 => ?_⟩
      have S4 := Same.upd (o := .lst (cutV ((prd st ws).map V.int) (some (((i : Nat) : Int) + 2)) none)) m4
      refine ⟨q3, q4, _, _, rfl, rfl, S4 _ _ upd_same, upd_same, small2 (by rw [List.length_append]; show _ + 1 + _ ≤ 100000; omega), fun q5 m5 => ?_⟩
      rw [cb]
      have S5 := Same.upd (o := .lst ((setW (prd st ws) (i + 1) (rupI w' c' + 1)).map V.int)) m5
      have ST := (SS.trans S4).trans S5
      have h5 := upd_same (H := upd (upd (upd (upd Hz q1 (.lst (cutV ((prd st ws).map V.int) none (some (((i : Nat) : Int) + 1))))) q2 (.lst [.int (rupI w' c' + 1)])) q3 (.lst (cutV ((prd st ws).map V.int) none (some (((i : Nat) : Int) + 1)) ++ [.int (rupI w' c' + 1)]))) q4 (.lst (cutV ((prd st ws).map V.int) (some (((i : Nat) : Int) + 2)) none))) (a := q5) (o := .lst ((setW (prd st ws) (i + 1) (rupI w' c' + 1)).map V.int))
      generalize upd (upd (upd (upd (upd Hz q1 (.lst (cutV ((prd st ws).map V.int) none (some (((i : Nat) : Int) + 1))))) q2 (.lst [.int (rupI w' c' + 1)])) q3 (.lst (cutV ((prd st ws).map V.int) none (some (((i : Nat) : Int) + 1)) ++ [.int (rupI w' c' + 1)]))) q4 (.lst (cutV ((prd st ws).map V.int) (some (((i : Nat) : Int) + 2)) none))) q5 (.lst ((setW (prd st ws) (i + 1) (rupI w' c' + 1)).map V.int)) = Hv at ST h5 ⊢
      have exV : LamX.ExtN H9 Hv := exZ.trans (LamX.ExtN.of ST)
      have txV : LamX.Tabs (LT L) Hv := Tabs.nl txZ (NL.of ST)
      refine ⟨_, rfl, _, rfl, ps, _, _, _, rfl, rfl, SqL.of (ST _ _ hpz), at0, _, _, rfl, rfl, _, rfl, ?_⟩
      refine ite2 (fun c => ?_) (fun c => iteF ⟨_, _, _, _, _, _, _, rfl, exV, txV⟩)
      have c2 : 1 < c' := of_decide_eq_true c
      refine ⟨txV, fun Hw exW txW E N hE hN => ⟨_, rfl, said_waits T hE (ExtN.lst exW h5) (by rw [setW_len ip]; omega) (by rw [setW_len ip]; omega) (i := i + 1) (by rw [setW_len ip]; omega) (fun j hj => bent_ok s0 s1 ok hi hj) (bent_bad hw' hc' ow.1 c2) fun p1 Hu hp1 su => ?_⟩⟩
      refine ⟨_, rfl, _, _, rfl, rfl, (by show 2 ≤ sizeLine; decide), fun q6 m6 => ?_⟩
      have S6 := Same.upd (o := .tup [.str "log", .int (((i : Nat) : Int) + 1)]) m6
      refine ⟨logD ((i + 1 : Nat) : Int), logD ((i + 1 : Nat) : Int), dpLog (S6 _ _ hp1), dpLog upd_same, shLog _, shLog _, ?_⟩
      rw [eqLog]
      exact ⟨_, rfl, iteF ⟨_, _, _, _, _, _, _, rfl, (exV.trans exW).trans (LamX.ExtN.of (su.trans S6)), Tabs.nl txW (NL.of (su.trans S6))⟩⟩
    rintro σ Hx ⟨v6, v7, v8, v9, v10, v11, v12, rfl, ex, tx⟩
    have e30 : (10 : Int) ^ (30 : Int).toNat = MT := by decide +kernel
    have cp : CPow 10 30 := ⟨by decide, by decide, by decide⟩
    have cm : CMulW 5 ((10 : Int) ^ (30 : Int).toNat) := by
      rw [e30]
      exact wide_mul (a := 10) (b := 110) (by decide) (by decide +kernel) (by decide) (by decide) (by decide)
    refine ⟨tx, fun Hw exW txW E N hE hN => ⟨_, _, rfl, rfl, cp, _, _, rfl, rfl, cm, (by show 2 ≤ sizeLine; decide), fun b nb => said_waits T hE (ns := [5, 5 * (10 : Int) ^ (30 : Int).toNat]) upd_same (by decide) (by decide) (i := 1) (by decide) (fun j hj => ?_) ?_ fun p1 Hu hp1 su => ?_⟩⟩
    · rw [show j = 0 by omega]
      exact ⟨5, rfl, by decide, by decide⟩
    · rintro ⟨c, p, h1, h2, h3, h4, h5⟩
      cases h1
      cases h2
      rw [e30] at h4
      exact absurd h4 (by decide)
    refine ⟨(by show 2 ≤ sizeLine; decide), fun q6 m6 => ?_⟩
    have S6 := Same.upd (o := .tup [.str "log", .int 1]) m6
    refine ⟨logD 1, logD 1, dpLog (S6 _ _ hp1), dpLog upd_same, shLog _, shLog _, ?_⟩
    rw [eqLog]
    refine ⟨_, rfl, iteF ?_⟩
    have exA : LamX.ExtN H9 (upd Hu q6 (.tup [.str "log", .int 1])) := (ex.trans exW).trans (LamX.ExtN.of (((Same.upd nb).trans su).trans S6))
    have txA : LamX.Tabs (LT L) (upd Hu q6 (.tup [.str "log", .int 1])) := Tabs.nl txW (NL.of (((Same.upd nb).trans su).trans S6))
    generalize upd Hu q6 (.tup [.str "log", .int 1]) = HA at exA txA ⊢
    refine ⟨txA, fun Hw exW txW E N hE hN => ⟨_, _, rfl, rfl, cp, _, _, rfl, rfl, (by show 1 ≤ sizeLine; decide), fun b nb => said_waits T hE (ns := [(10 : Int) ^ (30 : Int).toNat + 1]) upd_same (by decide) (by decide) (i := 0) (by decide) (fun j hj => absurd hj (Nat.not_lt_zero _)) ?_ fun p1 Hu hp1 su => ?_⟩⟩
    · rintro ⟨p, h1, h2, h3⟩
      cases h1
      rw [e30] at h3
      exact absurd h3 (by decide)
    refine ⟨(by show 2 ≤ sizeLine; decide), fun q6 m6 => ?_⟩
    have S6 := Same.upd (o := .tup [.str "log", .int 0]) m6
    refine ⟨logD 0, logD 0, dpLog (S6 _ _ hp1), dpLog upd_same, shLog _, shLog _, ?_⟩
    rw [eqLog]
    refine ⟨_, rfl, iteF ?_⟩
    have exB : LamX.ExtN H9 (upd Hu q6 (.tup [.str "log", .int 0])) := (exA.trans exW).trans (LamX.ExtN.of (((Same.upd nb).trans su).trans S6))
    have txB : LamX.Tabs (LT L) (upd Hu q6 (.tup [.str "log", .int 0])) := Tabs.nl txW (NL.of (((Same.upd nb).trans su).trans S6))
    generalize upd Hu q6 (.tup [.str "log", .int 0]) = HB at exB txB ⊢
    have okM : ∀ i, i < [(10 : Int) ^ (30 : Int).toNat, (10 : Int) ^ (30 : Int).toNat].length → okAt [(10 : Int) ^ (30 : Int).toNat, (10 : Int) ^ (30 : Int).toNat] i := fun i hi => by
      rw [e30] at hi ⊢
      match i, hi with
      | 0, _ => exact ⟨MT, rfl, by decide, by decide⟩
      | 1, _ => exact ⟨MT, MT, rfl, rfl, by decide, by decide, by decide⟩
    have wtM : wtG [(10 : Int) ^ (30 : Int).toNat, (10 : Int) ^ (30 : Int).toNat] = [(1, (10 : Int) ^ (30 : Int).toNat)] := by
      rw [e30]
      decide +kernel
    have ok7 : ∀ i, i < ([7] : List Int).length → okAt [7] i := fun i hi => by
      rw [show i = 0 by simpa using hi]
      exact ⟨7, rfl, by decide, by decide⟩
    refine ⟨_, _, rfl, rfl, cp, _, _, rfl, rfl, cp, (by show 2 ≤ sizeLine; decide), fun b1 nb1 => ?_⟩
    refine ⟨b1, [(10 : Int) ^ (30 : Int).toNat, (10 : Int) ^ (30 : Int).toNat], rfl, upd_same, by decide, by decide, fun _ tlA xsA HC hxA hzA sA nA => ?_, fun i hi _ hb => absurd (okM i hi) hb⟩
    refine ⟨_, _, rfl, rfl, cp, (by show 2 ≤ sizeLine; decide), fun q7 m7 => ⟨(by show 1 ≤ sizeLine; decide), fun q8 m8 => ?_⟩⟩
    have S7 := Same.upd (o := .tup [.int 1, .int ((10 : Int) ^ (30 : Int).toNat)]) m7
    have S8 := Same.upd (o := .lst [.ref q7]) m8
    have SA := (((Same.upd nb1).trans sA).trans S7).trans S8
    rw [wtM] at hzA
    refine ⟨.list ([(1, (10 : Int) ^ (30 : Int).toNat)].map wtD), .list ([(1, (10 : Int) ^ (30 : Int).toNat)].map wtD), .lst (SqL.of (S8 _ _ (S7 _ _ hxA))) (prw_dp (hzA.tp fun b ys e => S8 _ _ (S7 _ _ e))), .lst (SqL.of upd_same) (.cons (.tup (SqT.of (S8 _ _ upd_same)) (.cons (.int _) (.cons (.int _) .nil))) .nil), shW _, shW _, ?_⟩
    rw [eqW]
    refine ⟨_, rfl, iteT ⟨(by show 1 ≤ sizeLine; decide), fun b2 nb2 => ?_⟩⟩
    refine ⟨b2, [7], rfl, upd_same, by decide, by decide, fun _ tlB xsB HD hxB hzB sB nB => ?_, fun i hi _ hb => absurd (ok7 i hi) hb⟩
    cases hzB
    refine ⟨(by show 0 ≤ sizeLine; decide), fun q9 m9 => ?_⟩
    have S9 := Same.upd (o := .lst []) m9
    refine ⟨intsD [], intsD [], Dp.ints (ns := []) (S9 _ _ hxB), Dp.ints (ns := []) upd_same, shInts [], shInts [], ?_⟩
    rw [eqInts]
    have SZ := SA.trans (((Same.upd nb2).trans sB).trans S9)
    exact k _ (K9.trans (KS.ext (exB.trans (LamX.ExtN.of SZ)))) (Tabs.nl txB (NL.of SZ))
theorem ok_wright (T : LX K mg L) (B : TX base mg L) : Cal P w K mg base "_law_right" 13 L.f__law_right ["_law_well_here"] (spRight9 L) := T.d__law_right.cal fun fd F => fn_wright T B F
end
/-! ### the law over its cells, with tables of code objects -/
def spLawT (K : PySem.W.Frag) (L : LA) : Sp := fun vs H Q _ => ∃ (a : Addr) (ns : List Int), vs = [.ref a] ∧ SqL K H a (ns.map V.int) ∧ ns.length ≤ 63 ∧ LamX.Tabs (LT L) H ∧ ∀ H', Q (.bl true) H'
section
variable {P : Program} {w : World} {K : PySem.W.Frag} {mg : Str → Option Value} {base : Heap} {L : LA}
abbrev N_law : List Str := ["_law_script", "_law_cell"]
theorem sc_law : FnScope N_law ["_law_script"] (defScope st_law) := ⟨rfl, rfl, rfl, by decide +kernel, rfl, by decide +kernel, by decide +kernel⟩
theorem ok_law {aLaw : Addr} {fd : FuncData} (F : Fun K "law" "law" st_law aLaw fd) (T : LX K mg L) (B : TX base mg L) : FnOk P w K mg base CX0 14 aLaw fd ["_law_script"] (spLawT K L) := by
  have G_wright := ok_wright (P := P) (w := w) (base := base) T B
  have G_wwell := ok_wwell (P := P) (w := w) (base := base) T
  have nd := sc_law.nd
  refine F.ok sc_law (fun vs H Q E h => ?_) (fun cdv A outer S H vs Q E hr h => ?_)
  · obtain ⟨a, ns, rfl, _⟩ := h
    rfl
  · obtain ⟨a, ns, rfl, hS, ln, tabs, k⟩ := h
    refine ⟨_, (pss_cons (ps_for PassesOwn.never rfl (pi_list (pe_op op_cat (pe_slice (r := rSlL K) sl_list (pv 0) po_none (po_some pe_int)) (pe_lst (pa_cons pe_int pa_nil)))) (pg_name (i := 1) nd rfl (Or.inl rfl)) (pss_one (ps_if (pt_not (pt_val (pe_c G_wright (hr.mono (by decide)) rfl (pa_cons (pe_c G_wwell (hr.mono (by decide)) rfl (pa_cons (pv 1) pa_nil)) pa_nil)))) (pss_one (ps_ret pe_bl)) pss_nil)))
       (pss_one (ps_ret pe_bl))), ?_⟩
    refine ⟨_, rfl, 4, rfl, a, ns.map V.int, rfl, hS, fun l1 hl1 => ⟨(by show 1 ≤ sizeLine; decide), fun l2 hl2 => ?_⟩⟩
    refine ⟨l1, l2, _, _, rfl, rfl, (Same.upd hl2) _ _ upd_same, upd_same, small2 (by have := cutV_length (ns.map V.int) none (some 4); rw [List.length_map] at this; show _ + 1 ≤ 100000; omega), fun l3 hl3 => ?_⟩
    have items : ∀ v ∈ cutV (ns.map V.int) none (some 4) ++ [V.int 0], ∃ c, v = .int c := fun v hv => by
      rcases List.mem_append.mp hv with hv | hv
      · obtain ⟨c, _, e⟩ := List.mem_map.mp (List.mem_of_mem_drop (List.mem_of_mem_take hv))
        exact ⟨c, e.symm⟩
      · exact ⟨0, by simpa using hv⟩
    have st := ((Same.upd (o := .lst (cutV (ns.map V.int) none (some 4))) hl1).trans (Same.upd (o := .lst [.int 0]) hl2)).trans (Same.upd (o := .lst (cutV (ns.map V.int) none (some 4) ++ [V.int 0])) hl3)
    have t0 := Tabs.nl tabs (NL.of st)
    generalize hit : cutV (ns.map V.int) none (some 4) ++ [V.int 0] = its at items t0
    refine ⟨l3, rfl, ⟨_, SqL.of upd_same⟩, ?_⟩
    refine for_list (K := K) (a := l3) (xs := its) (fun i σ H2 => ∃ v1 : Option V, σ = [some (.ref a), v1] ∧ H2 l3 = some (.lst its) ∧ LamX.Tabs (LT L) H2) ⟨none, rfl, by rw [upd_same], t0⟩ (fun i σ H2 _ ⟨_, _, e, _⟩ => SqL.of e) ?_ ?_
    · rintro i v σ H0 hi ⟨v1, rfl, hL, t1⟩
      obtain ⟨cc, rfl⟩ := items v (List.mem_of_getElem? hi)
      refine ⟨_, rfl, cc, rfl, fun s H1 hs0 y1 src1 => ⟨s, rfl, src1, Tabs.nl t1 (NL.of y1), fun H2 k2 t2 => ⟨_, rfl, iteF ⟨_, rfl, ?_, t2⟩⟩⟩⟩
      exact k2 _ _ (ne_of_none hL hs0) (y1 _ _ hL) fun _ z => nomatch z
    · rintro σ H2 ⟨v1, rfl, _⟩
      exact k H2
end
/-! ### the end -/
theorem bn_q0 (kV doc pm : Value) (an : Option Addr) (cdv ct : Value) (us : List Value) (hl : us.length = (["k"] : List Str).length) : bindArgs (PySem.W.fnOf "_wall" "_wall" (defArgs st__wall) (defBody st__wall) (defScope st__wall) .none kV doc pm an cdv ct) ⟨us, []⟩ = pure ((["k"] : List Str).zip us) :=
  match us, hl with | [_], _ => rfl
theorem bn_q1 (kV doc pm : Value) (an : Option Addr) (cdv ct : Value) (us : List Value) (hl : us.length = (["value"] : List Str).length) : bindArgs (PySem.W.fnOf "is_integer" "is_integer" (defArgs st_is_integer) (defBody st_is_integer) (defScope st_is_integer) .none kV doc pm an cdv ct) ⟨us, []⟩ = pure ((["value"] : List Str).zip us) :=
  match us, hl with | [_], _ => rfl
theorem bn_q2 (kV doc pm : Value) (an : Option Addr) (cdv ct : Value) (us : List Value) (hl : us.length = (["value", "least"] : List Str).length) : bindArgs (PySem.W.fnOf "is_at_least" "is_at_least" (defArgs st_is_at_least) (defBody st_is_at_least) (defScope st_is_at_least) .none kV doc pm an cdv ct) ⟨us, []⟩ = pure ((["value", "least"] : List Str).zip us) :=
  match us, hl with | [_, _], _ => rfl
theorem bn_q3 (kV doc pm : Value) (an : Option Addr) (cdv ct : Value) (us : List Value) (hl : us.length = (["value", "least", "most"] : List Str).length) : bindArgs (PySem.W.fnOf "is_within" "is_within" (defArgs st_is_within) (defBody st_is_within) (defScope st_is_within) .none kV doc pm an cdv ct) ⟨us, []⟩ = pure ((["value", "least", "most"] : List Str).zip us) :=
  match us, hl with | [_, _, _], _ => rfl
theorem bn_q4 (kV doc pm : Value) (an : Option Addr) (cdv ct : Value) (us : List Value) (hl : us.length = (["distance", "step"] : List Str).length) : bindArgs (PySem.W.fnOf "steps_to" "steps_to" (defArgs st_steps_to) (defBody st_steps_to) (defScope st_steps_to) .none kV doc pm an cdv ct) ⟨us, []⟩ = pure ((["distance", "step"] : List Str).zip us) :=
  match us, hl with | [_, _], _ => rfl
theorem bn_q5 (kV doc pm : Value) (an : Option Addr) (cdv ct : Value) (us : List Value) (hl : us.length = (["value", "unit"] : List Str).length) : bindArgs (PySem.W.fnOf "rounded_up" "rounded_up" (defArgs st_rounded_up) (defBody st_rounded_up) (defScope st_rounded_up) .none kV doc pm an cdv ct) ⟨us, []⟩ = pure ((["value", "unit"] : List Str).zip us) :=
  match us, hl with | [_, _], _ => rfl
theorem bn_q6 (kV doc pm : Value) (an : Option Addr) (cdv ct : Value) (us : List Value) (hl : us.length = (["value"] : List Str).length) : bindArgs (PySem.W.fnOf "is_breaker" "is_breaker" (defArgs st_is_breaker) (defBody st_is_breaker) (defScope st_is_breaker) .none kV doc pm an cdv ct) ⟨us, []⟩ = pure ((["value"] : List Str).zip us) :=
  match us, hl with | [_], _ => rfl
theorem bn_q7 (kV doc pm : Value) (an : Option Addr) (cdv ct : Value) (us : List Value) (hl : us.length = (["breakers", "part"] : List Str).length) : bindArgs (PySem.W.fnOf "check_breakers" "check_breakers" (defArgs st_check_breakers) (defBody st_check_breakers) (defScope st_check_breakers) .none kV doc pm an cdv ct) ⟨us, []⟩ = pure ((["breakers", "part"] : List Str).zip us) :=
  match us, hl with | [_, _], _ => rfl
theorem bn_q8 (kV doc pm : Value) (an : Option Addr) (cdv ct : Value) (us : List Value) (hl : us.length = (["step"] : List Str).length) : bindArgs (PySem.W.fnOf "check_step" "check_step" (defArgs st_check_step) (defBody st_check_step) (defScope st_check_step) .none kV doc pm an cdv ct) ⟨us, []⟩ = pure ((["step"] : List Str).zip us) :=
  match us, hl with | [_], _ => rfl
theorem bn_q9 (kV doc pm : Value) (an : Option Addr) (cdv ct : Value) (us : List Value) (hl : us.length = (["row"] : List Str).length) : bindArgs (PySem.W.fnOf "periods" "periods" (defArgs st_periods) (defBody st_periods) (defScope st_periods) .none kV doc pm an cdv ct) ⟨us, []⟩ = pure ((["row"] : List Str).zip us) :=
  match us, hl with | [_], _ => rfl
theorem bn_q10 (kV doc pm : Value) (an : Option Addr) (cdv ct : Value) (us : List Value) (hl : us.length = (["period_list"] : List Str).length) : bindArgs (PySem.W.fnOf "check_periods" "check_periods" (defArgs st_check_periods) (defBody st_check_periods) (defScope st_check_periods) .none kV doc pm an cdv ct) ⟨us, []⟩ = pure ((["period_list"] : List Str).zip us) :=
  match us, hl with | [_], _ => rfl
theorem bn_q11 (kV doc pm : Value) (an : Option Addr) (cdv ct : Value) (us : List Value) (hl : us.length = (["period_list"] : List Str).length) : bindArgs (PySem.W.fnOf "waits_of" "waits_of" (defArgs st_waits_of) (defBody st_waits_of) (defScope st_waits_of) .none kV doc pm an cdv ct) ⟨us, []⟩ = pure ((["period_list"] : List Str).zip us) :=
  match us, hl with | [_], _ => rfl
theorem bn_q12 (kV doc pm : Value) (an : Option Addr) (cdv ct : Value) (us : List Value) (hl : us.length = (["_law_cell", "_law_k"] : List Str).length) : bindArgs (PySem.W.fnOf "_law_mixed" "_law_mixed" (defArgs st__law_mixed) (defBody st__law_mixed) (defScope st__law_mixed) .none kV doc pm an cdv ct) ⟨us, []⟩ = pure ((["_law_cell", "_law_k"] : List Str).zip us) :=
  match us, hl with | [_, _], _ => rfl
theorem bn_q13 (kV doc pm : Value) (an : Option Addr) (cdv ct : Value) (us : List Value) (hl : us.length = (["_law_cell"] : List Str).length) : bindArgs (PySem.W.fnOf "_law_well" "_law_well" (defArgs st__law_well) (defBody st__law_well) (defScope st__law_well) .none kV doc pm an cdv ct) ⟨us, []⟩ = pure ((["_law_cell"] : List Str).zip us) :=
  match us, hl with | [_], _ => rfl
theorem bn_q14 (kV doc pm : Value) (an : Option Addr) (cdv ct : Value) (us : List Value) (hl : us.length = (["_law_well_here", "_law_many"] : List Str).length) : bindArgs (PySem.W.fnOf "_law_draw" "_law_draw" (defArgs st__law_draw) (defBody st__law_draw) (defScope st__law_draw) .none kV doc pm an cdv ct) ⟨us, []⟩ = pure ((["_law_well_here", "_law_many"] : List Str).zip us) :=
  match us, hl with | [_, _], _ => rfl
theorem bn_q15 (kV doc pm : Value) (an : Option Addr) (cdv ct : Value) (us : List Value) (hl : us.length = (["_law_well_here", "_law_some"] : List Str).length) : bindArgs (PySem.W.fnOf "_law_one" "_law_one" (defArgs st__law_one) (defBody st__law_one) (defScope st__law_one) .none kV doc pm an cdv ct) ⟨us, []⟩ = pure ((["_law_well_here", "_law_some"] : List Str).zip us) :=
  match us, hl with | [_, _], _ => rfl
theorem bn_q16 (kV doc pm : Value) (an : Option Addr) (cdv ct : Value) (us : List Value) (hl : us.length = (["_law_well_here", "_law_many"] : List Str).length) : bindArgs (PySem.W.fnOf "_law_place" "_law_place" (defArgs st__law_place) (defBody st__law_place) (defScope st__law_place) .none kV doc pm an cdv ct) ⟨us, []⟩ = pure ((["_law_well_here", "_law_many"] : List Str).zip us) :=
  match us, hl with | [_, _], _ => rfl
theorem bn_q17 (kV doc pm : Value) (an : Option Addr) (cdv ct : Value) (us : List Value) (hl : us.length = (["_law_deed"] : List Str).length) : bindArgs (PySem.W.fnOf "_law_said" "_law_said" (defArgs st__law_said) (defBody st__law_said) (defScope st__law_said) .none kV doc pm an cdv ct) ⟨us, []⟩ = pure ((["_law_deed"] : List Str).zip us) :=
  match us, hl with | [_], _ => rfl
theorem bn_q18 (kV doc pm : Value) (an : Option Addr) (cdv ct : Value) (us : List Value) (hl : us.length = (["_law_well_here"] : List Str).length) : bindArgs (PySem.W.fnOf "_law_line" "_law_line" (defArgs st__law_line) (defBody st__law_line) (defScope st__law_line) .none kV doc pm an cdv ct) ⟨us, []⟩ = pure ((["_law_well_here"] : List Str).zip us) :=
  match us, hl with | [_], _ => rfl
theorem bn_q19 (kV doc pm : Value) (an : Option Addr) (cdv ct : Value) (us : List Value) (hl : us.length = (["_law_step", "_law_waits"] : List Str).length) : bindArgs (PySem.W.fnOf "_law_periods" "_law_periods" (defArgs st__law_periods) (defBody st__law_periods) (defScope st__law_periods) .none kV doc pm an cdv ct) ⟨us, []⟩ = pure ((["_law_step", "_law_waits"] : List Str).zip us) :=
  match us, hl with | [_, _], _ => rfl
theorem bn_q20 (kV doc pm : Value) (an : Option Addr) (cdv ct : Value) (us : List Value) (hl : us.length = (["_law_well_here"] : List Str).length) : bindArgs (PySem.W.fnOf "_law_right" "_law_right" (defArgs st__law_right) (defBody st__law_right) (defScope st__law_right) .none kV doc pm an cdv ct) ⟨us, []⟩ = pure ((["_law_well_here"] : List Str).zip us) :=
  match us, hl with | [_], _ => rfl
theorem bn_q21 (kV doc pm : Value) (an : Option Addr) (cdv ct : Value) (us : List Value) (hl : us.length = (["self"] : List Str).length) : bindArgs (PySem.W.fnOf "breaker_list" "Row.breaker_list" (defArgs st_Row_breaker_list) (defBody st_Row_breaker_list) (defScope st_Row_breaker_list) .none kV doc pm an cdv ct) ⟨us, []⟩ = pure ((["self"] : List Str).zip us) :=
  match us, hl with | [_], _ => rfl
theorem bn_q22 (kV doc pm : Value) (an : Option Addr) (cdv ct : Value) (us : List Value) (hl : us.length = (["self"] : List Str).length) : bindArgs (PySem.W.fnOf "step_length" "Row.step_length" (defArgs st_Row_step_length) (defBody st_Row_step_length) (defScope st_Row_step_length) .none kV doc pm an cdv ct) ⟨us, []⟩ = pure ((["self"] : List Str).zip us) :=
  match us, hl with | [_], _ => rfl
theorem bn_q23 (kV doc pm : Value) (an : Option Addr) (cdv ct : Value) (us : List Value) (hl : us.length = (["self"] : List Str).length) : bindArgs (PySem.W.fnOf "phase_time" "Row.phase_time" (defArgs st_Row_phase_time) (defBody st_Row_phase_time) (defScope st_Row_phase_time) .none kV doc pm an cdv ct) ⟨us, []⟩ = pure ((["self"] : List Str).zip us) :=
  match us, hl with | [_], _ => rfl
theorem bn_q24 (kV doc pm : Value) (an : Option Addr) (cdv ct : Value) (us : List Value) (hl : us.length = (["self"] : List Str).length) : bindArgs (PySem.W.fnOf "__len__" "Row.__len__" (defArgs st_Row_len) (defBody st_Row_len) (defScope st_Row_len) .none kV doc pm an cdv ct) ⟨us, []⟩ = pure ((["self"] : List Str).zip us) :=
  match us, hl with | [_], _ => rfl
theorem bn_q25 (kV doc pm : Value) (an : Option Addr) (cdv ct : Value) (us : List Value) (hl : us.length = (["self", "at"] : List Str).length) : bindArgs (PySem.W.fnOf "__getitem__" "Row.__getitem__" (defArgs st_Row_getitem) (defBody st_Row_getitem) (defScope st_Row_getitem) .none kV doc pm an cdv ct) ⟨us, []⟩ = pure ((["self", "at"] : List Str).zip us) :=
  match us, hl with | [_, _], _ => rfl
theorem bn_q26 (kV doc pm : Value) (an : Option Addr) (cdv ct : Value) (us : List Value) (hl : us.length = (["self", "x"] : List Str).length) : bindArgs (PySem.W.fnOf "__contains__" "Row.__contains__" (defArgs st_Row_contains) (defBody st_Row_contains) (defScope st_Row_contains) .none kV doc pm an cdv ct) ⟨us, []⟩ = pure ((["self", "x"] : List Str).zip us) :=
  match us, hl with | [_, _], _ => rfl
theorem bn_q27 (kV doc pm : Value) (an : Option Addr) (cdv ct : Value) (us : List Value) (hl : us.length = (["self", "other"] : List Str).length) : bindArgs (PySem.W.fnOf "__add__" "Row.__add__" (defArgs st_Row_add) (defBody st_Row_add) (defScope st_Row_add) .none kV doc pm an cdv ct) ⟨us, []⟩ = pure ((["self", "other"] : List Str).zip us) :=
  match us, hl with | [_, _], _ => rfl
theorem bn_q28 (kV doc pm : Value) (an : Option Addr) (cdv ct : Value) (us : List Value) (hl : us.length = (["self", "other"] : List Str).length) : bindArgs (PySem.W.fnOf "__eq__" "Row.__eq__" (defArgs st_Row_eq) (defBody st_Row_eq) (defScope st_Row_eq) .none kV doc pm an cdv ct) ⟨us, []⟩ = pure ((["self", "other"] : List Str).zip us) :=
  match us, hl with | [_, _], _ => rfl
theorem bn_NInvalidLog (kV doc pm : Value) (an : Option Addr) (cdv ct : Value) (us : List Value) (hl : us.length = (["self", "at"] : List Str).length) : bindArgs (PySem.W.fnOf "__init__" "InvalidLog.__init__" (defArgs st_InvalidLog_init) (defBody st_InvalidLog_init) (defScope st_InvalidLog_init) .none kV doc pm an cdv ct) ⟨us, []⟩ = pure ((["self", "at"] : List Str).zip us) :=
  match us, hl with | [_, _], _ => rfl
theorem mk_dfn {K : PySem.W.Frag} {h : Heap} {mg : Str → Option Value} {x : Str} {st : Stmt} {f : Addr} {ps : List Str} {oc : Value} {od an : Option Addr} {sl : Array (Option Value)} {kV dc pm cd ct : Value} (X : K.In h) (G : h.Ns mainGlobals mg) (a : PySem.W.nsIn K mainGlobals x = some (some (.ref f)))
    (l : K.lookup f = some ⟨oc, od, .func (PySem.W.fnOf x x (defArgs st) (defBody st) (defScope st) .none kV dc pm an cd ct), sl⟩) (c : PySem.W.codeIn K cd x = true) (k : PySem.W.keepIn K (.ref f) = true)
    (hb : ∀ (kV doc pm : Value) (an : Option Addr) (cdv ct : Value) (us : List Value), us.length = ps.length → bindArgs (PySem.W.fnOf x x (defArgs st) (defBody st) (defScope st) .none kV doc pm an cdv ct) ⟨us, []⟩ = pure (ps.zip us)) : Dfn K mg x st f ps :=
  ⟨⟨_, fun_mk l c k, (fun_mk l c k).binds hb⟩, PySem.W.mg_of X G a⟩
theorem mk_mth {K : PySem.W.Frag} {C : Addr} {x q : Str} {st : Stmt} {f : Addr} {ps : List Str} {oc : Value} {od an : Option Addr} {sl : Array (Option Value)} {kV dc pm cd ct : Value} (a : PySem.W.findIn K (.ref C) x = some (some (.ref f))) (i : PySem.W.isFn K (.ref f) = true) (fk : PySem.W.fnIn K f = true)
    (l : K.lookup f = some ⟨oc, od, .func (PySem.W.fnOf x q (defArgs st) (defBody st) (defScope st) .none kV dc pm an cd ct), sl⟩) (c : PySem.W.codeIn K cd q = true) (k : PySem.W.keepIn K (.ref f) = true)
    (hb : ∀ (kV doc pm : Value) (an : Option Addr) (cdv ct : Value) (us : List Value), us.length = ps.length → bindArgs (PySem.W.fnOf x q (defArgs st) (defBody st) (defScope st) .none kV doc pm an cdv ct) ⟨us, []⟩ = pure (ps.zip us)) : Mth K C x q st f ps :=
  ⟨⟨_, fun_mk l c k, (fun_mk l c k).binds hb⟩, a, i, fk⟩
set_option maxHeartbeats 16000000 in
theorem all_mk {P : Program} {w : World} {K : PySem.W.Frag} {h : Heap} {mg : Str → Option Value} {lv : List (Str × PySem.W.WData)} {fa aLaw fq0 fq1 fq2 fq3 fq4 fq5 fq6 fq7 fq8 fq9 fq10 fq11 fq12 fq13 fq14 fq15 fq16 fq17 fq18 fq19 fq20 kcq20 ktq20 CRow aIRow aDRow fq21 fq22 fq23 fq24 fq25 fq26 fq27 fq28 EBreakerError EInvalidRow EInvalidTime EInvalidOutages EInvalidTrains EInvalidIndex EInvalidBound EInvalidLog EInvalidCall EInvalidText ELimitExceeded aIInvalidLog : Addr} {nmInvalidLog qnInvalidLog : Str} {nnInvalidLog : Addr} {bsInvalidLog sbInvalidLog : List Value} {snInvalidLog : List Str} {abInvalidLog : Bool} {coInvalidLog : Option Bool} {ddInvalidLog : Option Addr} {u0InvalidLog u1InvalidLog u2InvalidLog u3InvalidLog u5InvalidLog : Option Value} {tkRow tNMOST_BREAKERS : Tok} {odq0 anq0 odq1 anq1 odq2 anq2 odq3 anq3 odq4 anq4 odq5 anq5 odq6 anq6 odq7 anq7 odq8 anq8 odq9 anq9 odq10 anq10 odq11 anq11 odq12 anq12 odq13 anq13 odq14 anq14 odq15 anq15 odq16 anq16 odq17 anq17 odq18 anq18 odq19 anq19 odq20 anq20 odq21 anq21 odq22 anq22 odq23 anq23 odq24 anq24 odq25 anq25 odq26 anq26 odq27 anq27 odq28 anq28 odY anY odNRow anNRow odNInvalidLog anNInvalidLog : Option Addr} {slq0 slq1 slq2 slq3 slq4 slq5 slq6 slq7 slq8 slq9 slq10 slq11 slq12 slq13 slq14 slq15 slq16 slq17 slq18 slq19 slq20 slq21 slq22 slq23 slq24 slq25 slq26 slq27 slq28 slY slNRow slNInvalidLog : Array (Option Value)} {ocq0 kVq0 dcq0 pmq0 cdq0 ctq0 ocq1 kVq1 dcq1 pmq1 cdq1 ctq1 ocq2 kVq2 dcq2 pmq2 cdq2 ctq2 ocq3 kVq3 dcq3 pmq3 cdq3 ctq3 ocq4 kVq4 dcq4 pmq4 cdq4 ctq4 ocq5 kVq5 dcq5 pmq5 cdq5 ctq5 ocq6 kVq6 dcq6 pmq6 cdq6 ctq6 ocq7 kVq7 dcq7 pmq7 cdq7 ctq7 ocq8 kVq8 dcq8 pmq8 cdq8 ctq8 ocq9 kVq9 dcq9 pmq9 cdq9 ctq9 ocq10 kVq10 dcq10 pmq10 cdq10 ctq10 ocq11 kVq11 dcq11 pmq11 cdq11 ctq11 ocq12 kVq12 dcq12 pmq12 cdq12 ctq12 ocq13 kVq13 dcq13 pmq13 cdq13 ctq13 ocq14 kVq14 dcq14 pmq14 cdq14 ctq14 ocq15 kVq15 dcq15 pmq15 cdq15 ctq15 ocq16 kVq16 dcq16 pmq16 cdq16 ctq16 ocq17 kVq17 dcq17 pmq17 cdq17 ctq17 ocq18 kVq18 dcq18 pmq18 cdq18 ctq18 ocq19 kVq19 dcq19 pmq19 cdq19 ctq19 ocq20 kVq20 dcq20 pmq20 ctq20 ocq21 kVq21 dcq21 pmq21 cdq21 ctq21 ocq22 kVq22 dcq22 pmq22 cdq22 ctq22 ocq23 kVq23 dcq23 pmq23 cdq23 ctq23 ocq24 kVq24 dcq24 pmq24 cdq24 ctq24 ocq25 kVq25 dcq25 pmq25 cdq25 ctq25 ocq26 kVq26 dcq26 pmq26 cdq26 ctq26 ocq27 kVq27 dcq27 pmq27 cdq27 ctq27 ocq28 kVq28 dcq28 pmq28 cdq28 ctq28 ocY kVY dcY pmY cdY ctY ocNRow dcNRow pmNRow cdNRow ctNRow ocNInvalidLog kVNInvalidLog dcNInvalidLog pmNInvalidLog cdNInvalidLog ctNInvalidLog : Value}
    (X : K.In h) (G : h.Ns mainGlobals mg) (LL : PySem.W.LooseAre lv mg h) (hLMOST_COUNT : (("MOST_COUNT" : Str), PySem.W.WData.int 1000000000000) ∈ lv) (hLMOST_TIME : (("MOST_TIME" : Str), PySem.W.WData.int 1000000000000000000000000000000) ∈ lv) (hfa : mg "law" = some (.ref fa))
    (aq0 : PySem.W.nsIn K mainGlobals "_wall" = some (some (.ref fq0)))
    (lq0 : K.lookup fq0 = some ⟨ocq0, odq0, .func (PySem.W.fnOf "_wall" "_wall" (defArgs st__wall) (defBody st__wall) (defScope st__wall) .none kVq0 dcq0 pmq0 anq0 cdq0 ctq0), slq0⟩)
    (cq0 : PySem.W.codeIn K cdq0 "_wall" = true)
    (kq0 : PySem.W.keepIn K (.ref fq0) = true)
    (aq1 : PySem.W.nsIn K mainGlobals "is_integer" = some (some (.ref fq1)))
    (lq1 : K.lookup fq1 = some ⟨ocq1, odq1, .func (PySem.W.fnOf "is_integer" "is_integer" (defArgs st_is_integer) (defBody st_is_integer) (defScope st_is_integer) .none kVq1 dcq1 pmq1 anq1 cdq1 ctq1), slq1⟩)
    (cq1 : PySem.W.codeIn K cdq1 "is_integer" = true)
    (kq1 : PySem.W.keepIn K (.ref fq1) = true)
    (aq2 : PySem.W.nsIn K mainGlobals "is_at_least" = some (some (.ref fq2)))
    (lq2 : K.lookup fq2 = some ⟨ocq2, odq2, .func (PySem.W.fnOf "is_at_least" "is_at_least" (defArgs st_is_at_least) (defBody st_is_at_least) (defScope st_is_at_least) .none kVq2 dcq2 pmq2 anq2 cdq2 ctq2), slq2⟩)
    (cq2 : PySem.W.codeIn K cdq2 "is_at_least" = true)
    (kq2 : PySem.W.keepIn K (.ref fq2) = true)
    (aq3 : PySem.W.nsIn K mainGlobals "is_within" = some (some (.ref fq3)))
    (lq3 : K.lookup fq3 = some ⟨ocq3, odq3, .func (PySem.W.fnOf "is_within" "is_within" (defArgs st_is_within) (defBody st_is_within) (defScope st_is_within) .none kVq3 dcq3 pmq3 anq3 cdq3 ctq3), slq3⟩)
    (cq3 : PySem.W.codeIn K cdq3 "is_within" = true)
    (kq3 : PySem.W.keepIn K (.ref fq3) = true)
    (aq4 : PySem.W.nsIn K mainGlobals "steps_to" = some (some (.ref fq4)))
    (lq4 : K.lookup fq4 = some ⟨ocq4, odq4, .func (PySem.W.fnOf "steps_to" "steps_to" (defArgs st_steps_to) (defBody st_steps_to) (defScope st_steps_to) .none kVq4 dcq4 pmq4 anq4 cdq4 ctq4), slq4⟩)
    (cq4 : PySem.W.codeIn K cdq4 "steps_to" = true)
    (kq4 : PySem.W.keepIn K (.ref fq4) = true)
    (aq5 : PySem.W.nsIn K mainGlobals "rounded_up" = some (some (.ref fq5)))
    (lq5 : K.lookup fq5 = some ⟨ocq5, odq5, .func (PySem.W.fnOf "rounded_up" "rounded_up" (defArgs st_rounded_up) (defBody st_rounded_up) (defScope st_rounded_up) .none kVq5 dcq5 pmq5 anq5 cdq5 ctq5), slq5⟩)
    (cq5 : PySem.W.codeIn K cdq5 "rounded_up" = true)
    (kq5 : PySem.W.keepIn K (.ref fq5) = true)
    (aq6 : PySem.W.nsIn K mainGlobals "is_breaker" = some (some (.ref fq6)))
    (lq6 : K.lookup fq6 = some ⟨ocq6, odq6, .func (PySem.W.fnOf "is_breaker" "is_breaker" (defArgs st_is_breaker) (defBody st_is_breaker) (defScope st_is_breaker) .none kVq6 dcq6 pmq6 anq6 cdq6 ctq6), slq6⟩)
    (cq6 : PySem.W.codeIn K cdq6 "is_breaker" = true)
    (kq6 : PySem.W.keepIn K (.ref fq6) = true)
    (aq7 : PySem.W.nsIn K mainGlobals "check_breakers" = some (some (.ref fq7)))
    (lq7 : K.lookup fq7 = some ⟨ocq7, odq7, .func (PySem.W.fnOf "check_breakers" "check_breakers" (defArgs st_check_breakers) (defBody st_check_breakers) (defScope st_check_breakers) .none kVq7 dcq7 pmq7 anq7 cdq7 ctq7), slq7⟩)
    (cq7 : PySem.W.codeIn K cdq7 "check_breakers" = true)
    (kq7 : PySem.W.keepIn K (.ref fq7) = true)
    (aq8 : PySem.W.nsIn K mainGlobals "check_step" = some (some (.ref fq8)))
    (lq8 : K.lookup fq8 = some ⟨ocq8, odq8, .func (PySem.W.fnOf "check_step" "check_step" (defArgs st_check_step) (defBody st_check_step) (defScope st_check_step) .none kVq8 dcq8 pmq8 anq8 cdq8 ctq8), slq8⟩)
    (cq8 : PySem.W.codeIn K cdq8 "check_step" = true)
    (kq8 : PySem.W.keepIn K (.ref fq8) = true)
    (aq9 : PySem.W.nsIn K mainGlobals "periods" = some (some (.ref fq9)))
    (lq9 : K.lookup fq9 = some ⟨ocq9, odq9, .func (PySem.W.fnOf "periods" "periods" (defArgs st_periods) (defBody st_periods) (defScope st_periods) .none kVq9 dcq9 pmq9 anq9 cdq9 ctq9), slq9⟩)
    (cq9 : PySem.W.codeIn K cdq9 "periods" = true)
    (kq9 : PySem.W.keepIn K (.ref fq9) = true)
    (aq10 : PySem.W.nsIn K mainGlobals "check_periods" = some (some (.ref fq10)))
    (lq10 : K.lookup fq10 = some ⟨ocq10, odq10, .func (PySem.W.fnOf "check_periods" "check_periods" (defArgs st_check_periods) (defBody st_check_periods) (defScope st_check_periods) .none kVq10 dcq10 pmq10 anq10 cdq10 ctq10), slq10⟩)
    (cq10 : PySem.W.codeIn K cdq10 "check_periods" = true)
    (kq10 : PySem.W.keepIn K (.ref fq10) = true)
    (aq11 : PySem.W.nsIn K mainGlobals "waits_of" = some (some (.ref fq11)))
    (lq11 : K.lookup fq11 = some ⟨ocq11, odq11, .func (PySem.W.fnOf "waits_of" "waits_of" (defArgs st_waits_of) (defBody st_waits_of) (defScope st_waits_of) .none kVq11 dcq11 pmq11 anq11 cdq11 ctq11), slq11⟩)
    (cq11 : PySem.W.codeIn K cdq11 "waits_of" = true)
    (kq11 : PySem.W.keepIn K (.ref fq11) = true)
    (aq12 : PySem.W.nsIn K mainGlobals "_law_mixed" = some (some (.ref fq12)))
    (lq12 : K.lookup fq12 = some ⟨ocq12, odq12, .func (PySem.W.fnOf "_law_mixed" "_law_mixed" (defArgs st__law_mixed) (defBody st__law_mixed) (defScope st__law_mixed) .none kVq12 dcq12 pmq12 anq12 cdq12 ctq12), slq12⟩)
    (cq12 : PySem.W.codeIn K cdq12 "_law_mixed" = true)
    (kq12 : PySem.W.keepIn K (.ref fq12) = true)
    (aq13 : PySem.W.nsIn K mainGlobals "_law_well" = some (some (.ref fq13)))
    (lq13 : K.lookup fq13 = some ⟨ocq13, odq13, .func (PySem.W.fnOf "_law_well" "_law_well" (defArgs st__law_well) (defBody st__law_well) (defScope st__law_well) .none kVq13 dcq13 pmq13 anq13 cdq13 ctq13), slq13⟩)
    (cq13 : PySem.W.codeIn K cdq13 "_law_well" = true)
    (kq13 : PySem.W.keepIn K (.ref fq13) = true)
    (aq14 : PySem.W.nsIn K mainGlobals "_law_draw" = some (some (.ref fq14)))
    (lq14 : K.lookup fq14 = some ⟨ocq14, odq14, .func (PySem.W.fnOf "_law_draw" "_law_draw" (defArgs st__law_draw) (defBody st__law_draw) (defScope st__law_draw) .none kVq14 dcq14 pmq14 anq14 cdq14 ctq14), slq14⟩)
    (cq14 : PySem.W.codeIn K cdq14 "_law_draw" = true)
    (kq14 : PySem.W.keepIn K (.ref fq14) = true)
    (aq15 : PySem.W.nsIn K mainGlobals "_law_one" = some (some (.ref fq15)))
    (lq15 : K.lookup fq15 = some ⟨ocq15, odq15, .func (PySem.W.fnOf "_law_one" "_law_one" (defArgs st__law_one) (defBody st__law_one) (defScope st__law_one) .none kVq15 dcq15 pmq15 anq15 cdq15 ctq15), slq15⟩)
    (cq15 : PySem.W.codeIn K cdq15 "_law_one" = true)
    (kq15 : PySem.W.keepIn K (.ref fq15) = true)
    (aq16 : PySem.W.nsIn K mainGlobals "_law_place" = some (some (.ref fq16)))
    (lq16 : K.lookup fq16 = some ⟨ocq16, odq16, .func (PySem.W.fnOf "_law_place" "_law_place" (defArgs st__law_place) (defBody st__law_place) (defScope st__law_place) .none kVq16 dcq16 pmq16 anq16 cdq16 ctq16), slq16⟩)
    (cq16 : PySem.W.codeIn K cdq16 "_law_place" = true)
    (kq16 : PySem.W.keepIn K (.ref fq16) = true)
    (aq17 : PySem.W.nsIn K mainGlobals "_law_said" = some (some (.ref fq17)))
    (lq17 : K.lookup fq17 = some ⟨ocq17, odq17, .func (PySem.W.fnOf "_law_said" "_law_said" (defArgs st__law_said) (defBody st__law_said) (defScope st__law_said) .none kVq17 dcq17 pmq17 anq17 cdq17 ctq17), slq17⟩)
    (cq17 : PySem.W.codeIn K cdq17 "_law_said" = true)
    (kq17 : PySem.W.keepIn K (.ref fq17) = true)
    (aq18 : PySem.W.nsIn K mainGlobals "_law_line" = some (some (.ref fq18)))
    (lq18 : K.lookup fq18 = some ⟨ocq18, odq18, .func (PySem.W.fnOf "_law_line" "_law_line" (defArgs st__law_line) (defBody st__law_line) (defScope st__law_line) .none kVq18 dcq18 pmq18 anq18 cdq18 ctq18), slq18⟩)
    (cq18 : PySem.W.codeIn K cdq18 "_law_line" = true)
    (kq18 : PySem.W.keepIn K (.ref fq18) = true)
    (aq19 : PySem.W.nsIn K mainGlobals "_law_periods" = some (some (.ref fq19)))
    (lq19 : K.lookup fq19 = some ⟨ocq19, odq19, .func (PySem.W.fnOf "_law_periods" "_law_periods" (defArgs st__law_periods) (defBody st__law_periods) (defScope st__law_periods) .none kVq19 dcq19 pmq19 anq19 cdq19 ctq19), slq19⟩)
    (cq19 : PySem.W.codeIn K cdq19 "_law_periods" = true)
    (kq19 : PySem.W.keepIn K (.ref fq19) = true)
    (aq20 : PySem.W.nsIn K mainGlobals "_law_right" = some (some (.ref fq20)))
    (lq20 : K.lookup fq20 = some ⟨ocq20, odq20, .func (PySem.W.fnOf "_law_right" "_law_right" (defArgs st__law_right) (defBody st__law_right) (defScope st__law_right) .none kVq20 dcq20 pmq20 anq20 (.ref kcq20) ctq20), slq20⟩)
    (cq20 : PySem.W.codeIn K (.ref kcq20) "_law_right" = true)
    (kq20 : PySem.W.keepIn K (.ref fq20) = true)
    (gcRow : PySem.W.nsIn K mainGlobals "Row" = some (some (.ref CRow)))
    (gRow0 : PySem.W.plainGet K CRow Str.empty = true)
    (gRow1 : PySem.W.hasDictIn K CRow = true)
    (gRow2 : PySem.W.plainOver K CRow = true)
    (gRow3 : PySem.W.findIn K (.ref CRow) "__setattr__" = some (some (.builtin "object.__setattr__")))
    (gRow4 : PySem.W.makesIn K CRow = true)
    (gRow5 : PySem.W.keepIn K (.ref CRow) = true)
    (gRow6 : PySem.W.isClsIn K CRow = true)
    (gRow7 : PySem.W.typeIn K (.ref CRow) = some (.type "type"))
    (gRow8 : PySem.W.findIn K (.ref CRow) "__class__" = some (some (.builtin "object.__class__")))
    (gRow9 : PySem.W.mroIn K CRow (.type "object") = some true)
    (gRow10 : PySem.W.selfFirst K CRow = true)
    (gRow11 : PySem.W.findIn K (.ref CRow) "__ne__" = some (some (.builtin "object.__ne__")))
    (gO1 : PySem.W.specialIn K (.builtin "object.__class__") "__get__" = some (some (.builtin "getset_descriptor.__get__")))
    (gO2 : PySem.W.takesIn K (.builtin "object.__class__") = some true)
    (nfRow_breakers : PySem.W.findIn K (.ref CRow) "breakers" = some none)
    (nfRow_step : PySem.W.findIn K (.ref CRow) "step" = some none)
    (nfRow_phase : PySem.W.findIn K (.ref CRow) "phase" = some none)
    (aNRow : PySem.W.findIn K (.ref CRow) "__init__" = some (some (.ref aIRow)))
    (iNRow : PySem.W.isFn K (.ref aIRow) = true)
    (lNRow : K.lookup aIRow = some ⟨ocNRow, odNRow, .func (PySem.W.fnOf "__init__" "Row.__init__" (defArgs st_Row_init) (defBody st_Row_init) (defScope st_Row_init) .none (.ref aDRow) dcNRow pmNRow anNRow cdNRow ctNRow), slNRow⟩)
    (cNRow : PySem.W.codeIn K cdNRow "Row.__init__" = true)
    (kNRow : PySem.W.keepIn K (.ref aIRow) = true)
    (dRow : PySem.W.nsIn K aDRow "phase" = some (some (.int 0 tkRow)))
    (aq21 : PySem.W.findIn K (.ref CRow) "breaker_list" = some (some (.ref fq21)))
    (iq21 : PySem.W.isFn K (.ref fq21) = true)
    (nq21 : PySem.W.fnIn K fq21 = true)
    (lq21 : K.lookup fq21 = some ⟨ocq21, odq21, .func (PySem.W.fnOf "breaker_list" "Row.breaker_list" (defArgs st_Row_breaker_list) (defBody st_Row_breaker_list) (defScope st_Row_breaker_list) .none kVq21 dcq21 pmq21 anq21 cdq21 ctq21), slq21⟩)
    (cq21 : PySem.W.codeIn K cdq21 "Row.breaker_list" = true)
    (kq21 : PySem.W.keepIn K (.ref fq21) = true)
    (aq22 : PySem.W.findIn K (.ref CRow) "step_length" = some (some (.ref fq22)))
    (iq22 : PySem.W.isFn K (.ref fq22) = true)
    (nq22 : PySem.W.fnIn K fq22 = true)
    (lq22 : K.lookup fq22 = some ⟨ocq22, odq22, .func (PySem.W.fnOf "step_length" "Row.step_length" (defArgs st_Row_step_length) (defBody st_Row_step_length) (defScope st_Row_step_length) .none kVq22 dcq22 pmq22 anq22 cdq22 ctq22), slq22⟩)
    (cq22 : PySem.W.codeIn K cdq22 "Row.step_length" = true)
    (kq22 : PySem.W.keepIn K (.ref fq22) = true)
    (aq23 : PySem.W.findIn K (.ref CRow) "phase_time" = some (some (.ref fq23)))
    (iq23 : PySem.W.isFn K (.ref fq23) = true)
    (nq23 : PySem.W.fnIn K fq23 = true)
    (lq23 : K.lookup fq23 = some ⟨ocq23, odq23, .func (PySem.W.fnOf "phase_time" "Row.phase_time" (defArgs st_Row_phase_time) (defBody st_Row_phase_time) (defScope st_Row_phase_time) .none kVq23 dcq23 pmq23 anq23 cdq23 ctq23), slq23⟩)
    (cq23 : PySem.W.codeIn K cdq23 "Row.phase_time" = true)
    (kq23 : PySem.W.keepIn K (.ref fq23) = true)
    (aq24 : PySem.W.findIn K (.ref CRow) "__len__" = some (some (.ref fq24)))
    (iq24 : PySem.W.isFn K (.ref fq24) = true)
    (nq24 : PySem.W.fnIn K fq24 = true)
    (lq24 : K.lookup fq24 = some ⟨ocq24, odq24, .func (PySem.W.fnOf "__len__" "Row.__len__" (defArgs st_Row_len) (defBody st_Row_len) (defScope st_Row_len) .none kVq24 dcq24 pmq24 anq24 cdq24 ctq24), slq24⟩)
    (cq24 : PySem.W.codeIn K cdq24 "Row.__len__" = true)
    (kq24 : PySem.W.keepIn K (.ref fq24) = true)
    (aq25 : PySem.W.findIn K (.ref CRow) "__getitem__" = some (some (.ref fq25)))
    (iq25 : PySem.W.isFn K (.ref fq25) = true)
    (nq25 : PySem.W.fnIn K fq25 = true)
    (lq25 : K.lookup fq25 = some ⟨ocq25, odq25, .func (PySem.W.fnOf "__getitem__" "Row.__getitem__" (defArgs st_Row_getitem) (defBody st_Row_getitem) (defScope st_Row_getitem) .none kVq25 dcq25 pmq25 anq25 cdq25 ctq25), slq25⟩)
    (cq25 : PySem.W.codeIn K cdq25 "Row.__getitem__" = true)
    (kq25 : PySem.W.keepIn K (.ref fq25) = true)
    (aq26 : PySem.W.findIn K (.ref CRow) "__contains__" = some (some (.ref fq26)))
    (iq26 : PySem.W.isFn K (.ref fq26) = true)
    (nq26 : PySem.W.fnIn K fq26 = true)
    (lq26 : K.lookup fq26 = some ⟨ocq26, odq26, .func (PySem.W.fnOf "__contains__" "Row.__contains__" (defArgs st_Row_contains) (defBody st_Row_contains) (defScope st_Row_contains) .none kVq26 dcq26 pmq26 anq26 cdq26 ctq26), slq26⟩)
    (cq26 : PySem.W.codeIn K cdq26 "Row.__contains__" = true)
    (kq26 : PySem.W.keepIn K (.ref fq26) = true)
    (aq27 : PySem.W.findIn K (.ref CRow) "__add__" = some (some (.ref fq27)))
    (iq27 : PySem.W.isFn K (.ref fq27) = true)
    (nq27 : PySem.W.fnIn K fq27 = true)
    (lq27 : K.lookup fq27 = some ⟨ocq27, odq27, .func (PySem.W.fnOf "__add__" "Row.__add__" (defArgs st_Row_add) (defBody st_Row_add) (defScope st_Row_add) .none kVq27 dcq27 pmq27 anq27 cdq27 ctq27), slq27⟩)
    (cq27 : PySem.W.codeIn K cdq27 "Row.__add__" = true)
    (kq27 : PySem.W.keepIn K (.ref fq27) = true)
    (aq28 : PySem.W.findIn K (.ref CRow) "__eq__" = some (some (.ref fq28)))
    (iq28 : PySem.W.isFn K (.ref fq28) = true)
    (nq28 : PySem.W.fnIn K fq28 = true)
    (lq28 : K.lookup fq28 = some ⟨ocq28, odq28, .func (PySem.W.fnOf "__eq__" "Row.__eq__" (defArgs st_Row_eq) (defBody st_Row_eq) (defScope st_Row_eq) .none kVq28 dcq28 pmq28 anq28 cdq28 ctq28), slq28⟩)
    (cq28 : PySem.W.codeIn K cdq28 "Row.__eq__" = true)
    (kq28 : PySem.W.keepIn K (.ref fq28) = true)
    (geBreakerError : PySem.W.nsIn K mainGlobals "BreakerError" = some (some (.ref EBreakerError)))
    (xaBreakerError : PySem.W.findIn K (.ref EBreakerError) "__getattribute__" = some (some (.builtin "BaseException.__getattribute__")))
    (xbBreakerError : PySem.W.findIn K (.ref EBreakerError) "__getattr__" = some none)
    (xcBreakerError : PySem.W.subIn K (.ref EBreakerError) (.type "BaseException") = some true)
    (xdBreakerError : PySem.W.hasDictIn K EBreakerError = true)
    (xeBreakerError : PySem.W.typeIn K (.ref EBreakerError) = some (.type "type"))
    (geInvalidRow : PySem.W.nsIn K mainGlobals "InvalidRow" = some (some (.ref EInvalidRow)))
    (xaInvalidRow : PySem.W.findIn K (.ref EInvalidRow) "__getattribute__" = some (some (.builtin "BaseException.__getattribute__")))
    (xbInvalidRow : PySem.W.findIn K (.ref EInvalidRow) "__getattr__" = some none)
    (xcInvalidRow : PySem.W.subIn K (.ref EInvalidRow) (.type "BaseException") = some true)
    (xdInvalidRow : PySem.W.hasDictIn K EInvalidRow = true)
    (xeInvalidRow : PySem.W.typeIn K (.ref EInvalidRow) = some (.type "type"))
    (geInvalidTime : PySem.W.nsIn K mainGlobals "InvalidTime" = some (some (.ref EInvalidTime)))
    (xaInvalidTime : PySem.W.findIn K (.ref EInvalidTime) "__getattribute__" = some (some (.builtin "BaseException.__getattribute__")))
    (xbInvalidTime : PySem.W.findIn K (.ref EInvalidTime) "__getattr__" = some none)
    (xcInvalidTime : PySem.W.subIn K (.ref EInvalidTime) (.type "BaseException") = some true)
    (xdInvalidTime : PySem.W.hasDictIn K EInvalidTime = true)
    (xeInvalidTime : PySem.W.typeIn K (.ref EInvalidTime) = some (.type "type"))
    (geInvalidOutages : PySem.W.nsIn K mainGlobals "InvalidOutages" = some (some (.ref EInvalidOutages)))
    (xaInvalidOutages : PySem.W.findIn K (.ref EInvalidOutages) "__getattribute__" = some (some (.builtin "BaseException.__getattribute__")))
    (xbInvalidOutages : PySem.W.findIn K (.ref EInvalidOutages) "__getattr__" = some none)
    (xcInvalidOutages : PySem.W.subIn K (.ref EInvalidOutages) (.type "BaseException") = some true)
    (xdInvalidOutages : PySem.W.hasDictIn K EInvalidOutages = true)
    (xeInvalidOutages : PySem.W.typeIn K (.ref EInvalidOutages) = some (.type "type"))
    (geInvalidTrains : PySem.W.nsIn K mainGlobals "InvalidTrains" = some (some (.ref EInvalidTrains)))
    (xaInvalidTrains : PySem.W.findIn K (.ref EInvalidTrains) "__getattribute__" = some (some (.builtin "BaseException.__getattribute__")))
    (xbInvalidTrains : PySem.W.findIn K (.ref EInvalidTrains) "__getattr__" = some none)
    (xcInvalidTrains : PySem.W.subIn K (.ref EInvalidTrains) (.type "BaseException") = some true)
    (xdInvalidTrains : PySem.W.hasDictIn K EInvalidTrains = true)
    (xeInvalidTrains : PySem.W.typeIn K (.ref EInvalidTrains) = some (.type "type"))
    (geInvalidIndex : PySem.W.nsIn K mainGlobals "InvalidIndex" = some (some (.ref EInvalidIndex)))
    (xaInvalidIndex : PySem.W.findIn K (.ref EInvalidIndex) "__getattribute__" = some (some (.builtin "BaseException.__getattribute__")))
    (xbInvalidIndex : PySem.W.findIn K (.ref EInvalidIndex) "__getattr__" = some none)
    (xcInvalidIndex : PySem.W.subIn K (.ref EInvalidIndex) (.type "BaseException") = some true)
    (xdInvalidIndex : PySem.W.hasDictIn K EInvalidIndex = true)
    (xeInvalidIndex : PySem.W.typeIn K (.ref EInvalidIndex) = some (.type "type"))
    (geInvalidBound : PySem.W.nsIn K mainGlobals "InvalidBound" = some (some (.ref EInvalidBound)))
    (xaInvalidBound : PySem.W.findIn K (.ref EInvalidBound) "__getattribute__" = some (some (.builtin "BaseException.__getattribute__")))
    (xbInvalidBound : PySem.W.findIn K (.ref EInvalidBound) "__getattr__" = some none)
    (xcInvalidBound : PySem.W.subIn K (.ref EInvalidBound) (.type "BaseException") = some true)
    (xdInvalidBound : PySem.W.hasDictIn K EInvalidBound = true)
    (xeInvalidBound : PySem.W.typeIn K (.ref EInvalidBound) = some (.type "type"))
    (geInvalidLog : PySem.W.nsIn K mainGlobals "InvalidLog" = some (some (.ref EInvalidLog)))
    (xaInvalidLog : PySem.W.findIn K (.ref EInvalidLog) "__getattribute__" = some (some (.builtin "BaseException.__getattribute__")))
    (xbInvalidLog : PySem.W.findIn K (.ref EInvalidLog) "__getattr__" = some none)
    (xcInvalidLog : PySem.W.subIn K (.ref EInvalidLog) (.type "BaseException") = some true)
    (xdInvalidLog : PySem.W.hasDictIn K EInvalidLog = true)
    (xeInvalidLog : PySem.W.typeIn K (.ref EInvalidLog) = some (.type "type"))
    (geInvalidCall : PySem.W.nsIn K mainGlobals "InvalidCall" = some (some (.ref EInvalidCall)))
    (xaInvalidCall : PySem.W.findIn K (.ref EInvalidCall) "__getattribute__" = some (some (.builtin "BaseException.__getattribute__")))
    (xbInvalidCall : PySem.W.findIn K (.ref EInvalidCall) "__getattr__" = some none)
    (xcInvalidCall : PySem.W.subIn K (.ref EInvalidCall) (.type "BaseException") = some true)
    (xdInvalidCall : PySem.W.hasDictIn K EInvalidCall = true)
    (xeInvalidCall : PySem.W.typeIn K (.ref EInvalidCall) = some (.type "type"))
    (geInvalidText : PySem.W.nsIn K mainGlobals "InvalidText" = some (some (.ref EInvalidText)))
    (xaInvalidText : PySem.W.findIn K (.ref EInvalidText) "__getattribute__" = some (some (.builtin "BaseException.__getattribute__")))
    (xbInvalidText : PySem.W.findIn K (.ref EInvalidText) "__getattr__" = some none)
    (xcInvalidText : PySem.W.subIn K (.ref EInvalidText) (.type "BaseException") = some true)
    (xdInvalidText : PySem.W.hasDictIn K EInvalidText = true)
    (xeInvalidText : PySem.W.typeIn K (.ref EInvalidText) = some (.type "type"))
    (geLimitExceeded : PySem.W.nsIn K mainGlobals "LimitExceeded" = some (some (.ref ELimitExceeded)))
    (xaLimitExceeded : PySem.W.findIn K (.ref ELimitExceeded) "__getattribute__" = some (some (.builtin "BaseException.__getattribute__")))
    (xbLimitExceeded : PySem.W.findIn K (.ref ELimitExceeded) "__getattr__" = some none)
    (xcLimitExceeded : PySem.W.subIn K (.ref ELimitExceeded) (.type "BaseException") = some true)
    (xdLimitExceeded : PySem.W.hasDictIn K ELimitExceeded = true)
    (xeLimitExceeded : PySem.W.typeIn K (.ref ELimitExceeded) = some (.type "type"))
    (xoInvalidLog : K.lookup EInvalidLog = some (excClassObj nmInvalidLog qnInvalidLog EInvalidLog nnInvalidLog bsInvalidLog [.ref EBreakerError, .type "ArithmeticError", .type "Exception", .type "BaseException", .type "object"] true snInvalidLog sbInvalidLog abInvalidLog coInvalidLog ddInvalidLog u0InvalidLog u1InvalidLog u2InvalidLog u3InvalidLog u5InvalidLog "ArithmeticError.__new__"))
    (xsInvalidLog : PySem.W.findIn K (.ref EInvalidLog) "__setattr__" = some (some (.builtin "object.__setattr__")))
    (xkInvalidLog : PySem.W.keepIn K (.ref EInvalidLog) = true)
    (aNInvalidLog : PySem.W.findIn K (.ref EInvalidLog) "__init__" = some (some (.ref aIInvalidLog)))
    (tNInvalidLog : PySem.W.typeIn K (.ref aIInvalidLog) = some (.type "function"))
    (lNInvalidLog : K.lookup aIInvalidLog = some ⟨ocNInvalidLog, odNInvalidLog, .func (PySem.W.fnOf "__init__" "InvalidLog.__init__" (defArgs st_InvalidLog_init) (defBody st_InvalidLog_init) (defScope st_InvalidLog_init) .none kVNInvalidLog dcNInvalidLog pmNInvalidLog anNInvalidLog cdNInvalidLog ctNInvalidLog), slNInvalidLog⟩)
    (cNInvalidLog : PySem.W.codeIn K cdNInvalidLog "InvalidLog.__init__" = true)
    (kNInvalidLog : PySem.W.keepIn K (.ref aIInvalidLog) = true)
    (neInvalidLog_part : PySem.W.findIn K (.ref EInvalidLog) "part" = some none)
    (neInvalidLog_at : PySem.W.findIn K (.ref EInvalidLog) "at" = some none)
    (neInvalidLog_time : PySem.W.findIn K (.ref EInvalidLog) "time" = some none)
    (neInvalidLog_index : PySem.W.findIn K (.ref EInvalidLog) "index" = some none)
    (neInvalidLog_call : PySem.W.findIn K (.ref EInvalidLog) "call" = some none)
    (neInvalidLog_line : PySem.W.findIn K (.ref EInvalidLog) "line" = some none)
    (neInvalidLog_word : PySem.W.findIn K (.ref EInvalidLog) "word" = some none)
    (neInvalidLog_limit : PySem.W.findIn K (.ref EInvalidLog) "limit" = some none)
    (xlInvalidLog : PySem.W.findIn K (.ref EInvalidLog) "__class__" = some (some (.builtin "object.__class__")))
    (xmInvalidLog : PySem.W.mroIn K EInvalidLog (.type "object") = some true)
    (seInvalidLog_BreakerError : PySem.W.subIn K (.ref EInvalidLog) (.ref EBreakerError) = some true)
    (seInvalidLog_InvalidRow : PySem.W.subIn K (.ref EInvalidLog) (.ref EInvalidRow) = some false)
    (seInvalidLog_InvalidTime : PySem.W.subIn K (.ref EInvalidLog) (.ref EInvalidTime) = some false)
    (seInvalidLog_InvalidOutages : PySem.W.subIn K (.ref EInvalidLog) (.ref EInvalidOutages) = some false)
    (seInvalidLog_InvalidTrains : PySem.W.subIn K (.ref EInvalidLog) (.ref EInvalidTrains) = some false)
    (seInvalidLog_InvalidIndex : PySem.W.subIn K (.ref EInvalidLog) (.ref EInvalidIndex) = some false)
    (seInvalidLog_InvalidBound : PySem.W.subIn K (.ref EInvalidLog) (.ref EInvalidBound) = some false)
    (seInvalidLog_InvalidLog : PySem.W.subIn K (.ref EInvalidLog) (.ref EInvalidLog) = some true)
    (seInvalidLog_InvalidCall : PySem.W.subIn K (.ref EInvalidLog) (.ref EInvalidCall) = some false)
    (seInvalidLog_InvalidText : PySem.W.subIn K (.ref EInvalidLog) (.ref EInvalidText) = some false)
    (seInvalidLog_LimitExceeded : PySem.W.subIn K (.ref EInvalidLog) (.ref ELimitExceeded) = some false)
    (saInvalidLog : PySem.W.subIn K (.ref EInvalidLog) (.type "ArithmeticError") = some true)
    (gNMOST_BREAKERS : PySem.W.nsIn K mainGlobals "MOST_BREAKERS" = some (some (.int 12 tNMOST_BREAKERS)))
    (aY : PySem.W.nsIn K mainGlobals "law" = some (some (.ref aLaw)))
    (lY : K.lookup aLaw = some ⟨ocY, odY, .func (PySem.W.fnOf "law" "law" (defArgs st_law) (defBody st_law) (defScope st_law) .none kVY dcY pmY anY cdY ctY), slY⟩)
    (cY : PySem.W.codeIn K cdY "law" = true)
    (kY : PySem.W.keepIn K (.ref aLaw) = true)
    (z_ArithmeticError : PySem.W.nsIn K mainGlobals "ArithmeticError" = some none)
    (z_bool : PySem.W.nsIn K mainGlobals "bool" = some none)
    (z_enumerate : PySem.W.nsIn K mainGlobals "enumerate" = some none)
    (z_int : PySem.W.nsIn K mainGlobals "int" = some none)
    (z_isinstance : PySem.W.nsIn K mainGlobals "isinstance" = some none)
    (z_len : PySem.W.nsIn K mainGlobals "len" = some none)
    (z_list : PySem.W.nsIn K mainGlobals "list" = some none)
    (z_max : PySem.W.nsIn K mainGlobals "max" = some none)
    (z_min : PySem.W.nsIn K mainGlobals "min" = some none)
    (z_range : PySem.W.nsIn K mainGlobals "range" = some none)
    (z_repr : PySem.W.nsIn K mainGlobals "repr" = some none)
    (z_tuple : PySem.W.nsIn K mainGlobals "tuple" = some none)
    (z_zip : PySem.W.nsIn K mainGlobals "zip" = some none)
    (tbq20 : TabE K h kcq20 ktq20) :
    ∃ (fd : FuncData) (cs : List (Addr × Addr)) (sp : Sp), (∀ p ∈ cs, TabE K h p.1 p.2) ∧ (∀ (s : Shared) (v : Value), BindsTo s fd ⟨[v], []⟩ [("_law_script", v)]) ∧ (∀ (H : Hp) (a : Addr) (ns : List Int), ns.length ≤ 63 → (∀ z ∈ ns, Builtin.Int.intBits z ≤ 1048576) → (∀ p ∈ cs, H p.2 = some (.tbl #[])) → SqL K H a (ns.map V.int) → sp [.ref a] H (fun v _ => v = .bl true) fun _ _ _ => False) ∧ ∀ base : Heap, K.In base → base.Ns mainGlobals mg → (∀ p ∈ cs, LamX.TabB base mg p.1 p.2) → FnOk P w K mg base CX0 14 fa fd ["_law_script"] sp := by
  have e := hfa.symm.trans (PySem.W.mg_of X G aY)
  cases e
  obtain ⟨vMOST_COUNT, hvMOST_COUNT, rMOST_COUNT⟩ := LL.val _ hLMOST_COUNT
  obtain ⟨tMOST_COUNT, rfl, -⟩ := PySem.W.readsW_int_inv rMOST_COUNT
  obtain ⟨vMOST_TIME, hvMOST_TIME, rMOST_TIME⟩ := LL.val _ hLMOST_TIME
  obtain ⟨tMOST_TIME, rfl, -⟩ := PySem.W.readsW_int_inv rMOST_TIME
  have T : LX K mg ⟨fq0, fq1, fq2, fq3, fq4, fq5, fq6, fq7, fq8, fq9, fq10, fq11, fq12, fq13, fq14, fq15, fq16, fq17, fq18, fq19, fq20, kcq20, ktq20, CRow, aIRow, fq21, fq22, fq23, fq24, fq25, fq26, fq27, fq28, EBreakerError, EInvalidRow, EInvalidTime, EInvalidOutages, EInvalidTrains, EInvalidIndex, EInvalidBound, EInvalidLog, EInvalidCall, EInvalidText, ELimitExceeded, aIInvalidLog⟩ := ⟨PySem.W.mg_none_of X G z_ArithmeticError,
    PySem.W.mg_none_of X G z_bool,
    PySem.W.mg_none_of X G z_enumerate,
    PySem.W.mg_none_of X G z_int,
    PySem.W.mg_none_of X G z_isinstance,
    PySem.W.mg_none_of X G z_len,
    PySem.W.mg_none_of X G z_list,
    PySem.W.mg_none_of X G z_max,
    PySem.W.mg_none_of X G z_min,
    PySem.W.mg_none_of X G z_range,
    PySem.W.mg_none_of X G z_repr,
    PySem.W.mg_none_of X G z_tuple,
    PySem.W.mg_none_of X G z_zip,
    ⟨_, PySem.W.mg_of X G gNMOST_BREAKERS⟩,
    ⟨_, hvMOST_COUNT⟩,
    ⟨_, hvMOST_TIME⟩,
    mk_dfn X G aq0 lq0 cq0 kq0 bn_q0,
    mk_dfn X G aq1 lq1 cq1 kq1 bn_q1,
    mk_dfn X G aq2 lq2 cq2 kq2 bn_q2,
    mk_dfn X G aq3 lq3 cq3 kq3 bn_q3,
    mk_dfn X G aq4 lq4 cq4 kq4 bn_q4,
    mk_dfn X G aq5 lq5 cq5 kq5 bn_q5,
    mk_dfn X G aq6 lq6 cq6 kq6 bn_q6,
    mk_dfn X G aq7 lq7 cq7 kq7 bn_q7,
    mk_dfn X G aq8 lq8 cq8 kq8 bn_q8,
    mk_dfn X G aq9 lq9 cq9 kq9 bn_q9,
    mk_dfn X G aq10 lq10 cq10 kq10 bn_q10,
    mk_dfn X G aq11 lq11 cq11 kq11 bn_q11,
    mk_dfn X G aq12 lq12 cq12 kq12 bn_q12,
    mk_dfn X G aq13 lq13 cq13 kq13 bn_q13,
    mk_dfn X G aq14 lq14 cq14 kq14 bn_q14,
    mk_dfn X G aq15 lq15 cq15 kq15 bn_q15,
    mk_dfn X G aq16 lq16 cq16 kq16 bn_q16,
    mk_dfn X G aq17 lq17 cq17 kq17 bn_q17,
    mk_dfn X G aq18 lq18 cq18 kq18 bn_q18,
    mk_dfn X G aq19 lq19 cq19 kq19 bn_q19,
    mk_dfnT X G aq20 lq20 cq20 kq20 bn_q20,
    PySem.W.mg_of X G gcRow,
    ⟨⟨gRow0, gRow1, gRow2, gRow3⟩, gRow6, gRow7, gRow8, gO1, gO2, gRow9, gRow10, gRow11⟩,
    ⟨gRow4, aNRow, iNRow, gRow5⟩,
    nfRow_breakers,
    nfRow_step,
    nfRow_phase,
    ⟨_, ⟨⟨ocNRow, odNRow, .none, .ref aDRow, dcNRow, pmNRow, anNRow, cdNRow, ctNRow, slNRow, rfl, lNRow, cNRow, .inl ⟨rfl, rfl⟩, .inr ⟨aDRow, rfl, fun q hq => by rw [List.mem_singleton.mp hq]; exact ⟨_, dRow, _, rfl⟩⟩⟩, kNRow⟩⟩,
    mk_mth aq21 iq21 nq21 lq21 cq21 kq21 bn_q21,
    mk_mth aq22 iq22 nq22 lq22 cq22 kq22 bn_q22,
    mk_mth aq23 iq23 nq23 lq23 cq23 kq23 bn_q23,
    mk_mth aq24 iq24 nq24 lq24 cq24 kq24 bn_q24,
    mk_mth aq25 iq25 nq25 lq25 cq25 kq25 bn_q25,
    mk_mth aq26 iq26 nq26 lq26 cq26 kq26 bn_q26,
    mk_mth aq27 iq27 nq27 lq27 cq27 kq27 bn_q27,
    mk_mth aq28 iq28 nq28 lq28 cq28 kq28 bn_q28,
    PySem.W.mg_of X G geBreakerError,
    ⟨xaBreakerError, xbBreakerError, xcBreakerError, xdBreakerError⟩,
    xeBreakerError,
    PySem.W.mg_of X G geInvalidRow,
    ⟨xaInvalidRow, xbInvalidRow, xcInvalidRow, xdInvalidRow⟩,
    xeInvalidRow,
    PySem.W.mg_of X G geInvalidTime,
    ⟨xaInvalidTime, xbInvalidTime, xcInvalidTime, xdInvalidTime⟩,
    xeInvalidTime,
    PySem.W.mg_of X G geInvalidOutages,
    ⟨xaInvalidOutages, xbInvalidOutages, xcInvalidOutages, xdInvalidOutages⟩,
    xeInvalidOutages,
    PySem.W.mg_of X G geInvalidTrains,
    ⟨xaInvalidTrains, xbInvalidTrains, xcInvalidTrains, xdInvalidTrains⟩,
    xeInvalidTrains,
    PySem.W.mg_of X G geInvalidIndex,
    ⟨xaInvalidIndex, xbInvalidIndex, xcInvalidIndex, xdInvalidIndex⟩,
    xeInvalidIndex,
    PySem.W.mg_of X G geInvalidBound,
    ⟨xaInvalidBound, xbInvalidBound, xcInvalidBound, xdInvalidBound⟩,
    xeInvalidBound,
    PySem.W.mg_of X G geInvalidLog,
    ⟨xaInvalidLog, xbInvalidLog, xcInvalidLog, xdInvalidLog⟩,
    xeInvalidLog,
    PySem.W.mg_of X G geInvalidCall,
    ⟨xaInvalidCall, xbInvalidCall, xcInvalidCall, xdInvalidCall⟩,
    xeInvalidCall,
    PySem.W.mg_of X G geInvalidText,
    ⟨xaInvalidText, xbInvalidText, xcInvalidText, xdInvalidText⟩,
    xeInvalidText,
    PySem.W.mg_of X G geLimitExceeded,
    ⟨xaLimitExceeded, xbLimitExceeded, xcLimitExceeded, xdLimitExceeded⟩,
    xeLimitExceeded,
    ⟨⟨_, _, _, _, _, _, _, _, _, _, _, _, _, _, _, xoInvalidLog, by rfl⟩, xsInvalidLog, xcInvalidLog, xeInvalidLog, xkInvalidLog⟩,
    aNInvalidLog,
    tNInvalidLog,
    ⟨_, fun_mk lNInvalidLog cNInvalidLog kNInvalidLog, (fun_mk lNInvalidLog cNInvalidLog kNInvalidLog).binds bn_NInvalidLog⟩,
    neInvalidLog_part,
    neInvalidLog_at,
    neInvalidLog_time,
    neInvalidLog_index,
    neInvalidLog_call,
    neInvalidLog_line,
    neInvalidLog_word,
    neInvalidLog_limit,
    ⟨xaInvalidLog, xbInvalidLog, xcInvalidLog, xdInvalidLog, xlInvalidLog, gO1, gO2, xmInvalidLog⟩,
    seInvalidLog_BreakerError,
    seInvalidLog_InvalidRow,
    seInvalidLog_InvalidTime,
    seInvalidLog_InvalidOutages,
    seInvalidLog_InvalidTrains,
    seInvalidLog_InvalidIndex,
    seInvalidLog_InvalidBound,
    seInvalidLog_InvalidLog,
    seInvalidLog_InvalidCall,
    seInvalidLog_InvalidText,
    seInvalidLog_LimitExceeded,
    saInvalidLog⟩
  have tbs : ∀ p ∈ [(kcq20, ktq20)], TabE K h p.1 p.2 := by
    intro p hp
    simp only [List.mem_cons, List.mem_nil_iff, or_false] at hp
    rcases hp with rfl
    · exact tbq20
  refine ⟨_, [(kcq20, ktq20)], spLawT K _, tbs, fun s v => .of_eq rfl, fun H a ns hl _ hH hS => ⟨a, ns, rfl, hS, hl, ?_, fun _ => rfl⟩, fun base _ _ hB => ok_law (fun_mk lY cY kY) T ⟨hB (kcq20, ktq20) (.head _)⟩⟩
  intro p hp
  simp only [LT, List.mem_cons, List.mem_nil_iff, or_false] at hp
  rcases hp with rfl
  · exact LamX.TabS.nil (hH (kcq20, ktq20) (.head _))
/-- the end, with tables of code objects and what the loose names hold -/
theorem walk_tabs {l : PySem.W.OpenLaw} {q p : Program} {lv : List (Str × PySem.W.WData)} {loose : List Str} {YP : World → Heap → Prop} {d : DefRec} {K : Params → PySem.W.Frag} (hn : l.most = some 63) (hd : d.params.defaults = []) (hY : ∀ (w : World) (h : Heap), YP w h → (K w.params).In h)
    (F : ∀ (w : World) (mg : Str → Option Value) (fa : Addr) (h : Heap), YP w h → (K w.params).In h → h.Ns mainGlobals mg → PySem.W.LooseAre lv mg h → mg d.name = some (.ref fa) →
      ∃ (fd : FuncData) (cs : List (Addr × Addr)) (sp : Sp), (∀ p ∈ cs, TabE (K w.params) h p.1 p.2) ∧ (∀ (s : Shared) (v : Value), BindsTo s fd ⟨[v], []⟩ [("_law_script", v)]) ∧ (∀ (H : Hp) (a : Addr) (ns : List Int), ns.length ≤ 63 → (∀ z ∈ ns, Builtin.Int.intBits z ≤ 1048576) → (∀ p ∈ cs, H p.2 = some (.tbl #[])) → SqL (K w.params) H a (ns.map V.int) → sp [.ref a] H (fun v _ => v = .bl true) fun _ _ _ => False) ∧ ∀ base : Heap, (K w.params).In base → base.Ns mainGlobals mg → (∀ p ∈ cs, LamX.TabB base mg p.1 p.2) → FnOk l.prog w (K w.params) mg base CX0 14 fa fd ["_law_script"] sp) :
    PySem.W.WalkO q loose (PySem.W.XL p lv) YP l.row.toRowW d [] (fun f vs => PySem.call f vs) := Att.attach_callB hn hd fun w _ s₁ mg mb fa _ _ _ _ a vs ns G Y _ _ _ hmg hobj hints hlen hbits hg => by
  obtain ⟨fd, cs, sp, hT, hb, hsp, hF⟩ := F w mg fa s₁.heap Y (hY w s₁.heap Y) G.T.g G.X.2 hmg
  exact LamX.law_callTs (hY w s₁.heap Y) G.T.g G.T.b G.T.builtins G.T.nolimit hg (fun p hp => (hT p hp).1) (fun p hp => (hT p hp).2.2) (fun p hp => PySem.W.codeHd_of_K (hY w s₁.heap Y) (hT p hp).2.1) G.T.bmain hobj hints (Nat.le_trans hlen (by decide)) ⟨rfl, by decide, by decide⟩ hF hb (fun H hH hS => hsp H a ns hlen hbits hH hS) fun _ _ _ z => z

end Toy
open PySem PySem.W PyProof.Rows
set_option maxRecDepth 100000 in
set_option maxHeartbeats 0 in
theorem PySem.Challenge.cw_breakerrow_k49_waits_by_periods_holds : PySem.Challenge.rw_breakerrow_k49_waits_by_periods.Holds := by
  w_on; o_law; k_head; (case hw => w_witness2)
  k_fill
  refine Toy.walk_tabs (l := PySem.Challenge.rw_breakerrow_k49_waits_by_periods) rfl rfl (fun w h Y => PySem.W.km_in_of Y) ?F
  intro w mg fa h Y KX G LL hmg
  have hT := PySem.W.km_tabs_of Y
  refine' Toy.all_mk KX G LL (by first | exact .head _ | exact .tail _ (.head _) | exact .tail _ (.tail _ (.head _)) | exact .tail _ (.tail _ (.tail _ (.head _))) | exact .tail _ (.tail _ (.tail _ (.tail _ (.head _)))) | exact .tail _ (.tail _ (.tail _ (.tail _ (.tail _ (.head _))))) | exact .tail _ (.tail _ (.tail _ (.tail _ (.tail _ (.tail _ (.head _)))))) | exact .tail _ (.tail _ (.tail _ (.tail _ (.tail _ (.tail _ (.tail _ (.head _))))))) | exact .tail _ (.tail _ (.tail _ (.tail _ (.tail _ (.tail _ (.tail _ (.tail _ (.head _)))))))) | exact .tail _ (.tail _ (.tail _ (.tail _ (.tail _ (.tail _ (.tail _ (.tail _ (.tail _ (.head _)))))))))) (by first | exact .head _ | exact .tail _ (.head _) | exact .tail _ (.tail _ (.head _)) | exact .tail _ (.tail _ (.tail _ (.head _))) | exact .tail _ (.tail _ (.tail _ (.tail _ (.head _)))) | exact .tail _ (.tail _ (.tail _ (.tail _ (.tail _ (.head _))))) | exact .tail _ (.tail _ (.tail _ (.tail _ (.tail _ (.tail _ (.head _)))))) | exact .tail _ (.tail _ (.tail _ (.tail _ (.tail _ (.tail _ (.tail _ (.head _))))))) | exact .tail _ (.tail _ (.tail _ (.tail _ (.tail _ (.tail _ (.tail _ (.tail _ (.head _)))))))) | exact .tail _ (.tail _ (.tail _ (.tail _ (.tail _ (.tail _ (.tail _ (.tail _ (.tail _ (.head _)))))))))) hmg ?aq0 ?lq0 ?cq0 ?kq0 ?aq1 ?lq1 ?cq1 ?kq1 ?aq2 ?lq2 ?cq2 ?kq2 ?aq3 ?lq3 ?cq3 ?kq3 ?aq4 ?lq4 ?cq4 ?kq4 ?aq5 ?lq5 ?cq5 ?kq5 ?aq6 ?lq6 ?cq6 ?kq6 ?aq7 ?lq7 ?cq7 ?kq7 ?aq8 ?lq8 ?cq8 ?kq8 ?aq9 ?lq9 ?cq9 ?kq9 ?aq10 ?lq10 ?cq10 ?kq10 ?aq11 ?lq11 ?cq11 ?kq11 ?aq12 ?lq12 ?cq12 ?kq12 ?aq13 ?lq13 ?cq13 ?kq13 ?aq14 ?lq14 ?cq14 ?kq14 ?aq15 ?lq15 ?cq15 ?kq15 ?aq16 ?lq16 ?cq16 ?kq16 ?aq17 ?lq17 ?cq17 ?kq17 ?aq18 ?lq18 ?cq18 ?kq18 ?aq19 ?lq19 ?cq19 ?kq19 ?aq20 ?lq20 ?cq20 ?kq20 ?gcRow ?gRow0 ?gRow1 ?gRow2 ?gRow3 ?gRow4 ?gRow5 ?gRow6 ?gRow7 ?gRow8 ?gRow9 ?gRow10 ?gRow11 ?gO1 ?gO2 ?nfRow_breakers ?nfRow_step ?nfRow_phase ?aNRow ?iNRow ?lNRow ?cNRow ?kNRow ?dRow ?aq21 ?iq21 ?nq21 ?lq21 ?cq21 ?kq21 ?aq22 ?iq22 ?nq22 ?lq22 ?cq22 ?kq22 ?aq23 ?iq23 ?nq23 ?lq23 ?cq23 ?kq23 ?aq24 ?iq24 ?nq24 ?lq24 ?cq24 ?kq24 ?aq25 ?iq25 ?nq25 ?lq25 ?cq25 ?kq25 ?aq26 ?iq26 ?nq26 ?lq26 ?cq26 ?kq26 ?aq27 ?iq27 ?nq27 ?lq27 ?cq27 ?kq27 ?aq28 ?iq28 ?nq28 ?lq28 ?cq28 ?kq28 ?geBreakerError ?xaBreakerError ?xbBreakerError ?xcBreakerError ?xdBreakerError ?xeBreakerError ?geInvalidRow ?xaInvalidRow ?xbInvalidRow ?xcInvalidRow ?xdInvalidRow ?xeInvalidRow ?geInvalidTime ?xaInvalidTime ?xbInvalidTime ?xcInvalidTime ?xdInvalidTime ?xeInvalidTime ?geInvalidOutages ?xaInvalidOutages ?xbInvalidOutages ?xcInvalidOutages ?xdInvalidOutages ?xeInvalidOutages ?geInvalidTrains ?xaInvalidTrains ?xbInvalidTrains ?xcInvalidTrains ?xdInvalidTrains ?xeInvalidTrains ?geInvalidIndex ?xaInvalidIndex ?xbInvalidIndex ?xcInvalidIndex ?xdInvalidIndex ?xeInvalidIndex ?geInvalidBound ?xaInvalidBound ?xbInvalidBound ?xcInvalidBound ?xdInvalidBound ?xeInvalidBound ?geInvalidLog ?xaInvalidLog ?xbInvalidLog ?xcInvalidLog ?xdInvalidLog ?xeInvalidLog ?geInvalidCall ?xaInvalidCall ?xbInvalidCall ?xcInvalidCall ?xdInvalidCall ?xeInvalidCall ?geInvalidText ?xaInvalidText ?xbInvalidText ?xcInvalidText ?xdInvalidText ?xeInvalidText ?geLimitExceeded ?xaLimitExceeded ?xbLimitExceeded ?xcLimitExceeded ?xdLimitExceeded ?xeLimitExceeded ?xoInvalidLog ?xsInvalidLog ?xkInvalidLog ?aNInvalidLog ?tNInvalidLog ?lNInvalidLog ?cNInvalidLog ?kNInvalidLog ?neInvalidLog_part ?neInvalidLog_at ?neInvalidLog_time ?neInvalidLog_index ?neInvalidLog_call ?neInvalidLog_line ?neInvalidLog_word ?neInvalidLog_limit ?xlInvalidLog ?xmInvalidLog ?seInvalidLog_BreakerError ?seInvalidLog_InvalidRow ?seInvalidLog_InvalidTime ?seInvalidLog_InvalidOutages ?seInvalidLog_InvalidTrains ?seInvalidLog_InvalidIndex ?seInvalidLog_InvalidBound ?seInvalidLog_InvalidLog ?seInvalidLog_InvalidCall ?seInvalidLog_InvalidText ?seInvalidLog_LimitExceeded ?saInvalidLog ?gNMOST_BREAKERS ?aY ?lY ?cY ?kY ?z_ArithmeticError ?z_bool ?z_enumerate ?z_int ?z_isinstance ?z_len ?z_list ?z_max ?z_min ?z_range ?z_repr ?z_tuple ?z_zip ?tbq20
  (case aq0 => k_is)
  (case lq0 => k_is)
  (case cq0 => k_is)
  (case kq0 => k_is)
  (case aq1 => k_is)
  (case lq1 => k_is)
  (case cq1 => k_is)
  (case kq1 => k_is)
  (case aq2 => k_is)
  (case lq2 => k_is)
  (case cq2 => k_is)
  (case kq2 => k_is)
  (case aq3 => k_is)
  (case lq3 => k_is)
  (case cq3 => k_is)
  (case kq3 => k_is)
  (case aq4 => k_is)
  (case lq4 => k_is)
  (case cq4 => k_is)
  (case kq4 => k_is)
  (case aq5 => k_is)
  (case lq5 => k_is)
  (case cq5 => k_is)
  (case kq5 => k_is)
  (case aq6 => k_is)
  (case lq6 => k_is)
  (case cq6 => k_is)
  (case kq6 => k_is)
  (case aq7 => k_is)
  (case lq7 => k_is)
  (case cq7 => k_is)
  (case kq7 => k_is)
  (case aq8 => k_is)
  (case lq8 => k_is)
  (case cq8 => k_is)
  (case kq8 => k_is)
  (case aq9 => k_is)
  (case lq9 => k_is)
  (case cq9 => k_is)
  (case kq9 => k_is)
  (case aq10 => k_is)
  (case lq10 => k_is)
  (case cq10 => k_is)
  (case kq10 => k_is)
  (case aq11 => k_is)
  (case lq11 => k_is)
  (case cq11 => k_is)
  (case kq11 => k_is)
  (case aq12 => k_is)
  (case lq12 => k_is)
  (case cq12 => k_is)
  (case kq12 => k_is)
  (case aq13 => k_is)
  (case lq13 => k_is)
  (case cq13 => k_is)
  (case kq13 => k_is)
  (case aq14 => k_is)
  (case lq14 => k_is)
  (case cq14 => k_is)
  (case kq14 => k_is)
  (case aq15 => k_is)
  (case lq15 => k_is)
  (case cq15 => k_is)
  (case kq15 => k_is)
  (case aq16 => k_is)
  (case lq16 => k_is)
  (case cq16 => k_is)
  (case kq16 => k_is)
  (case aq17 => k_is)
  (case lq17 => k_is)
  (case cq17 => k_is)
  (case kq17 => k_is)
  (case aq18 => k_is)
  (case lq18 => k_is)
  (case cq18 => k_is)
  (case kq18 => k_is)
  (case aq19 => k_is)
  (case lq19 => k_is)
  (case cq19 => k_is)
  (case kq19 => k_is)
  (case aq20 => k_is)
  (case lq20 => k_is)
  (case cq20 => k_is)
  (case kq20 => k_is)
  (case gcRow => k_is)
  (case gRow0 => k_is)
  (case gRow1 => k_is)
  (case gRow2 => k_is)
  (case gRow3 => k_is)
  (case gRow4 => k_is)
  (case gRow5 => k_is)
  (case gRow6 => k_is)
  (case gRow7 => k_is)
  (case gRow8 => k_is)
  (case gRow9 => k_is)
  (case gRow10 => k_is)
  (case gRow11 => k_is)
  (case gO1 => k_is)
  (case gO2 => k_is)
  (case nfRow_breakers => k_is)
  (case nfRow_step => k_is)
  (case nfRow_phase => k_is)
  (case aNRow => k_is)
  (case iNRow => k_is)
  (case lNRow => k_is)
  (case cNRow => k_is)
  (case kNRow => k_is)
  (case dRow => k_is)
  (case aq21 => k_is)
  (case iq21 => k_is)
  (case nq21 => k_is)
  (case lq21 => k_is)
  (case cq21 => k_is)
  (case kq21 => k_is)
  (case aq22 => k_is)
  (case iq22 => k_is)
  (case nq22 => k_is)
  (case lq22 => k_is)
  (case cq22 => k_is)
  (case kq22 => k_is)
  (case aq23 => k_is)
  (case iq23 => k_is)
  (case nq23 => k_is)
  (case lq23 => k_is)
  (case cq23 => k_is)
  (case kq23 => k_is)
  (case aq24 => k_is)
  (case iq24 => k_is)
  (case nq24 => k_is)
  (case lq24 => k_is)
  (case cq24 => k_is)
  (case kq24 => k_is)
  (case aq25 => k_is)
  (case iq25 => k_is)
  (case nq25 => k_is)
  (case lq25 => k_is)
  (case cq25 => k_is)
  (case kq25 => k_is)
  (case aq26 => k_is)
  (case iq26 => k_is)
  (case nq26 => k_is)
  (case lq26 => k_is)
  (case cq26 => k_is)
  (case kq26 => k_is)
  (case aq27 => k_is)
  (case iq27 => k_is)
  (case nq27 => k_is)
  (case lq27 => k_is)
  (case cq27 => k_is)
  (case kq27 => k_is)
  (case aq28 => k_is)
  (case iq28 => k_is)
  (case nq28 => k_is)
  (case lq28 => k_is)
  (case cq28 => k_is)
  (case kq28 => k_is)
  (case geBreakerError => k_is)
  (case xaBreakerError => k_is)
  (case xbBreakerError => k_is)
  (case xcBreakerError => k_is)
  (case xdBreakerError => k_is)
  (case xeBreakerError => k_is)
  (case geInvalidRow => k_is)
  (case xaInvalidRow => k_is)
  (case xbInvalidRow => k_is)
  (case xcInvalidRow => k_is)
  (case xdInvalidRow => k_is)
  (case xeInvalidRow => k_is)
  (case geInvalidTime => k_is)
  (case xaInvalidTime => k_is)
  (case xbInvalidTime => k_is)
  (case xcInvalidTime => k_is)
  (case xdInvalidTime => k_is)
  (case xeInvalidTime => k_is)
  (case geInvalidOutages => k_is)
  (case xaInvalidOutages => k_is)
  (case xbInvalidOutages => k_is)
  (case xcInvalidOutages => k_is)
  (case xdInvalidOutages => k_is)
  (case xeInvalidOutages => k_is)
  (case geInvalidTrains => k_is)
  (case xaInvalidTrains => k_is)
  (case xbInvalidTrains => k_is)
  (case xcInvalidTrains => k_is)
  (case xdInvalidTrains => k_is)
  (case xeInvalidTrains => k_is)
  (case geInvalidIndex => k_is)
  (case xaInvalidIndex => k_is)
  (case xbInvalidIndex => k_is)
  (case xcInvalidIndex => k_is)
  (case xdInvalidIndex => k_is)
  (case xeInvalidIndex => k_is)
  (case geInvalidBound => k_is)
  (case xaInvalidBound => k_is)
  (case xbInvalidBound => k_is)
  (case xcInvalidBound => k_is)
  (case xdInvalidBound => k_is)
  (case xeInvalidBound => k_is)
  (case geInvalidLog => k_is)
  (case xaInvalidLog => k_is)
  (case xbInvalidLog => k_is)
  (case xcInvalidLog => k_is)
  (case xdInvalidLog => k_is)
  (case xeInvalidLog => k_is)
  (case geInvalidCall => k_is)
  (case xaInvalidCall => k_is)
  (case xbInvalidCall => k_is)
  (case xcInvalidCall => k_is)
  (case xdInvalidCall => k_is)
  (case xeInvalidCall => k_is)
  (case geInvalidText => k_is)
  (case xaInvalidText => k_is)
  (case xbInvalidText => k_is)
  (case xcInvalidText => k_is)
  (case xdInvalidText => k_is)
  (case xeInvalidText => k_is)
  (case geLimitExceeded => k_is)
  (case xaLimitExceeded => k_is)
  (case xbLimitExceeded => k_is)
  (case xcLimitExceeded => k_is)
  (case xdLimitExceeded => k_is)
  (case xeLimitExceeded => k_is)
  (case xoInvalidLog => k_is)
  (case xsInvalidLog => k_is)
  (case xkInvalidLog => k_is)
  (case aNInvalidLog => k_is)
  (case tNInvalidLog => k_is)
  (case lNInvalidLog => k_is)
  (case cNInvalidLog => k_is)
  (case kNInvalidLog => k_is)
  (case neInvalidLog_part => k_is)
  (case neInvalidLog_at => k_is)
  (case neInvalidLog_time => k_is)
  (case neInvalidLog_index => k_is)
  (case neInvalidLog_call => k_is)
  (case neInvalidLog_line => k_is)
  (case neInvalidLog_word => k_is)
  (case neInvalidLog_limit => k_is)
  (case xlInvalidLog => k_is)
  (case xmInvalidLog => k_is)
  (case seInvalidLog_BreakerError => k_is)
  (case seInvalidLog_InvalidRow => k_is)
  (case seInvalidLog_InvalidTime => k_is)
  (case seInvalidLog_InvalidOutages => k_is)
  (case seInvalidLog_InvalidTrains => k_is)
  (case seInvalidLog_InvalidIndex => k_is)
  (case seInvalidLog_InvalidBound => k_is)
  (case seInvalidLog_InvalidLog => k_is)
  (case seInvalidLog_InvalidCall => k_is)
  (case seInvalidLog_InvalidText => k_is)
  (case seInvalidLog_LimitExceeded => k_is)
  (case saInvalidLog => k_is)
  (case gNMOST_BREAKERS => k_is)
  (case aY => k_is)
  (case lY => k_is)
  (case cY => k_is)
  (case kY => k_is)
  (case z_ArithmeticError => k_is)
  (case z_bool => k_is)
  (case z_enumerate => k_is)
  (case z_int => k_is)
  (case z_isinstance => k_is)
  (case z_len => k_is)
  (case z_list => k_is)
  (case z_max => k_is)
  (case z_min => k_is)
  (case z_range => k_is)
  (case z_repr => k_is)
  (case z_tuple => k_is)
  (case z_zip => k_is)
  (case tbq20 => first | exact Toy.tabE_of (hT _ (.head _)) (by kernel_rfl) (by kernel_rfl))
