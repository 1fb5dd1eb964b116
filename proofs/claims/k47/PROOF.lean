import PyProof.Rows.All
import Wide.All
import OpenK.AllK
import Wide.FinOn
import HandS.ForMost
import HandS.IsInst
import HandS.Wide
import HandS.Style
import HandS.Defaults
import HandS.MakeKwOnly
import HandS.Zip
import HandS.SortRule
import HandS.TupAny
import HandS.Lambda
import KE.GoesEnum
import HandS.Flow
import HandS.Codes
import HandS.WideBits
import HandS.OwnEq
import HandS.TryOnly
import HandS.TupLe
import HandS.SetFor
import KE.DataMinMax
import HandS.Conv
import KE.DataFind
import PyProof.Rows.CallKwBuiltin
import PyProof.LongRange
import HandS.ExcInit
import KE.KExcInit
import HandS.WordsExc
import HandS.ExcField
import KE.KExcIs
import HandS.RaiseMore
import HandS.EndTab
import KE.KNestM
import PySem.Challenge.RW_breakerrow_k47_conflicts_and_forecasts
set_option Elab.async false
set_option linter.all false
set_option maxRecDepth 100000
set_option maxHeartbeats 4000000
namespace Own
open PySem PySem.Spec PyProof.Rows L2
open Builtin

section
variable {X : Cx} {CX : CXT} {k : Nat} {f C : Addr} {fd : FuncData} {ps : List Str} {sp : Sp} {E : XK}

theorem rr {p : Addr} : L2.RelV (.ref p) (.ref p) := rfl
/-- a promise used under any frame below the body -/
theorem run_at {A : Around} {pins : List (Addr × Obj)} {σ : L2.St} {H : Hp} {s : Shared} {Q : VK} {us : List Value} {vs : List V} (F : FnOk X.prog X.w X.K X.mg X.base CX k f fd ps sp) (hr : Room k A) (hA : A.frames = X.A.frames)
    (hb : Binds X.K fd ps []) (hx : Passes CX X E) (I : Inv X pins σ H s) (r : Vals vs us) (h : sp vs H Q E) : wpAny (model X.prog X.w) A (call (.ref f) us) (EP X pins σ Q) X.xe s := by
  have hl : us.length = ps.length := by rw [← r.length]; exact F.len _ _ _ _ h
  have e0 : Env0 X.prog X.w X.K X.mg X.base A X.stack s H := by
    have e := I.env0
    exact ⟨by rw [hA]; exact e.frames, e.mod, e.bs, e.bsz, e.funs, e.frf, e.hok, e.bare⟩
  have hB : BindsTo s fd ⟨us, []⟩ (ps.zip us) := by
    have := hb s us I.kIn (by rw [List.append_nil]; exact hl)
    rwa [List.append_nil] at this
  refine wpAny_call (codeAny_mono (F.run A X.stack s H ⟨us, []⟩ us vs Q E hr e0 hB r h) fun r s' hq => ?_)
  cases r with
  | error e => exact hx pins σ H s e s' I hq
  | ok fl =>
    cases fl with
    | ret u => exact I.after hq
    | next => exact False.elim hq
    | brk => exact False.elim hq
    | cont => exact False.elim hq

theorem inst_of {pins : List (Addr × Obj)} {σ : L2.St} {H : Hp} {s : Shared} {p dx : Addr} {fs : List (Str × V)} (I : Inv X pins σ H s) (e : H p = some (.ins C dx fs)) : ∃ od, PySem.W.InstAt s.heap p (PySem.W.instObj C dx) C od := by
  obtain ⟨mA, O, _⟩ := ins_get I.hok e
  obtain ⟨od, J, _⟩ := O.look
  exact ⟨_, J⟩

/-- a bool is wanted of the method -/
def BlQ (Q : VK) (g : Bool → Bool) : VK := fun v H' => ∃ b, v = .bl b ∧ Q (.bl (g b)) H'
def rOwnIn (C : Addr) (sp : Sp) (E : XK) (g : Bool → Bool) : R2 := fun x y H Q => ∃ p dx fs, y = .ref p ∧ H p = some (.ins C dx fs) ∧ sp [.ref p, x] H (BlQ Q g) E
theorem op_own_in (F : FnOk X.prog X.w X.K X.mg X.base CX k f fd ps sp) (hr : Room k X.A) (hs : PySem.W.findIn X.K (.ref C) "__contains__" = some (some (.ref f))) (hf : PySem.W.isFn X.K (.ref f) = true) (hb : Binds X.K fd ps []) (hx : Passes CX X E) :
    OpR X (compareOp .In) (rOwnIn C sp E id) := by
  intro pins s σ H x y v u Q I rx ry h
  obtain ⟨p, dx, fs, rfl, hp, q⟩ := h
  cases ry
  obtain ⟨od, J⟩ := inst_of I hp
  obtain ⟨m, hF⟩ := I.fr
  refine PySem.W.in_K hF I.ok.mod.kin J hs hf (thn (run_at F hr rfl hb hx I (.cons rr (.cons rx .nil)) q) fun r s' hh => ?_)
  obtain ⟨z, H', I', rz, b, ez, q'⟩ := hh
  subst ez
  cases rz
  exact wpAny_truthy_bool ⟨.bl b, H', I', rfl, q'⟩
theorem op_own_notin (F : FnOk X.prog X.w X.K X.mg X.base CX k f fd ps sp) (hr : Room k X.A) (hs : PySem.W.findIn X.K (.ref C) "__contains__" = some (some (.ref f))) (hf : PySem.W.isFn X.K (.ref f) = true) (hb : Binds X.K fd ps []) (hx : Passes CX X E) :
    OpR X (compareOp .NotIn) (rOwnIn C sp E not) := by
  intro pins s σ H x y v u Q I rx ry h
  obtain ⟨p, dx, fs, rfl, hp, q⟩ := h
  cases ry
  obtain ⟨od, J⟩ := inst_of I hp
  obtain ⟨m, hF⟩ := I.fr
  refine PySem.W.notIn_K hF I.ok.mod.kin J hs hf (thn (run_at F hr rfl hb hx I (.cons rr (.cons rx .nil)) q) fun r s' hh => ?_)
  obtain ⟨z, H', I', rz, b, ez, q'⟩ := hh
  subst ez
  cases rz
  exact wpAny_truthy_bool ⟨.bl (!b), H', I', rfl, q'⟩
/-- len(o) -/
def rOwnLen (C : Addr) (sp : Sp) (E : XK) : List V → Hp → VK → Prop := fun xs H Q => ∃ p dx fs, xs = [.ref p] ∧ H p = some (.ins C dx fs) ∧ sp [.ref p] H (fun v H' => ∃ n : Int, v = .int n ∧ 0 ≤ n ∧ n < 2 ^ 63 ∧ Q (.int n) H') E
theorem call_own_len (F : FnOk X.prog X.w X.K X.mg X.base CX k f fd ps sp) (hr : Room (k + 1) X.A) (hs : PySem.W.findIn X.K (.ref C) "__len__" = some (some (.ref f))) (hf : PySem.W.isFn X.K (.ref f) = true) (hb : Binds X.K fd ps []) (hx : Passes CX X E) :
    CallR X (.builtin "len") (rOwnLen C sp E) := by
  intro pins s σ H xs us Q I r h
  obtain ⟨p, dx, fs, rfl, hp, q⟩ := h
  obtain ⟨u, rfl, ru⟩ := vals1 r
  cases ru
  obtain ⟨od, J⟩ := inst_of I hp
  obtain ⟨m, hF⟩ := I.fr
  refine PySem.W.len_K hF I.ok.mod.kin J hs hf (thn (run_at F hr.in1 rfl hb hx I (.cons rr .nil) q) fun r s' hh => ?_)
  obtain ⟨z, H', I', rz, n, ez, h0, h1, q'⟩ := hh
  subst ez
  obtain ⟨t, rfl⟩ := rz
  exact ⟨⟨h0, h1⟩, ⟨.int n, H', I'.tok _, ⟨_, rfl⟩, q'⟩⟩
/-- o + p, both of the class -/
def rOwnAdd (C : Addr) (sp : Sp) (E : XK) : R2 := fun x y H Q => ∃ p dx fs q dy gs, x = .ref p ∧ H p = some (.ins C dx fs) ∧ y = .ref q ∧ H q = some (.ins C dy gs) ∧ sp [.ref p, .ref q] H (fun v H' => (∃ a, v = .ref a) ∧ Q v H') E
theorem op_own_add (F : FnOk X.prog X.w X.K X.mg X.base CX k f fd ps sp) (hr : Room k X.A) (hc : PySem.W.selfFirst X.K C = true) (hs : PySem.W.findIn X.K (.ref C) "__add__" = some (some (.ref f))) (hf : PySem.W.isFn X.K (.ref f) = true) (hb : Binds X.K fd ps []) (hx : Passes CX X E) :
    OpR X (binaryOp .Add) (rOwnAdd C sp E) := by
  intro pins s σ H x y v u Q I rx ry h
  obtain ⟨p, dx, fs, q, dy, gs, rfl, hp, rfl, hq, hh⟩ := h
  cases rx
  cases ry
  obtain ⟨od, J⟩ := inst_of I hp
  obtain ⟨od', J'⟩ := inst_of I hq
  obtain ⟨m, hF⟩ := I.fr
  refine PySem.W.binop_K hF I.ok.mod.kin J J'.type hc hs hf (thn (run_at F hr rfl hb hx I (.cons rr (.cons rr .nil)) hh) fun r s' hh => ?_)
  obtain ⟨z, H', I', rz, ⟨a, ez⟩, q'⟩ := hh
  subst ez
  cases rz
  exact ⟨.ref a, H', I', rfl, q'⟩
/-- o[i] -/
def rOwnIx (C : Addr) (sp : Sp) (E : XK) : R2 := fun x y H Q => ∃ p dx fs, x = .ref p ∧ H p = some (.ins C dx fs) ∧ sp [.ref p, y] H Q E
theorem pe_own_ix {a b : Expr} {ta tb : TE} {pos : Pos} (F : FnOk X.prog X.w X.K X.mg X.base CX k f fd ps sp) (hr : Room (k + 1) X.A) (hs : PySem.W.findIn X.K (.ref C) "__getitem__" = some (some (.ref f))) (hfn : PySem.W.fnIn X.K f = true) (hf : PySem.W.isFn X.K (.ref f) = true)
    (hb : Binds X.K fd ps []) (hx : Passes CX X E) (ha : PE X a ta) (hb' : PE X b tb) (hsl : ∀ o i, subscripted b true o i = runValue (.builtin "lifetime.subscript" ⟨[o, i], []⟩) := by exact fun _ _ => rfl) :
    PE X (.Subscript a b pos) (tOp (rOwnIx C sp E) ta tb) := by
  refine ⟨fun pins s σ H Q I h => ?_⟩
  refine Subscript_ (binT ha hb' I h fun v u s2 x y H2 I2 rx ry q => ?_)
  obtain ⟨p, dx, fs, rfl, hp, q⟩ := q
  cases rx
  obtain ⟨od, J⟩ := inst_of I2 hp
  obtain ⟨m, hF⟩ := I2.fr
  exact PySem.W.sub_K hF I2.ok.mod.kin J hs hfn hf (run_at F hr.in1 rfl hb hx I2 (.cons rr (.cons ry .nil)) q) (hsl _ _)

/-! ### own == and the != that comes with it -/
theorem sub_ty {K : PySem.W.Frag} {C : Addr} {T : String} {l : List String} (e : fastBuiltinMro T = some (l.map Value.type)) : PySem.W.subIn K (.type T) (.ref C) = some false := by
  show (fastBuiltinMro T).map (·.contains (.ref C)) = some false
  rw [e]
  have : ∀ l : List String, (l.map Value.type).contains (Value.ref C) = false := by
    intro l
    induction l with
    | nil => rfl
    | cons a r ih =>
      rw [List.map_cons, List.contains_cons, ih]
      rfl
  rw [Option.map_some, this]
/-- a value's type, not one below the class C -/
inductive TyN (H : Hp) (C : Addr) : V → Value → Prop where
  | non : TyN H C .non (.type "NoneType")
  | bl (x : Bool) : TyN H C (.bl x) (.type "bool")
  | int (i : Int) : TyN H C (.int i) (.type "int")
  | str (x : Str) : TyN H C (.str x) (.type "str")
  | lst {a : Addr} {xs : List V} (e : H a = some (.lst xs)) : TyN H C (.ref a) (.type "list")
  | tup {a : Addr} {xs : List V} (e : H a = some (.tup xs)) : TyN H C (.ref a) (.type "tuple")
  | ins {a dx : Addr} {fs : List (Str × V)} (e : H a = some (.ins C dx fs)) : TyN H C (.ref a) (.ref C)
theorem TyN.notFirst {K : PySem.W.Frag} {H : Hp} {x : V} {t : Value} (h : TyN H C x t) : PySem.W.notFirst K C t = true := by
  cases h with
  | non => exact Bool.or_eq_true_iff.mpr (.inr (beq_iff_eq.mpr (sub_ty (l := ["NoneType", "object"]) (by decide +kernel))))
  | bl _ => exact Bool.or_eq_true_iff.mpr (.inr (beq_iff_eq.mpr (sub_ty (l := ["bool", "int", "object"]) (by decide +kernel))))
  | int _ => exact Bool.or_eq_true_iff.mpr (.inr (beq_iff_eq.mpr (sub_ty (l := ["int", "object"]) (by decide +kernel))))
  | str _ => exact Bool.or_eq_true_iff.mpr (.inr (beq_iff_eq.mpr (sub_ty (l := ["str", "object"]) (by decide +kernel))))
  | lst _ => exact Bool.or_eq_true_iff.mpr (.inr (beq_iff_eq.mpr (sub_ty (l := ["list", "object"]) (by decide +kernel))))
  | tup _ => exact Bool.or_eq_true_iff.mpr (.inr (beq_iff_eq.mpr (sub_ty (l := ["tuple", "object"]) (by decide +kernel))))
  | ins _ => exact Bool.or_eq_true_iff.mpr (.inl (by simp))
theorem looks_obj {M : Model} {h : Heap} {a : Addr} {o : Obj} (e : h.get? a = some o) : PySem.W.Looks M h (typeOf (.ref a)) o.cls := fun A Q E s kp q => PySem.wpAny_typeOf_ref (kp _ _ e) q
theorem TyN.looks {M : Model} {pins : List (Addr × Obj)} {σ : L2.St} {H : Hp} {s : Shared} {x : V} {u t : Value} (I : Inv X pins σ H s) (r : RelV x u) (h : TyN H C x t) : PySem.W.Looks M s.heap (typeOf u) t := by
  cases h with
  | non => cases r; exact PySem.W.Looks.of_pure rfl
  | bl _ => cases r; exact PySem.W.Looks.of_pure rfl
  | int _ => obtain ⟨_, rfl⟩ := r; exact PySem.W.Looks.of_pure rfl
  | str _ => obtain ⟨_, rfl⟩ := r; exact PySem.W.Looks.of_pure rfl
  | @lst a xs e =>
    cases r
    obtain ⟨_, _, n, _, h1⟩ := (show ObjOk X.prog X.w H s.heap a (.lst xs) from I.hok a _ e)
    exact looks_obj h1
  | @tup a xs e =>
    cases r
    obtain ⟨_, _, _, o, h1, h2, _⟩ := (show ObjOk X.prog X.w H s.heap a (.tup xs) from I.hok a _ e)
    have := looks_obj (M := M) h1
    rw [h2] at this
    exact this
  | ins e =>
    cases r
    obtain ⟨od, J⟩ := inst_of I e
    exact J.type
def rOwnEq (C : Addr) (sp : Sp) (E : XK) (g : Bool → Bool) : R2 := fun x y H Q => ∃ p dx fs t, x = .ref p ∧ H p = some (.ins C dx fs) ∧ TyN H C y t ∧ sp [.ref p, y] H (BlQ Q g) E
theorem op_own_eq (F : FnOk X.prog X.w X.K X.mg X.base CX k f fd ps sp) (hr : Room k X.A) (hs : PySem.W.findIn X.K (.ref C) "__eq__" = some (some (.ref f))) (hf : PySem.W.isFn X.K (.ref f) = true) (hb : Binds X.K fd ps []) (hx : Passes CX X E) :
    OpR X (compareOp .Eq) (rOwnEq C sp E id) := by
  intro pins s σ H x y v u Q I rx ry h
  obtain ⟨p, dx, fs, t, rfl, hp, ty, q⟩ := h
  cases rx
  obtain ⟨od, J⟩ := inst_of I hp
  obtain ⟨m, hF⟩ := I.fr
  show wpAny (model X.prog X.w) X.A (richCompare .Eq (.ref p) u) (EP X pins σ Q) X.xe s
  refine PySem.W.cmp_K (op := .Eq) hr.units0 hF I.ok.mod.kin J (ty.looks I ry) ty.notFirst hs hf (thn (run_at F hr rfl hb hx I (.cons rr (.cons ry .nil)) q) fun r s' hh => ?_)
  obtain ⟨z, H', I', rz, b, ez, q'⟩ := hh
  subst ez
  cases rz
  exact ⟨.bl b, H', I', rfl, q'⟩
section
variable {prog : Program} {w : World} {A : Around} {E' : Value → Shared → Prop} {s : Shared} {K : PySem.W.Frag} {x : Addr} {ox : Obj} {od : Option Obj} {b : Value}
theorem objNe_entry (hX : K.In s.heap) (I : PySem.W.InstAt s.heap x ox C od) (hs : PySem.W.findIn K (.ref C) "__eq__" = some (some (.ref f))) (hf : PySem.W.isFn K (.ref f) = true) (hu : A.units < cLine) {Q : Fin → Shared → Prop}
    (hcall : wpAny (model prog w) A (call (.ref f) [.ref x, b]) (fun v s' => ∃ k, v = .bool k ∧ Q (.done (.ret (.bool (!k)))) s') E' s) :
    wpAny (model prog w) A (Builtin.«object.__ne__» ⟨[.ref x, b], []⟩) Q E' s := by
  unfold Builtin.«object.__ne__»
  repeat (first
    | with_reducible refine wpAny_cRoomFor hu ?_
    | (refine wpAny_bind (m := callSpecialIfBound? (.ref x) (Str.ofString "__eq__") [b])
        (PySem.W.ifBound_K hX I hs hf (wpAny_mono hcall (fun r s' hr => by
          obtain ⟨k, rfl, hq⟩ := hr
          repeat (first | exact hq | exact wpAny_pure hq | exact wpAny_truthy_bool hq | (refine wpAny_bind (m := truthy (.bool _)) (wpAny_truthy_bool ?_)) | wp_step)) fun _ _ e => e)))
    | wp_step)
theorem call_objNe (hX : K.In s.heap) (I : PySem.W.InstAt s.heap x ox C od) (hm : PySem.W.mroIn K C (.type "object") = some true) (hs : PySem.W.findIn K (.ref C) "__eq__" = some (some (.ref f))) (hf : PySem.W.isFn K (.ref f) = true) (hu : A.units + 1 < cLine) {Q : Value → Shared → Prop}
    (hcall : wpAny (model prog w) A.in1 (call (.ref f) [.ref x, b]) (fun v s' => ∃ k, v = .bool k ∧ Q (.bool (!k)) s') E' s) :
    wpAny (model prog w) A (call (.builtin "object.__ne__") [.ref x, b]) Q E' s :=
  wpAny_call (codeAny_call_builtin PySem.F.cmp_object.ne.plain PySem.F.cmpEntry_ne (PySem.W.check_slot PySem.F.cmpKind_ne PySem.F.cmpSplit_ne (I.type.andThen (PySem.W.looks_mroIn hX hm)) (PySem.F.cmpArgs_ne _ _)
    (objNe_entry (A := A.in1) hX I hs hf hu (wpAny_mono hcall (fun v s' hv => by
      obtain ⟨k, e, hq⟩ := hv
      exact ⟨k, e, hq⟩) fun _ _ e => e))))
theorem ifBound_objNe {M : Model} {args : List Value} {Q : Option Value → Shared → Prop} (hX : K.In s.heap) (I : PySem.W.InstAt s.heap x ox C od) (hs : PySem.W.findIn K (.ref C) "__ne__" = some (some (.builtin "object.__ne__")))
    (h : wpAny M A (call (.builtin "object.__ne__") (.ref x :: args)) (fun v => Q (some v)) E' s) : wpAny M A (callSpecialIfBound? (.ref x) "__ne__" args) Q E' s := by
  simp only [callSpecialIfBound?, bindSpecialIfBound?]
  refine wpAny_holding (wpAny_bind (wpAny_bind (wpAny_bind (I.type.here ((PySem.W.looks_findIn hX hs).here ?_)))))
  refine wpAny_bind (wpAny_askSetting (wpAny_ite ?_))
  have fin : wpAny M A (call (.builtin "object.__ne__") ([.ref x] ++ args) >>= fun v => pure (some v)) Q E' s := wpAny_bind (wpAny_mono h (fun v s' h' => wpAny_pure h') fun _ _ h' => h')
  split
  · exact wpAny_bind (wpAny_of_eq (PySem.F.cmp_object.ne.bind _) (wpAny_pure (by exact fin)))
  · exact wpAny_tryCatch (wpAny_bind (wpAny_of_eq (PySem.F.cmp_object.ne.bind _) (wpAny_pure (by exact fin))))
theorem rc_ne {tb : Value} {Q : Value → Shared → Prop} (hu : A.units + 1 < cLine) (hX : K.In s.heap) (I : PySem.W.InstAt s.heap x ox C od) (hb : PySem.W.Looks (model prog w) s.heap (typeOf b) tb) (hn : PySem.W.notFirst K C tb = true)
    (hm : PySem.W.mroIn K C (.type "object") = some true) (hne : PySem.W.findIn K (.ref C) "__ne__" = some (some (.builtin "object.__ne__"))) (hs : PySem.W.findIn K (.ref C) "__eq__" = some (some (.ref f))) (hf : PySem.W.isFn K (.ref f) = true)
    (hcall : wpAny (model prog w) A.in1 (call (.ref f) [.ref x, b]) (fun v s' => ∃ k, v = .bool k ∧ Q (.bool (!k)) s') E' s) : wpAny (model prog w) A (richCompare .NotEq (.ref x) b) Q E' s := by
  have one : wpAny (model prog w) A (tryCompare (.ref x) "__ne__" b) (fun r s' => ∃ v, r = some v ∧ Q v s') E' s := by
    unfold tryCompare
    refine wpAny_bind (ifBound_objNe hX I hne (call_objNe hX I hm hs hf hu (wpAny_mono hcall (fun v s' hv => ?_) fun _ _ e => e)))
    obtain ⟨k, rfl, hq⟩ := hv
    exact ⟨k, rfl, wpAny_pure ⟨_, rfl, hq⟩⟩
  unfold richCompare
  simp only [oneThing_ref, cmpInfo_NotEq]
  refine wpAny_holding (wpAny_bind (wpAny_cRoomFor (Nat.lt_of_succ_lt hu) ?_))
  refine wpAny_bind (I.type.here (wpAny_bind (hb.here ?_)))
  split
  · rename_i q
    have e : PySem.W.subIn K tb (.ref C) = some false := by
      rcases Bool.or_eq_true_iff.mp hn with e | e
      · rw [beq_iff_eq.mp e] at q; simp at q
      · exact beq_iff_eq.mp e
    refine wpAny_bind ((PySem.W.looks_subIn hX e).here ?_)
    simp only [Bool.false_eq_true, if_false]
    refine wpAny_bind (wpAny_mono one (fun r s' z => ?_) fun _ _ e => e)
    obtain ⟨v, rfl, hq⟩ := z
    exact wpAny_pure hq
  · refine wpAny_bind (wpAny_pure ?_)
    simp only [Bool.false_eq_true, if_false]
    refine wpAny_bind (wpAny_mono one (fun r s' z => ?_) fun _ _ e => e)
    obtain ⟨v, rfl, hq⟩ := z
    exact wpAny_pure hq
end
theorem op_own_ne (F : FnOk X.prog X.w X.K X.mg X.base CX k f fd ps sp) (hr : Room (k + 1) X.A) (hm : PySem.W.mroIn X.K C (.type "object") = some true) (hne : PySem.W.findIn X.K (.ref C) "__ne__" = some (some (.builtin "object.__ne__")))
    (hs : PySem.W.findIn X.K (.ref C) "__eq__" = some (some (.ref f))) (hf : PySem.W.isFn X.K (.ref f) = true) (hb : Binds X.K fd ps []) (hx : Passes CX X E) :
    OpR X (compareOp .NotEq) (rOwnEq C sp E not) := by
  intro pins s σ H x y v u Q I rx ry h
  obtain ⟨p, dx, fs, t, rfl, hp, ty, q⟩ := h
  cases rx
  obtain ⟨od, J⟩ := inst_of I hp
  show wpAny (model X.prog X.w) X.A (richCompare .NotEq (.ref p) u) (EP X pins σ Q) X.xe s
  refine rc_ne (hu_of hr) I.kIn J (ty.looks I ry) ty.notFirst hm hne hs hf (thn (run_at F hr.in1 rfl hb hx I (.cons rr (.cons ry .nil)) q) fun r s' hh => ?_)
  obtain ⟨z, H', I', rz, b, ez, q'⟩ := hh
  subst ez
  cases rz
  exact ⟨b, rfl, .bl (!b), H', I', rfl, q'⟩
end
end Own

namespace Toy
open PySem L2 Own
/-! ### exceptions of the text's own, over ArithmeticError, with fields of their own -/
abbrev aeT : List Value := [.type "ArithmeticError", .type "Exception", .type "BaseException", .type "object"]
theorem no_taker {K : PySem.W.Frag} {C : Addr} {f : Str} (h : PySem.W.findIn K (.ref C) f = some none) : PySem.W.takerIn K C f = some none := by
  unfold PySem.W.takerIn
  rw [h]
  rfl
section
variable {prog : Program} {w : World} {A : Around} {R : Result → Shared → Prop} {hp : Heap} {g : Array GenState} {d : Drawn} {t : Nat} {os : OsState}
/-- the first field -/
theorem ae_first {K : PySem.W.Frag} {f : Str} {tk : Tok} {u : Value} {x C : Addr} {fv : Array Value} {cd : ClassData} (X : K.In hp) (hx : hp.get? x = some { cls := .ref C, data := .fields fv }) (hc : PySem.W.clsIn K C = some cd) (hd : cd.hasDict = true)
    (over : PySem.W.excOver K C aeT = true) (no : PySem.W.findIn K (.ref C) f = some none)
    (k : ∀ h' tk' dx, (∀ b o, b ≠ x → hp.get? b = some o → h'.get? b = some o) → hp.objs.size ≤ dx → dx ≠ x → h'.get? x = some { cls := .ref C, dict := some dx, data := .fields fv } → h'.Ns1 dx (fun y => if y = f then some u else none) → R (.ok (.ret .none)) ⟨h', g, d, tk', os⟩) :
    codeAny (model prog w) A (.call (.builtin "object.__setattr__") ⟨[.ref x, .str f tk, u], []⟩) R ⟨hp, g, d, t, os⟩ := by
  have I : PySem.W.InstAt hp x { cls := .ref C, data := .fields fv } C none := ⟨hx, rfl, rfl, trivial⟩
  refine PySem.W.osa_openX PySem.F.store_ArithmeticError X I over (no_taker no) fun b => ?_
  have look : PySem.W.Looks (model prog w) hp (classData C) cd := PySem.W.looks_clsIn X hc
  have old : x ≠ hp.objs.size := Nat.ne_of_lt (Heap.lt_size hx)
  obtain ⟨nm, bs, mro, ns, qn, hdd, sn, sb, ab, col, dl⟩ := cd
  dsimp only at hd
  subst hd
  dsimp only
  unfold Builtin.ObjectAttr.storeInOwnDict Builtin.ObjectAttr.ownDictForStores
  repeat (first
    | with_reducible refine look.at ?_
    | with_reducible refine wpAny_loadPart_at hx ?_
    | with_reducible refine PySem.HandSPX.store_in_new ?_ ?_
    | wp_step)
  · exact ⟨_, #[], _, (Heap.get?_update_ne _ _ _ _ old.symm).trans (Heap.get?_push_at rfl rfl), rfl, (fun e he => absurd he (by simp)), fun _ => rfl⟩
  · intro h' tk' n1 sb'
    have hx' : (hp.push { cls := .type "dict", data := .dict #[] }).get? x = some { cls := .ref C, data := .fields fv } := Heap.get?_push_of_some _ hx
    refine k h' tk' hp.objs.size (fun b o nb e => ?_) (Nat.le_refl _) old.symm ((sb'.2 x old).trans (Heap.get?_update_self _ hx' rfl)) n1
    rw [sb'.2 b (Nat.ne_of_lt (Heap.lt_size e)), Heap.get?_update_ne _ _ _ _ nb]
    exact Heap.get?_push_of_some _ e
/-- a further one -/
theorem ae_more {K : PySem.W.Frag} {f : Str} {tk : Tok} {u : Value} {x C dx : Addr} {fv : Array Value} {cd : ClassData} {m0 : Str → Option Value} {nl : List Str} (X : K.In hp) (hx : hp.get? x = some { cls := .ref C, dict := some dx, data := .fields fv }) (hn : hp.Ns1 dx m0) (hw : Within m0 nl) (hz : nl.length ≤ 1000)
    (hc : PySem.W.clsIn K C = some cd) (hd : cd.hasDict = true) (over : PySem.W.excOver K C aeT = true) (no : PySem.W.findIn K (.ref C) f = some none)
    (k : ∀ h' tk', (∀ b o, b ≠ dx → hp.get? b = some o → h'.get? b = some o) → h'.Ns1 dx (fun y => if y = f then some u else m0 y) → R (.ok (.ret .none)) ⟨h', g, d, tk', os⟩) :
    codeAny (model prog w) A (.call (.builtin "object.__setattr__") ⟨[.ref x, .str f tk, u], []⟩) R ⟨hp, g, d, t, os⟩ := by
  obtain ⟨oD, _, _, hoD, _, _⟩ := hn.count hw
  have I : PySem.W.InstAt hp x { cls := .ref C, dict := some dx, data := .fields fv } C (some oD) := ⟨hx, rfl, rfl, hoD⟩
  refine PySem.W.osa_openX PySem.F.store_ArithmeticError X I over (no_taker no) fun b => ?_
  have look : PySem.W.Looks (model prog w) hp (classData C) cd := PySem.W.looks_clsIn X hc
  obtain ⟨nm, bs, mro, ns, qn, hdd, sn, sb, ab, col, dl⟩ := cd
  dsimp only at hd
  subst hd
  dsimp only
  unfold Builtin.ObjectAttr.storeInOwnDict Builtin.ObjectAttr.ownDictForStores
  repeat (first
    | with_reducible refine look.at ?_
    | with_reducible refine wpAny_loadPart_at hx ?_
    | with_reducible refine PySem.OEX.store_in_old hn hw hz ?_
    | wp_step)
  intro h' tk' n1 sb'
  exact k h' tk' (fun b o nb e => (sb'.2 b nb).trans e) n1
end
/-- what the text has written of such a class -/
structure AeC (K : PySem.W.Frag) (C : Addr) : Prop where
  obj : ∃ nm q N bs bm sn sub ab col dd k0 k1 k2 k3 k5, K.lookup C = some (excClassObj nm q C N bs bm true sn sub ab col dd k0 k1 k2 k3 k5 "ArithmeticError.__new__") ∧ PySem.W.excTail aeT bm = true
  sa : PySem.W.findIn K (.ref C) "__setattr__" = some (some (.builtin "object.__setattr__"))
  ex : PySem.W.subIn K (.ref C) (.type "BaseException") = some true
  ty : PySem.W.typeIn K (.ref C) = some (.type "type")
  kp : PySem.W.keepIn K (.ref C) = true
theorem AeC.cd {K : PySem.W.Frag} {C : Addr} (T : AeC K C) : ∃ cd, PySem.W.clsIn K C = some cd ∧ cd.hasDict = true ∧ PySem.W.excOver K C aeT = true := by
  obtain ⟨nm, q, N, bs, bm, sn, sub, ab, col, dd, k0, k1, k2, k3, k5, hC, ht⟩ := T.obj
  have hc : PySem.W.clsIn K C = some { name := nm, bases := bs, mro := .ref C :: bm, ns := N, qualname := q, hasDict := true, slotNames := sn, subclasses := sub, abstract := ab, collection := col, hasDel := false } := by
    unfold PySem.W.clsIn
    rw [hC] <;> rfl
  refine ⟨_, hc, rfl, ?_⟩
  unfold PySem.W.excOver
  rw [hc]
  show (C == C && PySem.W.excTail aeT bm) = true
  rw [ht, beq_self_eq_true] <;> rfl
section
variable {X : Cx} {pins : List (Addr × Obj)} {σ : L2.St} {H : Hp} {s : Shared} {a C dx : Addr} {f : Str} {y : V} {u : Value} {fs : List (Str × V)} {Q : Unit → Shared → Prop} {E : Value → Shared → Prop} {A : Around}
theorem ast_first (T : AeC X.K C) (I : L2.Inv X pins σ H s) (e : H a = some (L2.exo a C none)) (no : PySem.W.findIn X.K (.ref C) f = some none) (ry : L2.RelV y u)
    (k : ∀ dx s', H dx = none → dx ≠ a → L2.Inv X pins σ (upd (upd H dx (L2.exd dx [(f, y)])) a (L2.exo a C (some dx))) s' → Q () s') : wpAny (model X.prog X.w) A (setAttr (.ref a) f u) Q E s := by
  obtain ⟨cd, hc, hd, over⟩ := T.cd
  obtain ⟨t1, ho⟩ := L2.exo_at I.hok e
  obtain ⟨hp, g, d, t, os⟩ := s
  refine PySem.W.set_plain I.kIn (ox := { cls := .ref C, dict := none, data := .fields #[.ref t1, .none, .none, .none, .bool false, .none] }) (od := none) ⟨ho, rfl, rfl, trivial⟩ T.sa ?_
  refine ae_first I.kIn ho hc hd over no fun h' tk' dx keep big ne hx n1 => ?_
  -- between the two there is a heap with the dict, and the exception still without it
  let G := h'.update a fun _ => { cls := .ref C, dict := none, data := .fields #[.ref t1, .none, .none, .none, .bool false, .none] }
  have ga : G.get? a = some { cls := .ref C, dict := none, data := .fields #[.ref t1, .none, .none, .none, .bool false, .none] } := Heap.get?_update_self _ hx rfl
  have gb : ∀ b, b ≠ a → G.get? b = h'.get? b := fun b nb => Heap.get?_update_ne _ _ _ _ nb
  have hdx : H dx = none := I.hok.fresh big
  have I1 := I.laid (t' := tk') (a := dx) (o := L2.exd dx [(f, y)]) (h' := G) (fun b o q => by
    by_cases c : b = a
    · subst c
      rw [ga]
      exact ho.symm.trans q
    · rw [gb b c]
      exact keep b o c q) big (L2.exd_ok (n1.at fun o q => (gb dx ne).trans q) (L2.relO_put (fs := []) ry fun _ => True.intro))
  have ea : (upd H dx (L2.exd dx [(f, y)])) a = some (L2.exo a C none) := by rw [upd_ne ne.symm, e]
  have I2 := I1.write (t' := tk') (x := a) (e := a) (o := L2.exo a C (some dx)) (h' := h') (by rw [ea]; exact True.intro) (.inl rfl) (fun b o nb q => (gb b nb).symm.trans q) ⟨_, hx⟩ (L2.exo_ok hx)
  exact k dx _ hdx ne I2
theorem ast_more (T : AeC X.K C) (I : L2.Inv X pins σ H s) (e : H a = some (L2.exo a C (some dx))) (ed : H dx = some (L2.exd dx fs)) (hl : fs.length ≤ 900) (no : PySem.W.findIn X.K (.ref C) f = some none) (ry : L2.RelV y u)
    (k : ∀ s', L2.Inv X pins σ (upd H dx (L2.exd dx ((f, y) :: fs))) s' → Q () s') : wpAny (model X.prog X.w) A (setAttr (.ref a) f u) Q E s := by
  obtain ⟨cd, hc, hd, over⟩ := T.cd
  obtain ⟨t1, ho⟩ := L2.exo_at I.hok e
  obtain ⟨mA, n1, rel⟩ := L2.exd_at I.hok ed
  have hw := L2.within_of rel
  obtain ⟨hp, g, d, t, os⟩ := s
  obtain ⟨oD, _, _, hoD, _, _⟩ := n1.count hw
  refine PySem.W.set_plain I.kIn (ox := { cls := .ref C, dict := some dx, data := .fields #[.ref t1, .none, .none, .none, .bool false, .none] }) (od := some oD) ⟨ho, rfl, rfl, hoD⟩ T.sa ?_
  refine ae_more I.kIn ho n1 hw (by rw [List.length_map]; omega) hc hd over no fun h' tk' keep n2 => ?_
  have there : ∃ o, h'.get? dx = some o := by
    obtain ⟨o, _, _, q, _⟩ := n2
    exact ⟨o, q⟩
  exact k _ (I.write (t' := tk') (x := dx) (e := dx) (o := L2.exd dx ((f, y) :: fs)) (by rw [ed]; exact True.intro) (.inl rfl) keep there (L2.exd_ok n2 (L2.relO_put ry rel)))
end
/-- o.f = e, o such an exception that is being made -/
def sAe (K : PySem.W.Frag) (f : Str) (to te : TE) : TS := fun D σ H => te σ H fun y H1 => to σ H1 fun x H2 => ∃ a C : Addr, x = .ref a ∧ AeC K C ∧ PySem.W.findIn K (.ref C) f = some none ∧
  ((H2 a = some (L2.exo a C none) ∧ ∀ dx, H2 dx = none → dx ≠ a → D.nx σ (upd (upd H2 dx (L2.exd dx [(f, y)])) a (L2.exo a C (some dx)))) ∨
    ∃ (dx : Addr) (fs : List (Str × V)), H2 a = some (L2.exo a C (some dx)) ∧ H2 dx = some (L2.exd dx fs) ∧ fs.length ≤ 900 ∧ D.nx σ (upd H2 dx (L2.exd dx ((f, y) :: fs))))
theorem ps_ae {X : Cx} {o e : Expr} {to te : TE} {f : Str} {p' pos : Pos} (ho : PE X o to) (he : PE X e te) (hs : swapsWith e (some (.Attribute o f p')) pos.line X.env = pure false := by rfl) : PS X (.Assign [.Attribute o f p'] e pos) (sAe X.K f to te) := by
  refine ⟨fun pins s σ H D I h => plainObj_wpAny_Assign_Attribute (L2.thn (he.run pins s σ H _ I h) fun v s1 ⟨y, H1, I1, r1, q1⟩ => L2.thn (ho.run pins s1 σ H1 _ I1 q1) fun z s2 ⟨x, H2, I2, r2, a, C, ex, T, no, q⟩ => ?_) hs⟩
  subst ex
  obtain rfl : z = Value.ref a := r2
  rcases q with ⟨ea, q⟩ | ⟨dx, fs, ea, ed, hl, q⟩
  · exact ast_first T I2 ea no r1 fun dx s' n ne J => ⟨σ, _, J, q dx n ne⟩
  · exact ast_more T I2 ea ed hl no r1 fun s' J => ⟨σ, _, J, q⟩
/-- C(e, ..): C's own __init__ keeps sp -/
theorem pmk_ae {X : Cx} {CX : CXT} {x : Str} {C f : Addr} {k : Nat} {fd : FuncData} {ps : List Str} {sp : Sp} {ds : List Value} {dvs : List V} {e : Expr} {es : List Expr} {ta : TA} {p pos : Pos} (T : AeC X.K C) (hi : PySem.W.findIn X.K (.ref C) "__init__" = some (some (.ref f))) (ht : PySem.W.typeIn X.K (.ref f) = some (.type "function"))
    (F : FnOk X.prog X.w X.K X.mg X.base CX k f fd ps sp) (hr : Room (k + 1) X.A) (hb : Binds X.K fd ps ds) (hd : L2.Vals dvs ds) (hx : Passes CX X fun _ _ _ => False) (hg : Gl X x) (hm : X.mg x = some (.ref C)) (ha : PA X (e :: es) ta)
    (hdb : (x == ("__debug__" : Str)) = false := by decide) (he : starEach (e :: es) X.env = (false, eval e X.env) :: starEach es X.env := by rfl) (hpl : (backTo pos (starEach es X.env)).any (·.1) = false := by rfl) :
    L2.PMk X (.Call (.Name x p) (e :: es) [] pos) (L2.tMkO C sp dvs ta) := by
  rintro pins s σ H Q I h
  obtain ⟨nm, q, N, bs, bm, sn, sub, ab, col, dd, k0, k1, k2, k3, k5, hC, hbm⟩ := T.obj
  refine wpAny_Call_Name_kw (L2.ld_glob I hg hm ?_ hdb)
  refine PySem.W.callWith_K (h₀ := X.base) I.ok.mod.kin T.kp (L2.thn (ha.run pos pins s σ H _ I h) fun us s1 ⟨vs, H1, I1, r1, hz, q1⟩ => ⟨I1.kIn, ?_⟩) he hpl
  obtain ⟨hp, g, dr, tk, os⟩ := s1
  have up : hp.objs.size ≤ hp.objs.size + 1 := Nat.le_succ _
  have fresh : H1 (hp.objs.size + 1) = none := I1.hok.fresh up
  have prom := q1 _ fresh
  have keep : ∀ b o, hp.get? b = some o → ((hp.push (PySem.W.kdv_tup us)).push (PySem.HandSPX.excO C hp.objs.size)).get? b = some o := fun b o z => Heap.get?_push_of_some _ (Heap.get?_push_of_some _ z)
  have at_ : ((hp.push (PySem.W.kdv_tup us)).push (PySem.HandSPX.excO C hp.objs.size)).get? (hp.objs.size + 1) = some (PySem.HandSPX.excO C hp.objs.size) := by heap_get
  have I2 := I1.laid (t' := tk) (a := hp.objs.size + 1) (o := L2.exo (hp.objs.size + 1) C none) keep up (L2.exo_ok at_)
  have rel : L2.Vals (V.ref (hp.objs.size + 1) :: (vs ++ dvs)) (Value.ref (hp.objs.size + 1) :: (us ++ ds)) := .cons rfl (r1.append hd)
  have len := rel.length
  rw [F.len _ _ _ _ prom] at len
  have small : us.length ≤ sizeLine := by
    rw [← r1.length, sizeLine_eq]
    omega
  have body := F.run _ X.stack _ _ ⟨Value.ref (hp.objs.size + 1) :: us, []⟩ (Value.ref (hp.objs.size + 1) :: (us ++ ds)) _ _ (fun _ _ _ => False) (hr.make C us []) (I2.env0.make C us []) (hb _ (Value.ref (hp.objs.size + 1) :: us) I2.kIn len.symm) rel prom
  refine wpAny_call (PySem.HandSPX.call_own PySem.F.excBase_ArithmeticError (fun Y => PySem.W.excTail_contains Y bm hbm) (I1.kIn _ _ hC) (PySem.W.looks_findIn I1.kIn hi) (fun self => PySem.W.bind_fn I1.kIn self ht) small (codeAny_mono body ?_))
  rintro (er | fl) s' hq
  · exact hx pins σ _ _ er s' I2 hq
  · cases fl with
    | ret u =>
      obtain ⟨v, H2, os2, bare2, un2, hok2, rv, ev, d, fs, ea, ed, hd1, q2⟩ := hq
      subst ev
      obtain ⟨h2, g2, d2, t2, os'⟩ := s'
      exact ⟨rv, L2.mk_end (L2.raises_own T.ex T.ty) I1 up keep un2 hok2 os2 bare2 ea ed hd1 q2⟩
    | next => exact False.elim hq
    | brk => exact False.elim hq
    | cont => exact False.elim hq
/-- what is needed for isinstance(e, ..), e such an exception -/
structure IsC (K : PySem.W.Frag) (D : Addr) : Prop where
  hg : PySem.W.findIn K (.ref D) "__getattribute__" = some (some (.builtin "BaseException.__getattribute__"))
  hk : PySem.W.findIn K (.ref D) "__getattr__" = some none
  hs : PySem.W.subIn K (.ref D) (.type "BaseException") = some true
  hd : PySem.W.hasDictIn K D = true
  ha : PySem.W.findIn K (.ref D) "__class__" = some (some (.builtin "object.__class__"))
  hn : PySem.W.specialIn K (.builtin "object.__class__") "__get__" = some (some (.builtin "getset_descriptor.__get__"))
  ht : PySem.W.takesIn K (.builtin "object.__class__") = some true
  hm : PySem.W.mroIn K D (.type "object") = some true
def rIsX (K : PySem.W.Frag) (D a d : Addr) : List V → Hp → VK → Prop := fun xs H Q => ∃ (c : V) (cv : Value) (b : Bool) (fs : List (Str × V)), xs = [.ref a, c] ∧ H d = some (.xd fs) ∧ (∀ u, L2.RelV c u → u = cv) ∧ PySem.W.kitOne K (.ref D) cv = some b ∧ Q (.bl b) H
/-- isinstance(e, c), e the caught exception with its fields in a dict at d -/
theorem call_isX {X : Cx} {a D d : Addr} {oe : Obj} {pn : List (Addr × Obj)} (T : IsC X.K D) (hz : L2.Zc (.ref D) (some d) oe) (hf : ∃ vs, oe.data = .fields vs) : CallR (X.suite a ((a, oe) :: pn)) (.builtin "isinstance") (rIsX X.K D a d) := by
  rintro pins s σ H xs us Q I r ⟨c, cv, b, fs, rfl, hdd, hcv, e, q⟩
  match us, r with
  | [_, _], .cons rx (.cons rt .nil) =>
    cases rx
    have ec := hcv _ rt
    subst ec
    obtain ⟨hget, _⟩ := I.pin (a, oe) (List.mem_append.mpr (.inl List.mem_cons_self))
    obtain ⟨vs, hv⟩ := hf
    have hx : ObjOk X.prog X.w H s.heap d (.xd fs) := I.hok d _ hdd
    obtain ⟨mA, hns, _⟩ := hx
    obtain ⟨od, ho, _⟩ := lookIn_ns hns
    have J : PySem.W.InstAt s.heap a oe D (some od) := by
      refine ⟨hget, hz.1, by unfold PySem.W.notCls; rw [hv] <;> rfl, ?_⟩
      rw [hz.2]
      exact ho
    have hcl : (PySem.W.clsIn X.K D).isSome = true := by
      obtain ⟨cd, hc, _⟩ := PySem.W.any_some T.hd
      rw [hc] <;> rfl
    exact PySem.W.kia_one (PySem.W.kitx_exc hcl T.hg T.hk T.hs T.ha T.hn T.ht T.hm) I.kIn J e (fun z => nomatch z) fun tk => ⟨.bl b, H, I.kept (t' := tk) fun _ _ z => z, rfl, q⟩
/-- the same where the suite is told of any error -/
def rIsY (K : PySem.W.Frag) (D a : Addr) (cls : Value) (d : Option Addr) : List V → Hp → VK → Prop := fun xs H Q => cls = .ref D ∧ ∃ dd, d = some dd ∧ rIsX K D a dd xs H Q
theorem call_isY {X : Cx} {a D : Addr} {cls : Value} {d : Option Addr} {oe : Obj} {pn : List (Addr × Obj)} (T : IsC X.K D) (hz : L2.Zc cls d oe) (hf : ∃ vs, oe.data = .fields vs) : CallR (X.suite a ((a, oe) :: pn)) (.builtin "isinstance") (rIsY X.K D a cls d) := by
  rintro pins s σ H xs us Q I r ⟨rfl, dd, rfl, h⟩
  exact call_isX T hz hf pins s σ H xs us Q I r h
/-- isinstance(e, (C1, ..)), the tuple new or not -/
def rIsT (K : PySem.W.Frag) (D a : Addr) (cls : Value) (d : Option Addr) : List V → Hp → VK → Prop := fun xs H Q => cls = .ref D ∧ ∃ (dd t : Addr) (cs : List Addr) (fs : List (Str × V)), d = some dd ∧ H dd = some (.xd fs) ∧ xs = [.ref a, .ref t] ∧ H t = some (.tup (cs.map V.ref)) ∧ PySem.W.kitAny K (.ref D) (cs.map Value.ref) = some false ∧ Q (.bl false) H
theorem refs_vals : ∀ {cs : List Addr} {us : List Value}, L2.Vals (cs.map V.ref) us → us = cs.map Value.ref
  | [], _, r => by cases r; rfl
  | c :: cs, _, r => by
    cases r with
    | cons h t =>
      have e : _ = Value.ref c := h
      rw [e, refs_vals t]
      rfl
theorem call_isT {X : Cx} {a D : Addr} {cls : Value} {d : Option Addr} {oe : Obj} {pn : List (Addr × Obj)} (T : IsC X.K D) (hz : L2.Zc cls d oe) (hf : ∃ vs, oe.data = .fields vs) : CallR (X.suite a ((a, oe) :: pn)) (.builtin "isinstance") (rIsT X.K D a cls d) := by
  rintro pins s σ H xs us Q I r ⟨rfl, dd, t, cs, fs, rfl, hdd, rfl, ht, e, q⟩
  match us, r with
  | [_, _], .cons rx (.cons rt .nil) =>
    cases rx
    cases rt
    obtain ⟨hget, _⟩ := I.pin (a, oe) (List.mem_append.mpr (.inl List.mem_cons_self))
    obtain ⟨vs, hv⟩ := hf
    have hx : ObjOk X.prog X.w H s.heap dd (.xd fs) := I.hok dd _ hdd
    obtain ⟨mA, hns, _⟩ := hx
    obtain ⟨od, ho, _⟩ := lookIn_ns hns
    have J : PySem.W.InstAt s.heap a oe D (some od) := by
      refine ⟨hget, hz.1, by unfold PySem.W.notCls; rw [hv] <;> rfl, ?_⟩
      rw [hz.2]
      exact ho
    have hcl : (PySem.W.clsIn X.K D).isSome = true := by
      obtain ⟨cd, hc, _⟩ := PySem.W.any_some T.hd
      rw [hc] <;> rfl
    obtain ⟨its, rv, htp, _⟩ := I.tuple (SqT.of ht)
    have ei := refs_vals rv
    subst ei
    obtain ⟨⟨tc, tdd, tda, tsl⟩, hto, htc, n, htd⟩ := htp
    dsimp only at htc htd
    subst htc htd
    exact PySem.W.kia_tup (PySem.W.kitx_exc hcl T.hg T.hk T.hs T.ha T.hn T.ht T.hm) I.kIn J hto e (fun z => nomatch z) fun tk => ⟨.bl false, H, I.kept (t' := tk) fun _ _ z => z, rfl, q⟩
/-! ### defs in which lambdas are made: what the text says of them -/
/-- a def of the text whose code object stands at c -/
structure FunT (K : PySem.W.Frag) (x q : Str) (st : Stmt) (f c : Addr) (fd : FuncData) : Prop where
  ex : ∃ (oc : Value) (od : Option Addr) (kV doc pm : Value) (an : Option Addr) (ct : Value) (osl : Array (Option Value)), fd = PySem.W.fnOf x q (defArgs st) (defBody st) (defScope st) .none kV doc pm an (.ref c) ct ∧ K.lookup f = some ⟨oc, od, .func fd, osl⟩ ∧ PySem.W.codeIn K (.ref c) q = true
  kp : PySem.W.keepIn K (.ref f) = true
theorem FunT.ok {P : Program} {w : World} {K : PySem.W.Frag} {mg : Str → Option Value} {base : Heap} {x q : Str} {st : Stmt} {f c : Addr} {fd : FuncData} {N ps : List Str} {k : Nat} {sp : Sp} (F : FunT K x q st f c fd) (S : FnScope N ps (defScope st)) (len : ∀ vs H Q E, sp vs H Q E → vs.length = ps.length)
    (hbody : ∀ (A : Around) (outer : List Env) (s : Shared) (H : Hp) (vs : List V) (Q : VK) (E : XK), Room k (A.deeper (PyProof.Rows.envOfC q (defScope st) s.heap.objs.size f (.ref c))) → sp vs H Q E →
      ∃ t, PSs (cxOf CX0 P w K mg base N q (defScope st) f (.ref c) A outer s H E).nox (defBody st) t ∧ t { nx := fun _ H' => Q .non H', rt := Q } (start N vs) H) : FnOk P w K mg base CX0 (k + 1) f fd ps sp := by
  obtain ⟨oc, od, kV, doc, pm, an, ct, osl, rfl, lk, hcd⟩ := F.ex
  refine fn_of lk hcd S len fun A outer s H vs Q E hr hsp => ?_
  obtain ⟨t, h, z⟩ := hbody A outer s H vs Q E hr hsp
  exact ⟨t, h.nox, z⟩
structure DfnT (K : PySem.W.Frag) (mg : Str → Option Value) (x : Str) (st : Stmt) (f c : Addr) (ps : List Str) : Prop where
  ex : ∃ fd, FunT K x x st f c fd ∧ Binds K fd ps []
  g : mg x = some (.ref f)
/-! ### the text by places -/
def top (i : Nat) : Stmt := PySem.Challenge.pw_breakerrow_k47_conflicts_and_forecasts.main.body.getD i (.Pass ⟨0, 0, 0, 0⟩)
abbrev st_InvalidRow_init : Stmt := inClass (top 2) 0
abbrev st_InvalidTime_init : Stmt := inClass (top 3) 0
abbrev st_InvalidOutages_init : Stmt := inClass (top 4) 0
abbrev st_InvalidTrains_init : Stmt := inClass (top 5) 0
abbrev st_InvalidIndex_init : Stmt := inClass (top 6) 0
abbrev st_InvalidBound_init : Stmt := inClass (top 7) 0
abbrev st_InvalidLog_init : Stmt := inClass (top 8) 0
abbrev st_InvalidCall_init : Stmt := inClass (top 9) 0
abbrev st_InvalidText_init : Stmt := inClass (top 10) 0
abbrev st_LimitExceeded_init : Stmt := inClass (top 11) 0
abbrev st_is_integer : Stmt := top 13
abbrev st_is_at_least : Stmt := top 14
abbrev st_is_entry : Stmt := top 18
abbrev st_check_log : Stmt := top 19
abbrev st_passes_ahead : Stmt := top 20
abbrev st_gaps_of : Stmt := top 21
abbrev st_narrowed : Stmt := top 22
abbrev st_explanations : Stmt := top 23
abbrev st_first_conflict : Stmt := top 24
abbrev st_forecast : Stmt := top 25
abbrev st__law_mixed : Stmt := top 27
abbrev st__law_well : Stmt := top 28
abbrev st__law_draw : Stmt := top 29
abbrev st__law_one : Stmt := top 30
abbrev st__law_said : Stmt := top 31
abbrev st__law_log : Stmt := top 32
abbrev st__law_seen : Stmt := top 33
abbrev st__law_fits : Stmt := top 34
abbrev st__law_conflict : Stmt := top 35
abbrev st__law_next : Stmt := top 36
abbrev st__law_right : Stmt := top 37
abbrev st_law : Stmt := top 38
/-- a def of the top -/
structure Dfn (K : PySem.W.Frag) (mg : Str → Option Value) (x : Str) (st : Stmt) (f : Addr) (ps : List Str) : Prop where
  ex : ∃ fd, Fun K x x st f fd ∧ Binds K fd ps []
  g : mg x = some (.ref f)
structure Mth (K : PySem.W.Frag) (C : Addr) (m q : Str) (st : Stmt) (f : Addr) (ps : List Str) : Prop where
  ex : ∃ fd, Fun K m q st f fd ∧ Binds K fd ps []
  at_ : PySem.W.findIn K (.ref C) m = some (some (.ref f))
  fn : PySem.W.isFn K (.ref f) = true
  fk : PySem.W.fnIn K f = true
/-- a def that is called by its name, with its promise -/
structure Cal (P : Program) (w : World) (K : PySem.W.Frag) (mg : Str → Option Value) (base : Heap) (x : Str) (k : Nat) (f : Addr) (ps : List Str) (sp : Sp) : Prop where
  ex : ∃ fd, FnOk P w K mg base CX0 k f fd ps sp ∧ Binds K fd ps []
  g : mg x = some (.ref f)
  kp : PySem.W.keepIn K (.ref f) = true
theorem Dfn.cal {P : Program} {w : World} {K : PySem.W.Frag} {mg : Str → Option Value} {base : Heap} {x : Str} {st : Stmt} {f : Addr} {ps : List Str} {k : Nat} {sp : Sp} (D : Dfn K mg x st f ps) (h : ∀ fd, Fun K x x st f fd → FnOk P w K mg base CX0 k f fd ps sp) : Cal P w K mg base x k f ps sp := by
  obtain ⟨fd, F, b⟩ := D.ex
  exact ⟨⟨fd, h fd F, b⟩, D.g, F.kp⟩
theorem pe_c {X : Cx} {x : Str} {k : Nat} {f : Addr} {ps : List Str} {sp : Sp} {t : TA} {e : Expr} {es : List Expr} {p pos : Pos} (c : Cal X.prog X.w X.K X.mg X.base x k f ps sp) (hr : Room k X.A) (hg : Gl X x)
    (ha : PA X (e :: es) t) (hdb : (x == ("__debug__" : Str)) = false := by decide) (he : starEach (e :: es) X.env = (false, eval e X.env) :: starEach es X.env := by rfl) (hpl : (backTo pos (starEach es X.env)).any (·.1) = false := by rfl) :
    PE X (.Call (.Name x p) (e :: es) [] pos) (tCall sp [] E0 t) := by
  obtain ⟨fd, F, b⟩ := c.ex
  exact pe_call F hr hg c.g c.kp b .nil pass0 ha hdb he hpl
/-- a method with its promise -/
structure Met (P : Program) (w : World) (K : PySem.W.Frag) (mg : Str → Option Value) (base : Heap) (C : Addr) (m : Str) (k : Nat) (f : Addr) (ps : List Str) (sp : Sp) : Prop where
  ex : ∃ fd, FnOk P w K mg base CX0 k f fd ps sp ∧ Binds K fd ps []
  me : Meth K C m f
  fk : PySem.W.fnIn K f = true
theorem Mth.met {P : Program} {w : World} {K : PySem.W.Frag} {mg : Str → Option Value} {base : Heap} {C : Addr} {m q : Str} {st : Stmt} {f : Addr} {ps : List Str} {k : Nat} {sp : Sp} (D : Mth K C m q st f ps) (h : ∀ fd, Fun K m q st f fd → FnOk P w K mg base CX0 k f fd ps sp) : Met P w K mg base C m k f ps sp := by
  obtain ⟨fd, F, b⟩ := D.ex
  exact ⟨⟨fd, h fd F, b⟩, ⟨D.at_, D.fn, F.kp⟩, D.fk⟩

/-! ### values of plain kinds -/
inductive Kd (H : Hp) : V → String → Prop where
  | non : Kd H .non "NoneType"
  | bl (b : Bool) : Kd H (.bl b) "bool"
  | int (i : Int) : Kd H (.int i) "int"
  | str (x : Str) : Kd H (.str x) "str"
  | lst {a : Addr} {xs : List V} (e : H a = some (.lst xs)) : Kd H (.ref a) "list"
  | tup {a : Addr} {xs : List V} (e : H a = some (.tup xs)) : Kd H (.ref a) "tuple"
  | dK {a : Addr} {xs : List (Key × V)} (e : H a = some (.dK xs)) : Kd H (.ref a) "dict"
theorem Kd.ty {K : PySem.W.Frag} {H : Hp} {v : V} {n : String} (h : Kd H v n) : TyX K H v (.type n) := by
  cases h with
  | non => exact .base .non
  | bl b => exact .base (.bl b)
  | int i => exact .base (.int i)
  | str x => exact .base (.str x)
  | lst e => exact .base (.lst e)
  | tup e => exact .base (.tup e)
  | dK e => exact .base (.dK e)
def isI : V → Bool
  | .int _ => true
  | _ => false
def toI : V → Int
  | .int i => i
  | _ => 0
theorem Kd.kit {K : PySem.W.Frag} {H : Hp} {v : V} {n : String} (h : Kd H v n) (c : String) (b : Bool) (hc : c = "int" ∧ b = (n == "int" || n == "bool") ∨ c ≠ "int" ∧ c ∈ ["bool", "list", "tuple"] ∧ b = (n == c)) : PySem.W.kitOne K (.type n) (.type c) = some b := by
  rcases hc with ⟨rfl, rfl⟩ | ⟨_, hc, rfl⟩
  · cases h <;> exact kit_ty (by decide +kernel)
  · simp only [List.mem_cons, List.mem_nil_iff, or_false] at hc
    rcases hc with rfl | rfl | rfl <;> cases h <;> exact kit_ty (by decide +kernel)
theorem Kd.same {H H' : Hp} {v : V} {n : String} (h : Kd H v n) (s : ∀ b o, v = .ref b → H b = some o → H' b = some o) : Kd H' v n := by
  cases h with
  | non => exact .non
  | bl b => exact .bl b
  | int i => exact .int i
  | str x => exact .str x
  | lst e => exact .lst (s _ _ rfl e)
  | tup e => exact .tup (s _ _ rfl e)
  | dK e => exact .dK (s _ _ rfl e)
/-- all but what stands at a is kept -/
def Kp (a : Addr) (H H' : Hp) : Prop := ∀ b o, b ≠ a → H b = some o → H' b = some o
theorem Kp.refl {a : Addr} {H : Hp} : Kp a H H := fun _ _ _ h => h
theorem Kp.trans {a : Addr} {H H1 H2 : Hp} (h : Kp a H H1) (h' : Kp a H1 H2) : Kp a H H2 := fun b o n e => h' b o n (h b o n e)
theorem Kp.of {a : Addr} {H H' : Hp} (s : Same H H') : Kp a H H' := fun b o _ e => s b o e
theorem Kp.upd {a : Addr} {H : Hp} {o : HO} : Kp a H (upd H a o) := fun b _ n e => by rw [upd_ne n]; exact e
theorem Same.upd {H : Hp} {p : Addr} {o : HO} (h : H p = none) : Same H (L2.upd H p o) := fun b u e => by rw [upd_ne (ne_of_none e h)]; exact e
theorem Kp.free {a b : Addr} {H H' : Hp} {o : HO} (k : Kp a H H') (ha : H a = some o) (h : H' b = none) (n : b ≠ a) : H b = none := by
  cases q : H b with
  | none => rfl
  | some u => rw [k b u n q] at h; cases h

/-! ### the promises of the small defs -/
def spIsInt : Sp := fun vs H Q _ => ∃ v n, vs = [v] ∧ Kd H v n ∧ Q (.bl (isI v)) H
def spAtL : Sp := fun vs H Q _ => ∃ v n l, vs = [v, .int l] ∧ Kd H v n ∧ Q (.bl (isI v && decide (l ≤ toI v))) H
def spWithin : Sp := fun vs H Q _ => ∃ v n l m, vs = [v, .int l, .int m] ∧ Kd H v n ∧ Q (.bl (isI v && (decide (l ≤ toI v) && decide (toI v ≤ m)))) H
/-- how many steps -/
def stepsUp (d s : Int) : Int := if -(-d / s) > 0 then -(-d / s) else 0
def spSteps : Sp := fun vs H Q _ => ∃ d s, vs = [.int d, .int s] ∧ 0 < s ∧ s.natAbs.log2 < 9000 ∧ Q (.int (stepsUp d s)) H

/-- what is no list is kept -/
def NL (H H' : Hp) : Prop := ∀ b o, H b = some o → (∀ xs, o ≠ .lst xs) → H' b = some o
theorem NL.refl {H : Hp} : NL H H := fun _ _ h _ => h
theorem NL.trans {H H1 H2 : Hp} (a : NL H H1) (b : NL H1 H2) : NL H H2 := fun c o h n => b c o (a c o h n) n
theorem NL.of {H H' : Hp} (s : Same H H') : NL H H' := fun b o e _ => s b o e
theorem Kp.nl {a : Addr} {H H' : Hp} {xs : List V} (k : Kp a H H') (h : H a = some (.lst xs)) : NL H H' := fun b o e n => k b o (fun z => by subst z; rw [h] at e; exact n xs (Option.some.inj e).symm) e
theorem NL.upd {H : Hp} {p : Addr} {xs : List V} {o : HO} (h : H p = some (.lst xs)) : NL H (L2.upd H p o) := Kp.nl Kp.upd h
theorem pe_gI {X : Cx} {x : Str} {i : Int} {t : Tok} {pos : Pos} (hm : X.mg x = some (.int i t)) (hg : Gl X x := by rfl) (hd : (x == ("__debug__" : Str)) = false := by decide) : PE X (.Name x pos) (tC (.int i)) := pe_glob hg hm ⟨t, rfl⟩ hd
@[irreducible] def PB (n : Nat) : Int := 2 ^ n
theorem PB_succ (n : Nat) : PB (n + 1) = PB n + PB n := by
  unfold PB
  rw [Int.pow_succ]
  omega
theorem PB_pos (n : Nat) : 1 ≤ PB n := by
  unfold PB
  have : (0 : Int) < 2 ^ n := Int.pow_pos (by decide)
  omega
theorem PB_le {n m : Nat} (h : n ≤ m) : PB n ≤ PB m := by
  induction m with
  | zero => rw [Nat.le_zero.mp h]; exact Int.le_refl _
  | succ m ih =>
    by_cases e : n = m + 1
    · rw [e]; exact Int.le_refl _
    · have h1 := ih (by omega)
      have h2 := PB_succ m
      have h3 := PB_pos m
      omega
theorem PB_abs {i : Int} {n : Nat} (h0 : 0 ≤ i) (h : i ≤ PB n) : i.natAbs < 2 ^ (n + 1) := by
  unfold PB at h
  have e : (2 : Nat) ^ (n + 1) = 2 ^ n * 2 := Nat.pow_succ 2 n
  have e2 : ((2 ^ n : Nat) : Int) = 2 ^ n := by rw [Int.natCast_pow]; rfl
  rw [← e2] at h
  have : 0 < 2 ^ n := Nat.pow_pos (by decide)
  rw [e]
  generalize 2 ^ n = w at *
  omega
theorem PB_of {i : Int} {n : Nat} (h : i.natAbs < 2 ^ n) : i ≤ PB n := by
  unfold PB
  have e2 : ((2 ^ n : Nat) : Int) = 2 ^ n := by rw [Int.natCast_pow]; rfl
  rw [← e2]
  generalize 2 ^ n = w at *
  omega
def BB : Int := PB 5000
theorem BB0 : 0 ≤ BB := by
  have := PB_pos 5000
  unfold BB
  omega
theorem bb_lt {i : Int} (h0 : 0 ≤ i) (h : i ≤ BB + BB) : i.natAbs < 2 ^ 5002 := PB_abs h0 (by rw [PB_succ]; exact h)
theorem mulBB {i j : Int} (i0 : 0 ≤ i) (i1 : i ≤ BB + BB) (j0 : 0 ≤ j) (j1 : j ≤ BB + BB) : CMulW i j := wide_mul (bb_lt i0 i1) (bb_lt j0 j1) (by decide) (by decide) (by decide)
theorem BB1 : 1 ≤ BB := PB_pos 5000
theorem divBB {j : Int} (j0 : 1 ≤ j) (j1 : j ≤ BB) : j.natAbs.log2 < 9000 := (wide_div (i := 0) (by omega : 0 < j) (bb_lt (by omega) (by have := BB0; omega)) (by decide) (by decide)).2
theorem small2 {n : Nat} (h : n ≤ 100000) : n ≤ sizeLine := Nat.le_trans h (by decide)
theorem small1 {n : Nat} (h : n ≤ 100000) : n < sizeLine := Nat.lt_of_le_of_lt h (by decide)
theorem tYes_of {σ : L2.St} {H : Hp} {A B : Hp → Prop} (h : A H) : tYes σ H (fun b H3 => if b = true then A H3 else B H3) := by
  show if true = true then A H else B H
  rw [if_pos rfl]
  exact h
theorem cut_init (xs : List V) : cutV xs none (some (-1)) = xs.take (xs.length - 1) := by
  show (xs.drop 0).take ((if (-1 : Int) < 0 then ((-1 : Int) + (xs.length : Int)).toNat else min (-1 : Int).toNat xs.length) - 0) = _
  rw [if_pos (by decide), List.drop_zero]
  congr 1
  omega
theorem cut_last (xs : List V) : cutV xs (some (-1)) none = xs.drop (xs.length - 1) := by
  show (xs.drop (if (-1 : Int) < 0 then ((-1 : Int) + (xs.length : Int)).toNat else min (-1 : Int).toNat xs.length)).take (xs.length - (if (-1 : Int) < 0 then ((-1 : Int) + (xs.length : Int)).toNat else min (-1 : Int).toNat xs.length)) = _
  rw [if_pos (by decide)]
  have e : ((-1 : Int) + (xs.length : Int)).toNat = xs.length - 1 := by omega
  rw [e]
  refine List.take_of_length_le ?_
  rw [List.length_drop]
  exact Nat.le_refl _
theorem none_of {H H' : Hp} {l : Addr} (s : Same H H') (h : H' l = none) : H l = none := by
  cases q : H l with
  | none => rfl
  | some o => rw [s _ _ q] at h; cases h
theorem for_enum {K : PySem.W.Frag} {a : Addr} {xs : List V} {g : TG} {tb : TS} {D : Ends} {σ : L2.St} {H : Hp} (Pv : Nat → L2.St → Hp → Prop) (h0 : Pv 0 σ H) (hl : ∀ i σ H, i ≤ xs.length → Pv i σ H → SqL K H a xs)
    (hs : ∀ i x T σ H, xs[i]? = some x → Pv i σ H → H T = none → g (.ref T) σ (upd H T (.tup [.int (i : Nat), x])) fun σ2 H2 => tb { D with nx := Pv (i + 1), ct := Pv (i + 1), bk := D.nx } σ2 H2) (hd : ∀ σ H, Pv xs.length σ H → D.nx σ H) :
    ∃ W : Nat → Nat → L2.St → Hp → Prop, (∃ m, W 0 m σ H) ∧ ∀ i m σ H, W i m σ H →
      ((Ite K a).stop i H ∧ D.nx σ H) ∨ ((Ite K a).go i H ∧ ∃ N : L2.St → Hp → Prop, (∀ σ' H', N σ' H' → ∃ m', m' < m ∧ W (i + 1) m' σ' H') ∧ ∀ x H', (Ite K a).yld i H x H' → g x σ H' fun σ2 H2 => tb { D with nx := N, ct := N, bk := D.nx } σ2 H2) := by
  refine ⟨fun i m σ H => m = xs.length - i ∧ i ≤ xs.length ∧ Pv i σ H, ⟨xs.length, by simp, Nat.zero_le _, h0⟩, ?_⟩
  rintro i m σ H ⟨rfl, hi, p⟩
  have q := hl i σ H hi p
  by_cases hlt : i < xs.length
  · refine .inr ⟨⟨xs, xs[i], q, by simp [hlt]⟩, Pv (i + 1), fun σ' H' p' => ⟨xs.length - (i + 1), by omega, rfl, hlt, p'⟩, fun x H' y => ?_⟩
    obtain ⟨T, x', rfl, hT, rfl, hx⟩ := y
    exact hs i x' T σ H (hx xs q) p hT
  · have e : i = xs.length := by omega
    subst e
    exact .inl ⟨⟨xs, q, Nat.le_refl _⟩, hd σ H p⟩
theorem pe_callN0 {X : Cx} {CX : CXT} {k : Nat} {f : Addr} {fd : FuncData} {ps ks : List Str} {sp : Sp} {E : XK} {x : Str} {p pos : Pos} {kws : List Keyword} {tk : TA} {g : List Value → List Value → List Value} {gV : List V → List V → List V}
    (F : FnOk X.prog X.w X.K X.mg X.base CX k f fd ps sp) (hr : Room k X.A) (hg : Gl X x) (hm : X.mg x = some (.ref f)) (hk : PySem.W.keepIn X.K (.ref f) = true) (hb : KBn X.K fd ps 0 ks g gV) (hx : Passes CX X E) (hkw : PK X kws tk)
    (hall : (backToKw pos (keywordEach kws X.env)).all (·.1.isSome) = true := by rfl) (hks : (backToKw pos (keywordEach kws X.env)).filterMap (·.1) = ks := by rfl) (hdb : (x == ("__debug__" : Str)) = false := by decide)
    (hpl : ((backTo pos (starEach [] X.env)).any (·.1) || (backToKw pos (keywordEach kws X.env)).any (·.1.isNone)) = false := by rfl) :
    PE X (.Call (.Name x p) [] kws pos) (tCallN 0 ks.length sp gV E tNil tk) := by
  refine ⟨fun pins s σ H Q I h => ?_⟩
  refine wpAny_Call_Name_kw (ld_glob I hg hm ?_ hdb)
  refine PySem.W.callWith_KW0 (h₀ := X.base) I.ok.mod.kin hk hall ?_ hpl
  refine thn (hkw.run pos pins s σ H _ I h) fun ws s2 ⟨zs, H2, I2, rz, l1, l2, q2⟩ => ⟨I2.kIn, ?_⟩
  rw [hks]
  exact run_fnN F hr hb hx I2 .nil rz rfl l2 q2
section
variable {X : Cx} {C : Addr} {k : Nat} {f : Addr} {ps : List Str} {sp : Sp}
theorem Met.op_in (c : Met X.prog X.w X.K X.mg X.base C "__contains__" k f ps sp) (hr : Room k X.A) : OpR X (compareOp .In) (rOwnIn C sp E0 _root_.id) := by
  obtain ⟨fd, F, b⟩ := c.ex
  exact op_own_in F hr c.me.at_ c.me.fn b pass0
theorem Met.op_notin (c : Met X.prog X.w X.K X.mg X.base C "__contains__" k f ps sp) (hr : Room k X.A) : OpR X (compareOp .NotIn) (rOwnIn C sp E0 Bool.not) := by
  obtain ⟨fd, F, b⟩ := c.ex
  exact op_own_notin F hr c.me.at_ c.me.fn b pass0
theorem Met.c_len (c : Met X.prog X.w X.K X.mg X.base C "__len__" k f ps sp) (hr : Room (k + 1) X.A) : CallR X (.builtin "len") (rOwnLen C sp E0) := by
  obtain ⟨fd, F, b⟩ := c.ex
  exact call_own_len F hr c.me.at_ c.me.fn b pass0
theorem Met.op_add (c : Met X.prog X.w X.K X.mg X.base C "__add__" k f ps sp) (hr : Room k X.A) (hc : PySem.W.selfFirst X.K C = true) : OpR X (binaryOp .Add) (rOwnAdd C sp E0) := by
  obtain ⟨fd, F, b⟩ := c.ex
  exact op_own_add F hr hc c.me.at_ c.me.fn b pass0
theorem Met.op_eq (c : Met X.prog X.w X.K X.mg X.base C "__eq__" k f ps sp) (hr : Room k X.A) : OpR X (compareOp .Eq) (rOwnEq C sp E0 _root_.id) := by
  obtain ⟨fd, F, b⟩ := c.ex
  exact op_own_eq F hr c.me.at_ c.me.fn b pass0
theorem Met.op_ne (c : Met X.prog X.w X.K X.mg X.base C "__eq__" k f ps sp) (hr : Room (k + 1) X.A) (hm : PySem.W.mroIn X.K C (.type "object") = some true) (hne : PySem.W.findIn X.K (.ref C) "__ne__" = some (some (.builtin "object.__ne__"))) : OpR X (compareOp .NotEq) (rOwnEq C sp E0 Bool.not) := by
  obtain ⟨fd, F, b⟩ := c.ex
  exact op_own_ne F hr hm hne c.me.at_ c.me.fn b pass0
theorem Met.p_ix {a b : Expr} {ta tb : TE} {pos : Pos} (c : Met X.prog X.w X.K X.mg X.base C "__getitem__" k f ps sp) (hr : Room (k + 1) X.A) (ha : PE X a ta) (hb' : PE X b tb) (hsl : ∀ o i, subscripted b true o i = runValue (.builtin "lifetime.subscript" ⟨[o, i], []⟩) := by exact fun _ _ => rfl) :
    PE X (.Subscript a b pos) (tOp (rOwnIx C sp E0) ta tb) := by
  obtain ⟨fd, F, bb⟩ := c.ex
  exact pe_own_ix F hr c.me.at_ c.fk c.me.fn bb pass0 ha hb' hsl
end
theorem Met.p_m0 {X : Cx} {C : Addr} {k : Nat} {f : Addr} {ps : List Str} {sp : Sp} {m : Str} {o : Expr} {ta : TE} {apos pos : Pos} {pl : Sem Bool} (c : Met X.prog X.w X.K X.mg X.base C m k f ps sp) (cl : Cls X.K C) (hr : Room k X.A) (he : PE X o ta)
    (ht : eval (.Call (.Attribute o m apos) [] [] pos) X.env = (do
      let ov ← eval o X.env
      standAt apos.atName
      let (f, first) ← holding [ov] (getMethod ov m pl)
      callWith pos f first (backTo pos (starEach [] X.env)) (backToKw pos (keywordEach [] X.env))) := by rfl) :
    PE X (.Call (.Attribute o m apos) [] [] pos) (tMeth C m sp [] E0 ta tNil) := by
  obtain ⟨fd, F, b⟩ := c.ex
  exact pe_meth0 he cl c.me F hr b .nil pass0 ht
/-! ### a class of the text -/
structure CF (K : PySem.W.Frag) (C : Addr) : Prop where
  cl : Cls K C
  cls : PySem.W.isClsIn K C = true
  ty : PySem.W.typeIn K (.ref C) = some (.type "type")
  oc : PySem.W.findIn K (.ref C) "__class__" = some (some (.builtin "object.__class__"))
  og : PySem.W.specialIn K (.builtin "object.__class__") "__get__" = some (some (.builtin "getset_descriptor.__get__"))
  ot : PySem.W.takesIn K (.builtin "object.__class__") = some true
  om : PySem.W.mroIn K C (.type "object") = some true
  sf : PySem.W.selfFirst K C = true
  ne : PySem.W.findIn K (.ref C) "__ne__" = some (some (.builtin "object.__ne__"))
theorem CF.kitT {K : PySem.W.Frag} {C : Addr} (M : CF K C) {H : Hp} {v : V} {n : String} (h : Kd H v n) : PySem.W.kitOne K (.type n) (.ref C) = some false := by
  have e1 : ((PySem.W.clsIn K C).isSome && PySem.W.typeIn K (.ref C) == some (.type "type")) = true := by
    have h2 : (PySem.W.clsIn K C).isSome = true := M.cls
    rw [h2, M.ty] <;> rfl
  have e2 : PySem.W.subIn K (.type n) (.ref C) = some false := by
    cases h with
    | non => exact sub_ty (l := ["NoneType", "object"]) (by decide +kernel)
    | bl _ => exact sub_ty (l := ["bool", "int", "object"]) (by decide +kernel)
    | int _ => exact sub_ty (l := ["int", "object"]) (by decide +kernel)
    | str _ => exact sub_ty (l := ["str", "object"]) (by decide +kernel)
    | lst _ => exact sub_ty (l := ["list", "object"]) (by decide +kernel)
    | tup _ => exact sub_ty (l := ["tuple", "object"]) (by decide +kernel)
    | dK _ => exact sub_ty (l := ["dict", "object"]) (by decide +kernel)
  show (if (Value.type n == Value.ref C) = true then some true else PySem.W.kitCls K (.type n) (.ref C)) = some false
  rw [if_neg (by intro z; cases z)]
  show (if ((PySem.W.clsIn K C).isSome && PySem.W.typeIn K (.ref C) == some (.type "type")) = true then PySem.W.subIn K (.type n) (.ref C) else none) = some false
  rw [if_pos e1, e2]
theorem CF.tyR {K : PySem.W.Frag} {C : Addr} (M : CF K C) {H : Hp} {p dx : Addr} {fs : List (Str × V)} (h : H p = some (.ins C dx fs)) : TyX K H (.ref p) (.ref C) := .base (.ins h M.cl M.oc M.og M.ot M.om)
theorem vals_rev {vs : List V} {us : List Value} (r : Vals vs us) : Vals vs.reverse us.reverse := by
  induction r with
  | nil => exact .nil
  | cons h t ih =>
    rw [List.reverse_cons, List.reverse_cons]
    exact ih.append (.cons h .nil)
/-- f(c = .., b = .., a = ..) of a def f(a, b, c) -/
theorem pe_kr {X : Cx} {k : Nat} {f : Addr} {sp : Sp} {x : Str} {ps : List Str} {st : Stmt} {kws : List Keyword} {tk : TA} {p pos : Pos} (D : Dfn X.K X.mg x st f ps) (h : ∀ fd, Fun X.K x x st f fd → FnOk X.prog X.w X.K X.mg X.base CX0 k f fd ps sp)
    (hbind : ∀ (kV doc pm : Value) (an : Option Addr) (cdv ct : Value) (us : List Value), us.length = ps.reverse.length → bindArgs (PySem.W.fnOf x x (defArgs st) (defBody st) (defScope st) .none kV doc pm an cdv ct) ⟨[], ps.reverse.zip us⟩ = pure (ps.zip us.reverse))
    (hr : Room k X.A) (hg : Gl X x) (hkw : PK X kws tk) (hall : (backToKw pos (keywordEach kws X.env)).all (·.1.isSome) = true := by rfl) (hks : (backToKw pos (keywordEach kws X.env)).filterMap (·.1) = ps.reverse := by rfl) (hdb : (x == ("__debug__" : Str)) = false := by decide)
    (hpl : ((backTo pos (starEach [] X.env)).any (·.1) || (backToKw pos (keywordEach kws X.env)).any (·.1.isNone)) = false := by rfl) :
    PE X (.Call (.Name x p) [] kws pos) (tCallN 0 ps.reverse.length sp (fun us ws => us ++ ws.reverse) E0 tNil tk) := by
  obtain ⟨fd, F, _⟩ := D.ex
  have hb : KBn X.K fd ps 0 ps.reverse (fun us ws => us ++ ws.reverse) (fun us ws => us ++ ws.reverse) := by
    refine ⟨fun s us ws hX h1 h2 => ?_, fun r1 r2 => r1.append (vals_rev r2)⟩
    obtain ⟨oc, od, kV, doc, pm, an, cdv, ct, osl, rfl, lk, hcd⟩ := F.ex
    match us, h1 with
    | [], _ => exact .of_eq (hbind kV doc pm an cdv ct ws h2)
  exact pe_callN0 (h fd F) hr hg D.g F.kp hb pass0 hkw hall hks hdb hpl
/-- where the defs and classes of the text stand -/
structure LA where
  f_is_integer : Addr
  f_is_at_least : Addr
  f_is_entry : Addr
  f_check_log : Addr
  f_passes_ahead : Addr
  f_gaps_of : Addr
  f_narrowed : Addr
  f_explanations : Addr
  f_first_conflict : Addr
  f_forecast : Addr
  f__law_mixed : Addr
  f__law_well : Addr
  f__law_draw : Addr
  f__law_one : Addr
  f__law_said : Addr
  f__law_log : Addr
  f__law_seen : Addr
  f__law_fits : Addr
  f__law_conflict : Addr
  f__law_next : Addr
  f__law_right : Addr
  k__law_right : Addr
  t__law_right : Addr
  e_BreakerError : Addr
  e_InvalidRow : Addr
  e_InvalidTime : Addr
  e_InvalidOutages : Addr
  e_InvalidTrains : Addr
  e_InvalidIndex : Addr
  e_InvalidBound : Addr
  e_InvalidLog : Addr
  e_InvalidCall : Addr
  e_InvalidText : Addr
  e_LimitExceeded : Addr
  i_InvalidLog : Addr
/-- what the text says of them -/
structure LX (K : PySem.W.Frag) (mg : Str → Option Value) (L : LA) : Prop where
  b_ArithmeticError : mg "ArithmeticError" = none
  b_bool : mg "bool" = none
  b_enumerate : mg "enumerate" = none
  b_int : mg "int" = none
  b_isinstance : mg "isinstance" = none
  b_len : mg "len" = none
  b_list : mg "list" = none
  b_max : mg "max" = none
  b_min : mg "min" = none
  b_range : mg "range" = none
  b_repr : mg "repr" = none
  b_tuple : mg "tuple" = none
  n_MOST_TIME : ∃ t, mg "MOST_TIME" = some (.int 1000000000000000000000000000000 t)
  n_MOST_ENTRIES : ∃ t, mg "MOST_ENTRIES" = some (.int 1000 t)
  d_is_integer : Dfn K mg "is_integer" st_is_integer L.f_is_integer ["value"]
  d_is_at_least : Dfn K mg "is_at_least" st_is_at_least L.f_is_at_least ["value", "least"]
  d_is_entry : Dfn K mg "is_entry" st_is_entry L.f_is_entry ["value"]
  d_check_log : Dfn K mg "check_log" st_check_log L.f_check_log ["log"]
  d_passes_ahead : Dfn K mg "passes_ahead" st_passes_ahead L.f_passes_ahead ["log"]
  d_gaps_of : Dfn K mg "gaps_of" st_gaps_of L.f_gaps_of ["log"]
  d_narrowed : Dfn K mg "narrowed" st_narrowed L.f_narrowed ["bounds", "gap", "passed"]
  d_explanations : Dfn K mg "explanations" st_explanations L.f_explanations ["log"]
  d_first_conflict : Dfn K mg "first_conflict" st_first_conflict L.f_first_conflict ["log"]
  d_forecast : Dfn K mg "forecast" st_forecast L.f_forecast ["log", "time"]
  d__law_mixed : Dfn K mg "_law_mixed" st__law_mixed L.f__law_mixed ["_law_cell", "_law_k"]
  d__law_well : Dfn K mg "_law_well" st__law_well L.f__law_well ["_law_cell"]
  d__law_draw : Dfn K mg "_law_draw" st__law_draw L.f__law_draw ["_law_well_here", "_law_many"]
  d__law_one : Dfn K mg "_law_one" st__law_one L.f__law_one ["_law_well_here", "_law_some"]
  d__law_said : Dfn K mg "_law_said" st__law_said L.f__law_said ["_law_deed"]
  d__law_log : Dfn K mg "_law_log" st__law_log L.f__law_log ["_law_breaker", "_law_times"]
  d__law_seen : Dfn K mg "_law_seen" st__law_seen L.f__law_seen ["_law_well_here", "_law_most"]
  d__law_fits : Dfn K mg "_law_fits" st__law_fits L.f__law_fits ["_law_log_here", "_law_most"]
  d__law_conflict : Dfn K mg "_law_conflict" st__law_conflict L.f__law_conflict ["_law_log_here", "_law_most"]
  d__law_next : Dfn K mg "_law_next" st__law_next L.f__law_next ["_law_log_here", "_law_most", "_law_time"]
  d__law_right : DfnT K mg "_law_right" st__law_right L.f__law_right L.k__law_right ["_law_well_here"]
  ge_BreakerError : mg "BreakerError" = some (.ref L.e_BreakerError)
  xe_BreakerError : L2.XfC K L.e_BreakerError
  te_BreakerError : PySem.W.typeIn K (.ref L.e_BreakerError) = some (.type "type")
  ge_InvalidRow : mg "InvalidRow" = some (.ref L.e_InvalidRow)
  xe_InvalidRow : L2.XfC K L.e_InvalidRow
  te_InvalidRow : PySem.W.typeIn K (.ref L.e_InvalidRow) = some (.type "type")
  ge_InvalidTime : mg "InvalidTime" = some (.ref L.e_InvalidTime)
  xe_InvalidTime : L2.XfC K L.e_InvalidTime
  te_InvalidTime : PySem.W.typeIn K (.ref L.e_InvalidTime) = some (.type "type")
  ge_InvalidOutages : mg "InvalidOutages" = some (.ref L.e_InvalidOutages)
  xe_InvalidOutages : L2.XfC K L.e_InvalidOutages
  te_InvalidOutages : PySem.W.typeIn K (.ref L.e_InvalidOutages) = some (.type "type")
  ge_InvalidTrains : mg "InvalidTrains" = some (.ref L.e_InvalidTrains)
  xe_InvalidTrains : L2.XfC K L.e_InvalidTrains
  te_InvalidTrains : PySem.W.typeIn K (.ref L.e_InvalidTrains) = some (.type "type")
  ge_InvalidIndex : mg "InvalidIndex" = some (.ref L.e_InvalidIndex)
  xe_InvalidIndex : L2.XfC K L.e_InvalidIndex
  te_InvalidIndex : PySem.W.typeIn K (.ref L.e_InvalidIndex) = some (.type "type")
  ge_InvalidBound : mg "InvalidBound" = some (.ref L.e_InvalidBound)
  xe_InvalidBound : L2.XfC K L.e_InvalidBound
  te_InvalidBound : PySem.W.typeIn K (.ref L.e_InvalidBound) = some (.type "type")
  ge_InvalidLog : mg "InvalidLog" = some (.ref L.e_InvalidLog)
  xe_InvalidLog : L2.XfC K L.e_InvalidLog
  te_InvalidLog : PySem.W.typeIn K (.ref L.e_InvalidLog) = some (.type "type")
  ge_InvalidCall : mg "InvalidCall" = some (.ref L.e_InvalidCall)
  xe_InvalidCall : L2.XfC K L.e_InvalidCall
  te_InvalidCall : PySem.W.typeIn K (.ref L.e_InvalidCall) = some (.type "type")
  ge_InvalidText : mg "InvalidText" = some (.ref L.e_InvalidText)
  xe_InvalidText : L2.XfC K L.e_InvalidText
  te_InvalidText : PySem.W.typeIn K (.ref L.e_InvalidText) = some (.type "type")
  ge_LimitExceeded : mg "LimitExceeded" = some (.ref L.e_LimitExceeded)
  xe_LimitExceeded : L2.XfC K L.e_LimitExceeded
  te_LimitExceeded : PySem.W.typeIn K (.ref L.e_LimitExceeded) = some (.type "type")
  ae_InvalidLog : AeC K L.e_InvalidLog
  hi_InvalidLog : PySem.W.findIn K (.ref L.e_InvalidLog) "__init__" = some (some (.ref L.i_InvalidLog))
  ti_InvalidLog : PySem.W.typeIn K (.ref L.i_InvalidLog) = some (.type "function")
  in_InvalidLog : ∃ fd, Fun K "__init__" "InvalidLog.__init__" st_InvalidLog_init L.i_InvalidLog fd ∧ Binds K fd ["self", "at"] []
  ne_InvalidLog_part : PySem.W.findIn K (.ref L.e_InvalidLog) "part" = some none
  ne_InvalidLog_at : PySem.W.findIn K (.ref L.e_InvalidLog) "at" = some none
  ne_InvalidLog_time : PySem.W.findIn K (.ref L.e_InvalidLog) "time" = some none
  ne_InvalidLog_index : PySem.W.findIn K (.ref L.e_InvalidLog) "index" = some none
  ne_InvalidLog_call : PySem.W.findIn K (.ref L.e_InvalidLog) "call" = some none
  ne_InvalidLog_line : PySem.W.findIn K (.ref L.e_InvalidLog) "line" = some none
  ne_InvalidLog_word : PySem.W.findIn K (.ref L.e_InvalidLog) "word" = some none
  ne_InvalidLog_limit : PySem.W.findIn K (.ref L.e_InvalidLog) "limit" = some none
  is_InvalidLog : IsC K L.e_InvalidLog
  se_InvalidLog_BreakerError : PySem.W.subIn K (.ref L.e_InvalidLog) (.ref L.e_BreakerError) = some true
  se_InvalidLog_InvalidRow : PySem.W.subIn K (.ref L.e_InvalidLog) (.ref L.e_InvalidRow) = some false
  se_InvalidLog_InvalidTime : PySem.W.subIn K (.ref L.e_InvalidLog) (.ref L.e_InvalidTime) = some false
  se_InvalidLog_InvalidOutages : PySem.W.subIn K (.ref L.e_InvalidLog) (.ref L.e_InvalidOutages) = some false
  se_InvalidLog_InvalidTrains : PySem.W.subIn K (.ref L.e_InvalidLog) (.ref L.e_InvalidTrains) = some false
  se_InvalidLog_InvalidIndex : PySem.W.subIn K (.ref L.e_InvalidLog) (.ref L.e_InvalidIndex) = some false
  se_InvalidLog_InvalidBound : PySem.W.subIn K (.ref L.e_InvalidLog) (.ref L.e_InvalidBound) = some false
  se_InvalidLog_InvalidLog : PySem.W.subIn K (.ref L.e_InvalidLog) (.ref L.e_InvalidLog) = some true
  se_InvalidLog_InvalidCall : PySem.W.subIn K (.ref L.e_InvalidLog) (.ref L.e_InvalidCall) = some false
  se_InvalidLog_InvalidText : PySem.W.subIn K (.ref L.e_InvalidLog) (.ref L.e_InvalidText) = some false
  se_InvalidLog_LimitExceeded : PySem.W.subIn K (.ref L.e_InvalidLog) (.ref L.e_LimitExceeded) = some false
  sa_InvalidLog : PySem.W.subIn K (.ref L.e_InvalidLog) (.type "ArithmeticError") = some true
/-- the code objects of the defs in which lambdas are made, and their tables -/
structure TX (base : Heap) (mg : Str → Option Value) (L : LA) : Prop where
  b__law_right : LamX.TabB base mg L.k__law_right L.t__law_right
def LT (L : LA) : List (Addr × Str) := [(L.t__law_right, (("_law_right" : Str) ++ ".<locals>.") ++ "<lambda>")]

/-- a comprehension over zip of two lists -/
theorem lc_zip {K : PySem.W.Frag} {a b : Addr} {xs ys : List V} {g : TG} {tt : TT} {te : TE} {vs : List Nat} {σ : L2.St} {H1 : Hp} {D : Addr} {Qd : Hp → Prop} (hlen : ys.length ≤ xs.length) (Pv : Nat → Hp → Prop) (h0 : Pv 0 (upd H1 D (.lst []))) (hl : ∀ i H, Pv i H → SqL K H a xs ∧ SqL K H b ys)
    (hs : ∀ (i : Nat) (x y : V) (T : Addr) (H : Hp), xs[i]? = some x → ys[i]? = some y → Pv i H → H T = none → g (.ref T) (wipe σ vs) (upd H T (.tup [x, y])) fun σ2 H2 => wipe σ2 vs = wipe σ vs ∧ tt σ2 H2 fun b H3 =>
      if b = true then te σ2 H3 fun y H4 => ∃ acc, H4 D = some (.lst acc) ∧ acc.length < sizeLine ∧ Pv (i + 1) (upd H4 D (.lst (acc ++ [y]))) else Pv (i + 1) H3) (hd : ∀ H, Pv ys.length H → Qd H) :
    ∃ W : Nat → Nat → Hp → Prop, (∃ m, W 0 m (upd H1 D (.lst []))) ∧ ∀ i m H, W i m H → ((Itz K a b).stop i H ∧ Qd H) ∨ ((Itz K a b).go i H ∧ ∃ Nx : Hp → Prop, (∀ H', Nx H' → ∃ m', m' < m ∧ W (i + 1) m' H') ∧ ∀ x H', (Itz K a b).yld i H x H' → g x (wipe σ vs) H' fun σ2 H2 => wipe σ2 vs = wipe σ vs ∧ tt σ2 H2 fun b H3 =>
        if b = true then te σ2 H3 fun y H4 => ∃ acc, H4 D = some (.lst acc) ∧ acc.length < sizeLine ∧ Nx (upd H4 D (.lst (acc ++ [y]))) else Nx H3) := by
  refine ⟨fun i m H => m = ys.length - i ∧ i ≤ ys.length ∧ Pv i H, ⟨ys.length, by omega, Nat.zero_le _, h0⟩, ?_⟩
  rintro i m H ⟨rfl, hi, p⟩
  obtain ⟨qx, qy⟩ := hl i H p
  by_cases hlt : i < ys.length
  · have hx : xs[i]? = some xs[i] := List.getElem?_eq_getElem (by omega)
    have hy : ys[i]? = some ys[i] := List.getElem?_eq_getElem hlt
    refine .inr ⟨⟨xs, ys, _, _, qx, qy, hx, hy⟩, Pv (i + 1), fun H' p' => ⟨ys.length - (i + 1), by omega, rfl, hlt, p'⟩, fun v H' y => ?_⟩
    obtain ⟨T, x', y', rfl, hT, rfl, f1, f2⟩ := y
    exact hs i x' y' T H (f1 xs qx) (f2 ys qy) p hT
  · have e : i = ys.length := by omega
    subst e
    exact .inl ⟨⟨xs, ys, qx, qy, .inr (Nat.le_refl _)⟩, hd H p⟩
/-- an attribute inside a comprehension -/
theorem pe_fldK {X : Cx} {K : PySem.W.Frag} {e : Expr} {f : Str} {pos : Pos} {ta : TE} (hK : X.K = K) (he : PE X e ta) (hb : attributeBase e f X.env (eval e X.env) = eval e X.env) : PE X (.Attribute e f pos) (tFld K ta f) := by
  subst hK
  exact pe_fld he hb
theorem putF_len (f : Str) (v : V) (fs : List (Str × V)) {n : Nat} (h : fs.length ≤ n) : (putF f v fs).length ≤ n + 1 := Nat.le_trans (length_putF f v fs) (Nat.succ_le_succ h)
def spRup : Sp := fun vs H Q _ => ∃ v u : Int, vs = [.int v, .int u] ∧ 0 < u ∧ u.natAbs.log2 < 9000 ∧ CMulW (stepsUp v u) u ∧ Q (.int (stepsUp v u * u)) H
/-! ### the small defs -/
section
variable {P : Program} {w : World} {K : PySem.W.Frag} {mg : Str → Option Value} {base : Heap} {L : LA}
abbrev N_isinteger : List Str := ["value"]
theorem sc_isinteger : FnScope N_isinteger ["value"] (defScope st_is_integer) := ⟨rfl, rfl, rfl, by decide +kernel, rfl, by decide +kernel, by decide +kernel⟩
theorem fn_isinteger (T : LX K mg L) {fd : FuncData} (F : Fun K "is_integer" "is_integer" st_is_integer L.f_is_integer fd) : FnOk P w K mg base CX0 1 L.f_is_integer fd ["value"] (spIsInt) := by
  have nd := sc_isinteger.nd
  refine F.ok sc_isinteger (fun vs H Q E h => ?_) (fun cdv A outer S H vs Q E hr h => ?_)
  · obtain ⟨v, n, rfl, _⟩ := h
    rfl
  · obtain ⟨v, n, rfl, hv, k⟩ := h
    refine ⟨_, (pss_one (ps_ret (pe_and (pe_callB call_isi (by rfl) T.b_isinstance (by decide +kernel) (pa_cons (pv 0) (pa_cons (pe_bltn (by rfl) T.b_int (by decide +kernel : bootBuiltins "int" = some (.type "int")) (v := .ty "int") rfl) pa_nil))) (pe_one (pe_not (pe_callB call_isi (by rfl) T.b_isinstance (by decide +kernel) (pa_cons (pv 0) (pa_cons (pe_bltn (by rfl) T.b_bool (by decide +kernel : bootBuiltins "bool" = some (.type "bool")) (v := .ty "bool") rfl) pa_nil)))))))), ?_⟩
    refine ⟨_, rfl, v, .ty "int", _, _, _, rfl, .ty "int", hv.ty, hv.kit "int" _ (.inl ⟨rfl, rfl⟩), _, rfl, ?_⟩
    refine ite2 (fun c => ?_) (fun c => ?_)
    · refine ⟨_, rfl, v, .ty "bool", _, _, _, rfl, .ty "bool", hv.ty, hv.kit "bool" _ (.inr ⟨by decide, by decide, rfl⟩), _, rfl, ?_⟩
      cases hv <;> first | exact k | (exact absurd c (by decide))
    · cases hv <;> first | exact k | (exact absurd (by decide) c)
theorem ok_isinteger (T : LX K mg L) : Cal P w K mg base "is_integer" 1 L.f_is_integer ["value"] (spIsInt) := T.d_is_integer.cal fun fd F => fn_isinteger T F
abbrev N_isatleast : List Str := ["value", "least"]
theorem sc_isatleast : FnScope N_isatleast ["value", "least"] (defScope st_is_at_least) := ⟨rfl, rfl, rfl, by decide +kernel, rfl, by decide +kernel, by decide +kernel⟩
theorem fn_isatleast (T : LX K mg L) {fd : FuncData} (F : Fun K "is_at_least" "is_at_least" st_is_at_least L.f_is_at_least fd) : FnOk P w K mg base CX0 2 L.f_is_at_least fd ["value", "least"] (spAtL) := by
  have G_isinteger := ok_isinteger (P := P) (w := w) (base := base) T
  have nd := sc_isatleast.nd
  refine F.ok sc_isatleast (fun vs H Q E h => ?_) (fun cdv A outer S H vs Q E hr h => ?_)
  · obtain ⟨v, n, l, rfl, _⟩ := h
    rfl
  · obtain ⟨v, n, l, rfl, hv, k⟩ := h
    refine ⟨_, (pss_one (ps_ret (pe_and (pe_c G_isinteger (hr.mono (by decide)) rfl (pa_cons (pv 0) pa_nil)) (pe_one (pe_cmpR op_ge (pv 0) (pv 1) (nomark _)))))), ?_⟩
    refine ⟨_, rfl, v, n, rfl, hv, _, rfl, ?_⟩
    cases v with
    | int i => exact iteT ⟨_, rfl, _, rfl, _, _, rfl, rfl, k⟩
    | _ => exact iteF k
theorem ok_isatleast (T : LX K mg L) : Cal P w K mg base "is_at_least" 2 L.f_is_at_least ["value", "least"] (spAtL) := T.d_is_at_least.cal fun fd F => fn_isatleast T F
end
/-! ### trains as data -/
abbrev Trn := Int × Int × Option Int
def OkTr (t : Trn) : Prop := 0 ≤ t.1 ∧ 1 ≤ t.2.1 ∧ ∀ c, t.2.2 = some c → 1 ≤ c
/-- all times of the first are before the second -/
def Lt (t u : Trn) : Prop := ∃ c, t.2.2 = some c ∧ t.1 + (c - 1) * t.2.1 < u.1
def Srt (ts : List Trn) : Prop := (∀ t ∈ ts, OkTr t) ∧ ts.Pairwise Lt
def minO (n : Int) : Option Int → Int
  | none => n
  | some c => if c < n then c else n
/-- how many times of a train are before x -/
def nbT (t : Trn) (x : Int) : Int := minO (stepsUp (x - t.1) t.2.1) t.2.2
def NB : List Trn → Int → Int
  | [], _ => 0
  | t :: ts, x => nbT t x + NB ts x
def At : List Trn → Int → Option Int
  | [], _ => none
  | t :: ts, i => match t.2.2 with
    | none => some (t.1 + i * t.2.1)
    | some c => if i < c then some (t.1 + i * t.2.1) else At ts (i - c)
def addO (c : Int) : Option Int → Option Int
  | none => none
  | some n => some (c + n)
def Tot : List Trn → Option Int
  | [] => some 0
  | t :: ts => match t.2.2 with
    | none => none
    | some c => addO c (Tot ts)
/-- d / s, rounded up -/
def cl (d s : Int) : Int := -(-d / s)
theorem stepsUp_cl (d s : Int) : stepsUp d s = if cl d s > 0 then cl d s else 0 := rfl
theorem cl_sub (d s c : Int) (hs : 0 < s) : cl (d - c * s) s = cl d s - c := by
  unfold cl
  have e : -(d - c * s) = -d + c * s := by omega
  rw [e, Int.add_mul_ediv_right _ _ (show s ≠ 0 by omega)]
  omega
theorem cl_le {d s n : Int} (hs : 0 < s) : cl d s ≤ n ↔ d ≤ n * s := by
  unfold cl
  have h : -n ≤ -d / s ↔ -n * s ≤ -d := Int.le_ediv_iff_mul_le hs
  rw [Int.neg_mul] at h
  omega
theorem cl_gt {d s n : Int} (hs : 0 < s) : n < cl d s ↔ n * s < d := by
  have h := cl_le (d := d) (s := s) (n := n) hs
  omega
def subO (k : Option Int) (c : Int) : Option Int := match k with
  | none => none
  | some n => some (n - c)
/-- a train is its first c times, and the others -/
theorem nbT_split {s p c : Int} {k : Option Int} (hp : 0 < p) (hc : 0 ≤ c) (hk : ∀ n, k = some n → c ≤ n) (x : Int) : nbT (s, p, k) x = nbT (s, p, some c) x + nbT (s + c * p, p, subO k c) x := by
  have e : x - (s + c * p) = x - s - c * p := by omega
  show minO (stepsUp (x - s) p) k = minO (stepsUp (x - s) p) (some c) + minO (stepsUp (x - (s + c * p)) p) (subO k c)
  rw [e, stepsUp_cl, stepsUp_cl, cl_sub _ _ _ hp]
  cases k with
  | none =>
    show (if cl (x - s) p > 0 then cl (x - s) p else 0) = (if c < (if cl (x - s) p > 0 then cl (x - s) p else 0) then c else (if cl (x - s) p > 0 then cl (x - s) p else 0)) + (if cl (x - s) p - c > 0 then cl (x - s) p - c else 0)
    split <;> split <;> split <;> omega
  | some n =>
    have := hk n rfl
    show (if n < (if cl (x - s) p > 0 then cl (x - s) p else 0) then n else (if cl (x - s) p > 0 then cl (x - s) p else 0)) = (if c < (if cl (x - s) p > 0 then cl (x - s) p else 0) then c else (if cl (x - s) p > 0 then cl (x - s) p else 0)) + (if n - c < (if cl (x - s) p - c > 0 then cl (x - s) p - c else 0) then n - c else (if cl (x - s) p - c > 0 then cl (x - s) p - c else 0))
    split <;> split <;> split <;> split <;> (try split) <;> omega
/-- the step of a single time is nothing -/
theorem nbT_one {s p q : Int} (hp : 0 < p) (hq : 0 < q) (x : Int) : nbT (s, p, some 1) x = nbT (s, q, some 1) x := by
  have one : ∀ p : Int, 0 < p → nbT (s, p, some 1) x = if s < x then 1 else 0 := fun p hp => by
    show (if (1 : Int) < (if cl (x - s) p > 0 then cl (x - s) p else 0) then (1 : Int) else (if cl (x - s) p > 0 then cl (x - s) p else 0)) = _
    have h0 : 0 < cl (x - s) p ↔ 0 * p < x - s := cl_gt hp
    rw [Int.zero_mul] at h0
    split <;> split <;> split <;> omega
  rw [one p hp, one q hq]
theorem NB_app : ∀ (ts us : List Trn) (x : Int), NB (ts ++ us) x = NB ts x + NB us x
  | [], us, x => by show NB us x = 0 + NB us x; omega
  | t :: ts, us, x => by
    show nbT t x + NB (ts ++ us) x = nbT t x + NB ts x + NB us x
    rw [NB_app ts us x]
    omega
theorem addO_addO (a b : Int) (k : Option Int) : addO a (addO b k) = addO (a + b) k := by
  cases k with
  | none => rfl
  | some n => show some (a + (b + n)) = some (a + b + n); rw [Int.add_assoc]
theorem nbT_nn {t : Trn} (h : OkTr t) (x : Int) : 0 ≤ nbT t x := by
  obtain ⟨s, p, k⟩ := t
  show 0 ≤ minO (stepsUp (x - s) p) k
  rw [stepsUp_cl]
  cases k with
  | none => show 0 ≤ if cl (x - s) p > 0 then cl (x - s) p else 0; split <;> omega
  | some c =>
    have := h.2.2 c rfl
    show 0 ≤ if c < (if cl (x - s) p > 0 then cl (x - s) p else 0) then c else (if cl (x - s) p > 0 then cl (x - s) p else 0)
    split <;> (try split) <;> omega
theorem nbT_zero {t : Trn} (h : OkTr t) {x : Int} (hx : x ≤ t.1) : nbT t x = 0 := by
  obtain ⟨s, p, k⟩ := t
  have hp : 0 < p := by
    have h2 : 1 ≤ p := h.2.1
    omega
  have h1 : cl (x - s) p ≤ 0 := (cl_le hp).mpr (by
    have h2 : x ≤ s := hx
    omega)
  show minO (stepsUp (x - s) p) k = 0
  rw [stepsUp_cl, if_neg (by omega)]
  cases k with
  | none => rfl
  | some c =>
    have := h.2.2 c rfl
    show (if c < 0 then c else 0) = 0
    rw [if_neg (by omega)]
theorem nbT_all {t : Trn} (h : OkTr t) {x c : Int} (hc : t.2.2 = some c) (hx : t.1 + (c - 1) * t.2.1 < x) : nbT t x = c := by
  obtain ⟨s, p, k⟩ := t
  have hp : 0 < p := by
    have h2 : 1 ≤ p := h.2.1
    omega
  have h0 : k = some c := hc
  subst h0
  have h1 : c - 1 < cl (x - s) p := (cl_gt hp).mpr (by
    have h2 : s + (c - 1) * p < x := hx
    omega)
  have := h.2.2 c rfl
  show (if c < stepsUp (x - s) p then c else stepsUp (x - s) p) = c
  rw [stepsUp_cl]
  split <;> (try split at *) <;> omega
theorem NB_nn {ts : List Trn} (h : ∀ t ∈ ts, OkTr t) (x : Int) : 0 ≤ NB ts x := by
  induction ts with
  | nil => exact Int.le_refl _
  | cons t ts ih =>
    have h1 := nbT_nn (h t (List.mem_cons_self ..)) x
    have h2 := ih fun u hu => h u (List.mem_cons_of_mem _ hu)
    show 0 ≤ nbT t x + NB ts x
    omega
theorem NB_zero {ts : List Trn} (h : ∀ t ∈ ts, OkTr t) {x : Int} (hx : ∀ t ∈ ts, x ≤ t.1) : NB ts x = 0 := by
  induction ts with
  | nil => rfl
  | cons t ts ih =>
    show nbT t x + NB ts x = 0
    rw [nbT_zero (h t (List.mem_cons_self ..)) (hx t (List.mem_cons_self ..)), ih (fun u hu => h u (List.mem_cons_of_mem _ hu)) fun u hu => hx u (List.mem_cons_of_mem _ hu)]
    rfl
theorem Srt.tail {t : Trn} {ts : List Trn} (h : Srt (t :: ts)) : Srt ts := ⟨fun u hu => h.1 u (List.mem_cons_of_mem _ hu), (List.pairwise_cons.mp h.2).2⟩
theorem Srt.head {t : Trn} {ts : List Trn} (h : Srt (t :: ts)) : OkTr t := h.1 t (List.mem_cons_self ..)
theorem Srt.lt {t : Trn} {ts : List Trn} (h : Srt (t :: ts)) : ∀ u ∈ ts, Lt t u := (List.pairwise_cons.mp h.2).1
theorem lt_start {t u : Trn} (h : OkTr t) (l : Lt t u) : t.1 < u.1 := by
  obtain ⟨c, e, q⟩ := l
  have hc := h.2.2 c e
  have : 0 ≤ (c - 1) * t.2.1 := Int.mul_nonneg (by omega) (by have := h.2.1; omega)
  omega
/-! what is before x, and which time is the i-th -/
theorem nbT_le {t : Trn} {x c : Int} (e : t.2.2 = some c) : nbT t x ≤ c := by
  unfold nbT
  rw [e]
  show (if c < stepsUp (x - t.1) t.2.1 then c else stepsUp (x - t.1) t.2.1) ≤ c
  split <;> omega
/-- the times before x are those with an index below nbT -/
theorem nbT_lt {t : Trn} (h : OkTr t) {x i : Int} (i0 : 0 ≤ i) (hi : ∀ c, t.2.2 = some c → i < c) : i < nbT t x ↔ t.1 + i * t.2.1 < x := by
  obtain ⟨s, p, k⟩ := t
  have hp : 0 < p := by
    have h2 : 1 ≤ p := h.2.1
    omega
  have h1 : i < cl (x - s) p ↔ i * p < x - s := cl_gt hp
  have e : (s + i * p < x) ↔ i * p < x - s := by omega
  show i < minO (stepsUp (x - s) p) k ↔ s + i * p < x
  rw [stepsUp_cl, e, ← h1]
  cases k with
  | none =>
    show i < (if cl (x - s) p > 0 then cl (x - s) p else 0) ↔ _
    split <;> omega
  | some c =>
    have := hi c rfl
    show i < (if c < (if cl (x - s) p > 0 then cl (x - s) p else 0) then c else (if cl (x - s) p > 0 then cl (x - s) p else 0)) ↔ _
    split <;> (try split) <;> (try split at *) <;> omega
theorem At_lt : ∀ {ts : List Trn}, Srt ts → ∀ {i y : Int}, 0 ≤ i → At ts i = some y → ∀ x, i < NB ts x ↔ y < x
  | [], _, i, y, _, e, _ => by cases e
  | t :: ts, h, i, y, i0, e, x => by
    have ht := h.head
    have hs := h.tail
    have nn := NB_nn hs.1 x
    cases hk : t.2.2 with
    | none =>
      have e' : At (t :: ts) i = some (t.1 + i * t.2.1) := by
        show (match t.2.2 with | none => some (t.1 + i * t.2.1) | some c => if i < c then some (t.1 + i * t.2.1) else At ts (i - c)) = _
        rw [hk]
      rw [e'] at e
      have ey := Option.some.inj e
      subst ey
      have nt : ts = [] := by
        cases ts with
        | nil => rfl
        | cons u us =>
          obtain ⟨c, hc, _⟩ := h.lt u (List.mem_cons_self ..)
          rw [hk] at hc
          cases hc
      subst nt
      have := nbT_lt ht (x := x) i0 (fun c hc => by rw [hk] at hc; cases hc)
      show i < nbT t x + 0 ↔ _
      rw [Int.add_zero]
      exact this
    | some c =>
      have e' : At (t :: ts) i = if i < c then some (t.1 + i * t.2.1) else At ts (i - c) := by
        show (match t.2.2 with | none => some (t.1 + i * t.2.1) | some c => if i < c then some (t.1 + i * t.2.1) else At ts (i - c)) = _
        rw [hk]
      rw [e'] at e
      show i < nbT t x + NB ts x ↔ y < x
      by_cases hi : i < c
      · rw [if_pos hi] at e
        have ey := Option.some.inj e
        have h1 := nbT_lt ht (x := x) i0 (fun c' hc => by rw [hk] at hc; cases hc; exact hi)
        by_cases hl : t.1 + (c - 1) * t.2.1 < x
        · have h2 := nbT_all ht hk hl
          omega
        · have h3 : NB ts x = 0 := NB_zero hs.1 fun u hu => by
            obtain ⟨c', hc, q⟩ := h.lt u hu
            rw [hk] at hc
            cases hc
            omega
          omega
      · rw [if_neg hi] at e
        have ih := At_lt hs (i := i - c) (by omega) e x
        have h2 := nbT_le (x := x) hk
        by_cases hl : t.1 + (c - 1) * t.2.1 < x
        · have h3 := nbT_all ht hk hl
          omega
        · have h3 : NB ts x = 0 := NB_zero hs.1 fun u hu => by
            obtain ⟨c', hc, q⟩ := h.lt u hu
            rw [hk] at hc
            cases hc
            omega
          omega
theorem tot_nn : ∀ {ts : List Trn}, (∀ t ∈ ts, OkTr t) → ∀ n, Tot ts = some n → 0 ≤ n
  | [], _, n, e => by cases e; exact Int.le_refl _
  | t :: ts, h, n, e => by
    cases hk : t.2.2 with
    | none =>
      have e2 : Tot (t :: ts) = none := by
        show (match t.2.2 with | none => none | some c => addO c (Tot ts)) = _
        rw [hk]
      rw [e2] at e
      cases e
    | some c =>
      have e2 : Tot (t :: ts) = addO c (Tot ts) := by
        show (match t.2.2 with | none => none | some c => addO c (Tot ts)) = _
        rw [hk]
      rw [e2] at e
      cases ht : Tot ts with
      | none => rw [ht] at e; cases e
      | some m =>
        rw [ht] at e
        have z' : c + m = n := Option.some.inj e
        have := tot_nn (fun u hu => h u (List.mem_cons_of_mem _ hu)) m ht
        have := (h t (List.mem_cons_self ..)).2.2 c hk
        omega
theorem At_none : ∀ {ts : List Trn}, (∀ t ∈ ts, OkTr t) → ∀ {i : Int}, 0 ≤ i → (At ts i = none ↔ ∃ n, Tot ts = some n ∧ n ≤ i)
  | [], _, i, i0 => ⟨fun _ => ⟨0, rfl, i0⟩, fun _ => rfl⟩
  | t :: ts, h, i, i0 => by
    cases hk : t.2.2 with
    | none =>
      have e' : At (t :: ts) i = some (t.1 + i * t.2.1) := by
        show (match t.2.2 with | none => some (t.1 + i * t.2.1) | some c => if i < c then some (t.1 + i * t.2.1) else At ts (i - c)) = _
        rw [hk]
      have e2 : Tot (t :: ts) = none := by
        show (match t.2.2 with | none => none | some c => addO c (Tot ts)) = _
        rw [hk]
      rw [e', e2]
      exact ⟨fun z => (by cases z), fun ⟨n, z, _⟩ => (by cases z)⟩
    | some c =>
      have e' : At (t :: ts) i = if i < c then some (t.1 + i * t.2.1) else At ts (i - c) := by
        show (match t.2.2 with | none => some (t.1 + i * t.2.1) | some c => if i < c then some (t.1 + i * t.2.1) else At ts (i - c)) = _
        rw [hk]
      have e2 : Tot (t :: ts) = addO c (Tot ts) := by
        show (match t.2.2 with | none => none | some c => addO c (Tot ts)) = _
        rw [hk]
      have tn : ∀ n, Tot ts = some n → 0 ≤ n := tot_nn fun u hu => h u (List.mem_cons_of_mem _ hu)
      rw [e', e2]
      by_cases hi : i < c
      · rw [if_pos hi]
        refine ⟨fun z => (by cases z), fun ⟨n, z, hn⟩ => ?_⟩
        cases ht : Tot ts with
        | none => rw [ht] at z; cases z
        | some m =>
          rw [ht] at z
          have := tn m ht
          have z' : c + m = n := Option.some.inj z
          omega
      · rw [if_neg hi]
        have ih := At_none (ts := ts) (fun u hu => h u (List.mem_cons_of_mem _ hu)) (i := i - c) (by omega)
        rw [ih]
        constructor
        · rintro ⟨n, e, hn⟩
          exact ⟨c + n, by rw [e]; rfl, by omega⟩
        · rintro ⟨n, e, hn⟩
          cases ht : Tot ts with
          | none => rw [ht] at e; cases e
          | some m =>
            rw [ht] at e
            have z' : c + m = n := Option.some.inj e
            exact ⟨m, rfl, by omega⟩
theorem NB_tot : ∀ {ts : List Trn}, (∀ t ∈ ts, OkTr t) → ∀ {n : Int}, Tot ts = some n → ∀ x, NB ts x ≤ n
  | [], _, n, e, x => by cases e; exact Int.le_refl _
  | t :: ts, h, n, e, x => by
    cases hk : t.2.2 with
    | none =>
      have e2 : Tot (t :: ts) = none := by
        show (match t.2.2 with | none => none | some c => addO c (Tot ts)) = _
        rw [hk]
      rw [e2] at e
      cases e
    | some c =>
      have e2 : Tot (t :: ts) = addO c (Tot ts) := by
        show (match t.2.2 with | none => none | some c => addO c (Tot ts)) = _
        rw [hk]
      rw [e2] at e
      cases ht : Tot ts with
      | none => rw [ht] at e; cases e
      | some m =>
        rw [ht] at e
        have z' : c + m = n := Option.some.inj e
        have h1 := nbT_le (x := x) hk
        have h2 := NB_tot (fun u hu => h u (List.mem_cons_of_mem _ hu)) ht x
        show nbT t x + NB ts x ≤ n
        omega
theorem nbT_step {t : Trn} (h : OkTr t) (x : Int) : nbT t (x + 1) ≤ nbT t x + 1 := by
  obtain ⟨s, p, k⟩ := t
  have hp : 1 ≤ p := h.2.1
  have h1 : cl (x + 1 - s) p ≤ cl (x - s) p + 1 := by
    refine (cl_le (by omega)).mpr ?_
    have h2 : x - s ≤ cl (x - s) p * p := (cl_le (by omega)).mp (Int.le_refl _)
    rw [Int.add_mul, Int.one_mul]
    omega
  show minO (stepsUp (x + 1 - s) p) k ≤ minO (stepsUp (x - s) p) k + 1
  rw [stepsUp_cl, stepsUp_cl]
  cases k with
  | none =>
    show (if cl (x + 1 - s) p > 0 then cl (x + 1 - s) p else 0) ≤ (if cl (x - s) p > 0 then cl (x - s) p else 0) + 1
    split <;> split <;> omega
  | some c =>
    show (if c < (if cl (x + 1 - s) p > 0 then cl (x + 1 - s) p else 0) then c else (if cl (x + 1 - s) p > 0 then cl (x + 1 - s) p else 0)) ≤ (if c < (if cl (x - s) p > 0 then cl (x - s) p else 0) then c else (if cl (x - s) p > 0 then cl (x - s) p else 0)) + 1
    repeat' split
    all_goals omega
theorem NB_step : ∀ {ts : List Trn}, Srt ts → ∀ x, NB ts (x + 1) ≤ NB ts x + 1
  | [], _, x => by show (0 : Int) ≤ 0 + 1; omega
  | t :: ts, h, x => by
    have ht := h.head
    have hs := h.tail
    have st := nbT_step ht x
    show nbT t (x + 1) + NB ts (x + 1) ≤ nbT t x + NB ts x + 1
    cases hk : t.2.2 with
    | none =>
      have nt : ts = [] := by
        cases ts with
        | nil => rfl
        | cons u us =>
          obtain ⟨c, hc, _⟩ := h.lt u (List.mem_cons_self ..)
          rw [hk] at hc
          cases hc
      subst nt
      show nbT t (x + 1) + 0 ≤ nbT t x + 0 + 1
      omega
    | some c =>
      by_cases hl : t.1 + (c - 1) * t.2.1 < x
      · have h1 := nbT_all ht hk hl
        have h2 := nbT_all ht hk (show t.1 + (c - 1) * t.2.1 < x + 1 by omega)
        have h3 := NB_step hs x
        omega
      · have z : ∀ y, y ≤ x + 1 → NB ts y = 0 := fun y hy => NB_zero hs.1 fun u hu => by
          obtain ⟨c', hc, q⟩ := h.lt u hu
          rw [hk] at hc
          cases hc
          omega
        have h1 := z x (by omega)
        have h2 := z (x + 1) (Int.le_refl _)
        omega
/-- the i-th time is told by what is before x -/
theorem At_iff {ts : List Trn} (h : Srt ts) {i y : Int} (i0 : 0 ≤ i) : At ts i = some y ↔ NB ts y = i ∧ NB ts (y + 1) = i + 1 := by
  have one : ∀ {z}, At ts i = some z → NB ts z = i ∧ NB ts (z + 1) = i + 1 := fun {z} e => by
    have h1 := At_lt h i0 e z
    have h2 := At_lt h i0 e (z + 1)
    have h3 := NB_step h z
    omega
  refine ⟨one, fun ⟨e1, e2⟩ => ?_⟩
  cases q : At ts i with
  | none =>
    obtain ⟨n, e3, e4⟩ := (At_none h.1 i0).mp q
    have := NB_tot h.1 e3 (y + 1)
    omega
  | some w =>
    have h3 := At_lt h i0 q y
    have h4 := At_lt h i0 q (y + 1)
    congr 1
    omega
/-- trains with the same counts have the same times -/
theorem At_same {ts us : List Trn} (h : Srt ts) (h' : Srt us) (e : ∀ x, NB ts x = NB us x) {i : Int} (i0 : 0 ≤ i) : At ts i = At us i := by
  cases q : At ts i with
  | some y =>
    obtain ⟨e1, e2⟩ := (At_iff h i0).mp q
    exact ((At_iff h' i0).mpr ⟨by rw [← e]; exact e1, by rw [← e]; exact e2⟩).symm
  | none =>
    cases q2 : At us i with
    | none => rfl
    | some y =>
      obtain ⟨e1, e2⟩ := (At_iff h' i0).mp q2
      rw [(At_iff h i0).mpr ⟨by rw [e]; exact e1, by rw [e]; exact e2⟩] at q
      cases q
/-! ### rows in the heap -/
/-! ### breakers and rows -/
abbrev Tri := Int × Int × Int
def TriV (t : Tri) : List V := [.int t.1, .int t.2.1, .int t.2.2]
def BrAt (H : Hp) (x : V) (t : Tri) : Prop := ∃ a, x = .ref a ∧ H a = some (.tup (TriV t))
def OkT (t : Tri) : Prop := 1 ≤ t.1 ∧ t.1 ≤ 1000000000000 ∧ 1 ≤ t.2.1 ∧ t.2.1 ≤ 1000000000000000000000000000000 ∧ 1 ≤ t.2.2 ∧ t.2.2 ≤ 1000000000000
abbrev Brs (H : Hp) (xs : List V) (ts : List Tri) : Prop := Paired (BrAt H) xs ts
theorem BrAt.nl {H H' : Hp} (k : NL H H') {x : V} {t : Tri} (h : BrAt H x t) : BrAt H' x t := by
  obtain ⟨a, e, h⟩ := h
  exact ⟨a, e, k _ _ h fun _ z => nomatch z⟩
theorem Brs.nl {H H' : Hp} (k : NL H H') {xs : List V} {ts : List Tri} (h : Brs H xs ts) : Brs H' xs ts := L2.Paired.mapP h fun _ _ z => z.nl k
theorem Brs.len {H : Hp} : ∀ {xs : List V} {ts : List Tri}, Brs H xs ts → xs.length = ts.length
  | _, _, .nil => rfl
  | _, _, .cons _ t => congrArg Nat.succ (Brs.len t)
theorem Brs.get {H : Hp} : ∀ {xs : List V} {ts : List Tri} {i : Nat} {x : V}, Brs H xs ts → xs[i]? = some x → ∃ t, ts[i]? = some t ∧ BrAt H x t
  | _, _, _, _, .nil, e => by simp at e
  | _, _, 0, _, .cons r _, e => by simp at e; subst e; exact ⟨_, rfl, r⟩
  | _, _, i + 1, x, .cons _ t, e => by
    obtain ⟨u, h1, h2⟩ := Brs.get (i := i) (x := x) t (by simpa using e)
    exact ⟨u, by simpa using h1, h2⟩
theorem Brs.app {H : Hp} : ∀ {xs ys : List V} {ts us : List Tri}, Brs H xs ts → Brs H ys us → Brs H (xs ++ ys) (ts ++ us)
  | _, _, _, _, .nil, s => s
  | _, _, _, _, .cons r t, s => .cons r (Brs.app t s)
theorem Brs.rev {H : Hp} : ∀ {xs : List V} {ts : List Tri}, Brs H xs ts → Brs H xs.reverse ts.reverse
  | _, _, .nil => .nil
  | _, _, .cons r t => by
    rw [List.reverse_cons, List.reverse_cons]
    exact Brs.app (Brs.rev t) (.cons r .nil)
theorem Brs.take {H : Hp} : ∀ {xs : List V} {ts : List Tri} (n : Nat), Brs H xs ts → Brs H (xs.take n) (ts.take n)
  | _, _, 0, _ => .nil
  | _, _, _ + 1, .nil => .nil
  | _, _, n + 1, .cons r t => .cons r (Brs.take n t)
theorem Brs.drop {H : Hp} : ∀ {xs : List V} {ts : List Tri} (n : Nat), Brs H xs ts → Brs H (xs.drop n) (ts.drop n)
  | _, _, 0, r => r
  | _, _, _ + 1, .nil => .nil
  | _, _, n + 1, .cons _ t => Brs.drop n t
/-! the attributes of a row, as __init__ stores them -/
theorem k1 : ¬ (("breakers" : Str) = "step") := by decide +kernel
theorem k2 : ¬ (("breakers" : Str) = "phase") := by decide +kernel
theorem k3 : ¬ (("step" : Str) = "phase") := by decide +kernel
def rowF (T : Addr) (st ph : Int) : List (Str × V) := putF "phase" (.int ph) (putF "step" (.int st) (putF "breakers" (.ref T) []))
theorem rowF_b (T : Addr) (st ph : Int) : (rowF T st ph).lookup ("breakers" : Str) = some (.ref T) := by
  unfold rowF
  rw [lookup_putF, if_neg k2, lookup_putF, if_neg k1, lookup_putF, if_pos rfl]
theorem rowF_s (T : Addr) (st ph : Int) : (rowF T st ph).lookup ("step" : Str) = some (.int st) := by
  unfold rowF
  rw [lookup_putF, if_neg k3, lookup_putF, if_pos rfl]
theorem rowF_p (T : Addr) (st ph : Int) : (rowF T st ph).lookup ("phase" : Str) = some (.int ph) := by
  unfold rowF
  rw [lookup_putF, if_pos rfl]
theorem rowF_no (T : Addr) (st ph : Int) {m : Str} (h1 : ¬ m = "phase") (h2 : ¬ m = "step") (h3 : ¬ m = "breakers") : (rowF T st ph).lookup m = none := by
  unfold rowF
  rw [lookup_putF, if_neg h1, lookup_putF, if_neg h2, lookup_putF, if_neg h3]
  all_goals rfl
/-- a Row stands at p -/
structure RowAt (C : Addr) (H : Hp) (p T : Addr) (xs : List V) (ts : List Tri) (st ph : Int) : Prop where
  ob : ∃ dx, H p = some (.ins C dx (rowF T st ph))
  tp : H T = some (.tup xs)
  br : Brs H xs ts
  ok : ∀ t ∈ ts, OkT t
  ln : ts.length ≤ 12
  s0 : 1 ≤ st
  s1 : st ≤ 1000000000000000000000000000000
  p0 : 0 ≤ ph
  p1 : ph ≤ 1000000000000000000000000000000
theorem RowAt.nl {C : Addr} {H H' : Hp} {p T : Addr} {xs : List V} {ts : List Tri} {st ph : Int} (R : RowAt C H p T xs ts st ph) (k : NL H H') : RowAt C H' p T xs ts st ph := by
  obtain ⟨dx, h⟩ := R.ob
  exact ⟨⟨dx, k _ _ h fun _ z => nomatch z⟩, k _ _ R.tp fun _ z => (nomatch z), R.br.nl k, R.ok, R.ln, R.s0, R.s1, R.p0, R.p1⟩
/-! ### promises -/
def spIsBr : Sp := fun vs H Q _ => ∃ x t, vs = [x] ∧ BrAt H x t ∧ OkT t ∧ Q (.bl true) H
def spRChk : Sp := fun vs H Q _ => ∃ a xs ts pt, vs = [.ref a, .str pt] ∧ H a = some (.lst xs) ∧ Brs H xs ts ∧ (∀ t ∈ ts, OkT t) ∧ ts.length ≤ 12 ∧ ∀ H', Same H H' → Q .non H'
def spRStep : Sp := fun vs H Q _ => ∃ st : Int, vs = [.int st] ∧ 1 ≤ st ∧ st ≤ 1000000000000000000000000000000 ∧ Q .non H
def spRInit (C : Addr) : Sp := fun vs H Q _ => ∃ p a st ph xs ts dx, vs = [.ref p, .ref a, .int st, .int ph] ∧ H p = some (.ins C dx []) ∧ H a = some (.lst xs) ∧ Brs H xs ts ∧ (∀ t ∈ ts, OkT t) ∧ ts.length ≤ 12 ∧
  (1 ≤ st ∧ st ≤ 1000000000000000000000000000000 ∧ 0 ≤ ph ∧ ph ≤ 1000000000000000000000000000000) ∧ ∀ T H', RowAt C H' p T xs ts st ph → Kp p H H' → Q .non H'
def spRBl (C : Addr) : Sp := fun vs H Q _ => ∃ p T xs ts st ph, vs = [.ref p] ∧ RowAt C H p T xs ts st ph ∧ ∀ l H', H l = none → H' = upd H l (.lst xs) → Q (.ref l) H'
def spRSt (C : Addr) : Sp := fun vs H Q _ => ∃ p T xs ts st ph, vs = [.ref p] ∧ RowAt C H p T xs ts st ph ∧ Q (.int st) H
def spRPh (C : Addr) : Sp := fun vs H Q _ => ∃ p T xs ts st ph, vs = [.ref p] ∧ RowAt C H p T xs ts st ph ∧ Q (.int ph) H
def spRLen (C : Addr) : Sp := fun vs H Q _ => ∃ p T xs ts st ph, vs = [.ref p] ∧ RowAt C H p T xs ts st ph ∧ Q (.int xs.length) H
def spRGet (C : Addr) : Sp := fun vs H Q _ => ∃ p T xs ts st ph i x, vs = [.ref p, .int i] ∧ RowAt C H p T xs ts st ph ∧ 0 ≤ i ∧ atI xs i = some x ∧ i < xs.length ∧ Q x H
def spRCon (C : Addr) : Sp := fun vs H Q _ => ∃ p T xs ts st ph x n, vs = [.ref p, x] ∧ RowAt C H p T xs ts st ph ∧ Kd H x n ∧ Q (.bl (isI x && (decide (ph ≤ toI x) && decide ((toI x - ph) % st = 0)))) H
def spRRt (C : Addr) : Sp := fun vs H Q _ => ∃ p T xs ts st ph i, vs = [.ref p, .int i] ∧ RowAt C H p T xs ts st ph ∧ 0 ≤ i ∧ i ≤ BB ∧ Q (.int (ph + i * st)) H
def spRFr (C : Addr) : Sp := fun vs H Q _ => ∃ p T xs ts st ph i, vs = [.ref p, .int i] ∧ RowAt C H p T xs ts st ph ∧ 0 ≤ i ∧ Q (.int (stepsUp (i - ph) st)) H
theorem row_made {C : Addr} {H : Hp} {Q : Addr → Hp → Prop} {a : Addr} {st ph : Int} {xs : List V} {ts : List Tri} (ha : H a = some (.lst xs)) (hb : Brs H xs ts) (ho : ∀ t ∈ ts, OkT t) (hl : ts.length ≤ 12)
    (bd : 1 ≤ st ∧ st ≤ 1000000000000000000000000000000 ∧ 0 ≤ ph ∧ ph ≤ 1000000000000000000000000000000) (k : ∀ p T H', RowAt C H' p T xs ts st ph → Same H H' → H p = none → Q p H') :
    ∀ x dx, H x = none → H dx = none → dx ≠ x → spRInit C [.ref x, .ref a, .int st, .int ph] (upd (upd H dx (.own x)) x (.ins C dx [])) (fun v H3 => v = .non ∧ Q x H3) E0 := by
  intro x dx hx hd hne
  have s0 : Same H (upd (upd H dx (.own x)) x (.ins C dx [])) := fun b o e => by
    rw [upd_ne (ne_of_none e hx), upd_ne (ne_of_none e hd)]
    exact e
  refine ⟨x, a, st, ph, xs, ts, dx, rfl, upd_same, s0 _ _ ha, hb.nl (NL.of s0), ho, hl, bd, fun T H' R kp => ⟨rfl, k x T H' R (fun b o e => kp b o (ne_of_none e hx) (s0 b o e)) hx⟩⟩
abbrev RDat := List Tri × Int × Int
/-- what == is asked of -/
inductive EqOf (C : Addr) (H : Hp) (d : RDat) : V → Bool → Prop where
  | row {q U : Addr} {ys : List V} {us : List Tri} {st ph : Int} (R : RowAt C H q U ys us st ph) : EqOf C H d (.ref q) (decide (d = (us, st, ph)))
  | non : EqOf C H d .non false
  | lst {a : Addr} {xs : List V} (e : H a = some (.lst xs)) : EqOf C H d (.ref a) false
  | tup {a : Addr} {xs : List V} (e : H a = some (.tup xs)) : EqOf C H d (.ref a) false
theorem EqOf.nl {C : Addr} {H H' : Hp} {d : RDat} {v : V} {b : Bool} (h : EqOf C H d v b) (k : Same H H') : EqOf C H' d v b := by
  cases h with
  | row R => exact .row (R.nl (NL.of k))
  | non => exact .non
  | lst e => exact .lst (k _ _ e)
  | tup e => exact .tup (k _ _ e)
/-- breakers as data -/
def triD (t : Tri) : PyData := .tuple [.int t.1, .int t.2.1, .int t.2.2]
theorem Brs.dp {K : PySem.W.Frag} {H : Hp} : ∀ {xs : List V} {ts : List Tri}, Brs H xs ts → DpAll K H xs (ts.map triD)
  | _, _, .nil => .nil
  | _, _, .cons ⟨a, e, h⟩ t => by
    subst e
    exact .cons (.tup (SqT.of h) (.cons (.int _) (.cons (.int _) (.cons (.int _) .nil)))) (Brs.dp t)
theorem triD_eq (t u : Tri) : PyData.eqv (triD t) (triD u) = decide (t = u) := by
  obtain ⟨a, b, c⟩ := t
  obtain ⟨a', b', c'⟩ := u
  simp only [triD, PyData.eqv, PyData.eqvAll, Bool.and_true]
  rw [Bool.eq_iff_iff]
  simp [Prod.ext_iff]
theorem triDs_eq : ∀ ts us : List Tri, PyData.eqvAll (ts.map triD) (us.map triD) = decide (ts = us)
  | [], [] => by simp [PyData.eqvAll]
  | [], _ :: _ => by simp [PyData.eqvAll]
  | _ :: _, [] => by simp [PyData.eqvAll]
  | t :: ts, u :: us => by
    rw [List.map_cons, List.map_cons, PyData.eqvAll, triD_eq, triDs_eq ts us, Bool.eq_iff_iff]
    simp
theorem canAll : ∀ ts : List Tri, PyData.canLayAll0 (ts.map triD) = true
  | [] => by simp [PyData.canLayAll0]
  | t :: ts => by
    rw [List.map_cons, PyData.canLayAll0, canAll ts]
    simp [triD, PyData.canLay0, PyData.canLayAll0]
theorem depAll : ∀ ts : List Tri, PyData.depthAll (ts.map triD) ≤ 10
  | [] => by simp [PyData.depthAll]
  | t :: ts => by
    have := depAll ts
    rw [List.map_cons, PyData.depthAll]
    have h2 : (triD t).depth ≤ 10 := by simp [triD, PyData.depth, PyData.depthAll]
    omega
theorem shT (ts : List Tri) : SeqAt.shaped (.tuple (ts.map triD)) = true := by
  refine Bool.and_eq_true_iff.mpr ⟨?_, decide_eq_true ?_⟩
  · rw [PyData.canLay0]
    exact canAll ts
  · have := depAll ts
    rw [PyData.depth]
    omega

theorem wide200 {i j : Int} (h1 : i.natAbs < 2 ^ 200) (h2 : j.natAbs < 2 ^ 200) : CMulW i j := wide_mul h1 h2 (by decide) (by decide) (by decide)
theorem lt200 {i : Int} (h0 : 0 ≤ i) (h : i ≤ 1000000000000000000000000000000) : i.natAbs < 2 ^ 200 := Nat.lt_of_le_of_lt (show i.natAbs ≤ 1000000000000000000000000000000 by omega) (by decide)
theorem log200 {i : Int} (h0 : 1 ≤ i) (h : i ≤ 1000000000000000000000000000000) : i.natAbs.log2 < 9000 := (wide_div (by omega : 0 < i) (lt200 (by omega) h) (by decide) (by decide) (i := 0)).2
theorem st_bb {s : Int} (h : s ≤ 1000000000000000000000000000000) : s ≤ BB := Int.le_trans h (Int.le_trans (PB_of (n := 100) (by decide +kernel)) (PB_le (by decide)))
theorem k6_pos {P : Prop} {q : Prop} [Decidable P] [Decidable q] (h : P) (h' : q) : (decide P && decide q) = true := by rw [decide_eq_true h, decide_eq_true h']; rfl
section
variable {P : Program} {w : World} {K : PySem.W.Frag} {mg : Str → Option Value} {base : Heap} {L : LA}
end
/-! ### states of breakers, and data of them -/
abbrev StD := Str × Int
def StAt (H : Hp) (x : V) (s : StD) : Prop := ∃ a, x = .ref a ∧ H a = some (.tup [.str s.1, .int s.2])
abbrev Sts (H : Hp) (xs : List V) (ss : List StD) : Prop := Paired (StAt H) xs ss
theorem StAt.nl {H H' : Hp} (k : NL H H') {x : V} {d : StD} (h : StAt H x d) : StAt H' x d := by
  obtain ⟨a, e, h⟩ := h
  exact ⟨a, e, k _ _ h fun _ z => nomatch z⟩
theorem Sts.nl {H H' : Hp} (k : NL H H') {xs : List V} {ss : List StD} (h : Sts H xs ss) : Sts H' xs ss := L2.Paired.mapP h fun _ _ z => z.nl k
theorem paired_len {α β : Type} {F : α → β → Prop} : ∀ {xs : List α} {ys : List β}, Paired F xs ys → xs.length = ys.length
  | _, _, .nil => rfl
  | _, _, .cons _ p => by rw [List.length_cons, List.length_cons, paired_len p]
theorem paired_get {α β : Type} {F : α → β → Prop} : ∀ {xs : List α} {ys : List β} {i : Nat} {x : α}, Paired F xs ys → xs[i]? = some x → ∃ y, ys[i]? = some y ∧ F x y
  | _, _, i, x, .nil, e => by cases e
  | _, _, 0, x, .cons h _, e => by cases e; exact ⟨_, rfl, h⟩
  | _, _, i + 1, x, .cons _ p, e => paired_get (i := i) p e
theorem paired_get2 {α β : Type} {F : α → β → Prop} : ∀ {xs : List α} {ys : List β} {i : Nat} {y : β}, Paired F xs ys → ys[i]? = some y → ∃ x, xs[i]? = some x ∧ F x y
  | _, _, i, x, .nil, e => by cases e
  | _, _, 0, x, .cons h _, e => by cases e; exact ⟨_, rfl, h⟩
  | _, _, i + 1, x, .cons _ p, e => paired_get2 (i := i) p e
theorem paired_app {α β : Type} {F : α → β → Prop} : ∀ {xs us : List α} {ys vs : List β}, Paired F xs ys → Paired F us vs → Paired F (xs ++ us) (ys ++ vs)
  | _, _, _, _, .nil, q => q
  | _, _, _, _, .cons h p, q => .cons h (paired_app p q)
theorem StAt.same {H H' : Hp} (s : Same H H') {x : V} {d : StD} (h : StAt H x d) : StAt H' x d := by
  obtain ⟨a, e, h⟩ := h
  exact ⟨a, e, s _ _ h⟩
theorem Sts.same {H H' : Hp} (s : Same H H') {xs : List V} {ss : List StD} (h : Sts H xs ss) : Sts H' xs ss := L2.Paired.mapP h fun _ _ z => z.same s
/-- the breaker passes a request at t -/
def psB (b : Tri) (s : StD) (t : Int) : Prop := s.1 = "open" → b.2.1 ≤ t - s.2
def hfS (s : StD) : StD := if s.1 = "open" then ("half", 0) else s
def okS (b : Tri) (s : StD) : StD := if (hfS s).1 = "half" ∧ (hfS s).2 + 1 < b.2.2 then ("half", (hfS s).2 + 1) else ("closed", 0)
def badS (b : Tri) (s : StD) (t : Int) : StD := if (hfS s).1 = "closed" ∧ (hfS s).2 + 1 < b.1 then ("closed", (hfS s).2 + 1) else ("open", t)
theorem sC_O : ¬ (("closed" : Str) = "open") := by decide +kernel
theorem sH_O : ¬ (("half" : Str) = "open") := by decide +kernel
theorem sO_C : ¬ (("open" : Str) = "closed") := by decide +kernel
theorem sH_C : ¬ (("half" : Str) = "closed") := by decide +kernel
theorem sC_H : ¬ (("closed" : Str) = "half") := by decide +kernel
theorem sO_H : ¬ (("open" : Str) = "half") := by decide +kernel
theorem hf_closed (n : Int) : hfS (("closed" : Str), n) = (("closed" : Str), n) := if_neg sC_O
theorem hf_half (n : Int) : hfS (("half" : Str), n) = (("half" : Str), n) := if_neg sH_O
theorem hf_open (n : Int) : hfS (("open" : Str), n) = (("half" : Str), 0) := if_pos rfl
/-- what is told of a request that k of n breakers pass -/
def outV (n k : Nat) (inS : Bool) : List V := if k < n then [.str "rejected", .int k] else if inS then [.str "failed"] else [.str "served"]
def okW (s : StD) : Prop := s.1 = "closed" ∨ s.1 = "open" ∨ s.1 = "half"
def stD (s : StD) : PyData := .tuple [.str s.1, .int s.2]
theorem Sts.dp {K : PySem.W.Frag} {H : Hp} : ∀ {xs : List V} {ss : List StD}, Sts H xs ss → DpAll K H xs (ss.map stD)
  | _, _, .nil => .nil
  | _, _, .cons ⟨a, e, h⟩ t => by
    subst e
    exact .cons (.tup (SqT.of h) (.cons (.str _) (.cons (.int _) .nil))) (Sts.dp t)
theorem stD_eq (s u : StD) : PyData.eqv (stD s) (stD u) = decide (s = u) := by
  obtain ⟨a, b⟩ := s
  obtain ⟨a', b'⟩ := u
  simp only [stD, PyData.eqv, PyData.eqvAll, Bool.and_true]
  rw [Bool.eq_iff_iff]
  simp [Prod.ext_iff]
theorem stDs_eq : ∀ ss us : List StD, PyData.eqvAll (ss.map stD) (us.map stD) = decide (ss = us)
  | [], [] => by simp [PyData.eqvAll]
  | [], _ :: _ => by simp [PyData.eqvAll]
  | _ :: _, [] => by simp [PyData.eqvAll]
  | t :: ts, u :: us => by
    rw [List.map_cons, List.map_cons, PyData.eqvAll, stD_eq, stDs_eq ts us, Bool.eq_iff_iff]
    simp
theorem sok_W {s : StD} (h : okW s) : PyData.strOk s.1 = true := by
  obtain ⟨a, b⟩ := s
  rcases h with h | h | h
  · have h : a = "closed" := h
    subst h
    show PyData.strOk "closed" = true
    decide +kernel
  · have h : a = "open" := h
    subst h
    show PyData.strOk "open" = true
    decide +kernel
  · have h : a = "half" := h
    subst h
    show PyData.strOk "half" = true
    decide +kernel
theorem canSts : ∀ {ss : List StD}, (∀ s ∈ ss, okW s) → PyData.canLayAll0 (ss.map stD) = true
  | [], _ => by simp [PyData.canLayAll0]
  | t :: ts, h => by
    rw [List.map_cons, PyData.canLayAll0, canSts fun s hs => h s (List.mem_cons_of_mem _ hs)]
    simp [stD, PyData.canLay0, PyData.canLayAll0, sok_W (h t (List.mem_cons_self ..))]
theorem depSts : ∀ ss : List StD, PyData.depthAll (ss.map stD) ≤ 10
  | [] => by simp [PyData.depthAll]
  | t :: ts => by
    have := depSts ts
    rw [List.map_cons, PyData.depthAll]
    have h2 : (stD t).depth ≤ 10 := by simp [stD, PyData.depth, PyData.depthAll]
    omega
theorem shSts {ss : List StD} (h : ∀ s ∈ ss, okW s) : SeqAt.shaped (.list (ss.map stD)) = true := by
  refine Bool.and_eq_true_iff.mpr ⟨?_, decide_eq_true ?_⟩
  · rw [PyData.canLay0]
    exact canSts h
  · have := depSts ss
    rw [PyData.depth]
    omega
theorem Sts.dpl {K : PySem.W.Frag} {H : Hp} {l : Addr} {ys : List V} {ss : List StD} (h : H l = some (.lst ys)) (s : Sts H ys ss) : Dp K H (.ref l) (.list (ss.map stD)) := .lst (SqL.of h) s.dp
theorem eqSts (ss us : List StD) : PyData.eqv (.list (ss.map stD)) (.list (us.map stD)) = decide (ss = us) := by
  rw [PyData.eqv]
  exact stDs_eq ss us
/-! ### lists of ints as data; what the law asks of told times -/
def intsD (ns : List Int) : PyData := .list (ns.map PyData.int)
theorem ints_dp {K : PySem.W.Frag} {H : Hp} : ∀ ns : List Int, DpAll K H (ns.map V.int) (ns.map PyData.int)
  | [] => .nil
  | n :: ns => .cons (.int n) (ints_dp ns)
theorem canInts : ∀ ns : List Int, PyData.canLayAll0 (ns.map PyData.int) = true
  | [] => by simp [PyData.canLayAll0]
  | n :: ns => by rw [List.map_cons, PyData.canLayAll0, canInts ns]; simp [PyData.canLay0]
theorem depInts : ∀ ns : List Int, PyData.depthAll (ns.map PyData.int) ≤ 10
  | [] => by simp [PyData.depthAll]
  | n :: ns => by
    have := depInts ns
    rw [List.map_cons, PyData.depthAll]
    have h2 : (PyData.int n).depth ≤ 10 := by simp [PyData.depth]
    omega
theorem shInts (ns : List Int) : SeqAt.shaped (intsD ns) = true := by
  refine Bool.and_eq_true_iff.mpr ⟨?_, decide_eq_true ?_⟩
  · unfold intsD
    rw [PyData.canLay0]
    exact canInts ns
  · have := depInts ns
    unfold intsD
    rw [PyData.depth]
    omega
theorem eqInts1 : ∀ ns ms : List Int, PyData.eqvAll (ns.map PyData.int) (ms.map PyData.int) = decide (ns = ms)
  | [], [] => by simp [PyData.eqvAll]
  | [], _ :: _ => by simp [PyData.eqvAll]
  | _ :: _, [] => by simp [PyData.eqvAll]
  | n :: ns, m :: ms => by
    rw [List.map_cons, List.map_cons, PyData.eqvAll, eqInts1 ns ms, Bool.eq_iff_iff]
    simp [PyData.eqv]
theorem eqInts (ns ms : List Int) : PyData.eqv (intsD ns) (intsD ms) = decide (ns = ms) := by
  unfold intsD
  rw [PyData.eqv]
  exact eqInts1 ns ms
theorem Dp.ints {K : PySem.W.Frag} {H : Hp} {a : Addr} {ns : List Int} (h : H a = some (.lst (ns.map V.int))) : Dp K H (.ref a) (intsD ns) := .lst (SqL.of h) (ints_dp ns)
/-! ### rules inside comprehensions -/
theorem call_lenK {X : Cx} {K : PySem.W.Frag} (h : X.K = K) : CallR X (.builtin "len") (fun xs H Q => ∃ p ys, xs = [.ref p] ∧ (SqL K H p ys ∨ SqT K H p ys) ∧ Q (.int ys.length) H) := h ▸ call_len_seq
theorem call_listK {X : Cx} {K : PySem.W.Frag} (h : X.K = K) : CallR X (.type "list") (fun xs H Q => ∃ p ys, xs = [.ref p] ∧ (SqL K H p ys ∨ SqT K H p ys) ∧ ∀ l, H l = none → Q (.ref l) (upd H l (.lst ys))) := h ▸ call_list_of
theorem op_neDK {X : Cx} {K : PySem.W.Frag} (h : X.K = K) (hu : X.A.units + 64 < cLine) : OpR X (compareOp .NotEq) (rNeD K) := h ▸ op_neD hu
theorem op_eqDK {X : Cx} {K : PySem.W.Frag} (h : X.K = K) (hu : X.A.units + 64 < cLine) : OpR X (compareOp .Eq) (rEqD K) := h ▸ op_eqD hu
theorem op_inK {X : Cx} {K : PySem.W.Frag} (h : X.K = K) : OpR X (compareOp CmpOp.In) (rIn K false) := h ▸ op_in_seq
theorem op_notInK {X : Cx} {K : PySem.W.Frag} (h : X.K = K) : OpR X (compareOp CmpOp.NotIn) (rIn K true) := h ▸ op_notIn_seq
/-! ### list.count of strings -/
def eqs (k : Str) (v : Value) : Bool := match v with
  | .str n _ => n == k
  | _ => false
def rCntS (K : PySem.W.Frag) : V → List V → Hp → VK → Prop := fun x xs H Q => ∃ (p : Addr) (ss : List Str) (k : Str), x = .ref p ∧ xs = [.str k] ∧ SqL K H p (ss.map V.str) ∧ Q (.int (ss.countP (fun y => decide (y = k)) : Nat)) H
theorem eqs_at {k : Str} {t : Tok} {A : Around} {s : Shared} : ∀ {ss : List Str} {us : List Value}, Vals (ss.map V.str) us → ∀ y ∈ us, SeqAt.EqAt A s y (.str k t) (eqs k y)
  | [], us, r => by
    rw [List.map_nil] at r
    cases r
    exact fun y hy => nomatch hy
  | n :: ss, us, r => by
    rw [List.map_cons] at r
    cases r with
    | cons r1 r2 =>
      obtain ⟨t', rfl⟩ := r1
      intro y hy
      rcases List.mem_cons.mp hy with q | q
      · rw [q]
        exact SeqAt.EqAt.str_str n t' k t
      · exact eqs_at r2 y q
theorem eqs_count {k : Str} : ∀ {ss : List Str} {us : List Value}, Vals (ss.map V.str) us → us.countP (eqs k) = ss.countP fun y => decide (y = k)
  | [], us, r => by
    rw [List.map_nil] at r
    cases r
    rfl
  | n :: ss, us, r => by
    rw [List.map_cons] at r
    cases r with
    | cons r1 r2 =>
      obtain ⟨t', rfl⟩ := r1
      have ih := eqs_count (k := k) r2
      rw [List.countP_cons, List.countP_cons, ih]
      rfl
theorem mt_scount {X : Cx} : MtR X "list.count" (rCntS X.K) := by
  intro pins s σ H x xs v us Q I rx rxs h
  obtain ⟨p, ns, k, rfl, rfl, hs, q⟩ := h
  cases rx
  obtain ⟨u, rfl, ru⟩ := rxs.one
  obtain ⟨t, rfl⟩ := ru
  obtain ⟨its, rv, ⟨⟨cls, dd, data, sl⟩, n, ho, hc, hdn, hd⟩, hlen⟩ := I.list hs
  simp only at hc hd
  subst hc hd
  refine call_meets PySem.F.slot_list_count ⟨_, ho, rfl⟩ PySem.F.entry_list_count (PySem.F.args_list_count_2 _ _)
    (SeqAt.list_countAt p its.toArray n dd sl (.str k t) (eqs k)) ⟨ho, fun y hy => eqs_at rv y (by simpa using hy), ?_⟩
  have ec : its.toArray.toList.countP (eqs k) = ns.countP fun y => decide (y = k) := eqs_count rv
  refine ⟨.int (ns.countP (fun y => decide (y = k)) : Nat), H, I.tok _, ⟨s.toks, ?_⟩, q⟩
  show Value.int ((its.toArray.toList.countP (eqs k) : Nat) : Int) s.toks = Value.int ((ns.countP (fun y => decide (y = k)) : Nat) : Int) s.toks
  rw [ec]
/-- a comprehension over enumerate -/
theorem lc_enum {K : PySem.W.Frag} {a : Addr} {xs : List V} {g : TG} {tt : TT} {te : TE} {vs : List Nat} {σ : L2.St} {H1 : Hp} {D : Addr} {Qd : Hp → Prop} (Pv : Nat → Hp → Prop) (h0 : Pv 0 (upd H1 D (.lst []))) (hl : ∀ i H, Pv i H → SqL K H a xs)
    (hs : ∀ (i : Nat) (x : V) (T : Addr) (H : Hp), xs[i]? = some x → Pv i H → H T = none → g (.ref T) (wipe σ vs) (upd H T (.tup [.int (i : Nat), x])) fun σ2 H2 => wipe σ2 vs = wipe σ vs ∧ tt σ2 H2 fun b H3 =>
      if b = true then te σ2 H3 fun y H4 => ∃ acc, H4 D = some (.lst acc) ∧ acc.length < sizeLine ∧ Pv (i + 1) (upd H4 D (.lst (acc ++ [y]))) else Pv (i + 1) H3) (hd : ∀ H, Pv xs.length H → Qd H) :
    ∃ W : Nat → Nat → Hp → Prop, (∃ m, W 0 m (upd H1 D (.lst []))) ∧ ∀ i m H, W i m H → ((Ite K a).stop i H ∧ Qd H) ∨ ((Ite K a).go i H ∧ ∃ Nx : Hp → Prop, (∀ H', Nx H' → ∃ m', m' < m ∧ W (i + 1) m' H') ∧ ∀ x H', (Ite K a).yld i H x H' → g x (wipe σ vs) H' fun σ2 H2 => wipe σ2 vs = wipe σ vs ∧ tt σ2 H2 fun b H3 =>
        if b = true then te σ2 H3 fun y H4 => ∃ acc, H4 D = some (.lst acc) ∧ acc.length < sizeLine ∧ Nx (upd H4 D (.lst (acc ++ [y]))) else Nx H3) := by
  refine ⟨fun i m H => m = xs.length - i ∧ i ≤ xs.length ∧ Pv i H, ⟨xs.length, by omega, Nat.zero_le _, h0⟩, ?_⟩
  rintro i m H ⟨rfl, hi, p⟩
  have q := hl i H p
  by_cases hlt : i < xs.length
  · refine .inr ⟨⟨xs, xs[i], q, List.getElem?_eq_getElem hlt⟩, Pv (i + 1), fun H' p' => ⟨xs.length - (i + 1), by omega, rfl, hlt, p'⟩, fun v H' y => ?_⟩
    obtain ⟨T, x', rfl, hT, rfl, f⟩ := y
    exact hs i x' T H (f xs q) p hT
  · have e : i = xs.length := by omega
    subst e
    exact .inl ⟨⟨xs, q, Nat.le_refl _⟩, hd H p⟩
theorem op_powW {X : Cx} : OpR X (binaryOp .Pow) (rI (fun i j => 0 ≤ j ∧ (Builtin.Int.intBits i : Int) * j ≤ 2 ^ 27) fun i j => .int (i ^ j.toNat)) := opI fun _ _ _ _ _ _ _ hc q => PyProof.Rows.pow_int hc.1 hc.2 q
/-! ### list.count over data -/
def rCntD (K : PySem.W.Frag) : V → List V → Hp → VK → Prop := fun x xs H Q => ∃ (p : Addr) (ys : List V) (ds : List PyData) (y : V) (d : PyData), x = .ref p ∧ xs = [y] ∧ SqL K H p ys ∧ DpAll K H ys ds ∧ Dp K H y d ∧ PyData.plainAll ds = true ∧ d.plain = true ∧ d.depth ≤ 10 ∧ Q (.int (ds.countP (fun e => PyData.eqv e d) : Nat)) H
theorem mt_dcount {X : Cx} (hu : X.A.units + 64 < cLine) : MtR X "list.count" (rCntD X.K) := by
  intro pins s σ H x xs v us Q I rx rxs h
  obtain ⟨p, ys, ds, y, d, rfl, rfl, hs, hd, hy, p1, p2, dl, q⟩ := h
  cases rx
  obtain ⟨u, rfl, ru⟩ := rxs.one
  obtain ⟨its, rv, hl, hlen⟩ := I.list hs
  obtain ⟨as, r1⟩ := Dp.readsAll I ds _ its hd rv
  obtain ⟨bs, r2⟩ := Dp.reads I d y u hy ru
  refine SeqAt.count_list_data hl.isList r1 r2 p1 p2 (by omega) ?_
  exact ⟨.int _, H, I.tok _, ⟨s.toks, rfl⟩, q⟩
theorem call_tupK {X : Cx} {K : PySem.W.Frag} (h : X.K = K) : CallR X (.type "tuple") (fun xs H Q => ∃ p ys, xs = [V.ref p] ∧ ((SqL K H p ys ∧ ∀ l : Addr, H l = none → Q (.ref l) (upd H l (.tup ys))) ∨ SqT K H p ys ∧ Q (.ref p) H)) := h ▸ call_tuple_of
/-! ### defs that may raise -/
/-- a def that may raise, called by its name -/
structure CalX (P : Program) (w : World) (K : PySem.W.Frag) (mg : Str → Option Value) (base : Heap) (x : Str) (k : Nat) (f : Addr) (ps : List Str) (sp : Sp) : Prop where
  ex : ∃ fd, FnOk P w K mg base (L2.CX P w) k f fd ps sp ∧ Binds K fd ps []
  g : mg x = some (.ref f)
  kp : PySem.W.keepIn K (.ref f) = true
theorem Dfn.calX {P : Program} {w : World} {K : PySem.W.Frag} {mg : Str → Option Value} {base : Heap} {x : Str} {st : Stmt} {f : Addr} {ps : List Str} {k : Nat} {sp : Sp} (D : Dfn K mg x st f ps) (h : ∀ fd, Fun K x x st f fd → FnOk P w K mg base (L2.CX P w) k f fd ps sp) : CalX P w K mg base x k f ps sp := by
  obtain ⟨fd, F, b⟩ := D.ex
  exact ⟨⟨fd, h fd F, b⟩, D.g, F.kp⟩
theorem pe_cX {X : Cx} {x : Str} {k : Nat} {f : Addr} {ps : List Str} {sp : Sp} {t : TA} {e : Expr} {es : List Expr} {p pos : Pos} {E : L2.St → XK} (c : CalX X.prog X.w X.K X.mg X.base x k f ps sp) (hr : Room k X.A) (hg : Gl X x) (hx : ∀ σ, L2.PassesAt (L2.CX X.prog X.w) X σ (E σ))
    (ha : PA X (e :: es) t) (hdb : (x == ("__debug__" : Str)) = false := by decide) (he : starEach (e :: es) X.env = (false, eval e X.env) :: starEach es X.env := by rfl) (hpl : (backTo pos (starEach es X.env)).any (·.1) = false := by rfl) :
    PE X (.Call (.Name x p) (e :: es) [] pos) (L2.tCallS sp E t) := by
  obtain ⟨fd, F, b⟩ := c.ex
  exact L2.pe_callS F hr hg c.g c.kp b hx ha hdb he hpl
/-- the making of an error with one field -/
def spEI1 (C : Addr) (f : Str) : Sp := fun vs H Q _ => ∃ a v, vs = [.ref a, v] ∧ H a = some (L2.exo a C none) ∧ ∀ dx, H dx = none → dx ≠ a → Q .non (upd (upd H dx (L2.exd dx [(f, v)])) a (L2.exo a C (some dx)))
theorem raise1 {C : Addr} {f : Str} {v : V} {H : Hp} {Q E : XK} (k : ∀ d H', H' d = some (.xd [(f, v)]) → Same H H' → Q (.ref C) (some d) H') : ∀ a, H a = none → spEI1 C f [.ref a, v] (upd H a (L2.exo a C none))
    (fun u H2 => u = .non ∧ ∃ (d : Addr) (fs : List (Str × V)), H2 a = some (L2.exo a C (some d)) ∧ H2 d = some (L2.exd d fs) ∧ H d = none ∧ Q (.ref C) (some d) (upd (L2.del H2 a) d (.xd fs))) E := fun a na => by
  refine ⟨a, v, rfl, upd_same, fun dx nx ne => ⟨rfl, dx, [(f, v)], upd_same, by rw [upd_ne ne, upd_same], by rwa [upd_ne ne] at nx, k dx _ upd_same fun b o e => ?_⟩⟩
  rw [upd_ne ne] at nx
  have ba : b ≠ a := ne_of_none e na
  have bd : b ≠ dx := ne_of_none e nx
  rw [upd_ne bd, L2.del_ne ba, upd_ne ba, upd_ne bd, upd_ne ba]
  exact e
/-- in a suite the term may not speak of the suite's own context -/
theorem ix_listK {X : Cx} {K : PySem.W.Frag} (hK : X.K = K) : IxR X (rIxL K) := by
  subst hK
  exact ix_list
theorem mt_dcountK {X : Cx} {K : PySem.W.Frag} (hK : X.K = K) (hu : X.A.units + 64 < cLine) : MtR X "list.count" (rCntD K) := by
  subst hK
  exact mt_dcount hu
/-! ### a suite that is told of any error of the text -/
def rIsZ (K : PySem.W.Frag) (a : Addr) (cls : Value) (d : Option Addr) : List V → Hp → VK → Prop := fun xs H Q => ∃ D dd : Addr, cls = .ref D ∧ d = some dd ∧ IsC K D ∧ rIsX K D a dd xs H Q
theorem call_isZ {X : Cx} {K : PySem.W.Frag} {a : Addr} {cls : Value} {d : Option Addr} {oe : Obj} {pn : List (Addr × Obj)} (hK : X.K = K) (hz : L2.Zc cls d oe) (hf : ∃ vs, oe.data = .fields vs) : CallR (X.suite a ((a, oe) :: pn)) (.builtin "isinstance") (rIsZ K a cls d) := by
  subst hK
  rintro pins s σ H xs us Q I r ⟨D, dd, rfl, rfl, T, h⟩
  exact call_isX T hz hf pins s σ H xs us Q I r h
def rIsTZ (K : PySem.W.Frag) (a : Addr) (cls : Value) (d : Option Addr) : List V → Hp → VK → Prop := fun xs H Q => ∃ D : Addr, IsC K D ∧ rIsT K D a cls d xs H Q
theorem call_isTZ {X : Cx} {K : PySem.W.Frag} {a : Addr} {cls : Value} {d : Option Addr} {oe : Obj} {pn : List (Addr × Obj)} (hK : X.K = K) (hz : L2.Zc cls d oe) (hf : ∃ vs, oe.data = .fields vs) : CallR (X.suite a ((a, oe) :: pn)) (.builtin "isinstance") (rIsTZ K a cls d) := by
  subst hK
  rintro pins s σ H xs us Q I r ⟨D, T, h⟩
  exact call_isT T hz hf pins s σ H xs us Q I r h
def tXfZ (K : PySem.W.Frag) (a : Addr) (cls : Value) (d : Option Addr) (f : Str) (te : TE) : TE := fun σ H Q => ∃ C : Addr, L2.XfC K C ∧ PySem.W.findIn K (.ref C) f = some none ∧ L2.tXf a cls d C f te σ H Q
theorem pe_xfZ {X : Cx} {K : PySem.W.Frag} {a : Addr} {oe : Obj} {cls : Value} {d : Option Addr} {pn : List (Addr × Obj)} {e : Expr} {te : TE} {pos : Pos} {n : Str} (hK : X.K = K) (hz : L2.Zc cls d oe) (hf : ∃ vs, oe.data = .fields vs) (he : PE (X.suite a ((a, oe) :: pn)) e te) (hb : attributeBase e n X.env (eval e X.env) = eval e X.env := by rfl) :
    PE (X.suite a ((a, oe) :: pn)) (.Attribute e n pos) (tXfZ K a cls d n te) := by
  subst hK
  refine ⟨fun pins s σ H Q I ⟨C, T, no, h⟩ => ?_⟩
  exact (L2.pe_xf T no hz hf he hb).run pins s σ H Q I h
/-- a method of a builtin, the term over a K of its own -/
theorem pe_bmK {X : Cx} {K : PySem.W.Frag} {o e : Expr} {es : List Expr} {to : TE} {t : TA} {name : Str} {apos cpos : Pos} {T id : String} {r : V → List V → Hp → VK → Prop} (hK : X.K = K) (pa : PlainAttrs T) (slot : Slot T name id) (hty : typeOf (.builtin id) = pure (.type "method_descriptor")) (hm : L2.MtR X id r) (ho : PE X o to) (ha : PA X (e :: es) t)
    (hbase : attributeBase o name X.env (eval o X.env) = eval o X.env := by rfl)
    (hfew : ((backTo cpos (starEach (e :: es) X.env)).all (fun x => !x.1) && (backToKw cpos (keywordEach [] X.env)).all (fun x => x.1.isSome) && decide ((e :: es).length + ([] : List Keyword).length + (if ([] : List Keyword).isEmpty then 0 else 1) < 30)) = true := by rfl)
    (hline : (apos.endLine == cpos.line) = true := by rfl) (hs : starEach (e :: es) X.env = (false, eval e X.env) :: starEach es X.env := by rfl) (hplain : (backTo cpos (starEach es X.env)).any (·.1) = false := by rfl) :
    PE X (.Call (.Attribute o name apos) (e :: es) [] cpos) (L2.tBM K T r to t) := by
  subst hK
  exact pe_bm pa slot hty hm ho ha hbase hfew hline hs hplain
theorem clsIn_of {K : PySem.W.Frag} {B : Addr} (h : PySem.W.hasDictIn K B = true) : (PySem.W.clsIn K B).isSome = true := by
  obtain ⟨cd, hc, _⟩ := PySem.W.any_some h
  rw [hc] <;> rfl
/-- whether the error D is a B -/
theorem kit_of {K : PySem.W.Frag} {D B : Addr} {b : Bool} (xB : L2.XfC K B) (tB : PySem.W.typeIn K (.ref B) = some (.type "type")) (sd : PySem.W.subIn K (.ref D) (.ref D) = some true) (s : PySem.W.subIn K (.ref D) (.ref B) = some b) : PySem.W.kitOne K (.ref D) (.ref B) = some b := by
  unfold PySem.W.kitOne
  by_cases e : D = B
  · subst e
    rw [sd] at s
    rw [if_pos (beq_self_eq_true _)]
    exact s
  · rw [if_neg (by simpa using e)]
    have e2 : ((PySem.W.clsIn K B).isSome && PySem.W.typeIn K (.ref B) == some (.type "type")) = true := by rw [clsIn_of xB.hdC, tB] <;> rfl
    show (if ((PySem.W.clsIn K B).isSome && PySem.W.typeIn K (.ref B) == some (.type "type")) = true then PySem.W.subIn K (.ref D) (.ref B) else none) = some b
    rw [if_pos e2]
    exact s
theorem kit_ar {K : PySem.W.Frag} {D : Addr} {b : Bool} {x : String} (hm : PySem.W.kitMeta x = true) (s : PySem.W.subIn K (.ref D) (.type x) = some b) : PySem.W.kitOne K (.ref D) (.type x) = some b := by
  unfold PySem.W.kitOne
  rw [if_neg (by intro z; exact absurd (beq_iff_eq.mp z) (by intro q; cases q))]
  show (if PySem.W.kitMeta x = true then PySem.W.subIn K (.ref D) (.type x) else none) = some b
  rw [if_pos hm]
  exact s
/-- the text of repr, of what has a plain one -/
inductive ReprV : V → Str → Prop
  | int (i : Int) (h : i.natAbs.log2 < 1920) : ReprV (.int i) (toString i : String)
  | non : ReprV .non "None"
  | bl (b : Bool) : ReprV (.bl b) (if b then "True" else "False")
  | str (x : Str) (h : (reprText x).length ≤ sizeLine) : ReprV (.str x) (reprText x)
theorem call_reprP {X : Cx} : CallR X (.builtin "repr") (fun xs H Q => ∃ v s, xs = [v] ∧ ReprV v s ∧ Q (.str s) H) := by
  rintro pins s σ H xs us Q I r ⟨v, x, rfl, h, q⟩
  match us, r with
  | [_], .cons rx .nil =>
    cases h with
    | int i h =>
      obtain ⟨t, rfl⟩ := rx
      exact PySem.P.repr_of_int h ⟨.str _, H, I.tok _, ⟨_, rfl⟩, q⟩
    | non =>
      cases rx
      exact PySem.P.repr_of_none ⟨.str _, H, I.tok _, ⟨_, rfl⟩, q⟩
    | bl b =>
      cases rx
      cases b <;> exact PySem.P.repr_of_bool ⟨.str _, H, I.tok _, ⟨_, rfl⟩, q⟩
    | str x h =>
      obtain ⟨t, rfl⟩ := rx
      exact PySem.P.repr_of_str ⟨.str _, H, I.tok _, ⟨_, rfl⟩, q⟩ h
theorem exm_of {K : PySem.W.Frag} {D B : Addr} {b : Bool} (xB : L2.XfC K B) (tB : PySem.W.typeIn K (.ref B) = some (.type "type")) (s : PySem.W.subIn K (.ref D) (.ref B) = some b) : PySem.W.exmOne K (.ref D) (.ref B) = some b := by
  unfold PySem.W.exmOne
  rw [if_pos (by rw [xB.exC] <;> rfl)]
  have e2 : ((PySem.W.clsIn K B).isSome && PySem.W.typeIn K (.ref B) == some (.type "type")) = true := by rw [clsIn_of xB.hdC, tB] <;> rfl
  show (if ((PySem.W.clsIn K B).isSome && PySem.W.typeIn K (.ref B) == some (.type "type")) = true then PySem.W.subIn K (.ref D) (.ref B) else none) = some b
  rw [if_pos e2]
  exact s
/-! ### defs in which lambdas are made -/
theorem DfnT.cal {P : Program} {w : World} {K : PySem.W.Frag} {mg : Str → Option Value} {base : Heap} {x : Str} {st : Stmt} {f c : Addr} {ps : List Str} {k : Nat} {sp : Sp} (D : DfnT K mg x st f c ps) (h : ∀ fd, FunT K x x st f c fd → FnOk P w K mg base CX0 k f fd ps sp) : Cal P w K mg base x k f ps sp := by
  obtain ⟨fd, F, b⟩ := D.ex
  exact ⟨⟨fd, h fd F, b⟩, D.g, F.kp⟩
/-- x(lambda: body), x a def of the text -/
theorem pe_lamc {X : Cx} {T : List (Addr × Str)} {TT : (XK → Hp → VK → Prop) → Hp → VK → Prop} {x a : Str} {g c P : Addr} {k : Nat} {st : Stmt} {Ng : List Str} {params : Arguments} {body : Expr} {scope : Scope} {t : XK → TE} {p lpos pos : Pos} (D : Dfn X.K X.mg x st g [a]) (Sg : FnScope Ng [a] (defScope st)) (hNg : Ng[0]? = some a) (hva : L2.Vis (defScope st) a)
    (hG : ∀ cdv : Value, LamX.GivesTo X Ng x (defScope st) g cdv (defBody st) a (X.env.qual ++ "<lambda>") TT) (TB : LamX.TabB X.base X.mg c P) (hcode : X.env.code = .ref c) (hmT : (P, X.env.qual ++ "<lambda>") ∈ T) (hu : ∀ p ∈ T, p.1 = P → p.2 = X.env.qual ++ "<lambda>") (hr : Room (k + 2) X.A) (Ls : LamX.LamS X.env.scope scope) (hdef : defaultsOf params X.env = ([], []))
    (hbind : ∀ (q : Str) (cl : List (Str × Addr)) (pm cv ctv : Value), bindArgs (PySem.W.kla_fn "<lambda>" q params body scope cl pm cv ctv) ⟨[], []⟩ = pure [])
    (hbody : ∀ (A : Around) (outer : List Env) (s : Shared) (H : Hp) (E : XK) (f c' : Addr), Room k (A.deeper (LamX.lamEnv X scope s.heap.objs.size f c')) → PE (LamX.lamCx X A outer s H E scope f c') body (t E))
    (hg : Gl X x := by rfl) (hdb : (x == ("__debug__" : Str)) = false := by decide) (hd : (a == ("__debug__" : Str)) = false := by decide) (hcd : (a == ("__classdict__" : Str)) = false := by decide) :
    PE X (.Call (.Name x p) [.Lambda params body scope lpos] [] pos) (LamX.tLam T TT t) := by
  obtain ⟨fd, F, b⟩ := D.ex
  obtain ⟨oc, od, kV, doc, pm, an, cdv, ct, osl, rfl, lk, hc⟩ := F.ex
  exact LamX.pe_lamcall hg D.g F.kp lk hc b Sg hNg hva (hG cdv) TB hcode hmT hu hr Ls hdef hbind hbody hdb hd hcd
/-- what stays of a heap over calls that make lambdas -/
theorem ExtN.lst {H H' : Hp} (e : LamX.ExtN H H') {a : Addr} {xs : List V} (h : H a = some (.lst xs)) : H' a = some (.lst xs) := e _ _ h fun _ z => nomatch z
theorem mk_dfnT {K : PySem.W.Frag} {h : Heap} {mg : Str → Option Value} {x : Str} {st : Stmt} {f c : Addr} {oc : Value} {od an : Option Addr} {osl : Array (Option Value)} {kV doc pm ct : Value} {ps : List Str} (X : K.In h) (G : h.Ns mainGlobals mg) (g : PySem.W.nsIn K mainGlobals x = some (some (.ref f)))
    (l : K.lookup f = some ⟨oc, od, .func (PySem.W.fnOf x x (defArgs st) (defBody st) (defScope st) .none kV doc pm an (.ref c) ct), osl⟩) (cd : PySem.W.codeIn K (.ref c) x = true) (k : PySem.W.keepIn K (.ref f) = true)
    (hb : ∀ (kV doc pm : Value) (an : Option Addr) (cdv ct : Value) (us : List Value), us.length = ps.length → bindArgs (PySem.W.fnOf x x (defArgs st) (defBody st) (defScope st) .none kV doc pm an cdv ct) ⟨us, []⟩ = pure (ps.zip us)) : DfnT K mg x st f c ps :=
  ⟨⟨_, ⟨⟨oc, od, kV, doc, pm, an, ct, osl, rfl, l, cd⟩, k⟩, .all (hb kV doc pm an (.ref c) ct)⟩, PySem.W.mg_of X G g⟩
/-- what the end knows of a table and its code object -/
def TabE (K : PySem.W.Frag) (h : Heap) (c P : Addr) : Prop := h.get? P = some { cls := .none, data := .fields #[] } ∧ PySem.W.codeHdIn K c P = true ∧ K.lookup P = none
theorem tabE_of {K : PySem.W.Frag} {h : Heap} {c P : Addr} (h1 : h.get? P = some (PySem.W.tabObj #[])) (h2 : PySem.W.codeHdIn K c P = true) (h3 : K.lookup P = none) : TabE K h c P := ⟨h1, h2, h3⟩
/-! ### the making of errors -/
def spEI2 (C : Addr) (f g : Str) : Sp := fun vs H Q _ => ∃ a v u, vs = [.ref a, v, u] ∧ H a = some (L2.exo a C none) ∧ ∀ dx, H dx = none → dx ≠ a → Q .non (upd (upd (upd H dx (L2.exd dx [(f, v)])) a (L2.exo a C (some dx))) dx (L2.exd dx [(g, u), (f, v)]))
section
variable {P : Program} {w : World} {K : PySem.W.Frag} {mg : Str → Option Value} {base : Heap} {L : LA}
abbrev N_InvalidLoginit : List Str := ["self", "at"]
theorem sc_InvalidLoginit : FnScope N_InvalidLoginit ["self", "at"] (defScope st_InvalidLog_init) := ⟨rfl, rfl, rfl, by decide +kernel, rfl, by decide +kernel, by decide +kernel⟩
theorem fn_InvalidLoginit (T : LX K mg L) {fd : FuncData} (F : Fun K "__init__" "InvalidLog.__init__" st_InvalidLog_init L.i_InvalidLog fd) : FnOk P w K mg base CX0 1 L.i_InvalidLog fd ["self", "at"] (spEI1 L.e_InvalidLog "at") := by
  have nd := sc_InvalidLoginit.nd
  refine F.ok sc_InvalidLoginit (fun vs H Q E h => ?_) (fun cdv A outer S H vs Q E hr h => ?_)
  · obtain ⟨a, v, rfl, _⟩ := h
    rfl
  · obtain ⟨a, v, rfl, ha, k⟩ := h
    refine ⟨_, (pss_one (ps_ae (pv 0) (pv 1))), ?_⟩
    exact ⟨_, rfl, _, rfl, a, L.e_InvalidLog, rfl, T.ae_InvalidLog, T.ne_InvalidLog_at, .inl ⟨ha, fun dx nx ne => k dx nx ne⟩⟩
end
theorem mk_InvalidLog {X : Cx} {L : LA} (T : LX X.K X.mg L) (hr : Room 2 X.A) {e : Expr} {ta : TA} {p pos : Pos} (hg : Gl X "InvalidLog") (ha : PA X [e] ta)
    (he : starEach (e :: []) X.env = (false, eval e X.env) :: starEach [] X.env := by rfl) (hpl : (backTo pos (starEach [] X.env)).any (·.1) = false := by rfl) :
    L2.PMk X (.Call (.Name "InvalidLog" p) [e] [] pos) (L2.tMkO L.e_InvalidLog (spEI1 L.e_InvalidLog "at") [] ta) := by
  obtain ⟨fd, F, b⟩ := T.in_InvalidLog
  exact pmk_ae T.ae_InvalidLog T.hi_InvalidLog T.ti_InvalidLog (fn_InvalidLoginit T F) hr b .nil pass0 hg T.ge_InvalidLog ha (by decide) he hpl

/-! ### draws, mixed -/
/-- a source of draws at a: at most n were drawn -/
def Src (H : Hp) (a : Addr) (n : Nat) : Prop := ∃ x y z : Int, H a = some (.lst [.int x, .int y, .int z]) ∧ 0 ≤ x ∧ 0 ≤ z ∧ z ≤ n
theorem Src.mono {H : Hp} {a : Addr} {n m : Nat} (h : Src H a n) (l : n ≤ m) : Src H a m := by
  obtain ⟨x, y, z, e, h1, h2, h3⟩ := h
  exact ⟨x, y, z, e, h1, h2, by omega⟩
theorem Src.same {H H' : Hp} {a : Addr} {n : Nat} (h : Src H a n) (s : Same H H') : Src H' a n := by
  obtain ⟨x, y, z, e, r⟩ := h
  exact ⟨x, y, z, s _ _ e, r⟩
theorem Src.has {H : Hp} {a : Addr} {n : Nat} (h : Src H a n) : ∃ xs, H a = some (.lst xs) := by
  obtain ⟨x, y, z, e, r⟩ := h
  exact ⟨_, e⟩
def spMix : Sp := fun vs H Q _ => ∃ c k, vs = [.int c, .int k] ∧ 0 ≤ k ∧ k ≤ 2000000 ∧ ∀ r, 0 ≤ r → r < 2147483399 → Q (.int r) H
def spWell : Sp := fun vs H Q _ => ∃ c, vs = [.int c] ∧ ∀ a H', H a = none → Same H H' → Src H' a 0 → Q (.ref a) H'
def spNext : Sp := fun vs H Q _ => ∃ (a : Addr) (m : Int) (n : Nat), vs = [.ref a, .int m] ∧ 0 < m ∧ m.natAbs < 2 ^ 1100 ∧ Src H a n ∧ n ≤ 900000 ∧ ∀ (r : Int) H', 0 ≤ r → r < m → Src H' a (n + 1) → Kp a H H' → Q (.int r) H'
def spOne : Sp := fun vs H Q _ => ∃ (a l : Addr) (xs : List V) (n : Nat), vs = [.ref a, .ref l] ∧ a ≠ l ∧ H l = some (.lst xs) ∧ 0 < xs.length ∧ xs.length ≤ 100000 ∧ Src H a n ∧ n ≤ 900000 ∧ ∀ v H', v ∈ xs → Src H' a (n + 1) → Kp a H H' → Q v H'
theorem atI_of {α : Type} {xs : List α} {i : Int} (h0 : 0 ≤ i) (h1 : i < xs.length) : ∃ v, atI xs i = some v ∧ v ∈ xs := by
  have hj : i.toNat < xs.length := by omega
  refine ⟨xs[i.toNat], ?_, List.getElem_mem _⟩
  have e : ((i.toNat : Nat) : Int) = i := by omega
  have := atI_nat (xs := xs) (j := i.toNat) (v := xs[i.toNat]) (List.getElem?_eq_getElem hj)
  rwa [e] at this
section
variable {P : Program} {w : World} {K : PySem.W.Frag} {mg : Str → Option Value} {base : Heap} {L : LA}
abbrev N_wmixed : List Str := ["_law_cell", "_law_k", "_law_figure"]
theorem sc_wmixed : FnScope N_wmixed ["_law_cell", "_law_k"] (defScope st__law_mixed) := ⟨rfl, rfl, rfl, by decide +kernel, rfl, by decide +kernel, by decide +kernel⟩
theorem fn_wmixed (T : LX K mg L) {fd : FuncData} (F : Fun K "_law_mixed" "_law_mixed" st__law_mixed L.f__law_mixed fd) : FnOk P w K mg base CX0 1 L.f__law_mixed fd ["_law_cell", "_law_k"] (spMix) := by
  have nd := sc_wmixed.nd
  refine F.ok sc_wmixed (fun vs H Q E h => ?_) (fun cdv A outer S H vs Q E hr h => ?_)
  · obtain ⟨c, kk, rfl, _⟩ := h
    rfl
  · obtain ⟨c, kk, rfl, k0, k1, k⟩ := h
    refine ⟨_, (pss_cons (ps_set (i := 2) nd rfl (Or.inl rfl) (pe_op op_mod (pe_callTy call_int1 (by rfl) T.b_int (by decide +kernel) (pa_cons (pe_op op_pow (pe_op op_add (pe_op op_add (pe_op op_mod (pe_callTy call_int1 (by rfl) T.b_int (by decide +kernel) (pa_cons (pv 0) pa_nil)) pe_int) (pe_op op_mulW pe_int (pv 1))) pe_int) pe_int) pa_nil)) pe_int))
       (pss_cons (ps_set (i := 2) nd rfl (Or.inl rfl) (pe_op op_mod (pe_callTy call_int1 (by rfl) T.b_int (by decide +kernel) (pa_cons (pe_op op_add (pv 2) (pe_op op_mulW (pe_op op_mod (pe_callTy call_int1 (by rfl) T.b_int (by decide +kernel) (pa_cons (pe_op op_fdivW (pv 0) pe_int) pa_nil)) pe_int) (pe_op op_add (pv 1) pe_int))) pa_nil)) pe_int))
       (pss_cons (ps_set (i := 2) nd rfl (Or.inl rfl) (pe_op op_mod (pe_callTy call_int1 (by rfl) T.b_int (by decide +kernel) (pa_cons (pe_op op_mulW (pv 2) (pe_op op_add (pe_op op_add (pe_op op_fdivW (pv 2) pe_int) pe_int) (pv 1))) pa_nil)) pe_int))
       (pss_one (ps_ret (pe_op op_mod (pe_callTy call_int1 (by rfl) T.b_int (by decide +kernel) (pa_cons (pe_op op_mulW (pv 2) (pe_op op_add (pe_op op_fdivW (pv 2) pe_int) pe_int)) pa_nil)) pe_int)))))), ?_⟩
    have cm1 : CMulW 30011 kk := wide_mul (a := 30) (b := 30) (by decide) (Nat.lt_of_le_of_lt (show kk.natAbs ≤ 2000000 by omega) (by decide)) (by decide) (by decide) (by decide)
    have m0 := Int.emod_nonneg c (show (2147483629 : Int) ≠ 0 by decide)
    have m1 := Int.emod_lt_of_pos c (show (0 : Int) < 2147483629 by decide)
    refine ⟨_, rfl, .inl ⟨_, rfl, _, _, rfl, rfl, (by show (0 : Int) < 2147483629; decide), _, rfl, _, _, rfl, rfl, cm1, _, _, rfl, rfl, _, _, rfl, rfl, _, _, rfl, rfl, ⟨by decide, by decide, ?_⟩, .inl ⟨_, rfl, _, _, rfl, rfl, (by show (0 : Int) < 2147483647; decide), ?_⟩⟩⟩
    · exact Nat.lt_of_le_of_lt (show (c % 2147483629 + 30011 * kk + 7).natAbs ≤ 100000000000 by omega) (by decide)
    have a0 := Int.emod_nonneg ((c % 2147483629 + 30011 * kk + 7) ^ (3 : Int).toNat) (show (2147483647 : Int) ≠ 0 by decide)
    have a1 := Int.emod_lt_of_pos ((c % 2147483629 + 30011 * kk + 7) ^ (3 : Int).toNat) (show (0 : Int) < 2147483647 by decide)
    dsimp only
    generalize (c % 2147483629 + 30011 * kk + 7) ^ (3 : Int).toNat % 2147483647 = f1 at a0 a1 ⊢
    have b0 := Int.emod_nonneg (c / 2147483629) (show (65537 : Int) ≠ 0 by decide)
    have b1 := Int.emod_lt_of_pos (c / 2147483629) (show (0 : Int) < 65537 by decide)
    have cm2 : CMulW (c / 2147483629 % 65537) (kk + 5) := wide_mul (a := 30) (b := 30) (Nat.lt_of_le_of_lt (show (c / 2147483629 % 65537).natAbs ≤ 70000 by omega) (by decide)) (Nat.lt_of_le_of_lt (show (kk + 5).natAbs ≤ 2000005 by omega) (by decide)) (by decide) (by decide) (by decide)
    refine ⟨_, rfl, _, rfl, _, _, rfl, rfl, wide_div (b := 40) (by decide) (by decide) (by decide) (by decide), .inl ⟨_, rfl, _, _, rfl, rfl, (by show (0 : Int) < 65537; decide), _, rfl, _, _, rfl, rfl, _, _, rfl, rfl, cm2, _, _, rfl, rfl, .inl ⟨_, rfl, _, _, rfl, rfl, (by show (0 : Int) < 2147483587; decide), ?_⟩⟩⟩
    have c0 := Int.emod_nonneg (f1 + c / 2147483629 % 65537 * (kk + 5)) (show (2147483587 : Int) ≠ 0 by decide)
    have c1 := Int.emod_lt_of_pos (f1 + c / 2147483629 % 65537 * (kk + 5)) (show (0 : Int) < 2147483587 by decide)
    dsimp only
    generalize (f1 + c / 2147483629 % 65537 * (kk + 5)) % 2147483587 = f2 at c0 c1 ⊢
    have d2 : f2 / 1009 ≤ f2 := Int.ediv_le_self _ c0
    have d3 : 0 ≤ f2 / 1009 := Int.ediv_nonneg c0 (by decide)
    have cm3 : CMulW f2 (f2 / 1009 + 69621 + kk) := wide_mul (a := 40) (b := 40) (Nat.lt_of_le_of_lt (show f2.natAbs ≤ 3000000000 by omega) (by decide)) (Nat.lt_of_le_of_lt (show (f2 / 1009 + 69621 + kk).natAbs ≤ 3000000000 by omega) (by decide)) (by decide) (by decide) (by decide)
    refine ⟨_, rfl, _, rfl, _, _, rfl, rfl, wide_div (b := 40) (by decide) (by decide) (by decide) (by decide), _, _, rfl, rfl, _, rfl, _, _, rfl, rfl, _, _, rfl, rfl, cm3, .inl ⟨_, rfl, _, _, rfl, rfl, (by show (0 : Int) < 2147483563; decide), ?_⟩⟩
    have g0 := Int.emod_nonneg (f2 * (f2 / 1009 + 69621 + kk)) (show (2147483563 : Int) ≠ 0 by decide)
    have g1 := Int.emod_lt_of_pos (f2 * (f2 / 1009 + 69621 + kk)) (show (0 : Int) < 2147483563 by decide)
    dsimp only
    generalize f2 * (f2 / 1009 + 69621 + kk) % 2147483563 = f3 at g0 g1 ⊢
    have h2 : f3 / 2003 ≤ f3 := Int.ediv_le_self _ g0
    have h3 : 0 ≤ f3 / 2003 := Int.ediv_nonneg g0 (by decide)
    have cm4 : CMulW f3 (f3 / 2003 + 40692) := wide_mul (a := 40) (b := 40) (Nat.lt_of_le_of_lt (show f3.natAbs ≤ 3000000000 by omega) (by decide)) (Nat.lt_of_le_of_lt (show (f3 / 2003 + 40692).natAbs ≤ 3000000000 by omega) (by decide)) (by decide) (by decide) (by decide)
    refine ⟨_, rfl, _, rfl, _, _, rfl, rfl, wide_div (b := 40) (by decide) (by decide) (by decide) (by decide), _, _, rfl, rfl, _, _, rfl, rfl, cm4, .inl ⟨_, rfl, _, _, rfl, rfl, (by show (0 : Int) < 2147483399; decide), ?_⟩⟩
    exact k _ (Int.emod_nonneg _ (by decide)) (Int.emod_lt_of_pos _ (by decide))
theorem ok_wmixed (T : LX K mg L) : Cal P w K mg base "_law_mixed" 1 L.f__law_mixed ["_law_cell", "_law_k"] (spMix) := T.d__law_mixed.cal fun fd F => fn_wmixed T F
abbrev N_wwell : List Str := ["_law_cell"]
theorem sc_wwell : FnScope N_wwell ["_law_cell"] (defScope st__law_well) := ⟨rfl, rfl, rfl, by decide +kernel, rfl, by decide +kernel, by decide +kernel⟩
theorem fn_wwell (T : LX K mg L) {fd : FuncData} (F : Fun K "_law_well" "_law_well" st__law_well L.f__law_well fd) : FnOk P w K mg base CX0 1 L.f__law_well fd ["_law_cell"] (spWell) := by
  have nd := sc_wwell.nd
  refine F.ok sc_wwell (fun vs H Q E h => ?_) (fun cdv A outer S H vs Q E hr h => ?_)
  · obtain ⟨c, rfl, _⟩ := h
    rfl
  · obtain ⟨c, rfl, k⟩ := h
    refine ⟨_, (pss_one (ps_ret (pe_lst (pa_cons (pe_op op_mul (pv 0) (pe_callTy call_int1 (by rfl) T.b_int (by decide +kernel) (pa_cons (pe_cmpR op_ge (pv 0) (pe_op op_pow pe_int pe_int) (nomark _)) pa_nil))) (pa_cons (pv 0) (pa_cons pe_int pa_nil)))))), ?_⟩
    refine ⟨_, rfl, _, rfl, _, _, rfl, rfl, ⟨by decide, by decide, by decide⟩, _, _, rfl, rfl, .inr ⟨_, rfl, _, _, rfl, rfl, ?_, ?_⟩⟩
    · refine .inr ?_
      split <;> decide
    · refine ⟨_, rfl, (by show 3 ≤ sizeLine; decide), fun l hl => ?_⟩
      refine k l _ hl (Same.upd hl) ⟨_, _, _, upd_same, ?_, Int.le_refl _, Int.le_refl _⟩
      by_cases hc : (10 : Int) ^ (18 : Int).toNat ≤ c
      · rw [decide_eq_true hc, if_pos rfl, Int.mul_one]
        exact Int.le_trans (by decide) hc
      · rw [decide_eq_false hc, if_neg Bool.false_ne_true, Int.mul_zero]
        exact Int.le_refl _
theorem ok_wwell (T : LX K mg L) : Cal P w K mg base "_law_well" 1 L.f__law_well ["_law_cell"] (spWell) := T.d__law_well.cal fun fd F => fn_wwell T F
abbrev N_wdraw : List Str := ["_law_well_here", "_law_many", "_law_found"]
theorem sc_wdraw : FnScope N_wdraw ["_law_well_here", "_law_many"] (defScope st__law_draw) := ⟨rfl, rfl, rfl, by decide +kernel, rfl, by decide +kernel, by decide +kernel⟩
theorem fn_wdraw (T : LX K mg L) {fd : FuncData} (F : Fun K "_law_draw" "_law_draw" st__law_draw L.f__law_draw fd) : FnOk P w K mg base CX0 2 L.f__law_draw fd ["_law_well_here", "_law_many"] (spNext) := by
  have G_wmixed := ok_wmixed (P := P) (w := w) (base := base) T
  have nd := sc_wdraw.nd
  refine F.ok sc_wdraw (fun vs H Q E h => ?_) (fun cdv A outer S H vs Q E hr h => ?_)
  · obtain ⟨a, m, n, rfl, _⟩ := h
    rfl
  · obtain ⟨a, m, n, rfl, m0, m1, ⟨x, y, z, ha, x0, z0, z1⟩, hn, k⟩ := h
    refine ⟨_, (pss_cons (ps_if (pt_cmpR op_gt (pe_ix (r := rIxL K) ix_list (pv 0) pe_int (fun _ _ => rfl)) pe_int (nomark _)) (pss_cons (ps_set (i := 2) nd rfl (Or.inl rfl) (pe_op op_mod (pe_callTy call_int1 (by rfl) T.b_int (by decide +kernel) (pa_cons (pe_ix (r := rIxL K) ix_list (pv 0) pe_int (fun _ _ => rfl)) pa_nil)) (pv 1)))
       (pss_cons (ps_asg (pe_op op_fdivW (pe_ix (r := rIxL K) ix_list (pv 0) pe_int (fun _ _ => rfl)) (pv 1)) (pg_sub (pv 0) pe_int set_list))
       (pss_one (ps_ret (pv 2))))) pss_nil)
       (pss_cons (ps_asg (pe_op op_add (pe_ix (r := rIxL K) ix_list (pv 0) pe_int (fun _ _ => rfl)) pe_int) (pg_sub (pv 0) pe_int set_list))
       (pss_one (ps_ret (pe_op op_mod (pe_callTy call_int1 (by rfl) T.b_int (by decide +kernel) (pa_cons (pe_c G_wmixed (hr.mono (by decide)) rfl (pa_cons (pe_ix (r := rIxL K) ix_list (pv 0) pe_int (fun _ _ => rfl)) (pa_cons (pe_ix (r := rIxL K) ix_list (pv 0) pe_int (fun _ _ => rfl)) pa_nil))) pa_nil)) (pv 1)))))), ?_⟩
    refine ⟨_, rfl, _, _, _, _, rfl, rfl, SqL.of ha, rfl, _, _, rfl, rfl, _, rfl, ?_⟩
    refine ite2 (fun c => ?_) (fun c => ?_)
    · refine ⟨_, rfl, _, _, _, _, rfl, rfl, SqL.of ha, rfl, .inl ⟨_, rfl, _, rfl, _, _, rfl, rfl, m0, ?_⟩⟩
      refine ⟨_, rfl, _, _, _, _, rfl, rfl, SqL.of ha, rfl, _, rfl, _, _, rfl, rfl, wide_div m0 m1 (by decide) (by decide), ?_⟩
      refine ⟨_, rfl, _, _, _, 0, rfl, rfl, ha, rfl, ?_⟩
      refine ⟨_, rfl, ?_⟩
      exact k _ _ (Int.emod_nonneg _ (by omega)) (Int.emod_lt_of_pos _ m0) ⟨_, _, _, upd_same, Int.ediv_nonneg x0 (by omega), z0, by omega⟩ Kp.upd
    · refine ⟨_, rfl, _, _, _, _, rfl, rfl, SqL.of ha, rfl, _, _, rfl, rfl, ?_⟩
      refine ⟨_, rfl, _, _, _, 2, rfl, rfl, ha, rfl, ?_⟩
      have hA : (upd H a (.lst [.int x, .int y, .int (z + 1)])) a = some (.lst [.int x, .int y, .int (z + 1)]) := upd_same
      refine ⟨_, rfl, _, _, _, _, rfl, rfl, SqL.of hA, rfl, _, rfl, _, _, _, _, rfl, rfl, SqL.of hA, rfl, y, z + 1, rfl, by omega, by omega, fun r r0 r1 => .inl ⟨_, rfl, _, rfl, _, _, rfl, rfl, m0, ?_⟩⟩
      exact k _ _ (Int.emod_nonneg _ (by omega)) (Int.emod_lt_of_pos _ m0) ⟨_, _, _, hA, x0, by omega, by omega⟩ Kp.upd
theorem ok_wdraw (T : LX K mg L) : Cal P w K mg base "_law_draw" 2 L.f__law_draw ["_law_well_here", "_law_many"] (spNext) := T.d__law_draw.cal fun fd F => fn_wdraw T F
abbrev N_wone : List Str := ["_law_well_here", "_law_some"]
theorem sc_wone : FnScope N_wone ["_law_well_here", "_law_some"] (defScope st__law_one) := ⟨rfl, rfl, rfl, by decide +kernel, rfl, by decide +kernel, by decide +kernel⟩
theorem fn_wone (T : LX K mg L) {fd : FuncData} (F : Fun K "_law_one" "_law_one" st__law_one L.f__law_one fd) : FnOk P w K mg base CX0 3 L.f__law_one fd ["_law_well_here", "_law_some"] (spOne) := by
  have G_wdraw := ok_wdraw (P := P) (w := w) (base := base) T
  have nd := sc_wone.nd
  refine F.ok sc_wone (fun vs H Q E h => ?_) (fun cdv A outer S H vs Q E hr h => ?_)
  · obtain ⟨a, l, xs, n, rfl, _⟩ := h
    rfl
  · obtain ⟨a, l, xs, n, rfl, hal, hl, x0, x1, hs, hn, k⟩ := h
    refine ⟨_, (pss_one (ps_ret (pe_ix (r := rIxL K) ix_list (pv 1) (pe_c G_wdraw (hr.mono (by decide)) rfl (pa_cons (pv 0) (pa_cons (pe_callB call_len_seq (by rfl) T.b_len PySem.boot_len (pa_cons (pv 1) pa_nil)) pa_nil))) (fun _ _ => rfl)))), ?_⟩
    refine ⟨_, rfl, _, rfl, _, rfl, l, xs, rfl, .inl (SqL.of hl), a, _, n, rfl, by omega, ?_, hs, hn, fun r H' r0 r1 hs' hk => ?_⟩
    · exact Nat.lt_of_le_of_lt (show ((xs.length : Int)).natAbs ≤ 100000 by omega) (by decide)
    · obtain ⟨v, hv, hm⟩ := atI_of (xs := xs) r0 r1
      exact ⟨l, xs, r, v, rfl, rfl, SqL.of (hk _ _ hal.symm hl), hv, k v H' hm hs' hk⟩
theorem ok_wone (T : LX K mg L) : Cal P w K mg base "_law_one" 3 L.f__law_one ["_law_well_here", "_law_some"] (spOne) := T.d__law_one.cal fun fd F => fn_wone T F
end
/-! ### a request at one breaker -/
instance psDec (b : Tri) (s : StD) (t : Int) : Decidable (psB b s t) := by
  unfold psB
  infer_instance
def stpS (b : Tri) (s : StD) (t : Int) (g : Bool) : StD := if g = true then okS b s else badS b s t
theorem okS_closed {b : Tri} {s : StD} (h : s.1 = "closed") : okS b s = (("closed", 0) : StD) := by
  have e : hfS s = s := if_neg (by rw [h]; exact sC_O)
  unfold okS
  rw [e]
  exact if_neg fun q => sC_H (h.symm.trans q.1)
theorem okS_half {b : Tri} {s : StD} (h : s.1 = "half") : okS b s = if s.2 + 1 < b.2.2 then (("half", s.2 + 1) : StD) else ("closed", 0) := by
  have e : hfS s = s := if_neg (by rw [h]; exact sH_O)
  unfold okS
  rw [e]
  by_cases c : s.2 + 1 < b.2.2
  · rw [if_pos c, if_pos ⟨h, c⟩]
  · rw [if_neg c, if_neg fun q => c q.2]
theorem okS_open {b : Tri} {s : StD} (h : s.1 = "open") : okS b s = if 1 < b.2.2 then (("half", 1) : StD) else ("closed", 0) := by
  have e : hfS s = (("half", 0) : StD) := if_pos h
  unfold okS
  rw [e]
  by_cases c : (1 : Int) < b.2.2
  · rw [if_pos c, if_pos ⟨rfl, by show (0 : Int) + 1 < b.2.2; omega⟩]
    rfl
  · rw [if_neg c, if_neg fun q => c (by have q2 : (0 : Int) + 1 < b.2.2 := q.2; omega)]
theorem badS_closed {b : Tri} {s : StD} {t : Int} (h : s.1 = "closed") : badS b s t = if s.2 + 1 < b.1 then (("closed", s.2 + 1) : StD) else ("open", t) := by
  have e : hfS s = s := if_neg (by rw [h]; exact sC_O)
  unfold badS
  rw [e]
  by_cases c : s.2 + 1 < b.1
  · rw [if_pos c, if_pos ⟨h, c⟩]
  · rw [if_neg c, if_neg fun q => c q.2]
theorem badS_other {b : Tri} {s : StD} {t : Int} (h : ¬ s.1 = "closed") : badS b s t = (("open", t) : StD) := by
  unfold badS
  refine if_neg fun q => ?_
  have q1 := q.1
  unfold hfS at q1
  split at q1
  · exact sH_C q1
  · exact h q1
def spPasses : Sp := fun vs H Q _ => ∃ x y b s t, vs = [x, y, .int t] ∧ BrAt H x b ∧ StAt H y s ∧ Q (.bl (decide (psB b s t))) H
def spBehind : Sp := fun vs H Q _ => ∃ x y b s t g, vs = [x, y, .int t, .bl g] ∧ BrAt H x b ∧ StAt H y s ∧ okW s ∧ ∀ c H', H' c = some (.tup [.str (stpS b s t g).1, .int (stpS b s t g).2]) → Same H H' → H c = none → Q (.ref c) H'
section
variable {P : Program} {w : World} {K : PySem.W.Frag} {mg : Str → Option Value} {base : Heap} {L : LA}
end
/-! ### logs of one breaker -/
def nxG (b : Tri) (s : StD) (t : Int) : StD := if psB b s t then badS b s t else s
def stG (b : Tri) (s : StD) (ns : List Int) : StD := ns.foldl (nxG b) s
def lgG (b : Tri) : StD → List Int → List (Int × Bool)
  | _, [] => []
  | s, t :: r => (t, decide (psB b s t)) :: lgG b (nxG b s t) r
theorem stG_app (b : Tri) (s : StD) (xs : List Int) (t : Int) : stG b s (xs ++ [t]) = nxG b (stG b s xs) t := by
  unfold stG
  rw [List.foldl_append]
  rfl
theorem lgG_app (b : Tri) : ∀ (xs : List Int) (s : StD) (t : Int), lgG b s (xs ++ [t]) = lgG b s xs ++ [(t, decide (psB b (stG b s xs) t))]
  | [], _, _ => rfl
  | x :: xs, s, t => by
    show (x, decide (psB b s x)) :: lgG b (nxG b s x) (xs ++ [t]) = _
    rw [lgG_app b xs]
    rfl
theorem lgG_len (b : Tri) : ∀ (xs : List Int) (s : StD), (lgG b s xs).length = xs.length
  | [], _ => rfl
  | x :: xs, s => congrArg Nat.succ (lgG_len b xs _)
theorem bad_W (b : Tri) (s : StD) (t : Int) : okW (badS b s t) := by
  unfold badS
  split
  · exact .inl rfl
  · exact .inr (.inl rfl)
theorem nxG_W {b : Tri} {s : StD} {t : Int} (h : okW s) : okW (nxG b s t) := by
  unfold nxG
  split
  · exact bad_W b s t
  · exact h
/-- what is counted of a breaker that only fails: the failures left, and the time of opening -/
inductive LfR (b : Tri) : StD → Int → V → Prop where
  | cl (n : Int) (n0 : 0 ≤ n) (n1 : n < b.1) : LfR b ("closed", n) (b.1 - n) .non
  | op (t : Int) : LfR b ("open", t) 0 (.int t)
def lfN (b : Tri) (s : StD) (t : Int) : StD := nxG b s t
def LgAt (H : Hp) (x : V) (p : Int × Bool) : Prop := ∃ a, x = .ref a ∧ H a = some (.tup [.int p.1, .bl p.2])
abbrev Lgs (H : Hp) (xs : List V) (ps : List (Int × Bool)) : Prop := Paired (LgAt H) xs ps
theorem Lgs.nl {H H' : Hp} (k : NL H H') {xs : List V} {ps : List (Int × Bool)} (h : Lgs H xs ps) : Lgs H' xs ps := L2.Paired.mapP h fun _ _ ⟨a, e, h⟩ => ⟨a, e, k _ _ h fun _ z => nomatch z⟩
theorem Lgs.same {H H' : Hp} (s : Same H H') {xs : List V} {ps : List (Int × Bool)} (h : Lgs H xs ps) : Lgs H' xs ps := h.nl (NL.of s)
def lgD (p : Int × Bool) : PyData := .tuple [.int p.1, .bool p.2]
theorem Lgs.dp {K : PySem.W.Frag} {H : Hp} : ∀ {xs : List V} {ps : List (Int × Bool)}, Lgs H xs ps → DpAll K H xs (ps.map lgD)
  | _, _, .nil => .nil
  | _, _, .cons ⟨a, e, h⟩ t => by
    subst e
    exact .cons (.tup (SqT.of h) (.cons (.int _) (.cons (.bl _) .nil))) (Lgs.dp t)
theorem Lgs.dpl {K : PySem.W.Frag} {H : Hp} {l : Addr} {ys : List V} {ps : List (Int × Bool)} (h : H l = some (.lst ys)) (s : Lgs H ys ps) : Dp K H (.ref l) (.list (ps.map lgD)) := .lst (SqL.of h) s.dp
theorem lg_can : ∀ ps : List (Int × Bool), PyData.canLayAll0 (ps.map lgD) = true ∧ PyData.depthAll (ps.map lgD) ≤ 10
  | [] => ⟨by simp [PyData.canLayAll0], by simp [PyData.depthAll]⟩
  | p :: ps => by
    obtain ⟨h1, h2⟩ := lg_can ps
    refine ⟨?_, ?_⟩
    · rw [List.map_cons, PyData.canLayAll0, h1]
      simp [lgD, PyData.canLay0, PyData.canLayAll0]
    · rw [List.map_cons, PyData.depthAll]
      have h3 : (lgD p).depth ≤ 10 := by simp [lgD, PyData.depth, PyData.depthAll]
      omega
theorem lg_sh (ps : List (Int × Bool)) : SeqAt.shaped (.list (ps.map lgD)) = true := by
  obtain ⟨h1, h2⟩ := lg_can ps
  refine Bool.and_eq_true_iff.mpr ⟨?_, decide_eq_true ?_⟩
  · rw [PyData.canLay0]
    exact h1
  · rw [PyData.depth]
    omega
theorem lgD_eq (p q : Int × Bool) : PyData.eqv (lgD p) (lgD q) = decide (p = q) := by
  obtain ⟨a, b⟩ := p
  obtain ⟨a', b'⟩ := q
  simp only [lgD, PyData.eqv, PyData.eqvAll, Bool.and_true]
  rw [Bool.eq_iff_iff]
  simp [Prod.ext_iff]
theorem lgDs_eq : ∀ ps qs : List (Int × Bool), PyData.eqvAll (ps.map lgD) (qs.map lgD) = decide (ps = qs)
  | [], [] => by simp [PyData.eqvAll]
  | [], _ :: _ => by simp [PyData.eqvAll]
  | _ :: _, [] => by simp [PyData.eqvAll]
  | p :: ps, q :: qs => by
    rw [List.map_cons, List.map_cons, PyData.eqvAll, lgD_eq, lgDs_eq ps qs, Bool.eq_iff_iff]
    simp
theorem lg_eq (ps qs : List (Int × Bool)) : PyData.eqv (.list (ps.map lgD)) (.list (qs.map lgD)) = decide (ps = qs) := by
  rw [PyData.eqv]
  exact lgDs_eq ps qs
/-- ascending times from a least one on -/
def Asc : Int → List Int → Prop
  | _, [] => True
  | lo, t :: r => lo ≤ t ∧ Asc (t + 1) r
/-- the least time that may follow -/
def lstG : Int → List Int → Int
  | lo, [] => lo
  | _, t :: r => lstG (t + 1) r
theorem asc_take : ∀ {lo : Int} {ns : List Int} {i : Nat} {t : Int}, Asc lo ns → ns[i]? = some t → (lstG lo (ns.take i)) ≤ t := by
  intro lo ns
  induction ns generalizing lo with
  | nil => intro i t h e; cases e
  | cons x r ih =>
    intro i t h e
    cases i with
    | zero => cases e; exact h.1
    | succ i =>
      show lstG (x + 1) (r.take i) ≤ t
      exact ih (i := i) h.2 e
theorem lst_app : ∀ (lo : Int) (ns : List Int) (t : Int), lstG lo (ns ++ [t]) = t + 1
  | _, [], _ => rfl
  | _, x :: r, t => lst_app (x + 1) r t
def spChkT : Sp := fun vs H Q _ => ∃ a ns, vs = [.ref a] ∧ H a = some (.lst (ns.map V.int)) ∧ Asc 0 ns ∧ ns.length ≤ 1000 ∧ ∀ H', Same H H' → Q .non H'
def spLogOf : Sp := fun vs H Q _ => ∃ x b a ns, vs = [x, .ref a] ∧ BrAt H x b ∧ OkT b ∧ H a = some (.lst (ns.map V.int)) ∧ Asc 0 ns ∧ ns.length ≤ 1000 ∧ ∀ l zs H', H' l = some (.lst zs) → Lgs H' zs (lgG b ("closed", 0) ns) → Same H H' → H l = none → Q (.ref l) H'
section
variable {P : Program} {w : World} {K : PySem.W.Frag} {mg : Str → Option Value} {base : Heap} {L : LA}
end
/-! ### sources kept -/
theorem src_kp {H H' : Hp} {s l : Addr} {n : Nat} (k : Kp l H H') (h : s ≠ l) (S : Src H s n) : Src H' s n := by
  obtain ⟨x, y, z, e, r⟩ := S
  exact ⟨x, y, z, k _ _ h e, r⟩
/-! ### which error a call raises (_law_said) -/
abbrev N_wsaid : List Str := ["_law_deed", "_law_found", "e", "_law_kinds", "_law_others"]
theorem sc_wsaid : FnScope N_wsaid ["_law_deed"] (defScope st__law_said) := ⟨rfl, rfl, rfl, by decide +kernel, rfl, by decide +kernel, by decide +kernel⟩
def sdB : List Bool → List V := List.map V.bl
/-- what the text says of an error D: of which of the classes it is -/
structure ErrF (K : PySem.W.Frag) (L : LA) (D : Addr) (r t o i b l : Bool) : Prop where
  isC : IsC K D
  xf : L2.XfC K D
  kr : PySem.W.kitOne K (.ref D) (.ref L.e_InvalidRow) = some r
  kt : PySem.W.kitOne K (.ref D) (.ref L.e_InvalidTime) = some t
  ko : PySem.W.kitOne K (.ref D) (.ref L.e_InvalidOutages) = some o
  ki : PySem.W.kitOne K (.ref D) (.ref L.e_InvalidIndex) = some i
  kb : PySem.W.kitOne K (.ref D) (.ref L.e_InvalidBound) = some b
  kl : PySem.W.kitOne K (.ref D) (.ref L.e_InvalidLog) = some l
  oth : PySem.W.kitAny K (.ref D) [.ref L.e_InvalidTrains, .ref L.e_InvalidCall, .ref L.e_InvalidText, .ref L.e_LimitExceeded] = some false
  ar : PySem.W.kitOne K (.ref D) (.type "ArithmeticError") = some true
  br : PySem.W.exmOne K (.ref D) (.ref L.e_BreakerError) = some true
/-- an error that the call may raise, and what _law_said makes of it -/
inductive SaidA (K : PySem.W.Frag) (D dd : Addr) (H : Hp) (Q : VK) : List Bool → Prop where
  | row (x y : V) (n1 : PySem.W.findIn K (.ref D) "part" = some none) (n2 : PySem.W.findIn K (.ref D) "at" = some none) (h : H dd = some (.xd [("at", y), ("part", x)])) (k : ∀ p H', H' p = some (.tup [.str "row", x, y]) → Same H H' → H p = none → Q (.ref p) H') : SaidA K D dd H Q [true, false, false, false, false, false]
  | time (v : V) (z : Str) (n1 : PySem.W.findIn K (.ref D) "time" = some none) (h : H dd = some (.xd [("time", v)])) (r : ReprV v z) (k : ∀ p H', H' p = some (.tup [.str "time", .str z]) → Same H H' → H p = none → Q (.ref p) H') : SaidA K D dd H Q [false, true, false, false, false, false]
  | outages (v : V) (n1 : PySem.W.findIn K (.ref D) "at" = some none) (h : H dd = some (.xd [("at", v)])) (k : ∀ p H', H' p = some (.tup [.str "outages", v]) → Same H H' → H p = none → Q (.ref p) H') : SaidA K D dd H Q [false, false, true, false, false, false]
  | index (v : V) (z : Str) (n1 : PySem.W.findIn K (.ref D) "index" = some none) (h : H dd = some (.xd [("index", v)])) (r : ReprV v z) (k : ∀ p H', H' p = some (.tup [.str "index", .str z]) → Same H H' → H p = none → Q (.ref p) H') : SaidA K D dd H Q [false, false, false, true, false, false]
  | bound (v : V) (n1 : PySem.W.findIn K (.ref D) "part" = some none) (h : H dd = some (.xd [("part", v)])) (k : ∀ p H', H' p = some (.tup [.str "bound", v]) → Same H H' → H p = none → Q (.ref p) H') : SaidA K D dd H Q [false, false, false, false, true, false]
  | log (v : V) (n1 : PySem.W.findIn K (.ref D) "at" = some none) (h : H dd = some (.xd [("at", v)])) (k : ∀ p H', H' p = some (.tup [.str "log", v]) → Same H H' → H p = none → Q (.ref p) H') : SaidA K D dd H Q [false, false, false, false, false, true]
theorem SaidA.has {K : PySem.W.Frag} {D dd : Addr} {H : Hp} {Q : VK} {bs : List Bool} (h : SaidA K D dd H Q bs) : (∃ fs, H dd = some (.xd fs)) ∧ bs.count true = 1 := by
  cases h with
  | row x y n1 n2 h k => exact ⟨⟨_, h⟩, rfl⟩
  | time v z n1 h r k => exact ⟨⟨_, h⟩, rfl⟩
  | outages v n1 h k => exact ⟨⟨_, h⟩, rfl⟩
  | index v z n1 h r k => exact ⟨⟨_, h⟩, rfl⟩
  | bound v n1 h k => exact ⟨⟨_, h⟩, rfl⟩
  | log v n1 h k => exact ⟨⟨_, h⟩, rfl⟩
def SaidR (K : PySem.W.Frag) (L : LA) (cls : Value) (d : Option Addr) (H : Hp) (Q : VK) : Prop := ∃ (D dd : Addr) (r t o i b l : Bool), cls = .ref D ∧ d = some dd ∧ ErrF K L D r t o i b l ∧ SaidA K D dd H Q [r, t, o, i, b, l]
theorem ixB {K : PySem.W.Frag} {σ : L2.St} {H : Hp} {p : Addr} {bs : List Bool} {j : Nat} {c : Bool} {Q : Bool → Hp → Prop} (h1 : σ[3]? = some (some (.ref p))) (h2 : H p = some (.lst (sdB bs))) (h3 : bs[j]? = some c) (q : Q c H) : tB (tOp (rIxL K) (tVar 3) (tC (V.int (j : Nat)))) σ H Q :=
  ⟨_, h1, p, _, (j : Nat), .bl c, rfl, rfl, SqL.of h2, atI_nat (by unfold sdB; rw [List.getElem?_map, h3]; rfl), c, rfl, q⟩
theorem cntB {r t o i b l : Bool} (one : [r, t, o, i, b, l].count true = 1) : ([.bool r, .bool t, .bool o, .bool i, .bool b, .bool l] : List PyData).countP (fun e => PyData.eqv e (.bool true)) = 1 := by
  revert one
  cases r <;> cases t <;> cases o <;> cases i <;> cases b <;> cases l <;> simp [PyData.eqv]
/-- the lambda ends well, or with such an error -/
def TTsaid (K : PySem.W.Frag) (L : LA) : (XK → Hp → VK → Prop) → Hp → VK → Prop := fun tl H Q => ∀ (E : XK) (N : VK), (∀ cls d H', SaidR K L cls d H' Q → E cls d H') → (∀ v H', Q .non H' → N v H') → tl E H N
theorem Takes.long {X : Cx} {W : L2.WX} (tk : L2.Takes X W) : L2.Takes X (fun cls d σ H => σ.length = X.N.length → W cls d σ H) := fun u s' x => by
  obtain ⟨a, B, sI, pins, σ, H, cls, d, e, I, nb, up, sky, na, os, ag, w⟩ := x
  exact tk u s' ⟨a, B, sI, pins, σ, H, cls, d, e, I, nb, up, sky, na, os, ag, w I.len⟩
theorem said_gives {X : Cx} {L : LA} (T : LX X.K X.mg L) (hr9 : Room 3 X.A) {g : Addr} {cdg : Value} {q : Str} : LamX.GivesTo X N_wsaid "_law_said" (defScope st__law_said) g cdg (defBody st__law_said) "_law_deed" q (TTsaid X.K L) := by
  intro f c' s H Q tl act hc h
  have nd := sc_wsaid.nd
  have hr := hr9.deeper (PyProof.Rows.envOfC "_law_said" (defScope st__law_said) s.heap.objs.size g cdg)
  refine ⟨_, (pss_cons (ps_set (i := 1) nd rfl (Or.inl rfl) pe_non) (pss_cons (ps_try_as (i := 2) (Wout := fun _ _ _ _ => False) (tb := fun W D σ H => ∃ Ech : XK, (∀ cls d (σ' : L2.St) H', σ'.length = 5 → Ech cls d H' → W cls d σ' H') ∧ σ[0]? = some (some (.ref f)) ∧ H c' = some (LamX.CodeO c' q) ∧ tl Ech H fun _ H' => D.nx σ H') rfl rfl nd rfl rfl ⟨rfl, by decide, Or.inl T.ge_BreakerError⟩ takes0 (fun W pn xe tk _ => ?_) (fun a oe cls d pn hz hf => by exact (pss_cons (ps_set (i := 3) nd rfl (Or.inl rfl) (pe_lst (pa_cons (pe_callB (call_isZ (K := X.K) (by rfl) hz hf) (by rfl) T.b_isinstance (by decide +kernel) (pa_cons (pv 2) (pa_cons (pe_glob rfl T.ge_InvalidRow rr) pa_nil))) (pa_cons (pe_callB (call_isZ (K := X.K) (by rfl) hz hf) (by rfl) T.b_isinstance (by decide +kernel) (pa_cons (pv 2) (pa_cons (pe_glob rfl T.ge_InvalidTime rr) pa_nil))) (pa_cons (pe_callB (call_isZ (K := X.K) (by rfl) hz hf) (by rfl) T.b_isinstance (by decide +kernel) (pa_cons (pv 2) (pa_cons (pe_glob rfl T.ge_InvalidOutages rr) pa_nil))) pa_nil)))))
 (pss_cons (ps_set (i := 3) nd rfl (Or.inl rfl) (pe_op op_cat (pv 3) (pe_lst (pa_cons (pe_callB (call_isZ (K := X.K) (by rfl) hz hf) (by rfl) T.b_isinstance (by decide +kernel) (pa_cons (pv 2) (pa_cons (pe_glob rfl T.ge_InvalidIndex rr) pa_nil))) (pa_cons (pe_callB (call_isZ (K := X.K) (by rfl) hz hf) (by rfl) T.b_isinstance (by decide +kernel) (pa_cons (pv 2) (pa_cons (pe_glob rfl T.ge_InvalidBound rr) pa_nil))) (pa_cons (pe_callB (call_isZ (K := X.K) (by rfl) hz hf) (by rfl) T.b_isinstance (by decide +kernel) (pa_cons (pv 2) (pa_cons (pe_glob rfl T.ge_InvalidLog rr) pa_nil))) pa_nil))))))
 (pss_cons (ps_set (i := 4) nd rfl (Or.inl rfl) (pe_callB (call_isTZ (K := X.K) (by rfl) hz hf) (by rfl) T.b_isinstance (by decide +kernel) (pa_cons (pv 2) (pa_cons (pe_tup (pa_cons (pe_glob rfl T.ge_InvalidTrains rr) (pa_cons (pe_glob rfl T.ge_InvalidCall rr) (pa_cons (pe_glob rfl T.ge_InvalidText rr) (pa_cons (pe_glob rfl T.ge_LimitExceeded rr) pa_nil))))) pa_nil))))
 (pss_one (ps_if (PW.pt (pw_or (pt_cmpR op_ne (pe_bmK (K := X.K) (by rfl) PySem.F.plainAttrs_list PySem.F.slot_list_count PySem.F.type_list_count (mt_dcountK (K := X.K) (by rfl) (by exact hr.units)) (pv 3) (pa_cons pe_bl pa_nil)) pe_int (nomark _)) (pw_or (pt_val (pv 4)) (pw_or1 (pt_not (pt_val (pe_callB (call_isZ (K := X.K) (by rfl) hz hf) (by rfl) T.b_isinstance (by decide +kernel) (pa_cons (pv 2) (pa_cons (pe_bltn (by rfl) T.b_ArithmeticError (by decide +kernel : bootBuiltins "ArithmeticError" = some (.type "ArithmeticError")) (v := .ty "ArithmeticError") rfl) pa_nil))))))))) (pss_one (ps_set (i := 1) nd rfl (Or.inl rfl) pe_str)) (pss_one (ps_if (pt_val (pe_ix (r := rIxL X.K) (ix_listK (K := X.K) (by rfl)) (pv 3) pe_int (fun _ _ => rfl))) (pss_one (ps_set (i := 1) nd rfl (Or.inl rfl) (pe_tup (pa_cons pe_str (pa_cons (pe_xfZ (K := X.K) (by rfl) hz hf (pv 2)) (pa_cons (pe_xfZ (K := X.K) (by rfl) hz hf (pv 2)) pa_nil)))))) (pss_one (ps_if (PW.pt (pw_or (pt_val (pe_ix (r := rIxL X.K) (ix_listK (K := X.K) (by rfl)) (pv 3) pe_int (fun _ _ => rfl))) (pw_or1 (pt_val (pe_ix (r := rIxL X.K) (ix_listK (K := X.K) (by rfl)) (pv 3) pe_int (fun _ _ => rfl)))))) (pss_one (ps_set (i := 1) nd rfl (Or.inl rfl) (pe_ifExp (pt_val (pe_ix (r := rIxL X.K) (ix_listK (K := X.K) (by rfl)) (pv 3) pe_int (fun _ _ => rfl))) (pe_tup (pa_cons pe_str (pa_cons (pe_callB call_reprP (by rfl) T.b_repr (by decide +kernel) (pa_cons (pe_xfZ (K := X.K) (by rfl) hz hf (pv 2)) pa_nil)) pa_nil))) (pe_tup (pa_cons pe_str (pa_cons (pe_callB call_reprP (by rfl) T.b_repr (by decide +kernel) (pa_cons (pe_xfZ (K := X.K) (by rfl) hz hf (pv 2)) pa_nil)) pa_nil)))))) (pss_one (ps_if (PW.pt (pw_or (pt_val (pe_ix (r := rIxL X.K) (ix_listK (K := X.K) (by rfl)) (pv 3) pe_int (fun _ _ => rfl))) (pw_or1 (pt_val (pe_ix (r := rIxL X.K) (ix_listK (K := X.K) (by rfl)) (pv 3) pe_int (fun _ _ => rfl)))))) (pss_one (ps_set (i := 1) nd rfl (Or.inl rfl) (pe_tup (pa_cons (pe_ifExp (pt_val (pe_ix (r := rIxL X.K) (ix_listK (K := X.K) (by rfl)) (pv 3) pe_int (fun _ _ => rfl))) pe_str pe_str) (pa_cons (pe_xfZ (K := X.K) (by rfl) hz hf (pv 2)) pa_nil))))) (pss_one (ps_set (i := 1) nd rfl (Or.inl rfl) (pe_tup (pa_cons pe_str (pa_cons (pe_xfZ (K := X.K) (by rfl) hz hf (pv 2)) pa_nil)))))))))))))))))) (pss_one (ps_ret (pv 1))))), ?_⟩
  · refine pss_one ⟨fun pins s' σ H' D I h' => ?_⟩
    obtain ⟨Ech, hW, h1, h2, h3⟩ := h'
    exact (ps_expr (act _ pn xe Ech _ _ (Takes.long tk) (fun cls d σ' H' e z => hW cls d σ' H' z e))).run pins s' σ H' D I ⟨h1, h2, h3⟩
  · refine ⟨fun cls d H' => SaidR X.K L cls d H' Q, fun cls d σ' H' hl z => ?_, rfl, hc, h _ _ (fun _ _ _ z => z) fun _ H' z => ⟨_, rfl, z⟩⟩
    obtain ⟨D, dd, r, t, o, i, b, l, rfl, rfl, F, alt⟩ := z
    obtain ⟨s0, s1, s2, s3, s4, rfl⟩ : ∃ a0 a1 a2 a3 a4, σ' = [a0, a1, a2, a3, a4] := by
      match σ', hl with
      | [a0, a1, a2, a3, a4], _ => exact ⟨a0, a1, a2, a3, a4, rfl⟩
    obtain ⟨⟨fs, hfs⟩, one⟩ := alt.has
    refine ⟨true, F.br, fun _ a na => ?_, fun z => nomatch z⟩
    have isz : ∀ {v : V} {C : Value} {x : Bool} {Hx : Hp} {Qx : VK}, PySem.W.kitOne X.K (.ref D) C = some x → (∀ u, L2.RelV v u → u = C) → Hx dd = some (.xd fs) → Qx (.bl x) Hx → rIsZ X.K a (.ref D) (some dd) [.ref a, v] Hx Qx := fun {v C x Hx Qx} h1 h2 h3 h4 => ⟨D, dd, rfl, rfl, F.isC, v, C, x, fs, rfl, h3, h2, h1, h4⟩
    have ir : ∀ (p : Addr) (u : Value), L2.RelV (.ref p) u → u = .ref p := fun p u hu => hu
    refine ⟨_, rfl, isz F.kr (ir _) hfs ⟨_, rfl, isz F.kt (ir _) hfs ⟨_, rfl, isz F.ko (ir _) hfs ?_⟩⟩⟩
    refine ⟨(by show 3 ≤ sizeLine; decide), fun p1 n1 => ?_⟩
    have S1 := Same.upd (o := .lst [.bl r, .bl t, .bl o]) n1
    have f1 := S1 _ _ hfs
    refine ⟨_, rfl, _, rfl, isz F.ki (ir _) f1 ⟨_, rfl, isz F.kb (ir _) f1 ⟨_, rfl, isz F.kl (ir _) f1 ?_⟩⟩⟩
    refine ⟨(by show 3 ≤ sizeLine; decide), fun p2 n2 => ?_⟩
    have S2 := Same.upd (o := .lst [.bl i, .bl b, .bl l]) n2
    refine ⟨p1, p2, _, _, rfl, rfl, S2 _ _ upd_same, upd_same, (by show 6 ≤ sizeLine; decide), fun p3 n3 => ?_⟩
    have S3 := Same.upd (o := .lst ([.bl r, .bl t, .bl o] ++ [.bl i, .bl b, .bl l])) n3
    refine ⟨_, rfl, (by show 4 ≤ sizeLine; decide), fun p4 n4 => ?_⟩
    have S4 := Same.upd (o := .tup [.ref L.e_InvalidTrains, .ref L.e_InvalidCall, .ref L.e_InvalidText, .ref L.e_LimitExceeded]) n4
    have SS := ((S1.trans S2).trans S3).trans S4
    have h3 := S4 _ _ (upd_same (a := p3) (o := HO.lst ([.bl r, .bl t, .bl o] ++ [.bl i, .bl b, .bl l])))
    refine ⟨D, F.isC, rfl, dd, p4, [L.e_InvalidTrains, L.e_InvalidCall, L.e_InvalidText, L.e_LimitExceeded], fs, rfl, SS _ _ hfs, rfl, upd_same, F.oth, ?_⟩
    generalize upd (upd (upd (upd H' p1 (.lst [.bl r, .bl t, .bl o])) p2 (.lst [.bl i, .bl b, .bl l])) p3 (.lst ([.bl r, .bl t, .bl o] ++ [.bl i, .bl b, .bl l]))) p4 (.tup [.ref L.e_InvalidTrains, .ref L.e_InvalidCall, .ref L.e_InvalidText, .ref L.e_LimitExceeded]) = H4 at SS h3 ⊢
    have h3 : H4 p3 = some (.lst (sdB [r, t, o, i, b, l])) := h3
    refine ⟨_, rfl, .inl ⟨rfl, _, SqL.of h3⟩, p3, _, [.bool r, .bool t, .bool o, .bool i, .bool b, .bool l], .bl true, .bool true, rfl, rfl, SqL.of h3, .cons (.bl r) (.cons (.bl t) (.cons (.bl o) (.cons (.bl i) (.cons (.bl b) (.cons (.bl l) .nil))))), .bl true, by simp [PyData.plainAll, PyData.plain], by simp [PyData.plain], by simp [PyData.depth], ?_⟩
    rw [cntB one]
    refine ⟨rfl, _, rfl, iteF ⟨_, rfl, _, rfl, iteF ⟨_, rfl, isz F.ar (fun u hu => hu) (SS _ _ hfs) ⟨_, rfl, iteF ?_⟩⟩⟩⟩
    have fld : ∀ {f : Str} {v : V} {fs' : List (Str × V)} {Qx : VK} {a0 a1 a3 a4 : Option V} {Hx : Hp}, PySem.W.findIn X.K (.ref D) f = some none → Hx dd = some (.xd fs') → fs'.lookup f = some v → Qx v Hx → tXfZ X.K a (.ref D) (some dd) f (tVar 2) [a0, a1, some (.ref a), a3, a4] Hx Qx := fun no h1 h2 q => ⟨D, F.xf, no, _, rfl, rfl, rfl, dd, _, _, rfl, h1, h2, q⟩
    cases alt with
    | row x y m1 m2 hd k =>
      exact ixB (j := 0) rfl h3 rfl (iteT (fld m1 (SS _ _ hd) rfl (fld m2 (SS _ _ hd) rfl ⟨(by show 3 ≤ sizeLine; decide), fun p5 n5 => ⟨_, rfl, k _ _ upd_same (SS.trans (Same.upd n5)) (none_of SS n5)⟩⟩)))
    | time v z m1 hd rz k =>
      exact ixB (j := 0) rfl h3 rfl (iteF (ixB (j := 1) rfl h3 rfl (iteT (iteT (ixB (j := 1) rfl h3 rfl (iteT (fld m1 (SS _ _ hd) rfl ⟨_, _, rfl, rz, ⟨(by show 2 ≤ sizeLine; decide), fun p5 n5 => ⟨_, rfl, k _ _ upd_same (SS.trans (Same.upd n5)) (none_of SS n5)⟩⟩⟩)))))))
    | outages v m1 hd k =>
      exact ixB (j := 0) rfl h3 rfl (iteF (ixB (j := 1) rfl h3 rfl (iteF (ixB (j := 3) rfl h3 rfl (iteF (ixB (j := 2) rfl h3 rfl (iteT (iteT (ixB (j := 2) rfl h3 rfl (iteT (fld m1 (SS _ _ hd) rfl ⟨(by show 2 ≤ sizeLine; decide), fun p5 n5 => ⟨_, rfl, k _ _ upd_same (SS.trans (Same.upd n5)) (none_of SS n5)⟩⟩)))))))))))
    | index v z m1 hd rz k =>
      exact ixB (j := 0) rfl h3 rfl (iteF (ixB (j := 1) rfl h3 rfl (iteF (ixB (j := 3) rfl h3 rfl (iteT (ixB (j := 1) rfl h3 rfl (iteF (fld m1 (SS _ _ hd) rfl ⟨_, _, rfl, rz, ⟨(by show 2 ≤ sizeLine; decide), fun p5 n5 => ⟨_, rfl, k _ _ upd_same (SS.trans (Same.upd n5)) (none_of SS n5)⟩⟩⟩))))))))
    | bound v m1 hd k =>
      exact ixB (j := 0) rfl h3 rfl (iteF (ixB (j := 1) rfl h3 rfl (iteF (ixB (j := 3) rfl h3 rfl (iteF (ixB (j := 2) rfl h3 rfl (iteF (ixB (j := 5) rfl h3 rfl (iteF (fld m1 (SS _ _ hd) rfl ⟨(by show 2 ≤ sizeLine; decide), fun p5 n5 => ⟨_, rfl, k _ _ upd_same (SS.trans (Same.upd n5)) (none_of SS n5)⟩⟩))))))))))
    | log v m1 hd k =>
      exact ixB (j := 0) rfl h3 rfl (iteF (ixB (j := 1) rfl h3 rfl (iteF (ixB (j := 3) rfl h3 rfl (iteF (ixB (j := 2) rfl h3 rfl (iteF (ixB (j := 5) rfl h3 rfl (iteT (ixB (j := 2) rfl h3 rfl (iteF (fld m1 (SS _ _ hd) rfl ⟨(by show 2 ≤ sizeLine; decide), fun p5 n5 => ⟨_, rfl, k _ _ upd_same (SS.trans (Same.upd n5)) (none_of SS n5)⟩⟩))))))))))))
/-! ### breakers that explain a log: what is true of them -/
abbrev Lg := List (Int × Bool)
def mtE : Int := 1000000000000000000000000000000
def nar (b : Int × Int) (g : Int) (p : Bool) : Int × Int := if p then (b.1, if g < b.2 then g else b.2) else (if b.1 < g + 1 then g + 1 else b.1, b.2)
def bndR : Int → Lg → Int × Int
  | _, [] => (1, mtE)
  | u, (t, p) :: r => nar (bndR (if p then t else u) r) (t - u) p
def fitR (w : Int) : Int → Lg → Bool
  | _, [] => true
  | u, (t, p) :: r => (p == decide (w ≤ t - u)) && fitR w (if p then t else u) r
def fitC (f w : Int) : Int → Lg → Bool
  | _, [] => true
  | k, (t, p) :: r => p && (if k + 1 < f then fitC f w (k + 1) r else fitR w t r)
theorem fit_bnd {w : Int} (w1 : 1 ≤ w) (w2 : w ≤ mtE) : ∀ (ps : Lg) (u : Int), fitR w u ps = (decide ((bndR u ps).1 ≤ w) && decide (w ≤ (bndR u ps).2))
  | [], u => by
    show true = (decide ((1 : Int) ≤ w) && decide (w ≤ mtE))
    rw [decide_eq_true w1, decide_eq_true w2]
    rfl
  | (t, p) :: r, u => by
    have ih := fit_bnd w1 w2 r (if p then t else u)
    show ((p == decide (w ≤ t - u)) && fitR w (if p then t else u) r) = _
    rw [ih]
    show _ = (decide ((nar (bndR (if p then t else u) r) (t - u) p).1 ≤ w) && decide (w ≤ (nar (bndR (if p then t else u) r) (t - u) p).2))
    generalize bndR (if p then t else u) r = b
    obtain ⟨lo, hi⟩ := b
    rw [Bool.eq_iff_iff]
    cases p with
    | true =>
      simp only [nar, if_true, Bool.and_eq_true, beq_iff_eq, decide_eq_true_iff]
      constructor
      · rintro ⟨h1, h2, h3⟩
        have h1 : w ≤ t - u := of_decide_eq_true h1.symm
        refine ⟨h2, ?_⟩
        split <;> omega
      · rintro ⟨h1, h2⟩
        split at h2
        · exact ⟨(decide_eq_true (by omega)).symm, h1, by omega⟩
        · exact ⟨(decide_eq_true (by omega)).symm, h1, by omega⟩
    | false =>
      simp only [nar, Bool.false_eq_true, if_false, Bool.and_eq_true, beq_iff_eq, decide_eq_true_iff]
      constructor
      · rintro ⟨h1, h2, h3⟩
        have h1 : ¬ w ≤ t - u := of_decide_eq_false h1.symm
        refine ⟨?_, h3⟩
        split <;> omega
      · rintro ⟨h1, h2⟩
        split at h1
        · exact ⟨(decide_eq_false (by omega)).symm, by omega, h2⟩
        · exact ⟨(decide_eq_false (by omega)).symm, h1, h2⟩
theorem lg_open (f w : Int) : ∀ (ps : Lg) (u : Int), decide (lgG (f, w, 1) ("open", u) (ps.map (·.1)) = ps) = fitR w u ps
  | [], u => rfl
  | (t, p) :: r, u => by
    have hp : psB (f, w, 1) (("open", u) : StD) t ↔ w ≤ t - u := ⟨fun h => h rfl, fun h _ => h⟩
    show decide ((t, decide (psB (f, w, 1) (("open", u) : StD) t)) :: lgG (f, w, 1) (nxG (f, w, 1) ("open", u) t) (r.map (·.1)) = (t, p) :: r) = _
    show _ = ((p == decide (w ≤ t - u)) && fitR w (if p then t else u) r)
    have ed : decide (psB (f, w, 1) (("open", u) : StD) t) = decide (w ≤ t - u) := by rw [decide_eq_decide]; exact hp
    have en : nxG (f, w, 1) (("open", u) : StD) t = if w ≤ t - u then (("open", t) : StD) else ("open", u) := by
      unfold nxG
      by_cases c : w ≤ t - u
      · rw [if_pos (hp.mpr c), if_pos c, badS_other sO_C]
      · rw [if_neg (fun h => c (hp.mp h)), if_neg c]
    rw [ed, en, ← lg_open f w r (if p then t else u), Bool.eq_iff_iff]
    simp only [Bool.and_eq_true, beq_iff_eq, decide_eq_true_iff, List.cons.injEq, Prod.mk.injEq, true_and]
    by_cases c : w ≤ t - u
    · rw [if_pos c, decide_eq_true c]
      cases p
      · simp
      · simp
    · rw [if_neg c, decide_eq_false c]
      cases p
      · simp
      · simp
theorem lg_closed (f w : Int) : ∀ (ps : Lg) (k : Int), decide (lgG (f, w, 1) ("closed", k) (ps.map (·.1)) = ps) = fitC f w k ps
  | [], k => rfl
  | (t, p) :: r, k => by
    have hp : psB (f, w, 1) (("closed", k) : StD) t := fun e => absurd e sC_O
    show decide ((t, decide (psB (f, w, 1) (("closed", k) : StD) t)) :: lgG (f, w, 1) (nxG (f, w, 1) ("closed", k) t) (r.map (·.1)) = (t, p) :: r) = _
    have en : nxG (f, w, 1) (("closed", k) : StD) t = if k + 1 < f then (("closed", k + 1) : StD) else ("open", t) := (if_pos hp).trans (badS_closed rfl)
    rw [decide_eq_true hp, en]
    show _ = (p && (if k + 1 < f then fitC f w (k + 1) r else fitR w t r))
    cases p with
    | false =>
      rw [Bool.false_and]
      exact decide_eq_false fun h => by simp at h
    | true =>
      rw [Bool.true_and]
      by_cases c : k + 1 < f
      · rw [if_pos c, if_pos c, ← lg_closed f w r (k + 1), decide_eq_decide]
        simp
      · rw [if_neg c, if_neg c, ← lg_open f w r t, decide_eq_decide]
        simp
/-- the last time that was passed -/
def latA (o : Option Int) : Lg → Option Int
  | [] => o
  | (t, p) :: r => latA (if p then some t else o) r
theorem latA_app : ∀ (xs : Lg) (o : Option Int) (t : Int) (p : Bool), latA o (xs ++ [(t, p)]) = if p then some t else latA o xs
  | [], _, _, _ => rfl
  | (t', p') :: r, o, t, p => latA_app r _ t p
theorem latA_some : ∀ (xs : Lg) (u : Int), ∃ v, latA (some u) xs = some v
  | [], u => ⟨u, rfl⟩
  | (t, p) :: r, u => by
    show ∃ v, latA (if p then some t else some u) r = some v
    cases p
    · exact latA_some r u
    · exact latA_some r t
def aheadG (ps : Lg) : Nat := (ps.takeWhile (·.2)).length
def uG (ps : Lg) (f : Nat) : Int := (latA none (ps.take f)).getD 0
def bnG (ps : Lg) (f : Nat) : Int × Int := bndR (uG ps f) (ps.drop f)
def exF (ps : Lg) (f : Nat) : List Tri := if f ≤ aheadG ps ∧ (bnG ps f).1 ≤ (bnG ps f).2 then [((f : Int), (bnG ps f).1, (bnG ps f).2)] else []
def exRev (ps : Lg) (i : Nat) : List Tri := (List.range i).flatMap fun j => exF ps (ps.length - j)
def exUp (ps : Lg) (i : Nat) : List Tri := (List.range i).flatMap fun j => exF ps (j + 1)
def exG (ps : Lg) : List Tri := if ps = [] then [(1, 1, mtE)] else exUp ps ps.length
theorem exF_rev (ps : Lg) (f : Nat) : (exF ps f).reverse = exF ps f := by
  unfold exF
  split <;> rfl
theorem exF_len (ps : Lg) (f : Nat) : (exF ps f).length ≤ 1 := by
  unfold exF
  split
  · exact Nat.le_refl _
  · exact Nat.zero_le _
theorem ex_rev (ps : Lg) : ∀ i : Nat, i ≤ ps.length → (exRev ps i).reverse = (List.range i).flatMap fun j => exF ps (ps.length - i + j + 1)
  | 0, _ => rfl
  | i + 1, h => by
    have ih := ex_rev ps i (by omega)
    unfold exRev at ih ⊢
    have e1 : (List.range (i + 1)).flatMap (fun j => exF ps (ps.length - j)) = (List.range i).flatMap (fun j => exF ps (ps.length - j)) ++ exF ps (ps.length - i) := by
      rw [List.range_succ, List.flatMap_append]
      simp
    rw [e1, List.reverse_append, ih, exF_rev, List.range_succ_eq_map, List.flatMap_cons, List.flatMap_map]
    congr 1
    · congr 1
      omega
    · refine congrArg (fun g => List.flatMap g (List.range i)) (funext fun j => ?_)
      congr 1
      show ps.length - i + j + 1 = ps.length - (i + 1) + (j + 1) + 1
      omega
theorem ex_all (ps : Lg) : (exRev ps ps.length).reverse = exUp ps ps.length := by
  rw [ex_rev ps ps.length (Nat.le_refl _)]
  unfold exUp
  refine congrArg (fun g => List.flatMap g (List.range ps.length)) (funext fun j => ?_)
  congr 1
  omega
theorem exRev_succ (ps : Lg) (i : Nat) : exRev ps (i + 1) = exRev ps i ++ exF ps (ps.length - i) := by
  unfold exRev
  rw [List.range_succ, List.flatMap_append]
  simp
theorem exUp_succ (ps : Lg) (i : Nat) : exUp ps (i + 1) = exUp ps i ++ exF ps (i + 1) := by
  unfold exUp
  rw [List.range_succ, List.flatMap_append]
  simp
theorem exRev_len (ps : Lg) : ∀ i : Nat, (exRev ps i).length ≤ i
  | 0 => Nat.le_refl _
  | i + 1 => by
    rw [exRev_succ, List.length_append]
    have := exRev_len ps i
    have := exF_len ps (ps.length - i)
    omega
theorem exUp_len (ps : Lg) : ∀ i : Nat, (exUp ps i).length ≤ i
  | 0 => Nat.le_refl _
  | i + 1 => by
    rw [exUp_succ, List.length_append]
    have := exUp_len ps i
    have := exF_len ps (i + 1)
    omega
theorem ahead_all {ps : Lg} {f : Nat} : f ≤ ps.length → ((ps.take f).all (·.2) = true ↔ f ≤ aheadG ps) := by
  induction ps generalizing f with
  | nil =>
    intro h
    have : f = 0 := Nat.le_zero.mp h
    subst this
    simp [aheadG]
  | cons p r ih =>
    intro h
    cases f with
    | zero => simp
    | succ f =>
      have := ih (f := f) (Nat.le_of_succ_le_succ h)
      unfold aheadG at this ⊢
      rw [List.take_succ_cons, List.all_cons, List.takeWhile_cons]
      cases p.2 with
      | true =>
        simp only [Bool.true_and, if_true, List.length_cons]
        rw [this]
        omega
      | false => simp
theorem ahead_le (ps : Lg) : aheadG ps ≤ ps.length := by
  unfold aheadG
  exact (List.takeWhile_sublist _).length_le
/-- behind a step of the program's loop -/
theorem bn_step {ps : Lg} {f : Nat} {t : Int} {p : Bool} (hf : ps[f]? = some (t, p)) (f1 : 1 ≤ f) (h0 : 1 ≤ aheadG ps) : bnG ps f = nar (bnG ps (f + 1)) (t - uG ps f) p ∧ ∃ v, latA none (ps.take f) = some v ∧ uG ps f = v := by
  have fl := (List.getElem?_eq_some_iff.mp hf).1
  have et : ps.take (f + 1) = ps.take f ++ [(t, p)] := by rw [List.take_add_one, hf]; rfl
  have ed : ps.drop f = (t, p) :: ps.drop (f + 1) := by
    rw [List.drop_eq_getElem_cons fl]
    congr 1
    exact (List.getElem?_eq_some_iff.mp hf).2
  have hs : ∃ v, latA none (ps.take f) = some v := by
    cases ps with
    | nil => cases hf
    | cons q r =>
      obtain ⟨t0, p0⟩ := q
      cases f with
      | zero => omega
      | succ f =>
        have : p0 = true := by
          unfold aheadG at h0
          rw [List.takeWhile_cons] at h0
          cases p0
          · simp at h0
          · rfl
        subst this
        exact latA_some (r.take f) t0
  obtain ⟨v, hv⟩ := hs
  have hu : uG ps f = v := by unfold uG; rw [hv]; rfl
  refine ⟨?_, v, hv, hu⟩
  have e1 : uG ps (f + 1) = if p then t else uG ps f := by
    rw [hu]
    unfold uG
    rw [et, latA_app, hv]
    cases p <;> rfl
  unfold bnG
  rw [ed, e1]
  rfl
theorem bn_end (ps : Lg) : bnG ps ps.length = (1, mtE) := by
  unfold bnG
  rw [List.drop_length]
  rfl
/-- a breaker with f failures, by its place -/
theorem fitC_at {f : Nat} {w : Int} : ∀ (ps : Lg) (k : Nat), k < f → fitC (f : Int) w (k : Int) ps = ((ps.take (f - k)).all (·.2) && (if f - k ≤ ps.length then fitR w ((ps.getD (f - k - 1) (0, true)).1) (ps.drop (f - k)) else true))
  | [], k, h => by
    have : ¬ f - k ≤ ([] : Lg).length := fun z => by have := Nat.le_zero.mp z; omega
    rw [if_neg this]
    simp [fitC]
  | (t, p) :: r, k, h => by
    obtain ⟨m, hm⟩ : ∃ m, f - k = m + 1 := ⟨f - k - 1, by omega⟩
    show (p && (if (k : Int) + 1 < f then fitC f w ((k : Int) + 1) r else fitR w t r)) = _
    rw [hm, List.take_succ_cons, List.all_cons, List.drop_succ_cons, Bool.and_assoc]
    congr 1
    by_cases c : (k : Int) + 1 < f
    · rw [if_pos c]
      have ih := fitC_at (f := f) (w := w) r (k + 1) (by omega)
      rw [show f - (k + 1) = m by omega, show (((k + 1 : Nat)) : Int) = (k : Int) + 1 by omega] at ih
      rw [ih]
      congr 1
      obtain ⟨m', hm'⟩ : ∃ m', m = m' + 1 := ⟨m - 1, by omega⟩
      subst hm'
      rw [List.length_cons]
      by_cases d : m' + 1 ≤ r.length
      · rw [if_pos d, if_pos (show m' + 1 + 1 ≤ r.length + 1 by omega)]
        congr 1
      · rw [if_neg d, if_neg (show ¬ m' + 1 + 1 ≤ r.length + 1 by omega)]
    · rw [if_neg c]
      have m0 : m = 0 := by omega
      subst m0
      rw [if_pos (by rw [List.length_cons]; omega)]
      simp
theorem latA_all : ∀ (xs : Lg) (o : Option Int) (q : Int × Bool), (xs ++ [q]).all (·.2) = true → latA o (xs ++ [q]) = some q.1
  | xs, o, (t, p), h => by
    rw [latA_app]
    rw [List.all_append] at h
    have : p = true := by
      have := (Bool.and_eq_true_iff.mp h).2
      simpa using this
    rw [this]
    rfl
/-- which waits fit with f failures -/
theorem fitC_bn {ps : Lg} {f : Nat} {w : Int} (f1 : 1 ≤ f) (fl : f ≤ ps.length) (w1 : 1 ≤ w) (w2 : w ≤ mtE) : fitC (f : Int) w 0 ps = (decide (f ≤ aheadG ps) && (decide ((bnG ps f).1 ≤ w) && decide (w ≤ (bnG ps f).2))) := by
  have h := fitC_at (f := f) (w := w) ps 0 (by omega)
  rw [show ((0 : Nat) : Int) = 0 from rfl, Nat.sub_zero, if_pos fl] at h
  rw [h]
  have ha := ahead_all fl
  by_cases c : f ≤ aheadG ps
  · rw [ha.mpr c, decide_eq_true c, Bool.true_and, Bool.true_and, fit_bnd w1 w2]
    have eu : (ps.getD (f - 1) (0, true)).1 = uG ps f := by
      have hl : f - 1 < ps.length := by omega
      have e2 : ps.take f = ps.take (f - 1) ++ [ps[f - 1]] := by
        have := List.take_add_one (l := ps) (i := f - 1)
        rw [show f - 1 + 1 = f by omega, List.getElem?_eq_getElem hl] at this
        exact this
      have h3 := ha.mpr c
      rw [e2] at h3
      unfold uG
      rw [e2, latA_all _ _ _ h3, List.getD_eq_getElem?_getD, List.getElem?_eq_getElem hl]
      rfl
    rw [eu]
    rfl
  · rw [show (ps.take f).all (·.2) = false from by
      cases z : (ps.take f).all (·.2) with
      | false => rfl
      | true => exact absurd (ha.mp z) c, decide_eq_false c]
    rfl
theorem fitC_past {ps : Lg} {f w : Int} (h : (ps.length : Int) < f) : fitC f w 0 ps = ps.all (·.2) := by
  obtain ⟨n, rfl⟩ := Int.eq_ofNat_of_zero_le (show 0 ≤ f by omega)
  have := fitC_at (f := n) (w := w) ps 0 (by omega)
  rw [show ((0 : Nat) : Int) = 0 from rfl, Nat.sub_zero, if_neg (by omega), Bool.and_true, List.take_of_length_le (by omega)] at this
  exact this
/-- the bounds of the bounds -/
theorem bnd_bd {M : Int} (M0 : 0 ≤ M) : ∀ (ps : Lg) (u : Int), 0 ≤ u → (∀ p ∈ ps, 0 ≤ p.1 ∧ p.1 ≤ M) → (1 ≤ (bndR u ps).1 ∧ (bndR u ps).1 ≤ M + 1) ∧ ((bndR u ps).2 = mtE ∨ (bndR u ps).2 ≤ M)
  | [], u, _, _ => ⟨⟨Int.le_refl _, by show (1 : Int) ≤ M + 1; omega⟩, .inl rfl⟩
  | (t, p) :: r, u, u0, h => by
    have ht := h (t, p) (List.mem_cons_self ..)
    have ht1 : 0 ≤ t := ht.1
    have ht2 : t ≤ M := ht.2
    have ih := bnd_bd M0 r (if p then t else u) (by split <;> omega) fun q hq => h q (List.mem_cons_of_mem _ hq)
    show (1 ≤ (nar (bndR (if p then t else u) r) (t - u) p).1 ∧ (nar (bndR (if p then t else u) r) (t - u) p).1 ≤ M + 1) ∧ ((nar (bndR (if p then t else u) r) (t - u) p).2 = mtE ∨ (nar (bndR (if p then t else u) r) (t - u) p).2 ≤ M)
    generalize bndR (if p then t else u) r = b at ih
    obtain ⟨lo, hi⟩ := b
    obtain ⟨⟨h1, h2⟩, h3⟩ := ih
    cases p with
    | true =>
      refine ⟨⟨h1, h2⟩, ?_⟩
      show (if t - u < hi then t - u else hi) = mtE ∨ (if t - u < hi then t - u else hi) ≤ M
      split
      · exact .inr (by omega)
      · exact h3
    | false =>
      refine ⟨?_, h3⟩
      have h1 : 1 ≤ lo := h1
      have h2 : lo ≤ M + 1 := h2
      show 1 ≤ (if lo < t - u + 1 then t - u + 1 else lo) ∧ (if lo < t - u + 1 then t - u + 1 else lo) ≤ M + 1
      split <;> omega
theorem latA_nn : ∀ (xs : Lg) (o : Option Int), (∀ v, o = some v → 0 ≤ v) → (∀ p ∈ xs, 0 ≤ p.1) → ∀ v, latA o xs = some v → 0 ≤ v
  | [], o, ho, _ => ho
  | (t, p) :: r, o, ho, h => latA_nn r _ (fun v e => by
      cases p
      · exact ho v e
      · have e : some t = some v := e
        rw [← Option.some.inj e]
        exact h (t, true) (List.mem_cons_self ..)) fun q hq => h q (List.mem_cons_of_mem _ hq)
theorem uG_nn {ps : Lg} (h : ∀ p ∈ ps, 0 ≤ p.1) (f : Nat) : 0 ≤ uG ps f := by
  unfold uG
  cases z : latA none (ps.take f) with
  | none => exact Int.le_refl _
  | some v => exact latA_nn _ none (fun _ e => nomatch e) (fun p hp => h p (List.mem_of_mem_take hp)) v z
theorem bnG_bd {ps : Lg} {M : Int} (M0 : 0 ≤ M) (h : ∀ p ∈ ps, 0 ≤ p.1 ∧ p.1 ≤ M) (f : Nat) : (1 ≤ (bnG ps f).1 ∧ (bnG ps f).1 ≤ M + 1) ∧ ((bnG ps f).2 = mtE ∨ (bnG ps f).2 ≤ M) :=
  bnd_bd M0 _ _ (uG_nn (fun p hp => (h p hp).1) f) fun p hp => h p (List.mem_of_mem_drop hp)
/-! ### breakers that explain a log: the program -/
def gpV : Option Int → V
  | none => .non
  | some c => .int c
def gapL (ps : Lg) : List (Option Int) := (List.range ps.length).map fun i => (latA none (ps.take i)).map fun u => (ps.getD i (0, true)).1 - u
theorem gapL_at {ps : Lg} {i : Nat} {t : Int} {p : Bool} (h : ps[i]? = some (t, p)) : (gapL ps)[i]? = some ((latA none (ps.take i)).map fun u => t - u) := by
  have hl := (List.getElem?_eq_some_iff.mp h).1
  unfold gapL
  rw [List.getElem?_map, List.getElem?_range hl]
  show some ((latA none (ps.take i)).map fun u => (ps.getD i (0, true)).1 - u) = _
  rw [List.getD_eq_getElem?_getD, h]
  rfl
structure OkLog (ps : Lg) : Prop where
  asc : Asc 0 (ps.map (·.1))
  ln : ps.length ≤ 1000
theorem asc_nn : ∀ {lo : Int} {ns : List Int}, 0 ≤ lo → Asc lo ns → ∀ t ∈ ns, 0 ≤ t
  | _, [], _, _, t, h => nomatch h
  | lo, x :: r, l0, ⟨h1, h2⟩, t, h => by
    rcases List.mem_cons.mp h with rfl | h
    · omega
    · exact asc_nn (by omega) h2 t h
def spIsEnt : Sp := fun vs H Q _ => ∃ x p, vs = [x] ∧ LgAt H x p ∧ 0 ≤ p.1 ∧ Q (.bl true) H
def spChkL : Sp := fun vs H Q _ => ∃ a xs ps, vs = [.ref a] ∧ H a = some (.lst xs) ∧ Lgs H xs ps ∧ OkLog ps ∧ ∀ H', Same H H' → Q .non H'
def spAhead : Sp := fun vs H Q _ => ∃ a xs ps, vs = [.ref a] ∧ H a = some (.lst xs) ∧ Lgs H xs ps ∧ ps.length ≤ 1000 ∧ ∀ H', Same H H' → Q (.int (aheadG ps : Int)) H'
def spGaps : Sp := fun vs H Q _ => ∃ a xs ps, vs = [.ref a] ∧ H a = some (.lst xs) ∧ Lgs H xs ps ∧ ps.length ≤ 1001 ∧ ∀ l H', H' l = some (.lst ((gapL ps).map gpV)) → Same H H' → H l = none → Q (.ref l) H'
def spNar : Sp := fun vs H Q _ => ∃ T b g p, vs = [.ref T, .int g, .bl p] ∧ H T = some (.tup [.int b.1, .int b.2]) ∧ ∀ T' H', H' T' = some (.tup [.int (nar b g p).1, .int (nar b g p).2]) → Same H H' → Q (.ref T') H'
def spExpl : Sp := fun vs H Q _ => ∃ a xs ps, vs = [.ref a] ∧ H a = some (.lst xs) ∧ Lgs H xs ps ∧ OkLog ps ∧ ∀ l ys H', H' l = some (.lst ys) → Brs H' ys (exG ps) → Same H H' → H l = none → Q (.ref l) H'
theorem ahead_at : ∀ {ps : Lg} {i : Nat} {t : Int}, ps[i]? = some (t, false) → (∀ q ∈ ps.take i, q.2 = true) → aheadG ps = i
  | [], i, t, h, _ => by cases h
  | q :: r, 0, t, h, _ => by
    have h := Option.some.inj h
    rw [h]
    rfl
  | q :: r, i + 1, t, h, k => by
    have hq := k q (by rw [List.take_succ_cons]; exact List.mem_cons_self ..)
    have ih := ahead_at (ps := r) (i := i) (t := t) h fun q hq => k q (by rw [List.take_succ_cons]; exact List.mem_cons_of_mem _ hq)
    unfold aheadG at ih ⊢
    rw [List.takeWhile_cons, if_pos hq, List.length_cons, ih]
theorem ahead_full : ∀ {ps : Lg}, (∀ q ∈ ps, q.2 = true) → aheadG ps = ps.length
  | [], _ => rfl
  | q :: r, k => by
    have hq := k q (List.mem_cons_self ..)
    have ih := ahead_full (ps := r) fun q hq => k q (List.mem_cons_of_mem _ hq)
    unfold aheadG at ih ⊢
    rw [List.takeWhile_cons, if_pos hq, List.length_cons, ih, List.length_cons]
theorem paired_rev {α β : Type} {F : α → β → Prop} : ∀ {xs : List α} {ys : List β}, Paired F xs ys → Paired F xs.reverse ys.reverse
  | _, _, .nil => .nil
  | _, _, .cons h t => by
    rw [List.reverse_cons, List.reverse_cons]
    exact paired_app (paired_rev t) (.cons h .nil)
section
variable {P : Program} {w : World} {K : PySem.W.Frag} {mg : Str → Option Value} {base : Heap} {L : LA}
abbrev N_isentry : List Str := ["value", "time", "passed"]
theorem sc_isentry : FnScope N_isentry ["value"] (defScope st_is_entry) := ⟨rfl, rfl, rfl, by decide +kernel, rfl, by decide +kernel, by decide +kernel⟩
theorem fn_isentry (T : LX K mg L) {fd : FuncData} (F : Fun K "is_entry" "is_entry" st_is_entry L.f_is_entry fd) : FnOk P w K mg base CX0 3 L.f_is_entry fd ["value"] (spIsEnt) := by
  have G_isatleast := ok_isatleast (P := P) (w := w) (base := base) T
  have nd := sc_isentry.nd
  refine F.ok sc_isentry (fun vs H Q E h => ?_) (fun cdv A outer S H vs Q E hr h => ?_)
  · obtain ⟨x, p, rfl, _⟩ := h
    rfl
  · obtain ⟨x, p, rfl, ⟨a, rfl, ha⟩, h0, k⟩ := h
    refine ⟨_, (pss_cons (ps_if (PW.pt (pw_or (pt_not (pt_val (pe_callB call_isi (by rfl) T.b_isinstance (by decide +kernel) (pa_cons (pv 0) (pa_cons (pe_bltn (by rfl) T.b_tuple (by decide +kernel : bootBuiltins "tuple" = some (.type "tuple")) (v := .ty "tuple") rfl) pa_nil))))) (pw_or1 (pt_cmpR op_ne (pe_callB call_len_seq (by rfl) T.b_len PySem.boot_len (pa_cons (pv 0) pa_nil)) pe_int (nomark _))))) (pss_one (ps_ret pe_bl)) pss_nil)
       (pss_cons (ps_asg (pv 0) (pg_tup rfl (pgs_cons (pg_name (i := 1) nd rfl (Or.inl rfl)) (pgs_cons (pg_name (i := 2) nd rfl (Or.inl rfl)) pgs_nil))))
       (pss_one (ps_ret (pe_and (pe_c G_isatleast (hr.mono (by decide)) rfl (pa_cons (pv 1) (pa_cons pe_int pa_nil))) (pe_one (pe_callB call_isi (by rfl) T.b_isinstance (by decide +kernel) (pa_cons (pv 2) (pa_cons (pe_bltn (by rfl) T.b_bool (by decide +kernel : bootBuiltins "bool" = some (.type "bool")) (v := .ty "bool") rfl) pa_nil))))))))), ?_⟩
    refine ⟨_, rfl, _, .ty "tuple", _, _, _, rfl, .ty "tuple", (Kd.tup ha).ty, (Kd.tup ha).kit "tuple" _ (.inr ⟨by decide, by decide, rfl⟩), _, rfl, iteF ?_⟩
    refine ⟨_, rfl, a, _, rfl, .inr (SqT.of ha), rfl, _, rfl, iteF ?_⟩
    refine ⟨_, rfl, a, _, rfl, SqT.of ha, rfl, _, _, rfl, _, _, rfl, rfl, ?_⟩
    refine ⟨_, rfl, _, _, _, rfl, .int _, _, rfl, ?_⟩
    show if (decide ((0 : Int) ≤ p.1)) = true then _ else _
    rw [decide_eq_true h0]
    refine iteT ⟨_, rfl, _, .ty "bool", _, _, _, rfl, .ty "bool", (Kd.bl (H := H) p.2).ty, (Kd.bl (H := H) p.2).kit "bool" _ (.inr ⟨by decide, by decide, rfl⟩), k⟩
theorem ok_isentry (T : LX K mg L) : Cal P w K mg base "is_entry" 3 L.f_is_entry ["value"] (spIsEnt) := T.d_is_entry.cal fun fd F => fn_isentry T F
abbrev N_checklog : List Str := ["log", "latest", "at", "entry"]
theorem sc_checklog : FnScope N_checklog ["log"] (defScope st_check_log) := ⟨rfl, rfl, rfl, by decide +kernel, rfl, by decide +kernel, by decide +kernel⟩
theorem fn_checklog (T : LX K mg L) {fd : FuncData} (F : Fun K "check_log" "check_log" st_check_log L.f_check_log fd) : FnOk P w K mg base (L2.CX P w) 4 L.f_check_log fd ["log"] (spChkL) := by
  obtain ⟨tk_MOST_ENTRIES, c_MOST_ENTRIES⟩ := T.n_MOST_ENTRIES
  have G_isentry := ok_isentry (P := P) (w := w) (base := base) T
  have nd := sc_checklog.nd
  refine F.okX sc_checklog (fun vs H Q E h => ?_) (fun cdv A outer S H vs Q E hr h => ?_)
  · obtain ⟨a, xs, ps, rfl, _⟩ := h
    rfl
  · obtain ⟨a, xs, ps, rfl, ha, hx, ok, k⟩ := h
    refine ⟨_, (pss_cons (ps_if (PW.pt (pw_or (pt_not (pt_val (pe_callB call_isi (by rfl) T.b_isinstance (by decide +kernel) (pa_cons (pv 0) (pa_cons (pe_bltn (by rfl) T.b_list (by decide +kernel : bootBuiltins "list" = some (.type "list")) (v := .ty "list") rfl) pa_nil))))) (pw_or1 (pt_cmpR op_gt (pe_callB call_len_seq (by rfl) T.b_len PySem.boot_len (pa_cons (pv 0) pa_nil)) (pe_gI c_MOST_ENTRIES) (nomark _))))) (pss_one (ps_raise rfl (takes_of rfl rfl rfl rfl) (mk_InvalidLog T (hr.mono (by decide)) rfl (pa_cons (pe_un un_neg pe_int) pa_nil)))) pss_nil)
       (pss_cons (ps_set (i := 1) nd rfl (Or.inl rfl) (pe_un un_neg pe_int))
       (pss_one (ps_for (passes_of rfl) rfl (pi_enum (by rfl) T.b_enumerate (pa_cons (pv 0) pa_nil)) (pg_tup rfl (pgs_cons (pg_name (i := 2) nd rfl (Or.inl rfl)) (pgs_cons (pg_name (i := 3) nd rfl (Or.inl rfl)) pgs_nil))) (pss_cons (ps_if (PW.pt (pw_or (pt_not (pt_val (pe_c G_isentry (hr.mono (by decide)) rfl (pa_cons (pv 3) pa_nil)))) (pw_or1 (pt_cmpR op_le (pe_ix (r := rIxT K) ix_tup (pv 3) pe_int (fun _ _ => rfl)) (pv 1) (nomark _))))) (pss_one (ps_raise rfl (takes_of rfl rfl rfl rfl) (mk_InvalidLog T (hr.mono (by decide)) rfl (pa_cons (pv 2) pa_nil)))) pss_nil)
       (pss_one (ps_set (i := 1) nd rfl (Or.inl rfl) (pe_ix (r := rIxT K) ix_tup (pv 3) pe_int (fun _ _ => rfl))))))))), ?_⟩
    have xl := paired_len hx
    have ln := ok.ln
    refine ⟨_, rfl, _, .ty "list", _, _, _, rfl, .ty "list", (Kd.lst ha).ty, (Kd.lst ha).kit "list" _ (.inr ⟨by decide, by decide, rfl⟩), _, rfl, iteF ?_⟩
    refine ⟨_, rfl, a, _, rfl, .inl (SqL.of ha), _, _, rfl, rfl, _, rfl, ?_⟩
    have hn : ¬ ((1000 : Int) < (xs.length : Nat)) := by omega
    rw [decide_eq_false hn]
    refine iteF ⟨1, rfl, ?_⟩
    refine ⟨_, rfl, a, xs, rfl, SqL.of ha, for_enum (K := K) (a := a) (xs := xs) (fun i σ H2 => ∃ u v : Option V, σ = [some (.ref a), some (.int (lstG 0 ((ps.map (·.1)).take i) - 1)), u, v] ∧ Same H H2) ⟨none, none, rfl, Same.refl H⟩ (fun i σ H2 _ ⟨_, _, _, s2⟩ => SqL.of (s2 _ _ ha)) ?_ ?_⟩
    · rintro i x T' σ H2 hxi ⟨u, v, rfl, s2⟩ hT
      obtain ⟨p, hp, hox⟩ := paired_get hx hxi
      have hpt : (ps.map (·.1))[i]? = some p.1 := by rw [List.getElem?_map, hp]; rfl
      have at' := asc_take ok.asc hpt
      have nn := asc_nn (Int.le_refl 0) ok.asc p.1 (List.mem_of_getElem? hpt)
      have s3 : Same H (upd H2 T' (.tup [.int (i : Nat), x])) := s2.trans (Same.upd hT)
      obtain ⟨c, rfl, hc⟩ := hox
      have hc3 := s3 _ _ hc
      refine ⟨T', _, rfl, SqT.of upd_same, rfl, _, _, rfl, _, _, rfl, rfl, ?_⟩
      refine ⟨_, rfl, .ref c, p, rfl, ⟨c, rfl, hc3⟩, nn, _, rfl, iteF ?_⟩
      refine ⟨_, rfl, c, _, 0, .int p.1, rfl, rfl, SqT.of hc3, rfl, _, rfl, _, _, rfl, rfl, _, rfl, ?_⟩
      rw [decide_eq_false (show ¬ p.1 ≤ lstG 0 ((ps.map (·.1)).take i) - 1 by omega)]
      have el : lstG 0 ((ps.map (·.1)).take (i + 1)) - 1 = p.1 := by
        rw [List.take_add_one, hpt]
        show lstG 0 ((ps.map (·.1)).take i ++ [p.1]) - 1 = p.1
        rw [lst_app, Int.add_sub_cancel]
      rw [el]
      exact iteF ⟨_, rfl, c, _, 0, .int p.1, rfl, rfl, SqT.of hc3, rfl, _, _, rfl, s3⟩
    · rintro σ H2 ⟨u, v, rfl, s2⟩
      exact k H2 s2
theorem ok_checklog (T : LX K mg L) : CalX P w K mg base "check_log" 4 L.f_check_log ["log"] (spChkL) := T.d_check_log.calX fun fd F => fn_checklog T F
abbrev N_passesahead : List Str := ["log", "at", "entry"]
theorem sc_passesahead : FnScope N_passesahead ["log"] (defScope st_passes_ahead) := ⟨rfl, rfl, rfl, by decide +kernel, rfl, by decide +kernel, by decide +kernel⟩
theorem fn_passesahead (T : LX K mg L) {fd : FuncData} (F : Fun K "passes_ahead" "passes_ahead" st_passes_ahead L.f_passes_ahead fd) : FnOk P w K mg base CX0 1 L.f_passes_ahead fd ["log"] (spAhead) := by
  have nd := sc_passesahead.nd
  refine F.ok sc_passesahead (fun vs H Q E h => ?_) (fun cdv A outer S H vs Q E hr h => ?_)
  · obtain ⟨a, xs, ps, rfl, _⟩ := h
    rfl
  · obtain ⟨a, xs, ps, rfl, ha, hx, ln, k⟩ := h
    refine ⟨_, (pss_cons (ps_for PassesOwn.never rfl (pi_enum (by rfl) T.b_enumerate (pa_cons (pv 0) pa_nil)) (pg_tup rfl (pgs_cons (pg_name (i := 1) nd rfl (Or.inl rfl)) (pgs_cons (pg_name (i := 2) nd rfl (Or.inl rfl)) pgs_nil))) (pss_one (ps_if (pt_not (pt_val (pe_ix (r := rIxT K) ix_tup (pv 2) pe_int (fun _ _ => rfl)))) (pss_one (ps_ret (pv 1))) pss_nil)))
       (pss_one (ps_ret (pe_callB call_len_seq (by rfl) T.b_len PySem.boot_len (pa_cons (pv 0) pa_nil))))), ?_⟩
    have xl := paired_len hx
    refine ⟨_, rfl, a, xs, rfl, SqL.of ha, for_enum (K := K) (a := a) (xs := xs) (fun i σ H2 => ∃ u v : Option V, σ = [some (.ref a), u, v] ∧ Same H H2 ∧ ∀ q ∈ ps.take i, q.2 = true) ⟨none, none, rfl, Same.refl H, fun q h => by simp at h⟩ (fun i σ H2 _ ⟨_, _, _, s2, _⟩ => SqL.of (s2 _ _ ha)) ?_ ?_⟩
    · rintro i x T' σ H2 hxi ⟨u, v, rfl, s2, hall⟩ hT
      obtain ⟨⟨t, p⟩, hp, c, rfl, hc⟩ := paired_get hx hxi
      have s3 : Same H (upd H2 T' (.tup [.int (i : Nat), .ref c])) := s2.trans (Same.upd hT)
      have hc3 := s3 _ _ hc
      refine ⟨T', _, rfl, SqT.of upd_same, rfl, _, _, rfl, _, _, rfl, rfl, ?_⟩
      refine ⟨_, rfl, c, _, 1, .bl p, rfl, rfl, SqT.of hc3, rfl, _, rfl, ?_⟩
      cases p with
      | true =>
        refine iteF ⟨_, _, rfl, s3, fun q h => ?_⟩
        rw [List.take_add_one, hp] at h
        rcases List.mem_append.mp h with h | h
        · exact hall q h
        · have : q = (t, true) := by simpa using h
          rw [this]
      | false =>
        refine iteT ⟨_, rfl, ?_⟩
        have := k _ s3
        rw [ahead_at hp hall] at this
        exact this
    · rintro σ H2 ⟨u, v, rfl, s2, hall⟩
      rw [xl, List.take_length] at hall
      have := k _ s2
      rw [ahead_full hall, ← xl] at this
      exact ⟨_, rfl, a, _, rfl, .inl (SqL.of (s2 _ _ ha)), this⟩
theorem ok_passesahead (T : LX K mg L) : Cal P w K mg base "passes_ahead" 1 L.f_passes_ahead ["log"] (spAhead) := T.d_passes_ahead.cal fun fd F => fn_passesahead T F
abbrev N_gapsof : List Str := ["log", "gaps", "latest", "time", "passed"]
theorem sc_gapsof : FnScope N_gapsof ["log"] (defScope st_gaps_of) := ⟨rfl, rfl, rfl, by decide +kernel, rfl, by decide +kernel, by decide +kernel⟩
theorem fn_gapsof (T : LX K mg L) {fd : FuncData} (F : Fun K "gaps_of" "gaps_of" st_gaps_of L.f_gaps_of fd) : FnOk P w K mg base CX0 1 L.f_gaps_of fd ["log"] (spGaps) := by
  have nd := sc_gapsof.nd
  refine F.ok sc_gapsof (fun vs H Q E h => ?_) (fun cdv A outer S H vs Q E hr h => ?_)
  · obtain ⟨a, xs, ps, rfl, _⟩ := h
    rfl
  · obtain ⟨a, xs, ps, rfl, ha, hx, ln, k⟩ := h
    refine ⟨_, (pss_cons (ps_set (i := 1) nd rfl (Or.inl rfl) (pe_lst pa_nil))
       (pss_cons (ps_set (i := 2) nd rfl (Or.inl rfl) pe_non)
       (pss_cons (ps_for PassesOwn.never rfl (pi_list (pv 0)) (pg_tup rfl (pgs_cons (pg_name (i := 3) nd rfl (Or.inl rfl)) (pgs_cons (pg_name (i := 4) nd rfl (Or.inl rfl)) pgs_nil))) (pss_cons (ps_expr (pe_bm PySem.F.plainAttrs_list PySem.F.slot_list_append PySem.F.type_list_append mt_append (pv 1) (pa_cons (pe_ifExp (pt_cmp (pc_isN (pv 2))) pe_non (pe_op op_sub (pv 3) (pv 2))) pa_nil)))
       (pss_one (ps_if (pt_val (pv 4)) (pss_one (ps_set (i := 2) nd rfl (Or.inl rfl) (pv 3))) pss_nil))))
       (pss_one (ps_ret (pv 1)))))), ?_⟩
    have xl := paired_len hx
    refine ⟨(by show 0 ≤ sizeLine; decide), fun l nl => ⟨_, rfl, a, rfl, ⟨_, SqL.of ((Same.upd nl) _ _ ha)⟩, ?_⟩⟩
    refine for_list (K := K) (a := a) (xs := xs) (fun i σ Hx => ∃ v3 v4 : Option V, σ = [some (.ref a), some (.ref l), some (gpV (latA none (ps.take i))), v3, v4] ∧ Hx l = some (.lst (((gapL ps).take i).map gpV)) ∧ Same H Hx) ⟨none, none, rfl, upd_same, Same.upd nl⟩ (fun i σ Hx _ ⟨_, _, _, _, sx⟩ => SqL.of (sx _ _ ha)) ?_ ?_
    · rintro i x σ Hx hxi ⟨v3, v4, rfl, hl, sx⟩
      obtain ⟨⟨t, p⟩, hp, c, rfl, hc⟩ := paired_get hx hxi
      have hc3 := sx _ _ hc
      have hg := gapL_at hp
      have et : ps.take (i + 1) = ps.take i ++ [(t, p)] := by rw [List.take_add_one, hp]; rfl
      have eg : (gapL ps).take (i + 1) = (gapL ps).take i ++ [(latA none (ps.take i)).map fun u => t - u] := by rw [List.take_add_one, hg]; rfl
      have gl : (((gapL ps).take i).map gpV).length ≤ 1001 := by
        have hi := (List.getElem?_eq_some_iff.mp hxi).1
        rw [List.length_map, List.length_take]
        omega
      refine ⟨c, _, rfl, SqT.of hc3, rfl, _, _, rfl, _, _, rfl, rfl, ?_⟩
      rw [eg, et, latA_app]
      generalize latA none (ps.take i) = o at hl ⊢
      have fin : ∀ H1 : Hp, H1 l = some (.lst (((gapL ps).take i).map gpV ++ [gpV (o.map fun u => t - u)])) → (∀ b u, H b = some u → H1 b = some u) → H1 l = some (.lst (((gapL ps).take i ++ [o.map fun u => t - u]).map gpV)) ∧ Same H H1 := fun H1 h1 h2 => ⟨by rw [h1, List.map_append]; rfl, h2⟩
      have kp : ∀ b u, H b = some u → (upd Hx l (.lst (((gapL ps).take i).map gpV ++ [gpV (o.map fun u => t - u)]))) b = some u := fun b u e => by
        rw [upd_ne (ne_of_none e nl)]
        exact sx _ _ e
      have h1 := fin _ upd_same kp
      refine ⟨_, rfl, .inl ⟨rfl, _, SqL.of hl⟩, ?_⟩
      cases o with
      | none =>
        refine ⟨_, rfl, _, rfl, iteT ⟨l, _, .non, rfl, rfl, hl, small1 (by omega), _, rfl, _, rfl, ?_⟩⟩
        cases p with
        | true => exact iteT ⟨_, rfl, _, _, rfl, h1⟩
        | false => exact iteF ⟨_, _, rfl, h1⟩
      | some u =>
        refine ⟨_, rfl, _, rfl, iteF ⟨_, rfl, _, rfl, _, _, rfl, rfl, l, _, .int (t - u), rfl, rfl, hl, small1 (by omega), _, rfl, _, rfl, ?_⟩⟩
        cases p with
        | true => exact iteT ⟨_, rfl, _, _, rfl, h1⟩
        | false => exact iteF ⟨_, _, rfl, h1⟩
    · rintro σ Hx ⟨v3, v4, rfl, hl, sx⟩
      rw [xl, List.take_of_length_le (by unfold gapL; rw [List.length_map, List.length_range]; exact Nat.le_refl _)] at hl
      exact ⟨_, rfl, k l Hx hl sx nl⟩
theorem ok_gapsof (T : LX K mg L) : Cal P w K mg base "gaps_of" 1 L.f_gaps_of ["log"] (spGaps) := T.d_gaps_of.cal fun fd F => fn_gapsof T F
abbrev N_narrowed : List Str := ["bounds", "gap", "passed", "low", "high"]
theorem sc_narrowed : FnScope N_narrowed ["bounds", "gap", "passed"] (defScope st_narrowed) := ⟨rfl, rfl, rfl, by decide +kernel, rfl, by decide +kernel, by decide +kernel⟩
theorem fn_narrowed (T : LX K mg L) {fd : FuncData} (F : Fun K "narrowed" "narrowed" st_narrowed L.f_narrowed fd) : FnOk P w K mg base CX0 1 L.f_narrowed fd ["bounds", "gap", "passed"] (spNar) := by
  have nd := sc_narrowed.nd
  refine F.ok sc_narrowed (fun vs H Q E h => ?_) (fun cdv A outer S H vs Q E hr h => ?_)
  · obtain ⟨T0, b, g, p, rfl, _⟩ := h
    rfl
  · obtain ⟨T0, b, g, p, rfl, hT, k⟩ := h
    refine ⟨_, (pss_cons (ps_asg (pv 0) (pg_tup rfl (pgs_cons (pg_name (i := 3) nd rfl (Or.inl rfl)) (pgs_cons (pg_name (i := 4) nd rfl (Or.inl rfl)) pgs_nil))))
       (pss_cons (ps_if (pt_val (pv 2)) (pss_one (ps_ret (pe_tup (pa_cons (pv 3) (pa_cons (pe_callB (call_min2 rfl) (by rfl) T.b_min (by decide +kernel) (pa_cons (pv 4) (pa_cons (pv 1) pa_nil))) pa_nil))))) pss_nil)
       (pss_one (ps_ret (pe_tup (pa_cons (pe_callB (call_max2 rfl) (by rfl) T.b_max (by decide +kernel) (pa_cons (pv 3) (pa_cons (pe_op op_add (pv 1) pe_int) pa_nil))) (pa_cons (pv 4) pa_nil))))))), ?_⟩
    refine ⟨_, rfl, T0, _, rfl, SqT.of hT, rfl, _, _, rfl, _, _, rfl, rfl, ?_⟩
    cases p with
    | true =>
      refine ⟨_, rfl, _, rfl, iteT ⟨_, rfl, _, rfl, _, rfl, _, _, rfl, (by show 2 ≤ sizeLine; decide), fun T1 h1 => ?_⟩⟩
      exact k T1 _ upd_same (Same.upd h1)
    | false =>
      refine ⟨_, rfl, _, rfl, iteF ⟨_, rfl, _, rfl, _, _, rfl, rfl, _, _, rfl, _, rfl, (by show 2 ≤ sizeLine; decide), fun T1 h1 => ?_⟩⟩
      exact k T1 _ upd_same (Same.upd h1)
theorem ok_narrowed (T : LX K mg L) : Cal P w K mg base "narrowed" 1 L.f_narrowed ["bounds", "gap", "passed"] (spNar) := T.d_narrowed.cal fun fd F => fn_narrowed T F
abbrev N_explanations : List Str := ["log", "ahead", "gaps", "bounds", "found", "failures"]
theorem sc_explanations : FnScope N_explanations ["log"] (defScope st_explanations) := ⟨rfl, rfl, rfl, by decide +kernel, rfl, by decide +kernel, by decide +kernel⟩
theorem fn_explanations (T : LX K mg L) {fd : FuncData} (F : Fun K "explanations" "explanations" st_explanations L.f_explanations fd) : FnOk P w K mg base (L2.CX P w) 5 L.f_explanations fd ["log"] (spExpl) := by
  have G_checklog := ok_checklog (P := P) (w := w) (base := base) T
  have G_passesahead := ok_passesahead (P := P) (w := w) (base := base) T
  have G_gapsof := ok_gapsof (P := P) (w := w) (base := base) T
  obtain ⟨tk_MOST_TIME, c_MOST_TIME⟩ := T.n_MOST_TIME
  have G_narrowed := ok_narrowed (P := P) (w := w) (base := base) T
  have nd := sc_explanations.nd
  refine F.okX sc_explanations (fun vs H Q E h => ?_) (fun cdv A outer S H vs Q E hr h => ?_)
  · obtain ⟨a, xs, ps, rfl, _⟩ := h
    rfl
  · obtain ⟨a, xs, ps, rfl, ha, hx, ok, k⟩ := h
    refine ⟨_, (pss_cons (ps_expr (pe_cX G_checklog (hr.mono (by decide)) rfl (fun σ => passAt (takes_of rfl rfl rfl rfl) σ) (pa_cons (pv 0) pa_nil)))
       (pss_cons (ps_set (i := 1) nd rfl (Or.inl rfl) (pe_c G_passesahead (hr.mono (by decide)) rfl (pa_cons (pv 0) pa_nil)))
       (pss_cons (ps_if (pt_cmpR op_eq (pv 1) pe_int (nomark _)) (pss_one (ps_ret (pe_ifExp (pt_truth (pv 0) (fun _ => rfl)) (pe_lst pa_nil) (pe_lst (pa_cons (pe_tup (pa_cons pe_int (pa_cons pe_int (pa_cons (pe_gI c_MOST_TIME) pa_nil)))) pa_nil))))) pss_nil)
       (pss_cons (ps_set (i := 2) nd rfl (Or.inl rfl) (pe_c G_gapsof (hr.mono (by decide)) rfl (pa_cons (pv 0) pa_nil)))
       (pss_cons (ps_set (i := 3) nd rfl (Or.inl rfl) (pe_tup (pa_cons pe_int (pa_cons (pe_gI c_MOST_TIME) pa_nil))))
       (pss_cons (ps_set (i := 4) nd rfl (Or.inl rfl) (pe_lst pa_nil))
       (pss_cons (ps_for (passes_of rfl) rfl (pi_range3 rfl T.b_range (pa_cons (pe_callB call_len_seq (by rfl) T.b_len PySem.boot_len (pa_cons (pv 0) pa_nil)) (pa_cons pe_int (pa_cons (pe_un un_neg pe_int) pa_nil)))) (pg_name (i := 5) nd rfl (Or.inl rfl)) (C8.pss_cut (ps_if (pt_cmpR op_lt (pv 5) (pe_callB call_len_seq (by rfl) T.b_len PySem.boot_len (pa_cons (pv 0) pa_nil)) (nomark _)) (pss_one (ps_set (i := 3) nd rfl (Or.inl rfl) (pe_c G_narrowed (hr.mono (by decide)) rfl (pa_cons (pv 3) (pa_cons (pe_ix (r := rIxL K) ix_list (pv 2) (pv 5) (fun _ _ => rfl)) (pa_cons (pe_ix (r := rIxT K) ix_tup (pe_ix (r := rIxL K) ix_list (pv 0) (pv 5) (fun _ _ => rfl)) pe_int (fun _ _ => rfl)) pa_nil)))))) pss_nil)
       (pss_one (ps_if (PW.pt (pw_and (pt_cmpR op_le (pv 5) (pv 1) (nomark _)) (pw_and1 (pt_cmpR op_le (pe_ix (r := rIxT K) ix_tup (pv 3) pe_int (fun _ _ => rfl)) (pe_ix (r := rIxT K) ix_tup (pv 3) pe_int (fun _ _ => rfl)) (nomark _))))) (pss_one (ps_expr (pe_bm PySem.F.plainAttrs_list PySem.F.slot_list_append PySem.F.type_list_append mt_append (pv 4) (pa_cons (pe_tup (pa_cons (pv 5) (pa_cons (pe_ix (r := rIxT K) ix_tup (pv 3) pe_int (fun _ _ => rfl)) (pa_cons (pe_ix (r := rIxT K) ix_tup (pv 3) pe_int (fun _ _ => rfl)) pa_nil)))) pa_nil)))) pss_nil))))
       (pss_one (ps_ret (pe_revL (pv 4))))))))))), ?_⟩
    have xl := paired_len hx
    have ln := ok.ln
    refine ⟨_, rfl, a, xs, ps, rfl, ha, hx, ok, fun H1 s1 => ?_⟩
    refine ⟨_, rfl, a, xs, ps, rfl, s1 _ _ ha, hx.same s1, ln, fun H2 s2 => ?_⟩
    have s12 := s1.trans s2
    refine ⟨_, rfl, rfl, _, rfl, ?_⟩
    refine ite2 (fun c => ?_) (fun c => ?_)
    · have c0 : aheadG ps = 0 := by have := V.int.inj (of_decide_eq_true c); omega
      cases ps with
      | nil =>
        have x0 : xs = [] := List.length_eq_zero_iff.mp xl
        subst x0
        refine ⟨_, rfl, false, .inl ⟨_, SqL.of (s12 _ _ ha), rfl⟩, iteF ⟨(by show 3 ≤ sizeLine; decide), fun t nt => ⟨(by show 1 ≤ sizeLine; decide), fun l nl => ?_⟩⟩⟩
        exact k l _ _ upd_same (.cons ⟨t, rfl, (Same.upd nl) _ _ upd_same⟩ .nil) ((s12.trans (Same.upd nt)).trans (Same.upd nl)) (none_of (s12.trans (Same.upd nt)) nl)
      | cons q r =>
        refine ⟨_, rfl, true, .inl ⟨_, SqL.of (s12 _ _ ha), ?_⟩, iteT ⟨(by show 0 ≤ sizeLine; decide), fun l nl => ?_⟩⟩
        · cases xs with
          | nil => cases xl
          | cons => rfl
        refine k l [] _ upd_same ?_ (s12.trans (Same.upd nl)) (none_of s12 nl)
        have e : exG (q :: r) = [] := by
          unfold exG
          rw [if_neg (fun z => nomatch z)]
          unfold exUp
          rw [List.flatMap_eq_nil_iff]
          intro j _
          unfold exF
          rw [if_neg (fun z => by have := z.1; omega)]
        rw [e]
        exact .nil
    have h0 : 1 ≤ aheadG ps := by
      have : ¬ aheadG ps = 0 := fun z => c (decide_eq_true (by rw [z]; rfl))
      omega
    have hl := ahead_le ps
    refine ⟨_, rfl, a, xs, ps, rfl, s12 _ _ ha, hx.same s12, by omega, fun lg H3 hg s3 nlg => ?_⟩
    have s13 := s12.trans s3
    refine ⟨(by show 2 ≤ sizeLine; decide), fun tb ntb => ⟨(by show 0 ≤ sizeLine; decide), fun lf nlf => ?_⟩⟩
    have sb := Same.upd (o := .tup [.int 1, .int 1000000000000000000000000000000]) ntb
    have sf := Same.upd (o := .lst []) nlf
    have sbf := sb.trans sf
    have s1f := s13.trans sbf
    have xal : (xs.length : Int) ≤ 1000 := by omega
    refine ⟨_, rfl, a, _, rfl, .inl (SqL.of (s1f _ _ ha)), 1, rfl, _, _, _, _, rfl, RgC.neg (by omega) (by omega) (by decide) (by decide), ?_⟩
    rw [Int.sub_zero, Int.toNat_natCast]
    refine for_rangeC (lo := (xs.length : Int)) (c := -1) (n := xs.length) (fun i σ Hx => ∃ (v5 : Option V) (b : Addr) (ys : List V), σ = [some (.ref a), some (.int (aheadG ps : Int)), some (.ref lg), some (.ref b), some (.ref lf), v5] ∧ Hx b = some (.tup [.int (bnG ps (if i = 0 then ps.length else ps.length - i + 1)).1, .int (bnG ps (if i = 0 then ps.length else ps.length - i + 1)).2]) ∧ Hx lf = some (.lst ys) ∧ Brs Hx ys (exRev ps i) ∧ Same H3 Hx)
      ⟨none, tb, [], rfl, by rw [if_pos rfl, bn_end]; exact sf _ _ upd_same, upd_same, .nil, sbf⟩ ?_ ?_
    · rintro i σ Hx hi ⟨v5, b, ys, rfl, hb, hlf, hys, sx⟩
      have ef : (xs.length : Int) + (i : Int) * -1 = ((ps.length - i : Nat) : Int) := by omega
      rw [ef]
      obtain ⟨f, hf⟩ : ∃ f, f = ps.length - i := ⟨_, rfl⟩
      rw [← hf, exRev_succ, ← hf]
      have sHx := s13.trans sx
      have hax := sHx _ _ ha
      obtain ⟨f1, f2⟩ : 1 ≤ f ∧ f ≤ ps.length := ⟨by omega, by omega⟩
      have yl := hys.len
      have yl2 := exRev_len ps i
      refine ⟨fun σ' H' => ∃ b' : Addr, σ' = [some (.ref a), some (.int (aheadG ps : Int)), some (.ref lg), some (.ref b'), some (.ref lf), some (.int (f : Int))] ∧ H' b' = some (.tup [.int (bnG ps f).1, .int (bnG ps f).2]) ∧ Same Hx H', ?_, ?_⟩
      · refine ⟨_, rfl, _, rfl, a, _, rfl, .inl (SqL.of hax), _, _, rfl, rfl, _, rfl, ?_⟩
        by_cases c0 : i = 0
        · rw [if_pos c0] at hb
          rw [decide_eq_false (show ¬ (f : Int) < (xs.length : Nat) by omega)]
          refine iteF ⟨b, rfl, ?_, Same.refl _⟩
          rw [show f = ps.length by omega]
          exact hb
        · rw [if_neg c0] at hb
          rw [decide_eq_true (show (f : Int) < (xs.length : Nat) by omega)]
          obtain ⟨x, hx1⟩ : ∃ x, xs[f]? = some x := ⟨_, List.getElem?_eq_getElem (by omega)⟩
          obtain ⟨⟨t, p⟩, hp, c, rfl, hc⟩ := paired_get hx hx1
          obtain ⟨q1, u, q2, q3⟩ := bn_step hp f1 h0
          have hgf := gapL_at hp
          rw [q2] at hgf
          have hgf2 : ((gapL ps).map gpV)[f]? = some (.int (t - u)) := by rw [List.getElem?_map, hgf]; rfl
          rw [show ps.length - i + 1 = f + 1 by omega] at hb
          refine iteT ⟨_, rfl, _, rfl, _, rfl, lg, _, (f : Int), .int (t - u), rfl, rfl, SqL.of (sx _ _ hg), atI_nat hgf2, ?_⟩
          refine ⟨_, rfl, _, rfl, a, _, (f : Int), .ref c, rfl, rfl, SqL.of hax, atI_nat hx1, c, _, 1, .bl p, rfl, rfl, SqT.of (sHx _ _ hc), rfl, ?_⟩
          refine ⟨b, bnG ps (f + 1), t - u, p, rfl, hb, fun T' H' hT sT => ⟨T', rfl, ?_, sT⟩⟩
          rw [q1, q3]
          exact hT
      rintro σ' H' ⟨b', rfl, hb', s'⟩
      have eb : (if i + 1 = 0 then ps.length else ps.length - (i + 1) + 1) = f := by rw [if_neg (Nat.succ_ne_zero i)]; omega
      rw [eb]
      have hlf' := s' _ _ hlf
      have hys' : Brs H' ys (exRev ps i) := hys.nl (NL.of s')
      have nof : ∀ q : ¬ (f ≤ aheadG ps ∧ (bnG ps f).1 ≤ (bnG ps f).2), ∃ (v5 : Option V) (b : Addr) (ys : List V), [some (V.ref a), some (V.int (aheadG ps : Int)), some (V.ref lg), some (V.ref b'), some (V.ref lf), some (V.int (f : Int))] = [some (.ref a), some (.int (aheadG ps : Int)), some (.ref lg), some (.ref b), some (.ref lf), v5] ∧ H' b = some (.tup [.int (bnG ps f).1, .int (bnG ps f).2]) ∧ H' lf = some (.lst ys) ∧ Brs H' ys (exRev ps i ++ exF ps f) ∧ Same H3 H' := fun q => by
        unfold exF
        rw [if_neg q, List.append_nil]
        exact ⟨_, _, _, rfl, hb', hlf', hys', sx.trans s'⟩
      refine ⟨_, rfl, _, rfl, _, _, rfl, rfl, _, rfl, ?_⟩
      refine ite2 (fun d1 => ?_) (fun d1 => nof fun q => d1 (decide_eq_true (by omega)))
      have d1' := of_decide_eq_true d1
      refine ⟨_, rfl, b', _, 0, .int (bnG ps f).1, rfl, rfl, SqT.of hb', rfl, _, rfl, b', _, 1, .int (bnG ps f).2, rfl, rfl, SqT.of hb', rfl, _, _, rfl, rfl, _, rfl, ?_⟩
      refine ite2 (fun d2 => ?_) (fun d2 => nof fun q => d2 (decide_eq_true q.2))
      have d2' := of_decide_eq_true d2
      refine ⟨_, rfl, .inl ⟨rfl, _, SqL.of hlf'⟩, _, rfl, _, rfl, b', _, 0, .int (bnG ps f).1, rfl, rfl, SqT.of hb', rfl, _, rfl, b', _, 1, .int (bnG ps f).2, rfl, rfl, SqT.of hb', rfl, (by show 3 ≤ sizeLine; decide), fun t3 nt3 => ?_⟩
      have s3' := Same.upd (o := .tup [.int (f : Int), .int (bnG ps f).1, .int (bnG ps f).2]) nt3
      have hlf3 := s3' _ _ hlf'
      have n6 := NL.upd (o := .lst (ys ++ [.ref t3])) hlf3
      refine ⟨lf, ys, _, rfl, rfl, hlf3, small1 (by omega), _, b', ys ++ [.ref t3], rfl, n6 _ _ (s3' _ _ hb') (fun _ z => nomatch z), upd_same, ?_, fun p o e => ?_⟩
      · unfold exF
        rw [if_pos ⟨by omega, d2'⟩]
        exact Brs.app ((hys'.nl (NL.of s3')).nl n6) (.cons ⟨t3, rfl, n6 _ _ upd_same fun _ z => nomatch z⟩ .nil)
      · rw [upd_ne (ne_of_none e (none_of sb nlf))]
        exact s3' _ _ (s' _ _ (sx _ _ e))
    · rintro σ Hx ⟨v5, b, ys, rfl, hb, hlf, hys, sx⟩
      refine ⟨_, rfl, lf, ys, rfl, SqL.of hlf, fun l nl => ?_⟩
      refine k l _ _ upd_same ?_ ((s13.trans sx).trans (Same.upd nl)) (none_of (s13.trans sx) nl)
      have e : exG ps = (exRev ps xs.length).reverse := by
        rw [xl, ex_all]
        unfold exG
        rw [if_neg (fun z => by rw [z] at h0; exact absurd h0 (by decide))]
      rw [e]
      exact paired_rev (hys.nl (NL.of (Same.upd nl)))
theorem ok_explanations (T : LX K mg L) : CalX P w K mg base "explanations" 5 L.f_explanations ["log"] (spExpl) := T.d_explanations.calX fun fd F => fn_explanations T F
end
/-! ### the first conflict of a log that a breaker explains -/
theorem nar_tight (b : Int × Int) (g : Int) (p : Bool) : b.1 ≤ (nar b g p).1 ∧ (nar b g p).2 ≤ b.2 ∧ (p = true → (nar b g p).2 ≤ g) ∧ (p = false → g + 1 ≤ (nar b g p).1) := by
  obtain ⟨lo, hi⟩ := b
  cases p with
  | true =>
    show lo ≤ lo ∧ (if g < hi then g else hi) ≤ hi ∧ (true = true → (if g < hi then g else hi) ≤ g) ∧ (true = false → _)
    refine ⟨Int.le_refl _, by split <;> omega, fun _ => by split <;> omega, fun z => nomatch z⟩
  | false =>
    show lo ≤ (if lo < g + 1 then g + 1 else lo) ∧ hi ≤ hi ∧ (false = true → _) ∧ (false = false → g + 1 ≤ (if lo < g + 1 then g + 1 else lo))
    refine ⟨by split <;> omega, Int.le_refl _, fun z => (nomatch z), fun _ => by split <;> omega⟩
theorem bn_mono {ps : Lg} (h0 : 1 ≤ aheadG ps) {a : Nat} (a1 : 1 ≤ a) : ∀ n : Nat, a + n ≤ ps.length → (bnG ps (a + n)).1 ≤ (bnG ps a).1 ∧ (bnG ps a).2 ≤ (bnG ps (a + n)).2
  | 0, _ => ⟨Int.le_refl _, Int.le_refl _⟩
  | n + 1, h => by
    obtain ⟨i1, i2⟩ := bn_mono h0 a1 n (by omega)
    obtain ⟨⟨t, p⟩, hp⟩ : ∃ q, ps[a + n]? = some q := ⟨_, List.getElem?_eq_getElem (by omega)⟩
    obtain ⟨e, _⟩ := bn_step hp (by omega) h0
    have tt := nar_tight (bnG ps (a + n + 1)) (t - uG ps (a + n)) p
    rw [← e] at tt
    exact ⟨by show (bnG ps (a + n + 1)).1 ≤ _; omega, by show _ ≤ (bnG ps (a + n + 1)).2; omega⟩
def fwd (ps : Lg) (a : Nat) : Nat → Int × Int
  | 0 => (1, mtE)
  | i + 1 => nar (fwd ps a i) ((ps.getD (a + i) (0, true)).1 - uG ps (a + i)) (ps.getD (a + i) (0, true)).2
theorem fwd_loose {ps : Lg} (h0 : 1 ≤ aheadG ps) {a : Nat} (a1 : 1 ≤ a) (al : a ≤ ps.length) : ∀ i : Nat, a + i ≤ ps.length → (fwd ps a i).1 ≤ (bnG ps a).1 ∧ (bnG ps a).2 ≤ (fwd ps a i).2
  | 0, _ => by
    have := bn_mono h0 a1 (ps.length - a) (by omega)
    rw [show a + (ps.length - a) = ps.length by omega, bn_end] at this
    exact this
  | i + 1, h => by
    obtain ⟨i1, i2⟩ := fwd_loose h0 a1 al i (by omega)
    obtain ⟨⟨t, p⟩, hp⟩ : ∃ q, ps[a + i]? = some q := ⟨_, List.getElem?_eq_getElem (by omega)⟩
    obtain ⟨e, _⟩ := bn_step hp (by omega) h0
    obtain ⟨m1, m2⟩ := bn_mono h0 a1 i (by omega)
    have eg : ps.getD (a + i) (0, true) = (t, p) := by rw [List.getD_eq_getElem?_getD, hp]; rfl
    have tt := nar_tight (bnG ps (a + i + 1)) (t - uG ps (a + i)) p
    rw [← e] at tt
    obtain ⟨_, _, t3, t4⟩ := tt
    show (nar (fwd ps a i) ((ps.getD (a + i) (0, true)).1 - uG ps (a + i)) (ps.getD (a + i) (0, true)).2).1 ≤ _ ∧ _ ≤ (nar (fwd ps a i) ((ps.getD (a + i) (0, true)).1 - uG ps (a + i)) (ps.getD (a + i) (0, true)).2).2
    rw [eg]
    show (nar (fwd ps a i) (t - uG ps (a + i)) p).1 ≤ _ ∧ _ ≤ (nar (fwd ps a i) (t - uG ps (a + i)) p).2
    generalize fwd ps a i = b at i1 i2 ⊢
    obtain ⟨lo, hi⟩ := b
    cases p with
    | true =>
      have := t3 rfl
      show lo ≤ _ ∧ _ ≤ (if t - uG ps (a + i) < hi then t - uG ps (a + i) else hi)
      refine ⟨i1, ?_⟩
      split <;> omega
    | false =>
      have := t4 rfl
      show (if lo < t - uG ps (a + i) + 1 then t - uG ps (a + i) + 1 else lo) ≤ _ ∧ _ ≤ hi
      refine ⟨?_, i2⟩
      split <;> omega
def spFcN : Sp := fun vs H Q _ => ∃ a xs ps, vs = [.ref a] ∧ H a = some (.lst xs) ∧ Lgs H xs ps ∧ OkLog ps ∧ (ps = [] ∨ (1 ≤ aheadG ps ∧ (bnG ps (aheadG ps)).1 ≤ (bnG ps (aheadG ps)).2)) ∧ ∀ H', Same H H' → Q .non H'
section
variable {P : Program} {w : World} {K : PySem.W.Frag} {mg : Str → Option Value} {base : Heap} {L : LA}
end
/-! ### the forecast, for a log that a breaker explains -/
def gapN (ps : Lg) (t : Int) : Int := t - (latA none ps).getD 0
def spFore : Sp := fun vs H Q _ => ∃ a xs ps t, vs = [.ref a, .int t] ∧ H a = some (.lst xs) ∧ Lgs H xs ps ∧ OkLog ps ∧ (ps = [] ∨ (1 ≤ aheadG ps ∧ (bnG ps (aheadG ps)).1 ≤ (bnG ps (aheadG ps)).2)) ∧ (∀ q ∈ ps, q.1 < t) ∧ 0 ≤ t ∧
  ∀ (wd : Str) H', (wd = "pass" ∨ wd = "reject" ∨ wd = "either") → (wd = "pass" → ps ≠ [] → ∀ e ∈ exG ps, e.2.2 ≤ gapN ps t) → (wd = "reject" → ps ≠ [] ∧ ∀ e ∈ exG ps, gapN ps t < e.2.1) → Same H H' → Q (.str wd) H'
theorem ex_ne {ps : Lg} (hn : ps ≠ []) (h0 : 1 ≤ aheadG ps) (hb : (bnG ps (aheadG ps)).1 ≤ (bnG ps (aheadG ps)).2) : exG ps ≠ [] := by
  unfold exG
  rw [if_neg hn]
  have hl := ahead_le ps
  have : ((aheadG ps : Int), (bnG ps (aheadG ps)).1, (bnG ps (aheadG ps)).2) ∈ exUp ps ps.length := by
    unfold exUp
    refine List.mem_flatMap.mpr ⟨aheadG ps - 1, List.mem_range.mpr (by omega), ?_⟩
    rw [show aheadG ps - 1 + 1 = aheadG ps by omega]
    unfold exF
    rw [if_pos ⟨Nat.le_refl _, hb⟩]
    exact List.mem_singleton.mpr rfl
  intro z
  rw [z] at this
  cases this
theorem latA_is {ps : Lg} (h0 : 1 ≤ aheadG ps) : ∃ v, latA none ps = some v := by
  cases ps with
  | nil => cases h0
  | cons q r =>
    obtain ⟨t, p⟩ := q
    cases p with
    | false => cases h0
    | true => exact latA_some r t
section
variable {P : Program} {w : World} {K : PySem.W.Frag} {mg : Str → Option Value} {base : Heap} {L : LA}
end
/-! ### k45 -/
def spLLog : Sp := fun vs H Q _ => ∃ x b a ns, vs = [x, .ref a] ∧ BrAt H x b ∧ OkT b ∧ H a = some (.lst (ns.map V.int)) ∧ ns.length ≤ 1000 ∧ ∀ l zs H', H' l = some (.lst zs) → Lgs H' zs (lgG b ("closed", 0) ns) → Same H H' → H l = none → Q (.ref l) H'
def spLTimes : Sp := fun vs H Q _ => ∃ s u n, vs = [.ref s, .int u] ∧ Src H s n ∧ n ≤ 700000 ∧ 1 ≤ u ∧ u ≤ 100000000000000000000 ∧
  ∀ l ns H', H' l = some (.lst (ns.map V.int)) → Asc 0 ns → ns.length ≤ 40 → Src H' s (n + 250) → Kp s H H' → H l = none → Q (.ref l) H'
theorem asc_app : ∀ {lo : Int} {ns : List Int} {t : Int}, Asc lo ns → lstG lo ns ≤ t → Asc lo (ns ++ [t])
  | _, [], _, _, h => ⟨h, True.intro⟩
  | _, _ :: _, _, ⟨h1, h2⟩, h => ⟨h1, asc_app h2 h⟩
theorem lgG_far {f : Int} : ∀ (ns : List Int) (k : Int), k + ns.length < f → lgG (f, 1, 1) ("closed", k) ns = ns.map fun t => (t, true)
  | [], _, _ => rfl
  | t :: r, k, h => by
    rw [List.length_cons] at h
    have hp : psB (f, 1, 1) ("closed", k) t := fun e => absurd e sC_O
    have e : nxG (f, 1, 1) ("closed", k) t = (("closed", k + 1) : StD) := (if_pos hp).trans ((badS_closed rfl).trans (if_pos (show k + 1 < f by omega)))
    show (t, decide (psB (f, 1, 1) ("closed", k) t)) :: lgG (f, 1, 1) (nxG (f, 1, 1) ("closed", k) t) r = _
    rw [e, decide_eq_true hp, lgG_far r (k + 1) (by omega)]
    rfl
theorem lgG_three : lgG (1, 1000000000000000000000000000000, 1000000000000) ("closed", 0) [0, 999999999999999999999999999999, 1000000000000000000000000000000] = [(0, true), (999999999999999999999999999999, false), (1000000000000000000000000000000, true)] := by decide +kernel
def spLRight : Sp := fun vs H Q _ => ∃ s, vs = [.ref s] ∧ Src H s 0 ∧ ∀ H', Kp s H H' → Q (.bl true) H'
section
variable {P : Program} {w : World} {K : PySem.W.Frag} {mg : Str → Option Value} {base : Heap} {L : LA}
abbrev N_wlog : List Str := ["_law_breaker", "_law_times", "_law_found", "_law_left", "_law_since", "_law_time", "_law_is_passed"]
theorem sc_wlog : FnScope N_wlog ["_law_breaker", "_law_times"] (defScope st__law_log) := ⟨rfl, rfl, rfl, by decide +kernel, rfl, by decide +kernel, by decide +kernel⟩
theorem fn_wlog (T : LX K mg L) {fd : FuncData} (F : Fun K "_law_log" "_law_log" st__law_log L.f__law_log fd) : FnOk P w K mg base CX0 1 L.f__law_log fd ["_law_breaker", "_law_times"] (spLLog) := by
  have nd := sc_wlog.nd
  refine F.ok sc_wlog (fun vs H Q E h => ?_) (fun cdv A outer S H vs Q E hr h => ?_)
  · obtain ⟨x, b, a, ns, rfl, _⟩ := h
    rfl
  · obtain ⟨x, b, a, ns, rfl, hb, okb, ha, hl, k⟩ := h
    refine ⟨_, (pss_cons (ps_par3 (i := 2) (j := 3) (l := 4) (by rfl) nd rfl rfl rfl (by decide) (by decide) (by decide) rfl rfl rfl (pa_cons (pe_lst pa_nil) (pa_cons (pe_ix (r := rIxT K) ix_tup (pv 0) pe_int (fun _ _ => rfl)) (pa_cons pe_non pa_nil))) (by rfl))
       (pss_cons (ps_for PassesOwn.never rfl (pi_list (pv 1)) (pg_name (i := 5) nd rfl (Or.inl rfl)) (C8.pss_cut (ps_set (i := 6) nd rfl (Or.inl rfl) (pe_or (pe_cmp (pc_isN (pv 4))) (pe_one (pe_cmpR op_ge (pv 5) (pe_op op_add (pv 4) (pe_ix (r := rIxT K) ix_tup (pv 0) pe_int (fun _ _ => rfl))) (nomark _)))))
       (C8.pss_cut (ps_if (pt_val (pv 6)) (pss_cons (ps_set (i := 3) nd rfl (Or.inl rfl) (pe_callB (call_max2 rfl) (by rfl) T.b_max (by decide +kernel) (pa_cons (pe_op op_sub (pv 3) pe_int) (pa_cons pe_int pa_nil))))
       (pss_one (ps_set (i := 4) nd rfl (Or.inl rfl) (pe_ifExp (pt_cmpR op_eq (pv 3) pe_int (nomark _)) (pv 5) pe_non)))) pss_nil)
       (pss_one (ps_expr (pe_bm PySem.F.plainAttrs_list PySem.F.slot_list_append PySem.F.type_list_append mt_append (pv 2) (pa_cons (pe_tup (pa_cons (pv 5) (pa_cons (pv 6) pa_nil))) pa_nil)))))))
       (pss_one (ps_ret (pv 2))))), ?_⟩
    obtain ⟨ab, rfl, hab⟩ := hb
    refine ⟨(by show 0 ≤ sizeLine; decide), fun l nl => ?_⟩
    have s1 := Same.upd (o := .lst []) nl
    refine ⟨_, rfl, ab, _, 0, .int b.1, rfl, rfl, SqT.of (s1 _ _ hab), rfl, _, _, _, rfl, ?_⟩
    refine ⟨_, rfl, a, rfl, ⟨_, SqL.of (s1 _ _ ha)⟩, ?_⟩
    refine for_list (K := K) (a := a) (xs := ns.map V.int) (fun i σ Hx => ∃ (lf : Int) (sn : V) (v5 v6 : Option V) (zs : List V), σ = [some (.ref ab), some (.ref a), some (.ref l), some (.int lf), some sn, v5, v6] ∧ LfR b (stG b ("closed", 0) (ns.take i)) lf sn ∧ Hx l = some (.lst zs) ∧ Lgs Hx zs (lgG b ("closed", 0) (ns.take i)) ∧ Same H Hx)
      ⟨b.1, .non, none, none, [], rfl, by have := LfR.cl (b := b) 0 (Int.le_refl 0) (by have := okb.1; omega); rwa [Int.sub_zero] at this, upd_same, .nil, s1⟩ (fun i σ Hx _ ⟨_, _, _, _, _, _, _, _, _, sx⟩ => SqL.of (sx _ _ ha)) ?_ ?_
    · rintro i v σ Hx hxi ⟨lf, sn, v5, v6, zs, rfl, hlf, hlx, hz, sx⟩
      rw [List.getElem?_map] at hxi
      obtain ⟨t, ht, rfl⟩ := Option.map_eq_some_iff.mp hxi
      have e : ns.take (i + 1) = ns.take i ++ [t] := by rw [List.take_add_one, ht]; rfl
      have zl := paired_len hz
      rw [lgG_len, List.length_take] at zl
      rw [e, stG_app, lgG_app]
      generalize stG b ("closed", 0) (ns.take i) = s at hlf ⊢
      have habx := sx _ _ hab
      refine ⟨fun σ' H' => σ' = [some (.ref ab), some (.ref a), some (.ref l), some (.int lf), some sn, some (.int t), some (.bl (decide (psB b s t)))] ∧ H' = Hx, ?_, ?_⟩
      · cases hlf with
        | cl n n0 n1 =>
          rw [decide_eq_true (show psB b ("closed", n) t from fun e => absurd e sC_O)]
          exact ⟨_, rfl, _, rfl, iteT ⟨rfl, rfl⟩⟩
        | op u =>
          have e : decide (psB b ("open", u) t) = decide (u + b.2.1 ≤ t) := by
            rw [Bool.eq_iff_iff, decide_eq_true_iff, decide_eq_true_iff]
            exact ⟨fun h => by have h2 : b.2.1 ≤ t - u := h rfl; omega, fun h _ => by show b.2.1 ≤ t - u; omega⟩
          rw [e]
          exact ⟨_, rfl, _, rfl, iteF ⟨_, rfl, _, rfl, _, rfl, ab, _, 1, .int b.2.1, rfl, rfl, SqT.of habx, rfl, _, _, rfl, rfl, _, _, rfl, rfl, rfl, rfl⟩⟩
      rintro σ' H' ⟨rfl, rfl⟩
      refine ⟨fun σ2 H2 => ∃ lf2 sn2, σ2 = [some (.ref ab), some (.ref a), some (.ref l), some (.int lf2), some sn2, some (.int t), some (.bl (decide (psB b s t)))] ∧ LfR b (nxG b s t) lf2 sn2 ∧ H2 = H', ?_, ?_⟩
      · refine ⟨_, rfl, _, rfl, ite2 (fun q => ?_) (fun q => ?_)⟩
        · have q' := of_decide_eq_true q
          rw [show nxG b s t = badS b s t from if_pos q']
          cases hlf with
          | cl n n0 n1 =>
            rw [badS_closed rfl]
            refine ⟨_, rfl, _, _, rfl, rfl, _, _, rfl, ?_⟩
            refine ⟨_, rfl, rfl, _, rfl, ?_⟩
            by_cases c : n + 1 < b.1
            · rw [if_pos c, if_neg (show ¬ (0 : Int) > b.1 - n - 1 by omega), dec_int, show ((b.1 - n - 1 == 0) : Bool) = false from by simpa using (show ¬ b.1 - n - 1 = 0 by omega)]
              refine iteF ⟨_, _, rfl, ?_, rfl⟩
              have := LfR.cl (b := b) (n + 1) (by omega) c
              rwa [show b.1 - (n + 1) = b.1 - n - 1 by omega] at this
            · rw [if_neg c, if_neg (show ¬ (0 : Int) > b.1 - n - 1 by omega), dec_int, show ((b.1 - n - 1 == 0) : Bool) = true from by simpa using (show b.1 - n - 1 = 0 by omega)]
              refine iteT ⟨_, rfl, _, _, rfl, ?_, rfl⟩
              rw [show b.1 - n - 1 = 0 by omega]
              exact .op t
          | op u =>
            rw [badS_other sO_C]
            refine ⟨_, rfl, _, _, rfl, rfl, _, _, rfl, ?_⟩
            exact ⟨_, rfl, rfl, _, rfl, iteT ⟨_, rfl, _, _, rfl, .op t, rfl⟩⟩
        · rw [show nxG b s t = s from if_neg fun z => q (decide_eq_true z)]
          exact ⟨_, _, rfl, hlf, rfl⟩
      rintro σ2 H2 ⟨lf2, sn2, rfl, hlf2, rfl⟩
      refine ⟨_, rfl, .inl ⟨rfl, _, SqL.of hlx⟩, _, rfl, _, rfl, (by show 2 ≤ sizeLine; decide), fun p np => ?_⟩
      have s5 := Same.upd (o := .tup [.int t, .bl (decide (psB b s t))]) np
      have hl5 := s5 _ _ hlx
      refine ⟨l, _, _, rfl, rfl, hl5, small1 (by omega), ?_⟩
      have n6 := NL.upd (o := .lst (zs ++ [.ref p])) hl5
      refine ⟨lf2, sn2, _, _, zs ++ [.ref p], rfl, hlf2, upd_same, ?_, fun u o h => ?_⟩
      · exact paired_app ((hz.same s5).nl n6) (.cons ⟨p, rfl, n6 _ _ upd_same fun _ z => nomatch z⟩ .nil)
      · rw [upd_ne (ne_of_none h nl)]
        exact s5 _ _ (sx _ _ h)
    · rintro σ Hx ⟨lf, sn, v5, v6, zs, rfl, hlf, hlx, hz, sx⟩
      rw [List.length_map, List.take_length] at hz
      exact ⟨_, rfl, k l zs Hx hlx hz sx nl⟩
theorem ok_wlog (T : LX K mg L) : Cal P w K mg base "_law_log" 1 L.f__law_log ["_law_breaker", "_law_times"] (spLLog) := T.d__law_log.cal fun fd F => fn_wlog T F
end
/-! ### k46 (and k47): logs drawn -/
def spSeen : Sp := fun vs H Q _ => ∃ (s : Addr) (m : Int) (n : Nat), vs = [.ref s, .int m] ∧ Src H s n ∧ n ≤ 700000 ∧ 0 ≤ m ∧ m ≤ 12 ∧ ∀ l zs ps H', H' l = some (.lst zs) → Lgs H' zs ps → Asc 0 (ps.map (·.1)) → (ps.length : Int) ≤ m → (∀ p ∈ ps, p.1 ≤ 200) → Src H' s (n + 100) → Kp s H H' → H l = none → Q (.ref l) H'
theorem lgG_fst (b : Tri) : ∀ (ns : List Int) (s : StD), (lgG b s ns).map (·.1) = ns
  | [], _ => rfl
  | t :: r, s => by
    show t :: (lgG b (nxG b s t) r).map (·.1) = _
    rw [lgG_fst b r]
theorem paired_set {α β : Type} {F : α → β → Prop} : ∀ {xs : List α} {ys : List β} {i : Nat} {x : α} {y : β}, Paired F xs ys → F x y → Paired F (xs.set i x) (ys.set i y)
  | _, _, _, _, _, .nil, _ => .nil
  | _, _, 0, _, _, .cons _ t, h => .cons h t
  | _, _, i + 1, _, _, .cons z t, h => .cons z (paired_set (i := i) t h)
theorem map_set_fst : ∀ {ps : Lg} {i : Nat} {t : Int} {p q : Bool}, ps[i]? = some (t, p) → (ps.set i (t, q)).map (·.1) = ps.map (·.1)
  | [], _, _, _, _, h => by cases h
  | x :: r, 0, t, p, q, h => by
    have h := Option.some.inj h
    rw [h]
    rfl
  | x :: r, i + 1, t, p, q, h => by
    show x.1 :: (r.set i (t, q)).map (·.1) = _
    rw [map_set_fst (ps := r) (i := i) (p := p) h]
    rfl
theorem ixN_ofN {n i : Nat} (h : i < n) : ixN n (i : Int) = some i := by
  unfold ixN
  rw [if_pos (show (0 : Int) ≤ i by omega), if_pos (show (i : Int) < n by omega)]
  congr 1
section
variable {P : Program} {w : World} {K : PySem.W.Frag} {mg : Str → Option Value} {base : Heap} {L : LA}
abbrev N_wseen : List Str := ["_law_well_here", "_law_most", "_law_times", "_law_time", "_law_turn", "_law_found", "_law_at"]
theorem sc_wseen : FnScope N_wseen ["_law_well_here", "_law_most"] (defScope st__law_seen) := ⟨rfl, rfl, rfl, by decide +kernel, rfl, by decide +kernel, by decide +kernel⟩
theorem fn_wseen (T : LX K mg L) {fd : FuncData} (F : Fun K "_law_seen" "_law_seen" st__law_seen L.f__law_seen fd) : FnOk P w K mg base CX0 4 L.f__law_seen fd ["_law_well_here", "_law_most"] (spSeen) := by
  have G_wlog := ok_wlog (P := P) (w := w) (base := base) T
  have G_wdraw := ok_wdraw (P := P) (w := w) (base := base) T
  have G_wone := ok_wone (P := P) (w := w) (base := base) T
  have nd := sc_wseen.nd
  refine F.ok sc_wseen (fun vs H Q E h => ?_) (fun cdv A outer S H vs Q E hr h => ?_)
  · obtain ⟨s, m, n, rfl, _⟩ := h
    rfl
  · obtain ⟨s, m, n, rfl, src, hn, m0, m12, k⟩ := h
    refine ⟨_, (pss_cons (ps_par (i := 2) (j := 3) (by rfl) nd rfl rfl (by decide) rfl rfl (pa_cons (pe_lst pa_nil) (pa_cons (pe_c G_wdraw (hr.mono (by decide)) rfl (pa_cons (pv 0) (pa_cons pe_int pa_nil))) pa_nil)) (by rfl))
       (pss_cons (ps_for PassesOwn.never rfl (pi_range1 rfl T.b_range (pa_cons (pe_c G_wdraw (hr.mono (by decide)) rfl (pa_cons (pv 0) (pa_cons (pe_op op_add (pv 1) pe_int) pa_nil))) pa_nil)) (pg_name (i := 4) nd rfl (Or.inl rfl)) (pss_cons (ps_expr (pe_bm PySem.F.plainAttrs_list PySem.F.slot_list_append PySem.F.type_list_append mt_append (pv 2) (pa_cons (pv 3) pa_nil)))
       (pss_one (ps_set (i := 3) nd rfl (Or.inl rfl) (pe_op op_add (pv 3) (pe_c G_wone (hr.mono (by decide)) rfl (pa_cons (pv 0) (pa_cons (pe_lst (pa_cons pe_int (pa_cons pe_int (pa_cons pe_int (pa_cons (pe_op op_add pe_int (pe_c G_wdraw (hr.mono (by decide)) rfl (pa_cons (pv 0) (pa_cons pe_int pa_nil)))) pa_nil))))) pa_nil))))))))
       (pss_cons (ps_set (i := 5) nd rfl (Or.inl rfl) (pe_c G_wlog (hr.mono (by decide)) rfl (pa_cons (pe_tup (pa_cons (pe_op op_add pe_int (pe_c G_wdraw (hr.mono (by decide)) rfl (pa_cons (pv 0) (pa_cons pe_int pa_nil)))) (pa_cons (pe_op op_add pe_int (pe_c G_wdraw (hr.mono (by decide)) rfl (pa_cons (pv 0) (pa_cons pe_int pa_nil)))) (pa_cons pe_int pa_nil)))) (pa_cons (pv 2) pa_nil))))
       (C8.pss_cut (ps_if (PW.pt (pw_and (pt_cmpR (op_neD hr.units) (pv 5) (pe_lst pa_nil) (nomark _)) (pw_and1 (pt_cmpR op_eq (pe_c G_wdraw (hr.mono (by decide)) rfl (pa_cons (pv 0) (pa_cons pe_int pa_nil))) pe_int (nomark _))))) (pss_cons (ps_set (i := 6) nd rfl (Or.inl rfl) (pe_c G_wdraw (hr.mono (by decide)) rfl (pa_cons (pv 0) (pa_cons (pe_callB call_len_seq (by rfl) T.b_len PySem.boot_len (pa_cons (pv 5) pa_nil)) pa_nil))))
       (pss_one (ps_asg (pe_tup (pa_cons (pe_ix (r := rIxT K) ix_tup (pe_ix (r := rIxL K) ix_list (pv 5) (pv 6) (fun _ _ => rfl)) pe_int (fun _ _ => rfl)) (pa_cons (pe_not (pe_ix (r := rIxT K) ix_tup (pe_ix (r := rIxL K) ix_list (pv 5) (pv 6) (fun _ _ => rfl)) pe_int (fun _ _ => rfl))) pa_nil))) (pg_sub (pv 5) (pv 6) set_list)))) pss_nil)
       (pss_one (ps_ret (pv 5))))))), ?_⟩
    obtain ⟨ys, hys⟩ := src.has
    have one : ∀ {lo : Addr} {Hx : Hp} {m : Nat}, Src Hx s m → Hx lo = none → s ≠ lo := fun S e => by
      obtain ⟨y, hy⟩ := S.has
      exact ne_of_none hy e
    refine ⟨(by show 0 ≤ sizeLine; decide), fun l nl => ?_⟩
    have s1 := Same.upd (o := .lst []) nl
    have nls : s ≠ l := ne_of_none hys nl
    refine ⟨_, rfl, s, 3, n, rfl, by decide, by decide +kernel, src.same s1, by omega, fun t0 H1 t00 t01 src1 k1 => ⟨_, _, rfl, ?_⟩⟩
    refine ⟨_, rfl, _, rfl, _, _, rfl, rfl, s, m + 1, _, rfl, by omega, Nat.lt_of_le_of_lt (show (m + 1).natAbs ≤ 13 by omega) (by decide +kernel), src1, by omega, fun q H2 q0 q1 src2 k2 => ⟨q, rfl, by omega, by omega, ?_⟩⟩
    refine for_range (lo := 0) (n := q.toNat) (fun j σ Hx => ∃ (v4 : Option V) (t : Int) (ns : List Int), σ = [some (.ref s), some (.int m), some (.ref l), some (.int t), v4, none, none] ∧ Hx l = some (.lst (ns.map V.int)) ∧ Asc 0 ns ∧ lstG 0 ns ≤ t ∧ t ≤ 2 + 9 * (j : Int) ∧ (∀ x ∈ ns, x ≤ 2 + 9 * (j : Int)) ∧ ns.length = j ∧ Kp s H Hx ∧ Src Hx s (n + 2 + 3 * j))
      ⟨none, t0, [], rfl, k2 _ _ nls.symm (k1 _ _ nls.symm upd_same), True.intro, t00, by omega, fun x h => (nomatch h), rfl, ((Kp.of s1).trans k1).trans k2, src2⟩ ?_ ?_
    · rintro j σ Hx hj ⟨v4, t, ns, rfl, hlx, asc, lt, tb, nb, nj, kx, srcx⟩
      refine ⟨_, rfl, .inl ⟨rfl, _, SqL.of hlx⟩, _, rfl, l, _, _, rfl, rfl, hlx, small1 (by rw [List.length_map]; omega), ?_⟩
      obtain ⟨H3, hH3⟩ : ∃ H3 : Hp, H3 = upd Hx l (.lst (ns.map V.int ++ [.int t])) := ⟨_, rfl⟩
      rw [← hH3]
      have k3 : Kp l Hx H3 := by rw [hH3]; exact Kp.upd
      have hl3 : H3 l = some (.lst ((ns ++ [t]).map V.int)) := by rw [hH3, upd_same, List.map_append]; rfl
      have src3 := src_kp k3 nls srcx
      refine ⟨_, rfl, _, rfl, _, rfl, s, 9, _, rfl, by decide, by decide +kernel, src3, by omega, fun r H4 r0 r1 src4 k4 => ⟨_, _, rfl, rfl, (by show 4 ≤ sizeLine; decide), fun lo hlo => ?_⟩⟩
      have s5 := Same.upd (o := .lst [.int 1, .int 1, .int 2, .int (1 + r)]) hlo
      refine ⟨s, lo, _, _, rfl, one src4 hlo, upd_same, Nat.succ_pos _, (by show 4 ≤ 100000; decide), src4.same s5, by omega, fun v H6 hv src6 k6 => ?_⟩
      obtain ⟨c, rfl, c0, c1⟩ : ∃ c, v = .int c ∧ 1 ≤ c ∧ c ≤ 9 := by
        simp only [List.mem_cons, List.mem_nil_iff, or_false] at hv
        rcases hv with rfl | rfl | rfl | rfl
        all_goals exact ⟨_, rfl, by omega, by omega⟩
      have k36 := (k4.trans (Kp.of s5)).trans k6
      refine ⟨_, _, rfl, rfl, _, _, ns ++ [t], rfl, k36 _ _ nls.symm hl3, asc_app asc lt, ?_, by omega, fun x hx => ?_, by rw [List.length_append, nj]; rfl, ?_, src6.mono (by omega)⟩
      · rw [lst_app]
        show t + 1 ≤ t + c
        omega
      · rcases List.mem_append.mp hx with hx | hx
        · have := nb x hx
          omega
        · have : x = t := by simpa using hx
          omega
      · intro b o nb' e
        refine k36 _ _ nb' ?_
        rw [hH3, upd_ne (ne_of_none e nl)]
        exact kx _ _ nb' e
    · rintro σ Hx ⟨v4, t, ns, rfl, hlx, asc, lt, tb, nb, nj, kx, srcx⟩
      refine ⟨_, rfl, s, 5, _, rfl, by decide, by decide +kernel, srcx, by omega, fun b1 H5 b10 b11 src5 k5 => ⟨_, _, rfl, rfl, _, rfl, s, 12, _, rfl, by decide, by decide +kernel, src5, by omega, fun b2 H6 b20 b21 src6 k6 => ⟨_, _, rfl, rfl, (by show 3 ≤ sizeLine; decide), fun tb ntb => ?_⟩⟩⟩
      have s8 := Same.upd (o := .tup [.int (1 + b1), .int (1 + b2), .int 1]) ntb
      obtain ⟨b, hb⟩ : ∃ b : Tri, b = (1 + b1, 1 + b2, 1) := ⟨_, rfl⟩
      have htb : (upd H6 tb (.tup [.int (1 + b1), .int (1 + b2), .int 1])) tb = some (.tup (TriV b)) := by rw [hb]; exact upd_same
      have okb : OkT b := by
        rw [hb]
        exact ⟨by show 1 ≤ 1 + b1; omega, by show 1 + b1 ≤ _; omega, by show 1 ≤ 1 + b2; omega, by show 1 + b2 ≤ _; omega, by show (1 : Int) ≤ 1; decide, by show (1 : Int) ≤ 1000000000000; decide⟩
      have k48 := (k5.trans k6).trans (Kp.of s8)
      have src8 := src6.same s8
      have hl8 := k48 _ _ nls.symm hlx
      generalize upd H6 tb (.tup [.int (1 + b1), .int (1 + b2), .int 1]) = H8 at htb k48 src8 hl8 s8 ⊢
      refine ⟨_, rfl, .ref tb, b, l, ns, rfl, ⟨tb, rfl, htb⟩, okb, hl8, by omega, fun lf zs H9 hlf hzs s9 nlf => ?_⟩
      have src9 := src8.same s9
      have nlfs : s ≠ lf := one src8 nlf
      obtain ⟨ps, hps⟩ : ∃ ps, ps = lgG b ("closed", 0) ns := ⟨_, rfl⟩
      rw [← hps] at hzs
      have pf : ps.map (·.1) = ns := by rw [hps]; exact lgG_fst b ns _
      have pl : ps.length = ns.length := by rw [← pf, List.length_map]
      clear hps
      have zl := paired_len hzs
      have kx9 : Kp s H H9 := (kx.trans k48).trans (Kp.of s9)
      have nHlf : H lf = none := by
        cases c : H lf with
        | none => rfl
        | some o =>
          have := (kx.trans k48) _ _ nlfs.symm c
          rw [nlf] at this
          cases this
      refine ⟨fun σ' H' => ∃ (v6 : Option V) (zs : List V) (ps : Lg), σ' = [some (.ref s), some (.int m), some (.ref l), some (.int t), v4, some (.ref lf), v6] ∧ H' lf = some (.lst zs) ∧ Lgs H' zs ps ∧ ps.map (·.1) = ns ∧ Src H' s (n + 80) ∧ Kp s H H', ?_, ?_⟩
      · refine ⟨_, rfl, (by show 0 ≤ sizeLine; decide), fun le hle => ?_⟩
        have sE := Same.upd (o := .lst []) hle
        refine ⟨_, _, Lgs.dpl (sE _ _ hlf) (hzs.same sE), Lgs.dpl (ps := []) upd_same .nil, lg_sh _, lg_sh _, _, rfl, ?_⟩
        rw [lg_eq]
        obtain ⟨HE, hHE⟩ : ∃ HE, HE = upd H9 le (.lst []) := ⟨_, rfl⟩
        rw [← hHE] at sE ⊢
        have srcE := src9.same sE
        by_cases c0 : ps = []
        · rw [decide_eq_true c0]
          exact iteF ⟨_, zs, ps, rfl, sE _ _ hlf, hzs.same sE, pf, srcE.mono (by omega), kx9.trans (Kp.of sE)⟩
        rw [decide_eq_false c0]
        have pl0 : 0 < ps.length := List.length_pos_iff.mpr c0
        refine iteT ⟨_, rfl, s, 3, _, rfl, by decide, by decide +kernel, srcE, by omega, fun r1 HF r10 r11 srcF kF => ⟨rfl, _, rfl, ?_⟩⟩
        have hlfF := kF _ _ nlfs.symm (sE _ _ hlf)
        obtain ⟨yE, hyE⟩ := srcE.has
        have hzF : Lgs HF zs ps := (hzs.same sE).nl (Kp.nl kF hyE)
        have kHF : Kp s H HF := (kx9.trans (Kp.of sE)).trans kF
        refine ite2 (fun c1 => ?_) (fun c1 => ⟨_, zs, ps, rfl, hlfF, hzF, pf, srcF.mono (by omega), kHF⟩)
        refine ⟨_, rfl, _, rfl, lf, _, rfl, .inl (SqL.of hlfF), s, (zs.length : Int), _, rfl, by omega, Nat.lt_of_le_of_lt (show (zs.length : Int).natAbs ≤ 13 by omega) (by decide +kernel), srcF, by omega, fun r2 HG r20 r21 srcG kG => ?_⟩
        obtain ⟨i, rfl⟩ := Int.eq_ofNat_of_zero_le r20
        have hlfG := kG _ _ nlfs.symm hlfF
        obtain ⟨yF, hyF⟩ := srcF.has
        have hzG : Lgs HG zs ps := hzF.nl (Kp.nl kG hyF)
        obtain ⟨x, hx⟩ : ∃ x, zs[i]? = some x := ⟨_, List.getElem?_eq_getElem (by omega)⟩
        obtain ⟨⟨t, p⟩, hp, c, rfl, hc⟩ := paired_get hzG hx
        refine ⟨_, rfl, _, rfl, lf, _, (i : Int), .ref c, rfl, rfl, SqL.of hlfG, atI_nat hx, c, _, 0, .int t, rfl, rfl, SqT.of hc, rfl, ?_⟩
        refine ⟨_, rfl, _, rfl, lf, _, (i : Int), .ref c, rfl, rfl, SqL.of hlfG, atI_nat hx, c, _, 1, .bl p, rfl, rfl, SqT.of hc, rfl, ?_⟩
        refine ⟨p, rfl, (by show 2 ≤ sizeLine; decide), fun tq ntq => ?_⟩
        have sQ := Same.upd (o := .tup [.int t, .bl (!p)]) ntq
        have hlfQ := sQ _ _ hlfG
        have n6 := NL.upd (o := .lst (zs.set i (.ref tq))) hlfQ
        refine ⟨_, rfl, _, rfl, lf, zs, (i : Int), i, rfl, rfl, hlfQ, ixN_ofN (by omega), ?_⟩
        have psl : i < ps.length := by omega
        refine ⟨_, zs.set i (.ref tq), ps.set i (t, !p), rfl, upd_same, paired_set ((hzG.same sQ).nl n6) ⟨tq, rfl, n6 _ _ upd_same fun _ z => nomatch z⟩, ?_, ?_, ?_⟩
        · rw [map_set_fst hp, pf]
        · exact src_kp Kp.upd nlfs ((srcG.same sQ).mono (by omega))
        · intro b' o nb' e
          rw [upd_ne (ne_of_none e nHlf)]
          exact sQ _ _ (kG _ _ nb' (kHF _ _ nb' e))
      rintro σ' H' ⟨v6, zs, ps, rfl, hlf', hz', pf', src', k'⟩
      refine ⟨_, rfl, k lf zs ps H' hlf' hz' (by rw [pf']; exact asc) (by rw [← List.length_map (f := (·.1)), pf']; omega) (fun p hp => ?_) (src'.mono (by omega)) k' nHlf⟩
      have : p.1 ∈ ns := by rw [← pf']; exact List.mem_map_of_mem hp
      have := nb _ this
      omega
theorem ok_wseen (T : LX K mg L) : Cal P w K mg base "_law_seen" 4 L.f__law_seen ["_law_well_here", "_law_most"] (spSeen) := T.d__law_seen.cal fun fd F => fn_wseen T F
end
/-! ### k46: all breakers tried -/
def TwAt (H : Hp) (v : V) (p : Int × Int) : Prop := ∃ a, v = .ref a ∧ H a = some (.tup [.int p.1, .int p.2])
theorem TwAt.nl {H H' : Hp} (k : NL H H') {v : V} {p : Int × Int} (h : TwAt H v p) : TwAt H' v p := by
  obtain ⟨a, e, h⟩ := h
  exact ⟨a, e, k _ _ h fun _ z => nomatch z⟩
def fwG (ps : Lg) (top i : Nat) : List Nat := (List.range top).filter fun j => fitC (1 + (i : Int)) (1 + (j : Int)) 0 ps
def fitL (ps : Lg) (top n : Nat) : List (Int × Int) := (List.range n).flatMap fun i => (fwG ps top i).map fun (j : Nat) => (1 + (i : Int), 1 + (j : Int))
theorem fitL_succ (ps : Lg) (top n : Nat) : fitL ps top (n + 1) = fitL ps top n ++ (fwG ps top n).map fun (j : Nat) => (1 + (n : Int), 1 + (j : Int)) := by
  unfold fitL
  rw [List.range_succ, List.flatMap_append]
  simp
theorem fwG_len (ps : Lg) (top i : Nat) : (fwG ps top i).length ≤ top := by
  unfold fwG
  have := List.length_filter_le (fun j : Nat => fitC (1 + (i : Int)) (1 + (j : Int)) 0 ps) (List.range top)
  rwa [List.length_range] at this
theorem fitL_len (ps : Lg) (top : Nat) : ∀ n : Nat, (fitL ps top n).length ≤ top * n
  | 0 => Nat.zero_le _
  | n + 1 => by
    rw [fitL_succ, List.length_append, List.length_map, Nat.mul_succ]
    have := fitL_len ps top n
    have := fwG_len ps top n
    omega
def spFits : Sp := fun vs H Q _ => ∃ (a : Addr) (zs : List V) (ps : Lg) (top : Nat), vs = [.ref a, .int (top : Int)] ∧ H a = some (.lst zs) ∧ Lgs H zs ps ∧ ps.length ≤ 12 ∧ 1 ≤ top ∧ top ≤ 400 ∧ ∀ l ws H', H' l = some (.lst ws) → Paired (TwAt H') ws (fitL ps top (ps.length + 1)) → Same H H' → H l = none → Q (.ref l) H'
section
variable {P : Program} {w : World} {K : PySem.W.Frag} {mg : Str → Option Value} {base : Heap} {L : LA}
abbrev N_wfits : List Str := ["_law_log_here", "_law_most", "_law_times", "_law_found", "_law_failures", "_law_time", "_law_is_passed", "_law_wait"]
theorem sc_wfits : FnScope N_wfits ["_law_log_here", "_law_most"] (defScope st__law_fits) := ⟨rfl, rfl, rfl, by decide +kernel, rfl, by decide +kernel, by decide +kernel⟩
theorem fn_wfits (T : LX K mg L) {fd : FuncData} (F : Fun K "_law_fits" "_law_fits" st__law_fits L.f__law_fits fd) : FnOk P w K mg base CX0 2 L.f__law_fits fd ["_law_log_here", "_law_most"] (spFits) := by
  have G_wlog := ok_wlog (P := P) (w := w) (base := base) T
  have nd := sc_wfits.nd
  refine F.ok sc_wfits (fun vs H Q E h => ?_) (fun cdv A outer S H vs Q E hr h => ?_)
  · obtain ⟨a, zs, ps, top, rfl, _⟩ := h
    rfl
  · obtain ⟨a, zs, ps, top, rfl, ha, hz, pl, t0, t1, k⟩ := h
    refine ⟨_, (pss_cons (ps_asg (pe_tup (pa_cons (pe_lc (own := [("_law_time", 5), ("_law_is_passed", 6)]) (g := gTup K 2 (gCons (gName 5) (gCons (gName 6) (gNil)))) (tt := tYes) rfl nd (pi_list (pv 0)) (blkOk_by (own := [("_law_time", 5), ("_law_is_passed", 6)]) (N := N_wfits) (sc := defScope st__law_fits) (by decide +kernel)) (fun _ _ _ _ _ => pg_tup rfl (pgs_cons (pg_name (i := 5) nd rfl (Or.inl rfl)) (pgs_cons (pg_name (i := 6) nd rfl (Or.inl rfl)) pgs_nil))) (fun _ _ _ _ _ => pts_nil) (fun _ _ _ _ _ => (pv 5))) (pa_cons (pe_lst pa_nil) pa_nil))) (pg_tup rfl (pgs_cons (pg_name (i := 2) nd rfl (Or.inr rfl)) (pgs_cons (pg_name (i := 3) nd rfl (Or.inl rfl)) pgs_nil))))
       (pss_cons (ps_for PassesOwn.never rfl (pi_range2 rfl T.b_range (pa_cons pe_int (pa_cons (pe_op op_add (pe_callB call_len_seq (by rfl) T.b_len PySem.boot_len (pa_cons (pv 0) pa_nil)) pe_int) pa_nil))) (pg_name (i := 4) nd rfl (Or.inr rfl)) (pss_one (ps_expr (pe_bm PySem.F.plainAttrs_list PySem.F.slot_list_extend PySem.F.type_list_extend mt_extend (pv 3) (pa_cons (pe_lc (own := [("_law_wait", 7)]) (g := gName 7) rfl nd (pi_range2 rfl T.b_range (pa_cons pe_int (pa_cons (pe_op op_add (pv 1) pe_int) pa_nil))) (blkOk_by (own := [("_law_wait", 7)]) (N := N_wfits) (sc := defScope st__law_fits) (by decide +kernel)) (fun _ _ _ _ _ => pg_name (i := 7) nd rfl (Or.inl rfl)) (fun _ _ _ _ _ => pts_one (pt_cmpR (op_eqDK (K := K) rfl hr.units) (pe_c G_wlog (hr.mono (by decide)) rfl (pa_cons (pe_tup (pa_cons (pv 4) (pa_cons (pv 7) (pa_cons pe_int pa_nil)))) (pa_cons (pv 2) pa_nil))) (pv 0) (nomark _))) (fun _ _ _ _ _ => (pe_tup (pa_cons (pv 4) (pa_cons (pv 7) pa_nil))))) pa_nil)))))
       (pss_one (ps_ret (pv 3))))), ?_⟩
    have zl := paired_len hz
    refine ⟨_, rfl, a, rfl, ⟨_, SqL.of ha⟩, fun D hD => ?_⟩
    refine lc_list (K := K) (a := a) (xs := zs) (fun j Hx => Hx D = some (.lst (((ps.take j).map (·.1)).map V.int)) ∧ Same H Hx) ⟨upd_same, Same.upd hD⟩ (fun j Hx _ ⟨_, sx⟩ => SqL.of (sx _ _ ha)) ?_ ?_
    · rintro j x Hx hxj ⟨hDx, sx⟩
      obtain ⟨⟨t, p⟩, hp, c, rfl, hc⟩ := paired_get hz hxj
      have hj := (List.getElem?_eq_some_iff.mp hxj).1
      refine ⟨c, _, rfl, SqT.of (sx _ _ hc), rfl, _, _, rfl, _, _, rfl, rfl, rfl, tYes_of ⟨_, rfl, _, hDx, small1 (by rw [List.length_map, List.length_map, List.length_take]; omega), ?_, fun b o e => by rw [upd_ne (ne_of_none e hD)]; exact sx _ _ e⟩⟩
      rw [upd_same, List.take_add_one, hp, List.map_append, List.map_append]
      rfl
    rintro H1 ⟨hD1, s1⟩
    rw [zl, List.take_length] at hD1
    refine ⟨(by show 0 ≤ sizeLine; decide), fun lf nlf => ⟨(by show 2 ≤ sizeLine; decide), fun tp ntp => ⟨tp, _, rfl, SqT.of upd_same, rfl, _, _, rfl, _, _, rfl, rfl, ?_⟩⟩⟩
    have s2 := Same.upd (o := .lst []) nlf
    have s3 := Same.upd (o := .tup [.ref D, .ref lf]) ntp
    have s13 := (s1.trans s2).trans s3
    have hD3 := s3 _ _ (s2 _ _ hD1)
    have hlf3 := s3 _ _ (upd_same (H := H1) (a := lf) (o := .lst []))
    have nHf : H lf = none := none_of s1 nlf
    have nfD : lf ≠ D := (ne_of_none hD1 nlf).symm
    generalize upd (upd H1 lf (.lst [])) tp (.tup [.ref D, .ref lf]) = H3 at s13 hD3 hlf3 ⊢
    refine ⟨_, rfl, a, _, rfl, .inl (SqL.of (s13 _ _ ha)), _, _, rfl, rfl, 1, _, rfl, ⟨by decide, by decide, by omega, by omega⟩, ?_⟩
    rw [show ((zs.length : Int) + 2 - 1).toNat = ps.length + 1 by omega]
    refine for_range (lo := 1) (n := ps.length + 1) (fun i σ Hx => ∃ (v4 v5 v6 v7 : Option V) (ws : List V), σ = [some (.ref a), some (.int (top : Int)), some (.ref D), some (.ref lf), v4, v5, v6, v7] ∧ Hx lf = some (.lst ws) ∧ Paired (TwAt Hx) ws (fitL ps top i) ∧ Hx D = some (.lst ((ps.map (·.1)).map V.int)) ∧ Same H Hx)
      ⟨_, _, _, _, [], rfl, hlf3, .nil, hD3, s13⟩ ?_ ?_
    · rintro i σ Hx hi ⟨v4, v5, v6, v7, ws, rfl, hlf, hw, hDx, sx⟩
      have wl := paired_len hw
      have fl := fitL_len ps top i
      have fl2 : top * i ≤ 400 * 13 := Nat.mul_le_mul t1 (by omega)
      refine ⟨_, rfl, .inl ⟨rfl, _, SqL.of hlf⟩, ?_⟩
      refine ⟨_, rfl, _, _, rfl, rfl, 1, _, rfl, ⟨by decide, by decide, by omega, by omega⟩, fun E0 hE0 => ?_⟩
      rw [show ((top : Int) + 1 - 1).toNat = top by omega]
      have nElf : lf ≠ E0 := ne_of_none hlf hE0
      refine lc_range (lo := 1) (n := top) (fun j Hy => ∃ us, Hy E0 = some (.lst us) ∧ Paired (TwAt Hy) us (((List.range j).filter fun (q : Nat) => fitC (1 + (i : Int)) (1 + (q : Int)) 0 ps).map fun (q : Nat) => (1 + (i : Int), 1 + (q : Int))) ∧ us.length ≤ j ∧ Same Hx Hy) ⟨[], upd_same, .nil, Nat.le_refl _, Same.upd hE0⟩ ?_ ?_
      · rintro j Hy hj ⟨us, hus, hu, ul, sy⟩
        have sHy := sx.trans sy
        refine ⟨rfl, ?_⟩
        refine ⟨_, rfl, _, rfl, (by show 3 ≤ sizeLine; decide), fun tb ntb => ?_⟩
        have s4 := Same.upd (o := .tup [.int (1 + (i : Int)), .int (1 + (j : Int)), .int 1]) ntb
        have okb : OkT (1 + (i : Int), 1 + (j : Int), 1) := ⟨by show 1 ≤ 1 + (i : Int); omega, by show 1 + (i : Int) ≤ _; omega, by show 1 ≤ 1 + (j : Int); omega, by show 1 + (j : Int) ≤ _; omega, by show (1 : Int) ≤ 1; decide, by show (1 : Int) ≤ 1000000000000; decide⟩
        refine ⟨_, rfl, .ref tb, (1 + (i : Int), 1 + (j : Int), 1), D, ps.map (·.1), rfl, ⟨tb, rfl, upd_same⟩, okb, s4 _ _ (sy _ _ hDx), by rw [List.length_map]; omega, fun lg zg Hz hlg hzg s5 nlg => ?_⟩
        have s45 := s4.trans s5
        refine ⟨_, rfl, _, _, Lgs.dpl hlg hzg, Lgs.dpl (s45 _ _ (sHy _ _ ha)) (hz.same (sHy.trans s45)), lg_sh _, lg_sh _, _, rfl, ?_⟩
        rw [lg_eq, lg_closed, List.range_succ, List.filter_append, List.map_append]
        have hus5 := s45 _ _ hus
        by_cases c : fitC (1 + (i : Int)) (1 + (j : Int)) 0 ps = true
        · rw [List.filter_cons, if_pos c, List.filter_nil]
          rw [c]
          refine iteT ⟨_, rfl, _, rfl, (by show 2 ≤ sizeLine; decide), fun t2 nt2 => ?_⟩
          have s6 := Same.upd (o := .tup [.int (1 + (i : Int)), .int (1 + (j : Int))]) nt2
          have hus6 := s6 _ _ hus5
          have n7 := NL.upd (o := .lst (us ++ [.ref t2])) hus6
          refine ⟨us, hus6, small1 (by omega), us ++ [.ref t2], upd_same, paired_app (L2.Paired.mapP hu fun _ _ z => (z.nl (NL.of (s45.trans s6))).nl n7) (.cons ⟨t2, rfl, n7 _ _ upd_same fun _ z => nomatch z⟩ .nil), by rw [List.length_append]; exact Nat.succ_le_succ ul, fun b o e => ?_⟩
          rw [upd_ne (ne_of_none e hE0)]
          exact s6 _ _ (s45 _ _ (sy _ _ e))
        · rw [List.filter_cons, if_neg c, List.filter_nil, List.map_nil, List.append_nil]
          have c' : fitC (1 + (i : Int)) (1 + (j : Int)) 0 ps = false := by simpa using c
          rw [c']
          exact iteF ⟨us, hus5, L2.Paired.mapP hu fun _ _ z => z.nl (NL.of s45), Nat.le_succ_of_le ul, sy.trans s45⟩
      rintro Hy ⟨us, hus, hu, ul, sy⟩
      have hlfy := sy _ _ hlf
      refine ⟨lf, E0, ws, us, rfl, rfl, hlfy, hus, small2 (by omega), ?_⟩
      have n7 := NL.upd (o := .lst (ws ++ us)) hlfy
      have nDf : D ≠ lf := fun e => nfD e.symm
      refine ⟨_, _, _, _, ws ++ us, rfl, upd_same, ?_, ?_, fun b o e => ?_⟩
      · rw [fitL_succ]
        exact paired_app (L2.Paired.mapP hw fun _ _ z => (z.nl (NL.of sy)).nl n7) (L2.Paired.mapP hu fun _ _ z => z.nl n7)
      · rw [upd_ne nDf]
        exact sy _ _ hDx
      · rw [upd_ne (ne_of_none e nHf)]
        exact sy _ _ (sx _ _ e)
    · rintro σ Hx ⟨v4, v5, v6, v7, ws, rfl, hlf, hw, hDx, sx⟩
      exact ⟨_, rfl, k lf ws Hx hlf hw sx nHf⟩
theorem ok_wfits (T : LX K mg L) : Cal P w K mg base "_law_fits" 2 L.f__law_fits ["_law_log_here", "_law_most"] (spFits) := T.d__law_fits.cal fun fd F => fn_wfits T F
end
/-! ### the first conflict of a log: what is true of it -/
/-- a breaker explains it -/
def Ok1 (ps : Lg) : Prop := ps = [] ∨ (1 ≤ aheadG ps ∧ (bnG ps (aheadG ps)).1 ≤ (bnG ps (aheadG ps)).2)
theorem ahead_take : ∀ (ps : Lg) (m : Nat), aheadG (ps.take m) = min m (aheadG ps)
  | [], m => by
    rw [List.take_nil]
    show 0 = min m 0
    omega
  | (t, p) :: r, 0 => by
    show 0 = min 0 _
    omega
  | (t, p) :: r, m + 1 => by
    cases p with
    | true =>
      show aheadG (r.take m) + 1 = min (m + 1) (aheadG r + 1)
      rw [ahead_take r m]
      omega
    | false =>
      show 0 = min (m + 1) 0
      omega
theorem nar_comm (b : Int × Int) (g h : Int) (p q : Bool) : nar (nar b g p) h q = nar (nar b h q) g p := by
  obtain ⟨lo, hi⟩ := b
  cases p <;> cases q <;> simp only [nar, Bool.false_eq_true, if_true, if_false] <;> refine Prod.ext ?_ ?_ <;> simp only <;> repeat' split <;> omega
theorem latA_cons (o : Option Int) (t : Int) (p : Bool) (r : Lg) : latA o ((t, p) :: r) = latA (if p then some t else o) r := rfl
theorem bnd_snoc : ∀ (xs : Lg) (u t : Int) (p : Bool), bndR u (xs ++ [(t, p)]) = nar (bndR u xs) (t - (latA (some u) xs).getD 0) p
  | [], u, t, p => rfl
  | (s, q) :: r, u, t, p => by
    show nar (bndR (if q then s else u) (r ++ [(t, p)])) (s - u) q = nar (nar (bndR (if q then s else u) r) (s - u) q) (t - (latA (some u) ((s, q) :: r)).getD 0) p
    rw [bnd_snoc r, nar_comm, latA_cons]
    cases q <;> rfl
theorem latA_cat : ∀ (xs ys : Lg) (o : Option Int), latA o (xs ++ ys) = latA (latA o xs) ys
  | [], _, _ => rfl
  | (t, p) :: r, ys, o => by
    show latA _ (r ++ ys) = _
    rw [latA_cat r ys]
    rfl
theorem lat_ahead {ps : Lg} (h0 : 1 ≤ aheadG ps) {a : Nat} (a1 : 1 ≤ a) : latA none (ps.take a) = some (uG ps a) := by
  have h1 : 1 ≤ aheadG (ps.take a) := by rw [ahead_take]; omega
  have : ∃ v, latA none (ps.take a) = some v := by
    generalize ps.take a = qs at h1
    cases qs with
    | nil => cases h1
    | cons q r =>
      obtain ⟨t, p⟩ := q
      cases p with
      | false => cases h1
      | true => exact latA_some r t
  obtain ⟨v, hv⟩ := this
  unfold uG
  rw [hv]
  rfl
theorem fwd_is {ps : Lg} (h0 : 1 ≤ aheadG ps) {a : Nat} (a1 : 1 ≤ a) : ∀ i : Nat, a + i ≤ ps.length → fwd ps a i = bndR (uG ps a) ((ps.drop a).take i)
  | 0, _ => rfl
  | i + 1, h => by
    obtain ⟨⟨t, p⟩, hp⟩ : ∃ q, ps[a + i]? = some q := ⟨_, List.getElem?_eq_getElem (by omega)⟩
    have eg : ps.getD (a + i) (0, true) = (t, p) := by rw [List.getD_eq_getElem?_getD, hp]; rfl
    have ed : (ps.drop a)[i]? = some (t, p) := by rw [List.getElem?_drop]; exact hp
    have eu : uG ps (a + i) = (latA (some (uG ps a)) ((ps.drop a).take i)).getD 0 := by
      unfold uG
      rw [List.take_add, latA_cat, lat_ahead h0 a1]
      rfl
    show nar (fwd ps a i) ((ps.getD (a + i) (0, true)).1 - uG ps (a + i)) (ps.getD (a + i) (0, true)).2 = _
    rw [eg, fwd_is h0 a1 i (by omega), List.take_add_one, ed, Option.toList_some, bnd_snoc, eu]
theorem bn_take {ps : Lg} (h0 : 1 ≤ aheadG ps) {a : Nat} (a1 : 1 ≤ a) {i : Nat} (h : a + i ≤ ps.length) : bnG (ps.take (a + i)) a = fwd ps a i := by
  rw [fwd_is h0 a1 i h]
  unfold bnG
  have e1 : uG (ps.take (a + i)) a = uG ps a := by
    unfold uG
    rw [List.take_take, Nat.min_eq_left (by omega)]
  rw [e1, List.drop_take, show a + i - a = i by omega]
/-- up to the entries that are passed at first, a breaker explains all -/
theorem ok_ahead {ps : Lg} {m : Nat} (h : m ≤ aheadG ps) : Ok1 (ps.take m) := by
  by_cases m0 : m = 0
  · subst m0
    exact .inl rfl
  have hl := ahead_le ps
  have e : (ps.take m).length = m := by rw [List.length_take]; omega
  refine .inr ⟨by rw [ahead_take]; omega, ?_⟩
  have ea : aheadG (ps.take m) = (ps.take m).length := by rw [ahead_take, e]; omega
  rw [ea, bn_end]
  decide
theorem ok_fwd {ps : Lg} (h0 : 1 ≤ aheadG ps) {i : Nat} (h : aheadG ps + i ≤ ps.length) : Ok1 (ps.take (aheadG ps + i)) ↔ (fwd ps (aheadG ps) i).1 ≤ (fwd ps (aheadG ps) i).2 := by
  have ea : aheadG (ps.take (aheadG ps + i)) = aheadG ps := by rw [ahead_take]; omega
  unfold Ok1
  rw [ea, bn_take h0 h0 h]
  constructor
  · rintro (z | ⟨_, z⟩)
    · have l : (ps.take (aheadG ps + i)).length = aheadG ps + i := by rw [List.length_take]; omega
      rw [z] at l
      have l : 0 = aheadG ps + i := l
      omega
    · exact z
  · exact fun z => .inr ⟨h0, z⟩
/-- what first_conflict tells -/
def FcR (ps : Lg) (v : V) : Prop := (v = .non ∧ ∀ j, j < ps.length → Ok1 (ps.take (j + 1))) ∨ ∃ i : Nat, v = .int (i : Int) ∧ i < ps.length ∧ ¬ Ok1 (ps.take (i + 1)) ∧ ∀ j, j < i → Ok1 (ps.take (j + 1))
theorem FcR.one {ps : Lg} {v u : V} (h : FcR ps v) (h' : FcR ps u) : v = u := by
  rcases h with ⟨rfl, a⟩ | ⟨i, rfl, a, b, c⟩
  · rcases h' with ⟨rfl, _⟩ | ⟨j, rfl, d, e, f⟩
    · rfl
    · exact absurd (a j d) e
  · rcases h' with ⟨rfl, d⟩ | ⟨j, rfl, d, e, f⟩
    · exact absurd (d i a) b
    · rcases Nat.lt_trichotomy i j with h | h | h
      · exact absurd (f i h) b
      · rw [h]
      · exact absurd (c j h) e
theorem ok_all {ps : Lg} (h : ∀ j, j < ps.length → Ok1 (ps.take (j + 1))) : Ok1 ps := by
  cases e : ps with
  | nil => exact .inl rfl
  | cons q r =>
    have := h r.length (by rw [e]; exact Nat.lt_succ_self _)
    rw [e, List.take_of_length_le (by rw [List.length_cons]; exact Nat.le_refl _)] at this
    exact this
/-- the breakers that explain a log, by trying all with waits up to top -/
theorem fits_ok {ps : Lg} {M : Int} {top : Nat} (hn : ps ≠ []) (M0 : 0 ≤ M) (hb : ∀ p ∈ ps, 0 ≤ p.1 ∧ p.1 ≤ M) (ht : M + 1 ≤ (top : Int)) (hm : (top : Int) ≤ mtE) : fitL ps top (ps.length + 1) ≠ [] ↔ Ok1 ps := by
  have hl := ahead_le ps
  have mem : fitL ps top (ps.length + 1) ≠ [] ↔ ∃ i j : Nat, i < ps.length + 1 ∧ j < top ∧ fitC (1 + (i : Int)) (1 + (j : Int)) 0 ps = true := by
    unfold fitL fwG
    constructor
    · intro h
      obtain ⟨x, hx⟩ := List.exists_mem_of_ne_nil _ h
      obtain ⟨i, hi, hx⟩ := List.mem_flatMap.mp hx
      obtain ⟨j, hj, _⟩ := List.mem_map.mp hx
      obtain ⟨h1, h2⟩ := List.mem_filter.mp hj
      exact ⟨i, j, List.mem_range.mp hi, List.mem_range.mp h1, h2⟩
    · rintro ⟨i, j, hi, hj, h⟩ e
      have : ((1 + (i : Int), 1 + (j : Int)) : Int × Int) ∈ (List.range (ps.length + 1)).flatMap fun (i : Nat) => ((List.range top).filter fun (j : Nat) => fitC (1 + (i : Int)) (1 + (j : Int)) 0 ps).map fun (j : Nat) => (1 + (i : Int), 1 + (j : Int)) :=
        List.mem_flatMap.mpr ⟨i, List.mem_range.mpr hi, List.mem_map.mpr ⟨j, List.mem_filter.mpr ⟨List.mem_range.mpr hj, h⟩, rfl⟩⟩
      rw [e] at this
      cases this
  rw [mem]
  constructor
  · rintro ⟨i, j, hi, hj, h⟩
    by_cases c : i < ps.length
    · rw [show (1 : Int) + (i : Int) = ((i + 1 : Nat) : Int) by omega, fitC_bn (by omega) (by omega) (by omega) (by omega)] at h
      simp only [Bool.and_eq_true, decide_eq_true_eq] at h
      obtain ⟨h1, h2, h3⟩ := h
      have h0 : 1 ≤ aheadG ps := by omega
      have := bn_mono h0 (a := i + 1) (by omega) (aheadG ps - (i + 1)) (by omega)
      rw [show i + 1 + (aheadG ps - (i + 1)) = aheadG ps by omega] at this
      exact .inr ⟨h0, by omega⟩
    · rw [fitC_past (by omega)] at h
      have e : aheadG ps = ps.length := ahead_full fun q hq => List.all_eq_true.mp h q hq
      have : ps.length ≠ 0 := fun z => hn (List.length_eq_zero_iff.mp z)
      exact .inr ⟨by omega, by rw [e, bn_end]; decide⟩
  · rintro (z | ⟨h0, h1⟩)
    · exact absurd z hn
    · obtain ⟨⟨b1, b2⟩, _⟩ := bnG_bd M0 hb (aheadG ps)
      refine ⟨aheadG ps - 1, ((bnG ps (aheadG ps)).1 - 1).toNat, by omega, by omega, ?_⟩
      rw [show (1 : Int) + ((aheadG ps - 1 : Nat) : Int) = (aheadG ps : Int) by omega, show (1 : Int) + ((((bnG ps (aheadG ps)).1 - 1).toNat : Nat) : Int) = (bnG ps (aheadG ps)).1 by omega, fitC_bn h0 hl b1 (by omega)]
      simp only [Bool.and_eq_true, decide_eq_true_eq]
      exact ⟨Nat.le_refl _, Int.le_refl _, h1⟩
/-! ### the first conflict, and the forecast, of any log -/
def spFc : Sp := fun vs H Q _ => ∃ a xs ps, vs = [.ref a] ∧ H a = some (.lst xs) ∧ Lgs H xs ps ∧ OkLog ps ∧ ∀ v H', FcR ps v → Same H H' → Q v H'
def FoR (ps : Lg) (t : Int) (wd : Str) : Prop := (wd = "pass" ∧ (ps = [] ∨ ∀ e ∈ exG ps, e.2.2 ≤ gapN ps t)) ∨ (wd = "reject" ∧ ps ≠ [] ∧ (¬ ∀ e ∈ exG ps, e.2.2 ≤ gapN ps t) ∧ ∀ e ∈ exG ps, gapN ps t < e.2.1) ∨ (wd = "either" ∧ ps ≠ [] ∧ (¬ ∀ e ∈ exG ps, e.2.2 ≤ gapN ps t) ∧ ¬ ∀ e ∈ exG ps, gapN ps t < e.2.1)
def spFor (C : Addr) : Sp := fun vs H Q E => ∃ a xs ps t, vs = [.ref a, .int t] ∧ H a = some (.lst xs) ∧ Lgs H xs ps ∧ OkLog ps ∧ (∀ q ∈ ps, q.1 < t) ∧ 0 ≤ t ∧ ((∀ j, j < ps.length → Ok1 (ps.take (j + 1))) → ∀ (wd : Str) H', FoR ps t wd → Same H H' → Q (.str wd) H') ∧
  ∀ i : Nat, i < ps.length → ¬ Ok1 (ps.take (i + 1)) → (∀ j, j < i → Ok1 (ps.take (j + 1))) → ∀ d H', H' d = some (.xd [("at", .int (i : Nat))]) → Same H H' → E (.ref C) (some d) H'
section
variable {P : Program} {w : World} {K : PySem.W.Frag} {mg : Str → Option Value} {base : Heap} {L : LA}
abbrev N_firstconflict : List Str := ["log", "ahead", "gaps", "bounds", "at"]
theorem sc_firstconflict : FnScope N_firstconflict ["log"] (defScope st_first_conflict) := ⟨rfl, rfl, rfl, by decide +kernel, rfl, by decide +kernel, by decide +kernel⟩
theorem fn_firstconflict (T : LX K mg L) {fd : FuncData} (F : Fun K "first_conflict" "first_conflict" st_first_conflict L.f_first_conflict fd) : FnOk P w K mg base (L2.CX P w) 6 L.f_first_conflict fd ["log"] (spFc) := by
  have G_checklog := ok_checklog (P := P) (w := w) (base := base) T
  have G_passesahead := ok_passesahead (P := P) (w := w) (base := base) T
  have G_gapsof := ok_gapsof (P := P) (w := w) (base := base) T
  obtain ⟨tk_MOST_TIME, c_MOST_TIME⟩ := T.n_MOST_TIME
  have G_narrowed := ok_narrowed (P := P) (w := w) (base := base) T
  have nd := sc_firstconflict.nd
  refine F.okX sc_firstconflict (fun vs H Q E h => ?_) (fun cdv A outer S H vs Q E hr h => ?_)
  · obtain ⟨a, xs, ps, rfl, _⟩ := h
    rfl
  · obtain ⟨a, xs, ps, rfl, ha, hx, ok, k⟩ := h
    refine ⟨_, (pss_cons (ps_expr (pe_cX G_checklog (hr.mono (by decide)) rfl (fun σ => passAt (takes_of rfl rfl rfl rfl) σ) (pa_cons (pv 0) pa_nil)))
       (pss_cons (ps_set (i := 1) nd rfl (Or.inl rfl) (pe_c G_passesahead (hr.mono (by decide)) rfl (pa_cons (pv 0) pa_nil)))
       (pss_cons (ps_if (pt_cmpR op_eq (pv 1) pe_int (nomark _)) (pss_one (ps_ret (pe_ifExp (pt_truth (pv 0) (fun _ => rfl)) pe_int pe_non))) pss_nil)
       (pss_cons (ps_set (i := 2) nd rfl (Or.inl rfl) (pe_c G_gapsof (hr.mono (by decide)) rfl (pa_cons (pv 0) pa_nil)))
       (pss_cons (ps_set (i := 3) nd rfl (Or.inl rfl) (pe_tup (pa_cons pe_int (pa_cons (pe_gI c_MOST_TIME) pa_nil))))
       (pss_cons (ps_for (passes_of rfl) rfl (pi_range2 rfl T.b_range (pa_cons (pv 1) (pa_cons (pe_callB call_len_seq (by rfl) T.b_len PySem.boot_len (pa_cons (pv 0) pa_nil)) pa_nil))) (pg_name (i := 4) nd rfl (Or.inl rfl)) (pss_cons (ps_set (i := 3) nd rfl (Or.inl rfl) (pe_c G_narrowed (hr.mono (by decide)) rfl (pa_cons (pv 3) (pa_cons (pe_ix (r := rIxL K) ix_list (pv 2) (pv 4) (fun _ _ => rfl)) (pa_cons (pe_ix (r := rIxT K) ix_tup (pe_ix (r := rIxL K) ix_list (pv 0) (pv 4) (fun _ _ => rfl)) pe_int (fun _ _ => rfl)) pa_nil)))))
       (pss_one (ps_if (pt_cmpR op_gt (pe_ix (r := rIxT K) ix_tup (pv 3) pe_int (fun _ _ => rfl)) (pe_ix (r := rIxT K) ix_tup (pv 3) pe_int (fun _ _ => rfl)) (nomark _)) (pss_one (ps_ret (pv 4))) pss_nil))))
       (pss_one (ps_ret pe_non)))))))), ?_⟩
    have xl := paired_len hx
    have ln := ok.ln
    refine ⟨_, rfl, a, xs, ps, rfl, ha, hx, ok, fun H1 s1 => ?_⟩
    refine ⟨_, rfl, a, xs, ps, rfl, s1 _ _ ha, hx.same s1, ln, fun H2 s2 => ?_⟩
    have s12 := s1.trans s2
    refine ⟨_, rfl, rfl, _, rfl, ?_⟩
    refine ite2 (fun c => ?_) (fun c => ?_)
    · have c0 : aheadG ps = 0 := by have := V.int.inj (of_decide_eq_true c); omega
      by_cases hn : ps = []
      · subst hn
        have x0 : xs = [] := List.length_eq_zero_iff.mp xl
        subst x0
        exact ⟨_, rfl, false, .inl ⟨_, SqL.of (s12 _ _ ha), rfl⟩, iteF (k _ _ (.inl ⟨rfl, fun j h => absurd h (Nat.not_lt_zero _)⟩) s12)⟩
      · have l0 : 0 < ps.length := List.length_pos_iff.mpr hn
        refine ⟨_, rfl, true, .inl ⟨_, SqL.of (s12 _ _ ha), ?_⟩, iteT (k _ _ (.inr ⟨0, rfl, l0, ?_, fun j h => absurd h (Nat.not_lt_zero _)⟩) s12)⟩
        · cases xs with
          | nil => rw [← xl] at l0; exact absurd l0 (Nat.lt_irrefl _)
          | cons _ _ => rfl
        · rintro (z | ⟨z, _⟩)
          · have e := congrArg List.length z
            rw [List.length_take] at e
            have e : min (0 + 1) ps.length = 0 := e
            omega
          · rw [ahead_take] at z
            omega
    have h0 : 1 ≤ aheadG ps := by
      have : ¬ aheadG ps = 0 := fun z => c (decide_eq_true (by rw [z]; rfl))
      omega
    have hl := ahead_le ps
    refine ⟨_, rfl, a, xs, ps, rfl, s12 _ _ ha, hx.same s12, by omega, fun lg H3 hg s3 nlg => ?_⟩
    have s13 := s12.trans s3
    refine ⟨(by show 2 ≤ sizeLine; decide), fun tb ntb => ?_⟩
    have sb := Same.upd (o := .tup [.int 1, .int 1000000000000000000000000000000]) ntb
    have s1b := s13.trans sb
    refine ⟨_, rfl, _, rfl, a, _, rfl, .inl (SqL.of (s1b _ _ ha)), _, _, rfl, ⟨by omega, by omega, by omega, by omega⟩, ?_⟩
    have en : ((xs.length : Int) - (aheadG ps : Int)).toNat = ps.length - aheadG ps := by omega
    rw [en]
    refine for_range (lo := (aheadG ps : Int)) (n := ps.length - aheadG ps) (fun i σ Hx => ∃ (v4 : Option V) (b : Addr), σ = [some (.ref a), some (.int (aheadG ps : Int)), some (.ref lg), some (.ref b), v4] ∧ Hx b = some (.tup [.int (fwd ps (aheadG ps) i).1, .int (fwd ps (aheadG ps) i).2]) ∧ Same H3 Hx ∧ ∀ j, j < aheadG ps + i → Ok1 (ps.take (j + 1)))
      ⟨none, tb, rfl, upd_same, sb, fun j hj => ok_ahead (by omega)⟩ ?_ ?_
    rotate_left
    · rintro σ Hx ⟨v4, b, rfl, hbx, sx, oks⟩
      exact k _ Hx (.inl ⟨rfl, fun j hj => oks j (by omega)⟩) (s13.trans sx)
    rintro i σ Hx hi ⟨v4, b, rfl, hbx, sx, oks⟩
    have sHx := s13.trans sx
    obtain ⟨f, hf⟩ : ∃ f, f = aheadG ps + i := ⟨_, rfl⟩
    rw [show (aheadG ps : Int) + (i : Int) = (f : Int) by omega]
    obtain ⟨x, hx1⟩ : ∃ x, xs[f]? = some x := ⟨_, List.getElem?_eq_getElem (by omega)⟩
    obtain ⟨⟨t, p⟩, hp, c', rfl, hcc⟩ := paired_get hx hx1
    obtain ⟨_, u, q2, q3⟩ := bn_step hp (by omega) h0
    have hgf := gapL_at hp
    rw [q2] at hgf
    have hgf2 : ((gapL ps).map gpV)[f]? = some (.int (t - u)) := by rw [List.getElem?_map, hgf]; rfl
    have eg : ps.getD (aheadG ps + i) (0, true) = (t, p) := by rw [List.getD_eq_getElem?_getD, ← hf, hp]; rfl
    refine ⟨_, rfl, _, rfl, _, rfl, lg, _, (f : Int), .int (t - u), rfl, rfl, SqL.of (sx _ _ hg), atI_nat hgf2, ?_⟩
    refine ⟨_, rfl, _, rfl, a, _, (f : Int), .ref c', rfl, rfl, SqL.of (sHx _ _ ha), atI_nat hx1, c', _, 1, .bl p, rfl, rfl, SqT.of (sHx _ _ hcc), rfl, ?_⟩
    refine ⟨b, fwd ps (aheadG ps) i, t - u, p, rfl, hbx, fun b' H4 hb' s4 => ?_⟩
    have ef : nar (fwd ps (aheadG ps) i) (t - u) p = fwd ps (aheadG ps) (i + 1) := by
      show _ = nar (fwd ps (aheadG ps) i) ((ps.getD (aheadG ps + i) (0, true)).1 - uG ps (aheadG ps + i)) (ps.getD (aheadG ps + i) (0, true)).2
      rw [eg, ← hf, q3]
    rw [ef] at hb'
    have of := ok_fwd h0 (i := i + 1) (by omega)
    refine ⟨_, rfl, b', _, 0, .int (fwd ps (aheadG ps) (i + 1)).1, rfl, rfl, SqT.of hb', rfl, _, rfl, b', _, 1, .int (fwd ps (aheadG ps) (i + 1)).2, rfl, rfl, SqT.of hb', rfl, _, _, rfl, rfl, _, rfl, ite2 (fun c => ?_) (fun c => ?_)⟩
    · have c := of_decide_eq_true c
      refine ⟨_, rfl, k _ H4 (.inr ⟨f, rfl, by omega, fun z => ?_, fun j hj => oks j (by omega)⟩) (sHx.trans s4)⟩
      have := of.mp (by rw [show aheadG ps + (i + 1) = f + 1 by omega]; exact z)
      omega
    · have c' : ¬ (fwd ps (aheadG ps) (i + 1)).2 < (fwd ps (aheadG ps) (i + 1)).1 := fun z => c (decide_eq_true z)
      refine ⟨_, b', rfl, hb', sx.trans s4, fun j hj => ?_⟩
      by_cases q : j < aheadG ps + i
      · exact oks j q
      · rw [show j + 1 = aheadG ps + (i + 1) by omega]
        exact of.mpr (by omega)
theorem ok_firstconflict (T : LX K mg L) : CalX P w K mg base "first_conflict" 6 L.f_first_conflict ["log"] (spFc) := T.d_first_conflict.calX fun fd F => fn_firstconflict T F
abbrev N_forecast : List Str := ["log", "time", "conflict", "gap", "found", "failures", "low", "high"]
theorem sc_forecast : FnScope N_forecast ["log", "time"] (defScope st_forecast) := ⟨rfl, rfl, rfl, by decide +kernel, rfl, by decide +kernel, by decide +kernel⟩
theorem fn_forecast (T : LX K mg L) {fd : FuncData} (F : Fun K "forecast" "forecast" st_forecast L.f_forecast fd) : FnOk P w K mg base (L2.CX P w) 7 L.f_forecast fd ["log", "time"] (spFor L.e_InvalidLog) := by
  have G_checklog := ok_checklog (P := P) (w := w) (base := base) T
  have G_firstconflict := ok_firstconflict (P := P) (w := w) (base := base) T
  have G_explanations := ok_explanations (P := P) (w := w) (base := base) T
  have G_isatleast := ok_isatleast (P := P) (w := w) (base := base) T
  have G_gapsof := ok_gapsof (P := P) (w := w) (base := base) T
  have nd := sc_forecast.nd
  refine F.okX sc_forecast (fun vs H Q E h => ?_) (fun cdv A outer S H vs Q E hr h => ?_)
  · obtain ⟨a, xs, ps, t, rfl, _⟩ := h
    rfl
  · obtain ⟨a, xs, ps, t, rfl, ha, hx, ok, ht, t0, k, kb⟩ := h
    refine ⟨_, (pss_cons (ps_expr (pe_cX G_checklog (hr.mono (by decide)) rfl (fun σ => passAt (takes_of rfl rfl rfl rfl) σ) (pa_cons (pv 0) pa_nil)))
       (pss_cons (ps_if (pt_not (pt_val (pe_c G_isatleast (hr.mono (by decide)) rfl (pa_cons (pv 1) (pa_cons (pe_ifExp (pt_truth (pv 0) (fun _ => rfl)) (pe_op op_add (pe_ix (r := rIxT K) ix_tup (pe_ix (r := rIxL K) ix_list (pv 0) (pe_un un_neg pe_int) (fun _ _ => rfl)) pe_int (fun _ _ => rfl)) pe_int) pe_int) pa_nil))))) (pss_one (ps_never)) pss_nil)
       (pss_cons (ps_set (i := 2) nd rfl (Or.inl rfl) (pe_cX G_firstconflict (hr.mono (by decide)) rfl (fun σ => passAt (takes_of rfl rfl rfl rfl) σ) (pa_cons (pv 0) pa_nil)))
       (pss_cons (ps_if (pt_cmp (pc_notN (pv 2))) (pss_one (ps_raise rfl (takes_of rfl rfl rfl rfl) (mk_InvalidLog T (hr.mono (by decide)) rfl (pa_cons (pv 2) pa_nil)))) pss_nil)
       (pss_cons (ps_if (pt_cmpR (op_eqD hr.units) (pv 0) (pe_lst pa_nil) (nomark _)) (pss_one (ps_ret pe_str)) pss_nil)
       (pss_cons (ps_set (i := 3) nd rfl (Or.inl rfl) (pe_ix (r := rIxL K) ix_list (pe_c G_gapsof (hr.mono (by decide)) rfl (pa_cons (pe_op op_cat (pv 0) (pe_lst (pa_cons (pe_tup (pa_cons (pv 1) (pa_cons pe_bl pa_nil))) pa_nil))) pa_nil)) (pe_un un_neg pe_int) (fun _ _ => rfl)))
       (pss_cons (ps_set (i := 4) nd rfl (Or.inl rfl) (pe_cX G_explanations (hr.mono (by decide)) rfl (fun σ => passAt (takes_of rfl rfl rfl rfl) σ) (pa_cons (pv 0) pa_nil)))
       (pss_cons (ps_if (pt_cmpR op_le (pe_callB (cr_max rfl) (by rfl) T.b_max (by decide +kernel) (pa_cons (pe_lc (own := [("failures", 5), ("low", 6), ("high", 7)]) (g := gTup K 3 (gCons (gName 5) (gCons (gName 6) (gCons (gName 7) (gNil))))) (tt := tYes) rfl nd (pi_list (pv 4)) (blkOk_by (own := [("failures", 5), ("low", 6), ("high", 7)]) (N := N_forecast) (sc := defScope st_forecast) (by decide +kernel)) (fun _ _ _ _ _ => pg_tup rfl (pgs_cons (pg_name (i := 5) nd rfl (Or.inl rfl)) (pgs_cons (pg_name (i := 6) nd rfl (Or.inl rfl)) (pgs_cons (pg_name (i := 7) nd rfl (Or.inl rfl)) pgs_nil)))) (fun _ _ _ _ _ => pts_nil) (fun _ _ _ _ _ => (pv 7))) pa_nil)) (pv 3) (nomark _)) (pss_one (ps_ret pe_str)) pss_nil)
       (pss_cons (ps_if (pt_cmpR op_gt (pe_callB (cr_min rfl) (by rfl) T.b_min (by decide +kernel) (pa_cons (pe_lc (own := [("failures", 5), ("low", 6), ("high", 7)]) (g := gTup K 3 (gCons (gName 5) (gCons (gName 6) (gCons (gName 7) (gNil))))) (tt := tYes) rfl nd (pi_list (pv 4)) (blkOk_by (own := [("failures", 5), ("low", 6), ("high", 7)]) (N := N_forecast) (sc := defScope st_forecast) (by decide +kernel)) (fun _ _ _ _ _ => pg_tup rfl (pgs_cons (pg_name (i := 5) nd rfl (Or.inl rfl)) (pgs_cons (pg_name (i := 6) nd rfl (Or.inl rfl)) (pgs_cons (pg_name (i := 7) nd rfl (Or.inl rfl)) pgs_nil)))) (fun _ _ _ _ _ => pts_nil) (fun _ _ _ _ _ => (pv 6))) pa_nil)) (pv 3) (nomark _)) (pss_one (ps_ret pe_str)) pss_nil)
       (pss_one (ps_ret pe_str))))))))))), ?_⟩
    have xl := paired_len hx
    have ln := ok.ln
    refine ⟨_, rfl, a, xs, ps, rfl, ha, hx, ok, fun H1 s1 => ?_⟩
    by_cases hn : ps = []
    · subst hn
      have x0 : xs = [] := List.length_eq_zero_iff.mp xl
      subst x0
      refine ⟨_, rfl, _, rfl, false, .inl ⟨[], SqL.of (s1 _ _ ha), rfl⟩, iteF ⟨_, _, _, rfl, .int _, _, rfl, ?_⟩⟩
      show if (!(decide ((0 : Int) ≤ t))) = true then _ else _
      rw [decide_eq_true t0]
      refine iteF ⟨_, rfl, a, [], [], rfl, s1 _ _ ha, .nil, ok, fun v H2 hv s2 => ?_⟩
      rcases hv with ⟨rfl, _⟩ | ⟨i, _, hi, _⟩
      rotate_left
      · exact absurd hi (Nat.not_lt_zero _)
      refine ⟨_, rfl, _, rfl, iteF ⟨_, rfl, (by show 0 ≤ sizeLine; decide), fun l0 hl0 => ?_⟩⟩
      have s3 := Same.upd (o := .lst []) hl0
      refine ⟨_, _, Lgs.dpl (ps := []) ((s1.trans (s2.trans s3)) _ _ ha) .nil, Lgs.dpl (ps := []) upd_same .nil, lg_sh [], lg_sh [], _, rfl, ?_⟩
      rw [lg_eq, decide_eq_true rfl]
      exact iteT (k (fun j h => absurd h (Nat.not_lt_zero _)) "pass" _ (.inl ⟨rfl, .inl rfl⟩) (s1.trans (s2.trans s3)))
    obtain ⟨yi, v, rfl⟩ : ∃ ys v, xs = ys ++ [v] := by
      rcases List.eq_nil_or_concat xs with h | ⟨ys, v, h⟩
      · rw [h] at xl
        exact absurd (List.length_eq_zero_iff.mp xl.symm) hn
      · exact ⟨ys, v, by rw [h, List.concat_eq_append]⟩
    obtain ⟨⟨tl, pl⟩, hq, c, rfl, hcc⟩ := paired_get hx (i := yi.length) (x := v) (by rw [List.getElem?_append_right (Nat.le_refl _), Nat.sub_self]; rfl)
    have tlt := ht _ (List.mem_of_getElem? hq)
    have tlt : tl < t := tlt
    refine ⟨_, rfl, _, rfl, true, .inl ⟨_, SqL.of (s1 _ _ ha), by cases yi <;> rfl⟩, iteT ⟨_, rfl, 1, rfl, a, _, -1, .ref c, rfl, rfl, SqL.of (s1 _ _ ha), atI_last _ _, c, _, 0, .int tl, rfl, rfl, SqT.of (s1 _ _ hcc), rfl, _, _, rfl, rfl, _, _, _, rfl, .int _, _, rfl, ?_⟩⟩
    show if (!(decide (tl + 1 ≤ t))) = true then _ else _
    rw [decide_eq_true (show tl + 1 ≤ t by omega)]
    refine iteF ⟨_, rfl, a, _, ps, rfl, s1 _ _ ha, hx.same s1, ok, fun v H2 hv s2 => ?_⟩
    rcases hv with ⟨rfl, oks⟩ | ⟨i, rfl, hi, bad, oks⟩
    rotate_left
    · exact ⟨_, rfl, _, rfl, iteT ⟨_, rfl, (by show 1 ≤ 1000; decide), fun e he => raise1 (fun d H' hd s' => kb i hi bad oks d H' hd ((s1.trans s2).trans s')) e he⟩⟩
    have k := k oks
    obtain ⟨h0, hb⟩ : 1 ≤ aheadG ps ∧ (bnG ps (aheadG ps)).1 ≤ (bnG ps (aheadG ps)).2 := by
      rcases ok_all oks with z | z
      · exact absurd z hn
      · exact z
    have ne := ex_ne hn h0 hb
    obtain ⟨u, hu⟩ := latA_is h0
    have eg : gapN ps t = t - u := by unfold gapN; rw [hu]; rfl
    refine ⟨_, rfl, _, rfl, iteF ⟨_, rfl, (by show 0 ≤ sizeLine; decide), fun l0 hl0 => ?_⟩⟩
    have s3 := Same.upd (o := .lst []) hl0
    have s13 := s1.trans (s2.trans s3)
    refine ⟨_, _, Lgs.dpl (s13 _ _ ha) (hx.same s13), Lgs.dpl (ps := []) upd_same .nil, lg_sh ps, lg_sh [], _, rfl, ?_⟩
    rw [lg_eq, decide_eq_false hn]
    refine iteF ?_
    generalize upd H2 l0 (.lst []) = H3 at s3 s13 ⊢
    -- the gap
    refine ⟨_, rfl, _, rfl, (by show 2 ≤ sizeLine; decide), fun tp htp => ⟨(by show 1 ≤ sizeLine; decide), fun l1 hl1 => ?_⟩⟩
    have s4 := Same.upd (o := .tup [.int t, .bl true]) htp
    have s5 := Same.upd (o := .lst [.ref tp]) hl1
    have g4 := s5 _ _ (upd_same (H := H3) (a := tp) (o := .tup [.int t, .bl true]))
    have s15 := s13.trans (s4.trans s5)
    refine ⟨a, l1, _, _, rfl, rfl, s15 _ _ ha, upd_same, small2 (by rw [xl]; show _ + 1 ≤ 100000; omega), fun l2 hl2 => ?_⟩
    have s6 := Same.upd (o := .lst (yi ++ [.ref c] ++ [.ref tp])) hl2
    have s16 := s15.trans s6
    refine ⟨l2, _, ps ++ [(t, true)], rfl, upd_same, paired_app (hx.same s16) (.cons ⟨tp, rfl, s6 _ _ g4⟩ .nil), by rw [List.length_append]; show _ + 1 ≤ 1001; omega, fun lg H7 hlg s7 nlg => ?_⟩
    have s17 := s16.trans s7
    have lastG : (gapL (ps ++ [(t, true)])).map gpV = (((List.range ps.length).map fun i => (latA none ((ps ++ [(t, true)]).take i)).map fun u => ((ps ++ [(t, true)]).getD i (0, true)).1 - u).map gpV) ++ [.int (t - u)] := by
      have e1 : (latA none ((ps ++ [(t, true)]).take ps.length)).map (fun u => ((ps ++ [(t, true)]).getD ps.length (0, true)).1 - u) = some (t - u) := by
        rw [List.take_left, hu, List.getD_eq_getElem?_getD, List.getElem?_append_right (Nat.le_refl _), Nat.sub_self]
        rfl
      unfold gapL
      rw [List.length_append]
      show ((List.range (ps.length + 1)).map _).map gpV = _
      rw [List.range_succ, List.map_append, List.map_append, List.map_cons, e1]
      rfl
    rw [lastG] at hlg
    refine ⟨1, rfl, lg, _, -1, .int (t - u), rfl, rfl, SqL.of hlg, atI_last _ _, ?_⟩
    -- the explanations
    refine ⟨_, rfl, a, _, ps, rfl, s17 _ _ ha, hx.same s17, ok, fun lf ys H8 hlf_H8 hbr_H8 s8 nlf => ?_⟩
    have s18 := s17.trans s8
    have yl := hbr_H8.len
    have el : (exG ps).length ≤ 1000 := by
      unfold exG
      rw [if_neg hn]
      exact Nat.le_trans (exUp_len ps ps.length) ln
    have ep : 0 < (exG ps).length := List.length_pos_iff.mpr ne
    refine ⟨_, rfl, lf, rfl, ⟨_, SqL.of hlf_H8⟩, fun D hD => ?_⟩
    refine lc_list (K := K) (a := lf) (xs := ys) (fun j Hw => Hw D = some (.lst ((((exG ps).take j).map fun (e : Tri) => e.2.2).map V.int)) ∧ Same H8 Hw) ⟨upd_same, Same.upd hD⟩ (fun j Hw _ ⟨_, s⟩ => SqL.of (s _ _ hlf_H8)) ?_ ?_
    · rintro j x Hw hxj ⟨hDw, sw⟩
      obtain ⟨e, he, c, rfl, hce⟩ := paired_get hbr_H8 hxj
      have jl := (List.getElem?_eq_some_iff.mp he).1
      refine ⟨c, _, rfl, SqT.of (sw _ _ hce), rfl, _, _, rfl, _, _, rfl, _, _, rfl, rfl, rfl, tYes_of ⟨_, rfl, _, hDw, small1 (by rw [List.length_map, List.length_map, List.length_take]; omega), ?_, fun b o q => by rw [upd_ne (ne_of_none q hD)]; exact sw _ _ q⟩⟩
      rw [upd_same, List.take_add_one, he, List.map_append, List.map_append]
      rfl
    rintro H9 ⟨hD9, s9⟩
    rw [yl, List.take_length] at hD9
    refine ⟨D, (exG ps).map fun (e : Tri) => e.2.2, rfl, SqL.of hD9, by rw [List.length_map]; exact ep, fun M hM hMb => ⟨_, rfl, _, _, rfl, rfl, _, rfl, ?_⟩⟩
    have s19 := s18.trans s9
    refine ite2 (fun z => ?_) (fun z => ?_)
    · have z := of_decide_eq_true z
      exact k "pass" _ (.inl ⟨rfl, .inr fun e he => by rw [eg]; have := hMb _ (List.mem_map.mpr ⟨e, he, rfl⟩); omega⟩) s19
    have notA : ¬ ∀ e ∈ exG ps, e.2.2 ≤ gapN ps t := fun h => by
      obtain ⟨e, he, eM⟩ := List.mem_map.mp hM
      have := h e he
      rw [eg, eM] at this
      exact z (decide_eq_true this)
    have hlf_H9 := s9 _ _ hlf_H8
    have hbr_H9 := hbr_H8.nl (NL.of s9)
    refine ⟨_, rfl, lf, rfl, ⟨_, SqL.of hlf_H9⟩, fun D2 hD2 => ?_⟩
    refine lc_list (K := K) (a := lf) (xs := ys) (fun j Hw => Hw D2 = some (.lst ((((exG ps).take j).map fun (e : Tri) => e.2.1).map V.int)) ∧ Same H9 Hw) ⟨upd_same, Same.upd hD2⟩ (fun j Hw _ ⟨_, s⟩ => SqL.of (s _ _ hlf_H9)) ?_ ?_
    · rintro j x Hw hxj ⟨hDw, sw⟩
      obtain ⟨e, he, c, rfl, hce⟩ := paired_get hbr_H9 hxj
      have jl := (List.getElem?_eq_some_iff.mp he).1
      refine ⟨c, _, rfl, SqT.of (sw _ _ hce), rfl, _, _, rfl, _, _, rfl, _, _, rfl, rfl, rfl, tYes_of ⟨_, rfl, _, hDw, small1 (by rw [List.length_map, List.length_map, List.length_take]; omega), ?_, fun b o q => by rw [upd_ne (ne_of_none q hD2)]; exact sw _ _ q⟩⟩
      rw [upd_same, List.take_add_one, he, List.map_append, List.map_append]
      rfl
    rintro H10 ⟨hD10, s10⟩
    rw [yl, List.take_length] at hD10
    refine ⟨D2, (exG ps).map fun (e : Tri) => e.2.1, rfl, SqL.of hD10, by rw [List.length_map]; exact ep, fun m hm hmb => ⟨_, rfl, _, _, rfl, rfl, _, rfl, ?_⟩⟩
    refine ite2 (fun z => ?_) (fun z => ?_)
    · have z := of_decide_eq_true z
      exact k "reject" _ (.inr (.inl ⟨rfl, hn, notA, fun e he => by rw [eg]; have := hmb _ (List.mem_map.mpr ⟨e, he, rfl⟩); omega⟩)) (s19.trans s10)
    · refine k "either" _ (.inr (.inr ⟨rfl, hn, notA, fun h => ?_⟩)) (s19.trans s10)
      obtain ⟨e, he, eM⟩ := List.mem_map.mp hm
      have := h e he
      rw [eg, eM] at this
      exact z (decide_eq_true this)
theorem ok_forecast (T : LX K mg L) : CalX P w K mg base "forecast" 7 L.f_forecast ["log", "time"] (spFor L.e_InvalidLog) := T.d_forecast.calX fun fd F => fn_forecast T F
end
/-! ### what the breakers that explain a log do next -/
/-- the word of a breaker for the time t -/
def wdG (ps : Lg) (t f w : Int) : Bool := decide (psB (f, w, 1) (stG (f, w, 1) ("closed", 0) (ps.map (·.1))) t)
theorem wd_is {ps : Lg} {t f w : Int} (h : fitC f w 0 ps = true) : wdG ps t f w = fitC f w 0 (ps ++ [(t, true)]) := by
  have h1 : lgG (f, w, 1) ("closed", 0) (ps.map (·.1)) = ps := of_decide_eq_true ((lg_closed f w ps 0).trans h)
  rw [← lg_closed]
  have e : ((ps ++ [(t, true)]).map (·.1)) = ps.map (·.1) ++ [t] := by rw [List.map_append]; rfl
  rw [e, lgG_app, h1]
  unfold wdG
  by_cases c : psB (f, w, 1) (stG (f, w, 1) ("closed", 0) (ps.map (·.1))) t
  · rw [decide_eq_true c, decide_eq_true rfl]
  · rw [decide_eq_false c]
    symm
    refine decide_eq_false fun z => ?_
    have z := List.append_cancel_left z
    simp at z
theorem ahead_app {ps : Lg} {f : Nat} {q : Int × Bool} (h : f ≤ ps.length) : (f ≤ aheadG (ps ++ [q]) ↔ f ≤ aheadG ps) := by
  rw [← ahead_all (ps := ps ++ [q]) (by rw [List.length_append]; omega), ← ahead_all h, List.take_append_of_le_length h]
theorem uG_app {ps : Lg} {f : Nat} {q : Int × Bool} (h : f ≤ ps.length) : uG (ps ++ [q]) f = uG ps f := by
  unfold uG
  rw [List.take_append_of_le_length h]
theorem bn_app {ps : Lg} {f : Nat} {t : Int} (f1 : 1 ≤ f) (hf : f ≤ aheadG ps) : bnG (ps ++ [(t, true)]) f = nar (bnG ps f) (gapN ps t) true := by
  have hl := ahead_le ps
  have h0 : 1 ≤ aheadG ps := by omega
  unfold bnG
  rw [uG_app (by omega), List.drop_append_of_le_length (by omega), bnd_snoc]
  congr 1
  unfold gapN
  congr 2
  rw [← lat_ahead h0 f1, ← latA_cat, List.take_append_drop]
/-- a breaker with f failures up to all entries passes the next one if its wait is not above the gap -/
theorem wd_low {ps : Lg} {t w : Int} {f : Nat} (f1 : 1 ≤ f) (fl : f ≤ ps.length) (w1 : 1 ≤ w) (w2 : w ≤ mtE) (h : fitC (f : Int) w 0 ps = true) : wdG ps t (f : Int) w = decide (w ≤ gapN ps t) := by
  rw [wd_is h, fitC_bn f1 (by rw [List.length_append]; omega) w1 w2]
  rw [fitC_bn f1 fl w1 w2] at h
  simp only [Bool.and_eq_true, decide_eq_true_eq] at h
  obtain ⟨h1, h2, h3⟩ := h
  rw [bn_app f1 h1, decide_eq_true ((ahead_app fl).mpr h1)]
  unfold nar
  rw [if_pos rfl, Bool.true_and, decide_eq_true (show (bnG ps f).1 ≤ w from h2), Bool.true_and]
  rw [Bool.eq_iff_iff, decide_eq_true_eq, decide_eq_true_eq]
  dsimp only
  split <;> constructor <;> intro z <;> omega
theorem wd_past {ps : Lg} {t w : Int} (w1 : 1 ≤ w) (w2 : w ≤ mtE) (h : fitC ((ps.length + 1 : Nat) : Int) w 0 ps = true) : wdG ps t ((ps.length + 1 : Nat) : Int) w = true := by
  rw [wd_is h]
  rw [fitC_past (by omega)] at h
  have e : aheadG (ps ++ [(t, true)]) = (ps ++ [(t, true)]).length := ahead_full fun q hq => by
    rcases List.mem_append.mp hq with z | z
    · exact List.all_eq_true.mp h q z
    · rw [List.mem_singleton.mp z]
  have l : (ps ++ [(t, true)]).length = ps.length + 1 := by rw [List.length_append]; rfl
  rw [fitC_bn (by omega) (by omega) w1 w2, e, ← l, bn_end]
  simp only [Bool.and_eq_true, decide_eq_true_eq]
  exact ⟨Nat.le_refl _, w1, w2⟩
theorem ex_in {ps : Lg} (hn : ps ≠ []) {e : Tri} : e ∈ exG ps ↔ ∃ f : Nat, 1 ≤ f ∧ f ≤ aheadG ps ∧ (bnG ps f).1 ≤ (bnG ps f).2 ∧ e = ((f : Int), (bnG ps f).1, (bnG ps f).2) := by
  have hl := ahead_le ps
  unfold exG
  rw [if_neg hn]
  unfold exUp
  constructor
  · intro h
    obtain ⟨j, hj, h⟩ := List.mem_flatMap.mp h
    unfold exF at h
    split at h
    · rename_i c
      exact ⟨j + 1, by omega, c.1, c.2, List.mem_singleton.mp h⟩
    · cases h
  · rintro ⟨f, f1, f2, f3, rfl⟩
    refine List.mem_flatMap.mpr ⟨f - 1, List.mem_range.mpr (by omega), ?_⟩
    rw [show f - 1 + 1 = f by omega]
    unfold exF
    rw [if_pos ⟨f2, f3⟩]
    exact List.mem_singleton.mpr rfl
/-- the words of all breakers that explain the log -/
def wdsG (ps : Lg) (t : Int) (top : Nat) : List Bool := (fitL ps top (ps.length + 1)).map fun p => wdG ps t p.1 p.2
theorem fit_in {ps : Lg} {top : Nat} {p : Int × Int} : p ∈ fitL ps top (ps.length + 1) ↔ ∃ i j : Nat, i < ps.length + 1 ∧ j < top ∧ fitC (1 + (i : Int)) (1 + (j : Int)) 0 ps = true ∧ p = (1 + (i : Int), 1 + (j : Int)) := by
  unfold fitL fwG
  constructor
  · intro hx
    obtain ⟨i, hi, hx⟩ := List.mem_flatMap.mp hx
    obtain ⟨j, hj, e⟩ := List.mem_map.mp hx
    obtain ⟨h1, h2⟩ := List.mem_filter.mp hj
    exact ⟨i, j, List.mem_range.mp hi, List.mem_range.mp h1, h2, e.symm⟩
  · rintro ⟨i, j, hi, hj, h, rfl⟩
    exact List.mem_flatMap.mpr ⟨i, List.mem_range.mpr hi, List.mem_map.mpr ⟨j, List.mem_filter.mpr ⟨List.mem_range.mpr hj, h⟩, rfl⟩⟩
/-- the words that a breaker with f failures, f not above the number of entries, and a fitting wait says -/
theorem wds_low {ps : Lg} {t w : Int} {top f : Nat} (f1 : 1 ≤ f) (f2 : f ≤ aheadG ps) (w1 : 1 ≤ w) (wt : w ≤ (top : Int)) (hm : (top : Int) ≤ mtE) (lo : (bnG ps f).1 ≤ w) (hi : w ≤ (bnG ps f).2) : decide (w ≤ gapN ps t) ∈ wdsG ps t top := by
  have hl := ahead_le ps
  have h : fitC (f : Int) w 0 ps = true := by
    rw [fitC_bn f1 (by omega) w1 (by omega)]
    simp only [Bool.and_eq_true, decide_eq_true_eq]
    exact ⟨f2, lo, hi⟩
  refine List.mem_map.mpr ⟨((f : Int), w), fit_in.mpr ⟨f - 1, (w - 1).toNat, by omega, by omega, ?_, ?_⟩, wd_low f1 (by omega) w1 (by omega) h⟩
  · rw [show (1 : Int) + ((f - 1 : Nat) : Int) = (f : Int) by omega, show (1 : Int) + (((w - 1).toNat : Nat) : Int) = w by omega]
    exact h
  · rw [show (1 : Int) + ((f - 1 : Nat) : Int) = (f : Int) by omega, show (1 : Int) + (((w - 1).toNat : Nat) : Int) = w by omega]
/-- and all words are of this kind, or say yes where all were passed -/
theorem wds_in {ps : Lg} {t : Int} {top : Nat} (hm : (top : Int) ≤ mtE) {b : Bool} (h : b ∈ wdsG ps t top) : (∃ (f : Nat) (w : Int), 1 ≤ f ∧ f ≤ aheadG ps ∧ (bnG ps f).1 ≤ w ∧ w ≤ (bnG ps f).2 ∧ b = decide (w ≤ gapN ps t)) ∨ (b = true ∧ ps.all (·.2) = true) := by
  obtain ⟨p, hp, rfl⟩ := List.mem_map.mp h
  obtain ⟨i, j, hi, hj, hf, rfl⟩ := fit_in.mp hp
  by_cases c : i < ps.length
  · have hf' := hf
    have e : (1 : Int) + (i : Int) = ((i + 1 : Nat) : Int) := by omega
    rw [e] at hf'
    have hw := wd_low (t := t) (by omega) (by omega) (by omega) (by omega) hf'
    rw [fitC_bn (by omega) (by omega) (by omega) (by omega)] at hf'
    simp only [Bool.and_eq_true, decide_eq_true_eq] at hf'
    refine .inl ⟨i + 1, 1 + (j : Int), by omega, hf'.1, hf'.2.1, hf'.2.2, ?_⟩
    show wdG ps t (1 + (i : Int)) (1 + (j : Int)) = _
    rw [e]
    exact hw
  · have e : (1 : Int) + (i : Int) = ((ps.length + 1 : Nat) : Int) := by omega
    have hf' := hf
    rw [e] at hf'
    refine .inr ⟨?_, ?_⟩
    · show wdG ps t (1 + (i : Int)) (1 + (j : Int)) = _
      rw [e]
      exact wd_past (by omega) (by omega) hf'
    · rw [← fitC_past (f := ((ps.length + 1 : Nat) : Int)) (w := 1 + (j : Int)) (by omega)]
      exact hf'
theorem wds_true {ps : Lg} {t : Int} {top : Nat} {M : Int} (hn : ps ≠ []) (M0 : 0 ≤ M) (hb : ∀ p ∈ ps, 0 ≤ p.1 ∧ p.1 ≤ M) (ht : M + 1 ≤ (top : Int)) (hg : gapN ps t + 1 ≤ (top : Int)) (g1 : 1 ≤ gapN ps t) (hm : (top : Int) ≤ mtE) : (false ∉ wdsG ps t top ↔ ∀ e ∈ exG ps, e.2.2 ≤ gapN ps t) ∧ (true ∉ wdsG ps t top → ∀ e ∈ exG ps, gapN ps t < e.2.1) ∧ ((∀ e ∈ exG ps, gapN ps t < e.2.1) → true ∉ wdsG ps t top) := by
  refine ⟨⟨fun h e he => ?_, fun h z => ?_⟩, fun h e he => ?_, fun h z => ?_⟩
  · obtain ⟨f, f1, f2, f3, rfl⟩ := (ex_in hn).mp he
    obtain ⟨⟨b1, b2⟩, _⟩ := bnG_bd M0 hb f
    show (bnG ps f).2 ≤ gapN ps t
    refine Classical.byContradiction fun c => h ?_
    have m : decide (max (bnG ps f).1 (gapN ps t + 1) ≤ gapN ps t) ∈ wdsG ps t top := wds_low f1 f2 (by omega) (by omega) hm (by omega) (by omega)
    rwa [decide_eq_false (by omega)] at m
  · rcases wds_in hm z with ⟨f, w, f1, f2, lo, hi, e⟩ | ⟨e, _⟩
    · have := h _ ((ex_in hn).mpr ⟨f, f1, f2, by omega, rfl⟩)
      have := of_decide_eq_false e.symm
      have h2 : (bnG ps f).2 ≤ gapN ps t := by assumption
      omega
    · cases e
  · obtain ⟨f, f1, f2, f3, rfl⟩ := (ex_in hn).mp he
    obtain ⟨⟨b1, b2⟩, _⟩ := bnG_bd M0 hb f
    show gapN ps t < (bnG ps f).1
    refine Classical.byContradiction fun c => h ?_
    have m : decide ((bnG ps f).1 ≤ gapN ps t) ∈ wdsG ps t top := wds_low f1 f2 b1 (by omega) hm (Int.le_refl _) f3
    rwa [decide_eq_true (by omega)] at m
  · rcases wds_in hm z with ⟨f, w, f1, f2, lo, hi, e⟩ | ⟨_, e⟩
    · have h1 : gapN ps t < (bnG ps f).1 := h _ ((ex_in hn).mpr ⟨f, f1, f2, by omega, rfl⟩)
      have := of_decide_eq_true e.symm
      omega
    · have ea : aheadG ps = ps.length := ahead_full fun q hq => List.all_eq_true.mp e q hq
      have l0 : 0 < ps.length := List.length_pos_iff.mpr hn
      have h1 : gapN ps t < (bnG ps ps.length).1 := h _ ((ex_in hn).mpr ⟨ps.length, l0, by omega, by rw [bn_end]; decide, rfl⟩)
      rw [bn_end] at h1
      have h1 : gapN ps t < 1 := h1
      omega
/-! ### k47: the law's own search -/
theorem inV_bl (b : Bool) : ∀ bs : List Bool, inV (.bl b) (bs.map V.bl) = decide (b ∈ bs)
  | [] => by simp [inV]
  | c :: r => by
    have ih := inV_bl b r
    unfold inV at ih ⊢
    rw [List.map_cons, List.any_cons, ih, Bool.eq_iff_iff]
    have e1 : eqV (V.bl false) (V.bl false) = true := rfl
    have e2 : eqV (V.bl true) (V.bl false) = false := rfl
    have e3 : eqV (V.bl false) (V.bl true) = false := rfl
    have e4 : eqV (V.bl true) (V.bl true) = true := rfl
    cases b <;> cases c <;> simp [e1, e2, e3, e4]
theorem flat_blV (bs : List Bool) : (bs.map V.bl).all flatV = true := List.all_eq_true.mpr fun x hx => by
  obtain ⟨b, _, rfl⟩ := List.mem_map.mp hx
  rfl
def twD (o : Int × Int) : PyData := .tuple [.int o.1, .int o.2]
theorem tw_dp {K : PySem.W.Frag} {H : Hp} {xs : List V} {ps : List (Int × Int)} (h : Paired (TwAt H) xs ps) : DpAll K H xs (ps.map twD) := by
  induction h with
  | nil => exact .nil
  | cons h _ ih =>
    obtain ⟨c, rfl, hc⟩ := h
    exact .cons (.tup (SqT.of hc) (.cons (.int _) (.cons (.int _) .nil))) ih
theorem tw_can : ∀ ps : List (Int × Int), PyData.canLayAll0 (ps.map twD) = true
  | [] => by simp [PyData.canLayAll0]
  | o :: r => by rw [List.map_cons, PyData.canLayAll0, tw_can r]; simp [twD, PyData.canLay0, PyData.canLayAll0]
theorem tw_dep : ∀ ps : List (Int × Int), PyData.depthAll (ps.map twD) ≤ 10
  | [] => by simp [PyData.depthAll]
  | o :: r => by
    have := tw_dep r
    rw [List.map_cons, PyData.depthAll]
    have h2 : (twD o).depth ≤ 9 := by simp [twD, PyData.depth, PyData.depthAll]
    omega
theorem tw_sh (ps : List (Int × Int)) : SeqAt.shaped (.list (ps.map twD)) = true := by
  refine Bool.and_eq_true_iff.mpr ⟨?_, decide_eq_true ?_⟩
  · rw [PyData.canLay0]
    exact tw_can ps
  · have := tw_dep ps
    rw [PyData.depth]
    omega
theorem tw_nil (ps : List (Int × Int)) : PyData.eqv (.list (ps.map twD)) (.list []) = decide (ps = []) := by
  rw [PyData.eqv]
  cases ps with
  | nil => simp [PyData.eqvAll]
  | cons o r =>
    rw [List.map_cons, PyData.eqvAll, decide_eq_false (fun z => nomatch z)]
    all_goals simp
theorem paired_take {α β : Type} {F : α → β → Prop} : ∀ {xs : List α} {ys : List β} (n : Nat), Paired F xs ys → Paired F (xs.take n) (ys.take n)
  | _, _, 0, _ => .nil
  | _, _, _ + 1, .nil => .nil
  | _, _, n + 1, .cons r t => .cons r (paired_take n t)
theorem cut_tk {xs : List V} {k : Nat} (h : k ≤ xs.length) : cutV xs none (some (k : Int)) = xs.take k := by
  unfold cutV
  rw [HT.sIx_nat, HT.sIx_none, Nat.min_eq_left h]
  rfl
theorem lgs_last {H : Hp} {q : Int × Bool} : ∀ {L : Lg} {ws : List V}, Lgs H ws (L ++ [q]) → ∃ ys c, ws = ys ++ [.ref c] ∧ H c = some (.tup [.int q.1, .bl q.2])
  | [], _, .cons ⟨c, e, h⟩ .nil => ⟨[], c, by rw [e]; rfl, h⟩
  | _ :: _, _, .cons _ t => by
    obtain ⟨ys, c, e, h⟩ := lgs_last t
    exact ⟨_ :: ys, c, by rw [e]; rfl, h⟩
def spConf : Sp := fun vs H Q _ => ∃ (a : Addr) (zs : List V) (ps : Lg) (top : Nat) (M : Int), vs = [.ref a, .int (top : Int)] ∧ H a = some (.lst zs) ∧ Lgs H zs ps ∧ ps.length ≤ 12 ∧ 1 ≤ top ∧ top ≤ 400 ∧ 0 ≤ M ∧ (∀ p ∈ ps, 0 ≤ p.1 ∧ p.1 ≤ M) ∧ M + 1 ≤ (top : Int) ∧ ∀ v H', FcR ps v → Same H H' → Q v H'
def spNxt47 : Sp := fun vs H Q _ => ∃ (a : Addr) (zs : List V) (ps : Lg) (top : Nat) (t M : Int), vs = [.ref a, .int (top : Int), .int t] ∧ H a = some (.lst zs) ∧ Lgs H zs ps ∧ ps.length ≤ 12 ∧ 1 ≤ top ∧ top ≤ 400 ∧ 0 ≤ M ∧ (∀ p ∈ ps, 0 ≤ p.1 ∧ p.1 ≤ M) ∧ M + 1 ≤ (top : Int) ∧ (ps ≠ [] → gapN ps t + 1 ≤ (top : Int) ∧ 1 ≤ gapN ps t) ∧ ∀ (wd : Str) H', FoR ps t wd → Same H H' → Q (.str wd) H'
section
variable {P : Program} {w : World} {K : PySem.W.Frag} {mg : Str → Option Value} {base : Heap} {L : LA}
abbrev N_wconflict : List Str := ["_law_log_here", "_law_most", "_law_at"]
theorem sc_wconflict : FnScope N_wconflict ["_law_log_here", "_law_most"] (defScope st__law_conflict) := ⟨rfl, rfl, rfl, by decide +kernel, rfl, by decide +kernel, by decide +kernel⟩
theorem fn_wconflict (T : LX K mg L) {fd : FuncData} (F : Fun K "_law_conflict" "_law_conflict" st__law_conflict L.f__law_conflict fd) : FnOk P w K mg base CX0 3 L.f__law_conflict fd ["_law_log_here", "_law_most"] (spConf) := by
  have G_wfits := ok_wfits (P := P) (w := w) (base := base) T
  have nd := sc_wconflict.nd
  refine F.ok sc_wconflict (fun vs H Q E h => ?_) (fun cdv A outer S H vs Q E hr h => ?_)
  · obtain ⟨a, zs, ps, top, M, rfl, _⟩ := h
    rfl
  · obtain ⟨a, zs, ps, top, M, rfl, ha, hz, pl, t0, t1, M0, hb, ht, k⟩ := h
    refine ⟨_, (pss_cons (ps_for PassesOwn.never rfl (pi_range1 rfl T.b_range (pa_cons (pe_callB call_len_seq (by rfl) T.b_len PySem.boot_len (pa_cons (pv 0) pa_nil)) pa_nil)) (pg_name (i := 2) nd rfl (Or.inl rfl)) (pss_one (ps_if (pt_cmpR (op_eqD hr.units) (pe_c G_wfits (hr.mono (by decide)) rfl (pa_cons (pe_slice (r := rSlL K) sl_list (pv 0) po_none (po_some (pe_op op_add (pv 2) pe_int))) (pa_cons (pv 1) pa_nil))) (pe_lst pa_nil) (nomark _)) (pss_one (ps_ret (pv 2))) pss_nil)))
       (pss_one (ps_ret pe_non))), ?_⟩
    have zl := paired_len hz
    have hm : (top : Int) ≤ mtE := by
      have : mtE = 1000000000000000000000000000000 := rfl
      omega
    refine ⟨_, rfl, a, _, rfl, .inl (SqL.of ha), _, rfl, by omega, by omega, ?_⟩
    refine for_range (lo := 0) (n := ((zs.length : Nat) : Int).toNat) (fun i σ Hx => ∃ v2 : Option V, σ = [some (.ref a), some (.int (top : Int)), v2] ∧ Same H Hx ∧ ∀ j, j < i → Ok1 (ps.take (j + 1))) ⟨none, rfl, Same.refl _, fun j h => absurd h (Nat.not_lt_zero _)⟩ ?_ ?_
    · rintro i σ Hx hi ⟨v2, rfl, sx, oks⟩
      rw [Int.toNat_natCast] at hi
      have hax := sx _ _ ha
      have ei : (0 : Int) + (i : Int) + 1 = ((i + 1 : Nat) : Int) := by omega
      refine ⟨_, rfl, _, rfl, _, _, rfl, rfl, _, rfl, a, _, rfl, SqL.of hax, fun l1 n1 => ?_⟩
      have s1 := Same.upd (o := .lst (cutV zs none (some ((0 : Int) + (i : Int) + 1)))) n1
      have e1 : cutV zs none (some ((0 : Int) + (i : Int) + 1)) = zs.take (i + 1) := by rw [ei]; exact cut_tk (by omega)
      rw [e1] at s1 ⊢
      have hz1 : Lgs (upd Hx l1 (.lst (zs.take (i + 1)))) (zs.take (i + 1)) (ps.take (i + 1)) := paired_take _ ((hz.same sx).same s1)
      have hn : ps.take (i + 1) ≠ [] := fun z => by
        have l : (ps.take (i + 1)).length = i + 1 := by rw [List.length_take]; omega
        rw [z] at l
        cases l
      refine ⟨_, rfl, l1, _, ps.take (i + 1), top, rfl, upd_same, hz1, by rw [List.length_take]; omega, t0, t1, fun l2 ws H2 h2 hw s2 n2 => ?_⟩
      have fo := fits_ok hn M0 (fun p hp => hb p (List.mem_of_mem_take hp)) ht hm
      refine ⟨(by show 0 ≤ sizeLine; decide), fun l3 n3 => ?_⟩
      have s3 := Same.upd (o := .lst []) n3
      have sxx := (sx.trans (s1.trans s2)).trans s3
      refine ⟨.list ((fitL (ps.take (i + 1)) top ((ps.take (i + 1)).length + 1)).map twD), .list [], .lst (SqL.of (s3 _ _ h2)) (tw_dp (L2.Paired.mapP hw fun _ _ z => z.nl (NL.of s3))), .lst (SqL.of upd_same) .nil, tw_sh _, tw_sh [], ?_⟩
      rw [tw_nil]
      refine ⟨_, rfl, ite2 (fun c => ?_) (fun c => ?_)⟩
      · have c := of_decide_eq_true c
        refine ⟨_, rfl, ?_⟩
        show Q (.int ((0 : Int) + (i : Int))) _
        rw [Int.zero_add]
        exact k _ _ (.inr ⟨i, rfl, by omega, fun z => fo.mpr z c, oks⟩) sxx
      · refine ⟨_, rfl, sxx, fun j hj => ?_⟩
        by_cases q : j < i
        · exact oks j q
        · rw [show j = i by omega]
          exact fo.mp fun z => c (decide_eq_true z)
    · rintro σ Hx ⟨v2, rfl, sx, oks⟩
      rw [Int.toNat_natCast] at oks
      exact k _ _ (.inl ⟨rfl, fun j hj => oks j (by omega)⟩) sx
theorem ok_wconflict (T : LX K mg L) : Cal P w K mg base "_law_conflict" 3 L.f__law_conflict ["_law_log_here", "_law_most"] (spConf) := T.d__law_conflict.cal fun fd F => fn_wconflict T F
abbrev N_wnext : List Str := ["_law_log_here", "_law_most", "_law_time", "_law_times", "_law_words", "_law_failures", "_law_wait", "_law_one_here", "_law_is_passed"]
theorem sc_wnext : FnScope N_wnext ["_law_log_here", "_law_most", "_law_time"] (defScope st__law_next) := ⟨rfl, rfl, rfl, by decide +kernel, rfl, by decide +kernel, by decide +kernel⟩
theorem fn_wnext (T : LX K mg L) {fd : FuncData} (F : Fun K "_law_next" "_law_next" st__law_next L.f__law_next fd) : FnOk P w K mg base CX0 3 L.f__law_next fd ["_law_log_here", "_law_most", "_law_time"] (spNxt47) := by
  have G_wfits := ok_wfits (P := P) (w := w) (base := base) T
  have G_wlog := ok_wlog (P := P) (w := w) (base := base) T
  have nd := sc_wnext.nd
  refine F.ok sc_wnext (fun vs H Q E h => ?_) (fun cdv A outer S H vs Q E hr h => ?_)
  · obtain ⟨a, zs, ps, top, t, M, rfl, _⟩ := h
    rfl
  · obtain ⟨a, zs, ps, top, t, M, rfl, ha, hz, pl, t0, t1, M0, hb, ht, hg, k⟩ := h
    refine ⟨_, (pss_cons (ps_par (i := 3) (j := 4) (by rfl) nd rfl rfl (by decide) rfl rfl (pa_cons (pe_lc (own := [("_law_one_here", 7), ("_law_is_passed", 8)]) (g := gTup K 2 (gCons (gName 7) (gCons (gName 8) (gNil)))) (tt := tYes) rfl nd (pi_list (pv 0)) (blkOk_by (own := [("_law_one_here", 7), ("_law_is_passed", 8)]) (N := N_wnext) (sc := defScope st__law_next) (by decide +kernel)) (fun _ _ _ _ _ => pg_tup rfl (pgs_cons (pg_name (i := 7) nd rfl (Or.inl rfl)) (pgs_cons (pg_name (i := 8) nd rfl (Or.inl rfl)) pgs_nil))) (fun _ _ _ _ _ => pts_nil) (fun _ _ _ _ _ => (pv 7))) (pa_cons (pe_lst pa_nil) pa_nil)) (by rfl))
       (pss_cons (ps_for PassesOwn.never rfl (pi_list (pe_c G_wfits (hr.mono (by decide)) rfl (pa_cons (pv 0) (pa_cons (pv 1) pa_nil)))) (pg_tup rfl (pgs_cons (pg_name (i := 5) nd rfl (Or.inl rfl)) (pgs_cons (pg_name (i := 6) nd rfl (Or.inl rfl)) pgs_nil))) (pss_one (ps_expr (pe_bm PySem.F.plainAttrs_list PySem.F.slot_list_append PySem.F.type_list_append mt_append (pv 4) (pa_cons (pe_ix (r := rIxT K) ix_tup (pe_ix (r := rIxL K) ix_list (pe_c G_wlog (hr.mono (by decide)) rfl (pa_cons (pe_tup (pa_cons (pv 5) (pa_cons (pv 6) (pa_cons pe_int pa_nil)))) (pa_cons (pe_op op_cat (pv 3) (pe_lst (pa_cons (pv 2) pa_nil))) pa_nil))) (pe_un un_neg pe_int) (fun _ _ => rfl)) pe_int (fun _ _ => rfl)) pa_nil)))))
       (pss_cons (ps_if (pt_cmpR op_notIn_seq pe_bl (pv 4) rfl) (pss_one (ps_ret pe_str)) pss_nil)
       (pss_one (ps_ret (pe_ifExp (pt_cmpR op_in_seq pe_bl (pv 4) rfl) pe_str pe_str)))))), ?_⟩
    have zl := paired_len hz
    have hm : (top : Int) ≤ mtE := by
      have : mtE = 1000000000000000000000000000000 := rfl
      omega
    refine ⟨_, rfl, a, rfl, ⟨_, SqL.of ha⟩, fun D hD => ?_⟩
    refine lc_list (K := K) (a := a) (xs := zs) (fun j Hx => Hx D = some (.lst (((ps.take j).map (·.1)).map V.int)) ∧ Same H Hx) ⟨upd_same, Same.upd hD⟩ (fun j Hx _ ⟨_, sx⟩ => SqL.of (sx _ _ ha)) ?_ ?_
    · rintro j x Hx hxj ⟨hDx, sx⟩
      obtain ⟨⟨u, p⟩, hp, c, rfl, hc⟩ := paired_get hz hxj
      have hj := (List.getElem?_eq_some_iff.mp hp).1
      refine ⟨c, _, rfl, SqT.of (sx _ _ hc), rfl, _, _, rfl, _, _, rfl, rfl, rfl, tYes_of ⟨_, rfl, _, hDx, small1 (by rw [List.length_map, List.length_map, List.length_take]; omega), ?_, fun b o e => by rw [upd_ne (ne_of_none e hD)]; exact sx _ _ e⟩⟩
      rw [upd_same, List.take_add_one, hp, List.map_append, List.map_append]
      rfl
    rintro H1 ⟨hD1, s1⟩
    rw [zl, List.take_length] at hD1
    refine ⟨(by show 0 ≤ sizeLine; decide), fun lw nlw => ⟨_, _, rfl, ?_⟩⟩
    have s2 := Same.upd (o := .lst []) nlw
    have hlw0 := upd_same (H := H1) (a := lw) (o := .lst [])
    have hD2 := s2 _ _ hD1
    have s12 := s1.trans s2
    have nlH : H lw = none := none_of s1 nlw
    have nDw : D ≠ lw := ne_of_none hD1 nlw
    generalize upd H1 lw (.lst []) = H2 at s12 hlw0 hD2 ⊢
    refine ⟨_, rfl, _, rfl, a, zs, ps, top, rfl, s12 _ _ ha, hz.same s12, pl, t0, t1, fun lf ws H3 h3 hw s3 n3 => ⟨lf, rfl, ⟨_, SqL.of h3⟩, ?_⟩⟩
    have wl := paired_len hw
    have fl := fitL_len ps top (ps.length + 1)
    have fl2 : top * (ps.length + 1) ≤ 400 * 13 := Nat.mul_le_mul t1 (by omega)
    have nfw : lf ≠ lw := (ne_of_none hlw0 n3).symm
    have hlw3 := s3 _ _ hlw0
    have hD3 := s3 _ _ hD2
    have s13 := s12.trans s3
    refine for_list (K := K) (a := lf) (xs := ws) (fun i σ Hx => ∃ v5 v6 : Option V, σ = [some (.ref a), some (.int (top : Int)), some (.int t), some (.ref D), some (.ref lw), v5, v6, none, none] ∧ Hx lw = some (.lst ((((fitL ps top (ps.length + 1)).take i).map fun p => wdG ps t p.1 p.2).map V.bl)) ∧ Kp lw H3 Hx) ⟨none, none, rfl, hlw3, Kp.refl⟩ (fun i σ Hx _ ⟨_, _, _, _, kx⟩ => SqL.of (kx _ _ nfw h3)) ?_ ?_
    · rintro i x σ Hx hxi ⟨v5, v6, rfl, hlw, kx⟩
      obtain ⟨p, hp, c, rfl, hc⟩ := paired_get hw hxi
      have pm := List.mem_of_getElem? hp
      obtain ⟨fi, fj, f1, f2, f3, ep⟩ := fit_in.mp pm
      have nclw : c ≠ lw := fun z => by rw [z, hlw3] at hc; cases hc
      have hcx := kx _ _ nclw hc
      have hDx := kx _ _ nDw hD3
      refine ⟨c, _, rfl, SqT.of hcx, rfl, _, _, rfl, _, _, rfl, rfl, ?_⟩
      refine ⟨_, rfl, .inl ⟨rfl, _, SqL.of hlw⟩, _, rfl, _, rfl, (by show 3 ≤ sizeLine; decide), fun tb ntb => ?_⟩
      have sb := Same.upd (o := .tup [.int p.1, .int p.2, .int 1]) ntb
      refine ⟨_, rfl, _, rfl, (by show 1 ≤ sizeLine; decide), fun l1 n1 => ?_⟩
      have sl := Same.upd (o := .lst [.int t]) n1
      refine ⟨D, l1, _, _, rfl, rfl, sl _ _ (sb _ _ hDx), upd_same, small2 (by rw [List.length_map, List.length_map]; show _ + 1 ≤ 100000; omega), fun l2 n2 => ?_⟩
      have sc := Same.upd (o := .lst ((ps.map (·.1)).map V.int ++ [.int t])) n2
      have htb := sc _ _ (sl _ _ (upd_same (H := Hx) (a := tb) (o := .tup [.int p.1, .int p.2, .int 1])))
      have ssc := (sb.trans sl).trans sc
      have h2 := upd_same (H := upd (upd Hx tb (.tup [.int p.1, .int p.2, .int 1])) l1 (.lst [.int t])) (a := l2) (o := .lst ((ps.map (·.1)).map V.int ++ [.int t]))
      generalize upd (upd (upd Hx tb (.tup [.int p.1, .int p.2, .int 1])) l1 (.lst [.int t])) l2 (.lst ((ps.map (·.1)).map V.int ++ [.int t])) = Hy at htb ssc h2 ⊢
      have okb : OkT (p.1, p.2, 1) := by
        rw [ep]
        exact ⟨by show (1 : Int) ≤ 1 + (fi : Int); omega, by show 1 + (fi : Int) ≤ 1000000000000; omega, by show (1 : Int) ≤ 1 + (fj : Int); omega, by show 1 + (fj : Int) ≤ 1000000000000000000000000000000; omega, by show (1 : Int) ≤ 1; decide, by show (1 : Int) ≤ 1000000000000; decide⟩
      refine ⟨.ref tb, (p.1, p.2, 1), l2, ps.map (·.1) ++ [t], rfl, ⟨tb, rfl, htb⟩, okb, by rw [List.map_append]; exact h2, by rw [List.length_append, List.length_map]; show _ + 1 ≤ 1000; omega, fun lo us H5 hlo hus s5 nlo => ?_⟩
      rw [lgG_app] at hus
      obtain ⟨ys, cc, rfl, hcc⟩ := lgs_last hus
      refine ⟨1, rfl, lo, _, -1, .ref cc, rfl, rfl, SqL.of hlo, atI_last _ _, cc, _, 1, .bl (wdG ps t p.1 p.2), rfl, rfl, SqT.of hcc, rfl, ?_⟩
      have hlw5 := s5 _ _ (ssc _ _ hlw)
      refine ⟨lw, _, _, rfl, rfl, hlw5, small1 (by rw [List.length_map, List.length_map, List.length_take]; omega), ?_⟩
      refine ⟨_, _, rfl, ?_, fun b o nb e => by rw [upd_ne nb]; exact s5 _ _ (ssc _ _ (kx _ _ nb e))⟩
      rw [upd_same, List.take_add_one, hp, Option.toList_some, List.map_append, List.map_append]
      rfl
    rintro σ Hx ⟨v5, v6, rfl, hlw, kx⟩
    rw [wl, List.take_length] at hlw
    have hlw : Hx lw = some (.lst ((wdsG ps t top).map V.bl)) := hlw
    have sE : Same H Hx := fun b o e => kx _ _ (ne_of_none e nlH) (s13 _ _ e)
    refine ⟨_, rfl, lw, _, rfl, .inl (SqL.of hlw), rfl, flat_blV _, _, rfl, ?_⟩
    show if (!inV (.bl false) ((wdsG ps t top).map V.bl)) = true then _ else _
    rw [inV_bl]
    by_cases hn : ps = []
    · have nf : false ∉ wdsG ps t top := fun z => by
        rcases wds_in hm z with ⟨f, w, f1, f2, _⟩ | ⟨e, _⟩
        · rw [hn] at f2
          have f2 : f ≤ 0 := f2
          omega
        · cases e
      rw [decide_eq_false nf]
      exact iteT (k "pass" _ (.inl ⟨rfl, .inl hn⟩) sE)
    obtain ⟨g1, g2⟩ := hg hn
    obtain ⟨w1, w2, w3⟩ := wds_true (t := t) hn M0 hb ht g1 g2 hm
    by_cases nf : false ∈ wdsG ps t top
    rotate_left
    · rw [decide_eq_false nf]
      exact iteT (k "pass" _ (.inl ⟨rfl, .inr (w1.mp nf)⟩) sE)
    rw [decide_eq_true nf]
    have notA : ¬ ∀ e ∈ exG ps, e.2.2 ≤ gapN ps t := fun z => w1.mpr z nf
    refine iteF ⟨_, rfl, lw, _, rfl, .inl (SqL.of hlw), rfl, flat_blV _, _, rfl, ?_⟩
    show if inV (.bl true) ((wdsG ps t top).map V.bl) = true then _ else _
    rw [inV_bl]
    by_cases ny : true ∈ wdsG ps t top
    · rw [decide_eq_true ny]
      exact iteT (k "either" _ (.inr (.inr ⟨rfl, hn, notA, fun z => w3 z ny⟩)) sE)
    · rw [decide_eq_false ny]
      exact iteF (k "reject" _ (.inr (.inl ⟨rfl, hn, notA, w2 ny⟩)) sE)
theorem ok_wnext (T : LX K mg L) : Cal P w K mg base "_law_next" 3 L.f__law_next ["_law_log_here", "_law_most", "_law_time"] (spNxt47) := T.d__law_next.cal fun fd F => fn_wnext T F
end
/-! ### k47: the law's turns -/
theorem asc_topX : ∀ {ns : List Int} {lo : Int}, Asc lo ns → lo ≤ lstG lo ns ∧ ∀ x ∈ ns, x + 1 ≤ lstG lo ns
  | [], lo, _ => ⟨Int.le_refl _, fun x h => nomatch h⟩
  | x :: r, lo, ⟨h1, h2⟩ => by
    obtain ⟨i1, i2⟩ := asc_topX h2
    have i1 : x + 1 ≤ lstG (x + 1) r := i1
    refine ⟨?_, fun y hy => ?_⟩
    · show lo ≤ lstG (x + 1) r
      omega
    · show y + 1 ≤ lstG (x + 1) r
      rcases List.mem_cons.mp hy with rfl | hy
      · exact i1
      · exact i2 y hy
theorem FoR.one {ps : Lg} {t : Int} {a b : Str} (h : FoR ps t a) (h' : FoR ps t b) : a = b := by
  rcases h with ⟨rfl, h⟩ | ⟨rfl, n, h, h2⟩ | ⟨rfl, n, h, h2⟩ <;> rcases h' with ⟨rfl, z⟩ | ⟨rfl, m, z, z2⟩ | ⟨rfl, m, z, z2⟩
  · rfl
  · rcases h with h | h
    · exact absurd h m
    · exact absurd h z
  · rcases h with h | h
    · exact absurd h m
    · exact absurd h z
  · rcases z with z | z
    · exact absurd z n
    · exact absurd z h
  · rfl
  · exact absurd h2 z2
  · rcases z with z | z
    · exact absurd z n
    · exact absurd z h
  · exact absurd z2 h2
  · rfl
theorem gap_bd {ps : Lg} {t M : Int} (hn : ps ≠ []) (M0 : 0 ≤ M) (hb : ∀ p ∈ ps, 0 ≤ p.1 ∧ p.1 ≤ M) (ht : M < t) : 1 ≤ gapN ps t ∧ gapN ps t ≤ t := by
  have up : ∀ (xs : Lg) (o : Option Int), (∀ v, o = some v → v ≤ M) → (∀ p ∈ xs, p.1 ≤ M) → ∀ v, latA o xs = some v → v ≤ M := by
    intro xs
    induction xs with
    | nil => exact fun o ho _ => ho
    | cons q r ih =>
      obtain ⟨u, p⟩ := q
      exact fun o ho h => ih _ (fun v e => by
        cases p
        · exact ho v e
        · have e : some u = some v := e
          rw [← Option.some.inj e]
          exact h (u, true) (List.mem_cons_self ..)) fun q hq => h q (List.mem_cons_of_mem _ hq)
  unfold gapN
  cases z : latA none ps with
  | none =>
    show 1 ≤ t - 0 ∧ t - 0 ≤ t
    omega
  | some v =>
    have h1 := up ps none (fun v e => nomatch e) (fun p hp => (hb p hp).2) v z
    have h2 := latA_nn ps none (fun v e => nomatch e) (fun p hp => (hb p hp).1) v z
    show 1 ≤ t - v ∧ t - v ≤ t
    omega
def KS (s : Addr) (H H' : Hp) : Prop := ∀ b o, b ≠ s → H b = some o → (∀ ps, o ≠ .tbl ps) → H' b = some o
theorem KS.of {s : Addr} {H H' : Hp} (h : Kp s H H') : KS s H H' := fun b o n e _ => h b o n e
theorem KS.ext {s : Addr} {H H' : Hp} (h : LamX.ExtN H H') : KS s H H' := fun b o _ e n => h b o e n
theorem KS.trans {s : Addr} {H H1 H2 : Hp} (h : KS s H H1) (h' : KS s H1 H2) : KS s H H2 := fun b o n e z => h' b o n (h b o n e z) z
theorem TabS.nl {H H' : Hp} {P : Addr} {q : Str} (t : LamX.TabS H P q) (n : NL H H') : LamX.TabS H' P q := by
  obtain ⟨ps, h1, h2, h3⟩ := t
  refine ⟨ps, n _ _ h1 (fun _ z => nomatch z), h2, fun pos cv hc => ?_⟩
  obtain ⟨c, e1, e2⟩ := h3 pos cv hc
  exact ⟨c, e1, n _ _ e2 (fun _ z => by unfold LamX.CodeO at z; cases z)⟩
theorem Tabs.nl {T : List (Addr × Str)} {H H' : Hp} (t : LamX.Tabs T H) (n : NL H H') : LamX.Tabs T H' := fun p hp => TabS.nl (t p hp) n
theorem Lgs.ext {H H' : Hp} (e : LamX.ExtN H H') {xs : List V} {ps : Lg} (h : Lgs H xs ps) : Lgs H' xs ps := L2.Paired.mapP h fun _ _ ⟨a, x, z⟩ => ⟨a, x, e _ _ z fun _ q => nomatch q⟩
def logD (i : Int) : PyData := .tuple [.str "log", .int i]
theorem shLog (i : Int) : SeqAt.shaped (logD i) = true := by
  refine Bool.and_eq_true_iff.mpr ⟨by simp [logD, PyData.canLay0, PyData.canLayAll0]; decide +kernel, decide_eq_true (by simp [logD, PyData.depth, PyData.depthAll])⟩
theorem eqLog (i : Int) : PyData.eqv (logD i) (logD i) = true := SeqAt.eqv_refl _ (Bool.and_eq_true_iff.mp (shLog i)).1
theorem dpLog {K : PySem.W.Frag} {H : Hp} {p : Addr} {i : Int} (h : H p = some (.tup [.str "log", .int i])) : Dp K H (.ref p) (logD i) := .tup (SqT.of h) (.cons (.str _) (.cons (.int _) .nil))
theorem errF_InvalidLog {K : PySem.W.Frag} {mg : Str → Option Value} {L : LA} (T : LX K mg L) : ErrF K L L.e_InvalidLog false false false false false true :=
  ⟨T.is_InvalidLog, T.xe_InvalidLog, (kit_of T.xe_InvalidRow T.te_InvalidRow T.se_InvalidLog_InvalidLog T.se_InvalidLog_InvalidRow), (kit_of T.xe_InvalidTime T.te_InvalidTime T.se_InvalidLog_InvalidLog T.se_InvalidLog_InvalidTime), (kit_of T.xe_InvalidOutages T.te_InvalidOutages T.se_InvalidLog_InvalidLog T.se_InvalidLog_InvalidOutages), (kit_of T.xe_InvalidIndex T.te_InvalidIndex T.se_InvalidLog_InvalidLog T.se_InvalidLog_InvalidIndex), (kit_of T.xe_InvalidBound T.te_InvalidBound T.se_InvalidLog_InvalidLog T.se_InvalidLog_InvalidBound), (kit_of T.xe_InvalidLog T.te_InvalidLog T.se_InvalidLog_InvalidLog T.se_InvalidLog_InvalidLog), (L2.kitAny_cons (b := false) (kit_of T.xe_InvalidTrains T.te_InvalidTrains T.se_InvalidLog_InvalidLog T.se_InvalidLog_InvalidTrains) (fun _ => (L2.kitAny_cons (b := false) (kit_of T.xe_InvalidCall T.te_InvalidCall T.se_InvalidLog_InvalidLog T.se_InvalidLog_InvalidCall) (fun _ => (L2.kitAny_cons (b := false) (kit_of T.xe_InvalidText T.te_InvalidText T.se_InvalidLog_InvalidLog T.se_InvalidLog_InvalidText) (fun _ => (L2.kitAny_cons (b := false) (kit_of T.xe_LimitExceeded T.te_LimitExceeded T.se_InvalidLog_InvalidLog T.se_InvalidLog_LimitExceeded) (fun _ => L2.kitAny_nil) (fun z => nomatch z))) (fun z => nomatch z))) (fun z => nomatch z))) (fun z => nomatch z)), kit_ar (x := "ArithmeticError") (by decide) T.sa_InvalidLog, exm_of T.xe_BreakerError T.te_BreakerError T.se_InvalidLog_BreakerError⟩
theorem lt_mem_wright {K : PySem.W.Frag} {mg : Str → Option Value} {L : LA} (T : LX K mg L) : (L.t__law_right, (("_law_right" : Str) ++ ".<locals>.") ++ "<lambda>") ∈ LT L := by simp [LT]
theorem lt_one_wright {K : PySem.W.Frag} {mg : Str → Option Value} {L : LA} (T : LX K mg L) : ∀ p ∈ LT L, p.1 = L.t__law_right → p.2 = (("_law_right" : Str) ++ ".<locals>.") ++ "<lambda>" := by
  intro p hp e
  simp only [LT, List.mem_cons, List.mem_nil_iff, or_false] at hp
  rcases hp with rfl
  · rfl

def spRight7 (L : LA) : Sp := fun vs H Q _ => ∃ s, vs = [.ref s] ∧ Src H s 0 ∧ LamX.Tabs (LT L) H ∧ ∀ H', KS s H H' → LamX.Tabs (LT L) H' → Q (.bl true) H'
section
variable {P : Program} {w : World} {K : PySem.W.Frag} {mg : Str → Option Value} {base : Heap} {L : LA}
abbrev N_wright : List Str := ["_law_well_here", "_law_last", "_law_most", "_law_due", "_law_more", "_law_log_here", "_law_time"]
theorem sc_wright : FnScope N_wright ["_law_well_here"] (defScope st__law_right) := ⟨rfl, rfl, rfl, by decide +kernel, rfl, by decide +kernel, by decide +kernel⟩
theorem fn_wright (T : LX K mg L) (B : TX base mg L) {fd : FuncData} (F : FunT K "_law_right" "_law_right" st__law_right L.f__law_right L.k__law_right fd) : FnOk P w K mg base CX0 13 L.f__law_right fd ["_law_well_here"] (spRight7 L) := by
  have G_wseen := ok_wseen (P := P) (w := w) (base := base) T
  have G_wconflict := ok_wconflict (P := P) (w := w) (base := base) T
  have G_firstconflict := ok_firstconflict (P := P) (w := w) (base := base) T
  have G_wdraw := ok_wdraw (P := P) (w := w) (base := base) T
  have G_forecast := ok_forecast (P := P) (w := w) (base := base) T
  have G_wnext := ok_wnext (P := P) (w := w) (base := base) T
  have nd := sc_wright.nd
  refine F.ok sc_wright (fun vs H Q E h => ?_) (fun A outer S H vs Q E hr h => ?_)
  · obtain ⟨s, rfl, _⟩ := h
    rfl
  · obtain ⟨s, rfl, src, tabs, k⟩ := h
    refine ⟨_, (pss_cons (ps_set (i := 5) nd rfl (Or.inr rfl) (pe_c G_wseen (hr.mono (by decide)) rfl (pa_cons (pv 0) (pa_cons pe_int pa_nil))))
       (C8.pss_cut (ps_set (i := 1) nd rfl (Or.inl rfl) (pe_ifExp (pt_cmpR (op_neD hr.units) (pv 5) (pe_lst pa_nil) (nomark _)) (pe_ix (r := rIxT K) ix_tup (pe_ix (r := rIxL K) ix_list (pv 5) (pe_un un_neg pe_int) (fun _ _ => rfl)) pe_int (fun _ _ => rfl)) pe_int))
       (pss_cons (ps_set (i := 2) nd rfl (Or.inl rfl) (pe_op op_add (pv 1) pe_int))
       (pss_cons (ps_set (i := 3) nd rfl (Or.inl rfl) (pe_c G_wconflict (hr.mono (by decide)) rfl (pa_cons (pv 5) (pa_cons (pv 2) pa_nil))))
       (pss_cons (ps_if (pt_cmpR op_ne (pe_cX G_firstconflict (hr.mono (by decide)) rfl (fun σ => passAt (takes0) σ) (pa_cons (pv 5) pa_nil)) (pv 3) (nomark _)) (pss_one (ps_ret pe_bl)) pss_nil)
       (pss_cons (ps_for PassesOwn.never rfl (pi_tup (pe_tup (pa_cons pe_int (pa_cons pe_int (pa_cons (pe_op op_add pe_int (pe_c G_wdraw (hr.mono (by decide)) rfl (pa_cons (pv 0) (pa_cons pe_int pa_nil)))) (pa_cons (pe_op op_add pe_int (pe_c G_wdraw (hr.mono (by decide)) rfl (pa_cons (pv 0) (pa_cons pe_int pa_nil)))) pa_nil)))))) (pg_name (i := 4) nd rfl (Or.inl rfl)) (pss_cons (ps_set (i := 6) nd rfl (Or.inr rfl) (pe_op op_add (pv 1) (pv 4)))
       (pss_cons (ps_if (PW.pt (pw_and (pt_cmp (pc_notN (pv 3))) (pw_and1 (pt_cmpR (op_neD hr.units) (pe_lamc (T := LT L) (TT := TTsaid K L) (c := L.k__law_right) (P := L.t__law_right) (k := 8) T.d__law_said sc_wsaid rfl (Or.inl rfl) (fun _ => said_gives T (hr.mono (by decide))) B.b__law_right rfl (lt_mem_wright T) (lt_one_wright T) (hr.mono (by decide)) (LamX.lamS_by (sc := defScope st__law_right) (by decide +kernel)) rfl (fun _ _ _ _ _ => rfl) (fun A outer s H E f c2 hr => by exact (pe_cX G_forecast (hr.mono (by decide)) rfl (fun σ => passAt (takes_of rfl rfl rfl rfl) σ) (pa_cons (pv 5) (pa_cons (pv 6) pa_nil))))) (pe_tup (pa_cons pe_str (pa_cons (pv 3) pa_nil))) (nomark _))))) (pss_one (ps_ret pe_bl)) pss_nil)
       (pss_one (ps_if (PW.pt (pw_and (pt_cmp (pc_isN (pv 3))) (pw_and1 (pt_cmpR op_ne (pe_cX G_forecast (hr.mono (by decide)) rfl (fun σ => passAt (takes0) σ) (pa_cons (pv 5) (pa_cons (pv 6) pa_nil))) (pe_c G_wnext (hr.mono (by decide)) rfl (pa_cons (pv 5) (pa_cons (pv 2) (pa_cons (pv 6) pa_nil)))) (nomark _))))) (pss_one (ps_ret pe_bl)) pss_nil)))))
       (pss_one (ps_ret pe_bl)))))))), ?_⟩
    obtain ⟨y0, hy0⟩ := src.has
    refine ⟨_, rfl, s, 8, 0, rfl, src, by decide, by decide, by decide, fun l zs ps H1 hl hz asc pl pb src1 k1 nl1 => ?_⟩
    have nls : l ≠ s := fun e => by rw [e, hy0] at nl1; cases nl1
    have zl := paired_len hz
    have okl : OkLog ps := ⟨asc, by omega⟩
    have t1 : LamX.Tabs (LT L) H1 := Tabs.nl tabs (Kp.nl k1 hy0)
    obtain ⟨at1, at2⟩ := asc_topX asc
    have nn : ∀ p ∈ ps, 0 ≤ p.1 := fun p hp => asc_nn (Int.le_refl _) asc _ (List.mem_map.mpr ⟨p, hp, rfl⟩)
    -- the last time
    have K1 : KS s H H1 := KS.of k1
    refine ⟨fun σ' H2 => ∃ M : Int, 0 ≤ M ∧ M ≤ 200 ∧ (∀ p ∈ ps, 0 ≤ p.1 ∧ p.1 ≤ M) ∧ σ' = [some (.ref s), some (.int M), none, none, none, some (.ref l), none] ∧ Same H1 H2, ?_, ?_⟩
    · refine ⟨_, rfl, (by show 0 ≤ sizeLine; decide), fun l0 n0 => ?_⟩
      have s0 := Same.upd (o := .lst []) n0
      refine ⟨_, _, Lgs.dpl (s0 _ _ hl) (hz.same s0), Lgs.dpl (ps := []) upd_same .nil, lg_sh ps, lg_sh [], ?_⟩
      rw [lg_eq]
      refine ⟨_, rfl, ?_⟩
      by_cases hn : ps = []
      · rw [decide_eq_true hn]
        exact iteF ⟨0, Int.le_refl _, by decide, fun p hp => (by rw [hn] at hp; cases hp), rfl, s0⟩
      rw [decide_eq_false hn]
      obtain ⟨qs, ⟨tl, pl'⟩, eq⟩ : ∃ qs q, ps = qs ++ [q] := by
        rcases List.eq_nil_or_concat ps with h | ⟨ys, v, h⟩
        · exact absurd h hn
        · exact ⟨ys, v, by rw [h, List.concat_eq_append]⟩
      have hz0 := hz.same s0
      rw [eq] at hz0
      obtain ⟨ys, c, ez, hc⟩ := lgs_last hz0
      have e1 : lstG 0 (ps.map (·.1)) = tl + 1 := by
        rw [eq, List.map_append]
        exact lst_app _ _ _
      have mem : (tl, pl') ∈ ps := by rw [eq]; exact List.mem_append_right _ (List.mem_singleton.mpr rfl)
      have b0 := nn _ mem
      have b1 := pb _ mem
      refine iteT ⟨_, rfl, 1, rfl, l, _, -1, .ref c, rfl, rfl, SqL.of (s0 _ _ hl), by rw [ez]; exact atI_last _ _, c, _, 0, .int tl, rfl, rfl, SqT.of hc, rfl, ?_⟩
      exact ⟨tl, b0, b1, fun p hp => ⟨nn p hp, by have := at2 _ (List.mem_map.mpr ⟨p, hp, rfl⟩); omega⟩, rfl, s0⟩
    rintro σ' H2 ⟨M, M0, M2, Mb, rfl, s0⟩
    have hl2 := s0 _ _ hl
    have hz2 := hz.same s0
    have t2 : LamX.Tabs (LT L) H2 := Tabs.nl t1 (NL.of s0)
    have K2 : KS s H H2 := K1.trans (KS.of (Kp.of s0))
    have src2 := src1.same s0
    obtain ⟨top, et⟩ : ∃ top : Nat, M + 40 = (top : Int) := ⟨(M + 40).toNat, by omega⟩
    refine ⟨_, rfl, _, _, rfl, rfl, ?_⟩
    show tSeq _ _ _ [some (V.ref s), some (.int M), some (.int (M + 40)), none, none, some (V.ref l), none] H2
    rw [et]
    refine ⟨_, rfl, _, rfl, l, zs, ps, top, M, rfl, hl2, hz2, by omega, by omega, by omega, M0, Mb, by omega, fun v H3 hv s3 => ?_⟩
    have hl3 := s3 _ _ hl2
    have hz3 := hz2.same s3
    refine ⟨_, rfl, l, zs, ps, rfl, hl3, hz3, okl, fun v' H4 hv' s4 => ?_⟩
    have ev := hv'.one hv
    subst ev
    have sc : scal v' v' = true := by
      rcases hv with ⟨rfl, _⟩ | ⟨i, rfl, _⟩ <;> rfl
    refine ⟨_, rfl, sc, _, rfl, ?_⟩
    rw [decide_eq_true rfl]
    refine iteF ?_
    have s24 := s3.trans s4
    have hl4 := s24 _ _ hl2
    have hz4 := hz2.same s24
    have t4 : LamX.Tabs (LT L) H4 := Tabs.nl t2 (NL.of s24)
    have K4 := K2.trans (KS.of (Kp.of s24))
    have src4 := src2.same s24
    refine ⟨_, rfl, s, 4, _, rfl, by decide, by decide, src4, by decide, fun r5 H5 r0 r1 src5 k5 => ⟨_, _, rfl, rfl, ?_⟩⟩
    refine ⟨_, rfl, s, 9, _, rfl, by decide, by decide, src5, by decide, fun r6 H6 q0 q1 src6 k6 => ⟨_, _, rfl, rfl, (by show 4 ≤ sizeLine; decide), fun tp ntp => ⟨tp, rfl, ⟨_, SqT.of upd_same⟩, ?_⟩⟩⟩
    have st := Same.upd (o := .tup [.int 1, .int 2, .int (3 + r5), .int (7 + r6)]) ntp
    have k46 := (k5.trans k6).trans (Kp.of st)
    obtain ⟨y4, hy4⟩ := src4.has
    have hl7 := k46 _ _ nls hl4
    have hz7 := Lgs.nl (Kp.nl k46 hy4) hz4
    have t7 : LamX.Tabs (LT L) (upd H6 tp (.tup [.int 1, .int 2, .int (3 + r5), .int (7 + r6)])) := Tabs.nl t4 (Kp.nl k46 hy4)
    have K7 := K4.trans (KS.of k46)
    have htp := upd_same (H := H6) (a := tp) (o := .tup [.int 1, .int 2, .int (3 + r5), .int (7 + r6)])
    generalize upd H6 tp (.tup [.int 1, .int 2, .int (3 + r5), .int (7 + r6)]) = H7 at hl7 hz7 t7 K7 htp ⊢
    refine for_tup (K := K) (a := tp) (xs := [.int 1, .int 2, .int (3 + r5), .int (7 + r6)]) (fun i σ Hx => ∃ v4 v6 : Option V, σ = [some (.ref s), some (.int M), some (.int (top : Int)), some v', v4, some (.ref l), v6] ∧ LamX.ExtN H7 Hx ∧ LamX.Tabs (LT L) Hx) ⟨none, none, rfl, LamX.ExtN.refl _, t7⟩ (fun i σ Hx _ ⟨_, _, _, ex, _⟩ => SqT.of (ex _ _ htp fun _ z => nomatch z)) ?_ ?_
    · rintro i x σ Hx hxi ⟨v4, v6, rfl, ex, tx⟩
      obtain ⟨m, rfl, m1, m2⟩ : ∃ m, x = .int m ∧ 1 ≤ m ∧ m ≤ 15 := by
        match i, hxi with
        | 0, e => exact ⟨_, (Option.some.inj e).symm, by omega, by omega⟩
        | 1, e => exact ⟨_, (Option.some.inj e).symm, by omega, by omega⟩
        | 2, e => exact ⟨_, (Option.some.inj e).symm, by omega, by omega⟩
        | 3, e => exact ⟨_, (Option.some.inj e).symm, by omega, by omega⟩
      have hlx := ExtN.lst ex hl7
      have hzx := Lgs.ext ex hz7
      have lt : ∀ q ∈ ps, q.1 < M + m := fun q hq => by have := Mb q hq; omega
      refine ⟨_, rfl, _, rfl, _, _, rfl, rfl, ?_⟩
      rcases hv with ⟨rfl, oks⟩ | ⟨j, rfl, hj, bad, oks⟩
      · refine ⟨_, rfl, _, rfl, iteF (iteF ⟨_, rfl, _, rfl, iteT ?_⟩)⟩
        refine ⟨_, rfl, _, rfl, l, zs, ps, M + m, rfl, hlx, hzx, okl, lt, by omega, fun _ wd H8 hwd s8 => ?_, fun i' hi' bad _ => absurd (oks i' hi') bad⟩
        refine ⟨_, rfl, _, rfl, _, rfl, l, zs, ps, top, M + m, M, rfl, s8 _ _ hlx, hzx.same s8, by omega, by omega, by omega, M0, Mb, by omega, fun hn => by have := gap_bd hn M0 Mb (show M < M + m by omega); omega, fun wd2 H9 hwd2 s9 => ?_⟩
        have e := hwd.one hwd2
        subst e
        refine ⟨rfl, _, rfl, ?_⟩
        rw [decide_eq_true rfl]
        exact iteF ⟨_, _, rfl, ex.trans (LamX.ExtN.of (s8.trans s9)), Tabs.nl tx (NL.of (s8.trans s9))⟩
      · refine ⟨_, rfl, _, rfl, iteT ?_⟩
        refine ⟨tx, fun Hw exW txW E N hE hN => ⟨_, rfl, _, rfl, l, zs, ps, M + m, rfl, ExtN.lst exW hlx, Lgs.ext exW hzx, okl, lt, by omega, fun all => absurd (all j hj) bad, fun i' hi' bad' oks' d H8 hd s8 => hE _ _ _ ⟨L.e_InvalidLog, d, _, _, _, _, _, _, rfl, rfl, errF_InvalidLog T, .log _ T.ne_InvalidLog_at hd fun p H9 hp s9 _ => ?_⟩⟩⟩
        have e : i' = j := by
          rcases Nat.lt_trichotomy i' j with h | h | h
          · exact absurd (oks i' h) bad'
          · exact h
          · exact absurd (oks' j h) bad
        subst e
        refine ⟨_, rfl, (by show 2 ≤ sizeLine; decide), fun q6 m6 => ?_⟩
        have S6 := Same.upd (o := .tup [.str "log", .int (i' : Int)]) m6
        refine ⟨logD i', logD i', dpLog (S6 _ _ hp), dpLog upd_same, shLog _, shLog _, ?_⟩
        rw [eqLog]
        have sA := (s8.trans s9).trans S6
        exact ⟨_, rfl, iteF ⟨_, rfl, _, rfl, iteF (iteF ⟨_, _, rfl, (ex.trans exW).trans (LamX.ExtN.of sA), Tabs.nl txW (NL.of sA)⟩)⟩⟩
    rintro σ Hx ⟨v4, v6, rfl, ex, tx⟩
    exact k _ (K7.trans (KS.ext ex)) tx
theorem ok_wright (T : LX K mg L) (B : TX base mg L) : Cal P w K mg base "_law_right" 13 L.f__law_right ["_law_well_here"] (spRight7 L) := T.d__law_right.cal fun fd F => fn_wright T B F
end
/-! ### the law over its cells, with tables of code objects -/
def spLawT (K : PySem.W.Frag) (L : LA) : Sp := fun vs H Q _ => ∃ (a : Addr) (ns : List Int), vs = [.ref a] ∧ SqL K H a (ns.map V.int) ∧ ns.length ≤ 63 ∧ LamX.Tabs (LT L) H ∧ ∀ H', Q (.bl true) H'
section
variable {P : Program} {w : World} {K : PySem.W.Frag} {mg : Str → Option Value} {base : Heap} {L : LA}
abbrev N_law : List Str := ["_law_script", "_law_cell"]
theorem sc_law : FnScope N_law ["_law_script"] (defScope st_law) := ⟨rfl, rfl, rfl, by decide +kernel, rfl, by decide +kernel, by decide +kernel⟩
theorem ok_law {aLaw : Addr} {fd : FuncData} (F : Fun K "law" "law" st_law aLaw fd) (T : LX K mg L) (B : TX base mg L) : FnOk P w K mg base CX0 14 aLaw fd ["_law_script"] (spLawT K L) := by
  have G_wright := ok_wright (P := P) (w := w) (base := base) T B
  have G_wwell := ok_wwell (P := P) (w := w) (base := base) T
  have nd := sc_law.nd
  refine F.ok sc_law (fun vs H Q E h => ?_) (fun cdv A outer S H vs Q E hr h => ?_)
  · obtain ⟨a, ns, rfl, _⟩ := h
    rfl
  · obtain ⟨a, ns, rfl, hS, ln, tabs, k⟩ := h
    refine ⟨_, (pss_cons (ps_for PassesOwn.never rfl (pi_list (pe_op op_cat (pe_slice (r := rSlL K) sl_list (pv 0) po_none (po_some pe_int)) (pe_lst (pa_cons pe_int pa_nil)))) (pg_name (i := 1) nd rfl (Or.inl rfl)) (pss_one (ps_if (pt_not (pt_val (pe_c G_wright (hr.mono (by decide)) rfl (pa_cons (pe_c G_wwell (hr.mono (by decide)) rfl (pa_cons (pv 1) pa_nil)) pa_nil)))) (pss_one (ps_ret pe_bl)) pss_nil)))
       (pss_one (ps_ret pe_bl))), ?_⟩
    refine ⟨_, rfl, 3, rfl, a, ns.map V.int, rfl, hS, fun l1 hl1 => ⟨(by show 1 ≤ sizeLine; decide), fun l2 hl2 => ?_⟩⟩
    refine ⟨l1, l2, _, _, rfl, rfl, (Same.upd hl2) _ _ upd_same, upd_same, small2 (by have := cutV_length (ns.map V.int) none (some 3); rw [List.length_map] at this; show _ + 1 ≤ 100000; omega), fun l3 hl3 => ?_⟩
    have items : ∀ v ∈ cutV (ns.map V.int) none (some 3) ++ [V.int 0], ∃ c, v = .int c := fun v hv => by
      rcases List.mem_append.mp hv with hv | hv
      · obtain ⟨c, _, e⟩ := List.mem_map.mp (List.mem_of_mem_drop (List.mem_of_mem_take hv))
        exact ⟨c, e.symm⟩
      · exact ⟨0, by simpa using hv⟩
    have st := ((Same.upd (o := .lst (cutV (ns.map V.int) none (some 3))) hl1).trans (Same.upd (o := .lst [.int 0]) hl2)).trans (Same.upd (o := .lst (cutV (ns.map V.int) none (some 3) ++ [V.int 0])) hl3)
    have t0 := Tabs.nl tabs (NL.of st)
    generalize hit : cutV (ns.map V.int) none (some 3) ++ [V.int 0] = its at items t0
    refine ⟨l3, rfl, ⟨_, SqL.of upd_same⟩, ?_⟩
    refine for_list (K := K) (a := l3) (xs := its) (fun i σ H2 => ∃ v1 : Option V, σ = [some (.ref a), v1] ∧ H2 l3 = some (.lst its) ∧ LamX.Tabs (LT L) H2) ⟨none, rfl, by rw [upd_same], t0⟩ (fun i σ H2 _ ⟨_, _, e, _⟩ => SqL.of e) ?_ ?_
    · rintro i v σ H0 hi ⟨v1, rfl, hL, t1⟩
      obtain ⟨cc, rfl⟩ := items v (List.mem_of_getElem? hi)
      refine ⟨_, rfl, cc, rfl, fun s H1 hs0 y1 src1 => ⟨s, rfl, src1, Tabs.nl t1 (NL.of y1), fun H2 k2 t2 => ⟨_, rfl, iteF ⟨_, rfl, ?_, t2⟩⟩⟩⟩
      exact k2 _ _ (ne_of_none hL hs0) (y1 _ _ hL) fun _ z => nomatch z
    · rintro σ H2 ⟨v1, rfl, _⟩
      exact k H2
end
/-! ### the end -/
theorem bn_q0 (kV doc pm : Value) (an : Option Addr) (cdv ct : Value) (us : List Value) (hl : us.length = (["value"] : List Str).length) : bindArgs (PySem.W.fnOf "is_integer" "is_integer" (defArgs st_is_integer) (defBody st_is_integer) (defScope st_is_integer) .none kV doc pm an cdv ct) ⟨us, []⟩ = pure ((["value"] : List Str).zip us) :=
  match us, hl with | [_], _ => rfl
theorem bn_q1 (kV doc pm : Value) (an : Option Addr) (cdv ct : Value) (us : List Value) (hl : us.length = (["value", "least"] : List Str).length) : bindArgs (PySem.W.fnOf "is_at_least" "is_at_least" (defArgs st_is_at_least) (defBody st_is_at_least) (defScope st_is_at_least) .none kV doc pm an cdv ct) ⟨us, []⟩ = pure ((["value", "least"] : List Str).zip us) :=
  match us, hl with | [_, _], _ => rfl
theorem bn_q2 (kV doc pm : Value) (an : Option Addr) (cdv ct : Value) (us : List Value) (hl : us.length = (["value"] : List Str).length) : bindArgs (PySem.W.fnOf "is_entry" "is_entry" (defArgs st_is_entry) (defBody st_is_entry) (defScope st_is_entry) .none kV doc pm an cdv ct) ⟨us, []⟩ = pure ((["value"] : List Str).zip us) :=
  match us, hl with | [_], _ => rfl
theorem bn_q3 (kV doc pm : Value) (an : Option Addr) (cdv ct : Value) (us : List Value) (hl : us.length = (["log"] : List Str).length) : bindArgs (PySem.W.fnOf "check_log" "check_log" (defArgs st_check_log) (defBody st_check_log) (defScope st_check_log) .none kV doc pm an cdv ct) ⟨us, []⟩ = pure ((["log"] : List Str).zip us) :=
  match us, hl with | [_], _ => rfl
theorem bn_q4 (kV doc pm : Value) (an : Option Addr) (cdv ct : Value) (us : List Value) (hl : us.length = (["log"] : List Str).length) : bindArgs (PySem.W.fnOf "passes_ahead" "passes_ahead" (defArgs st_passes_ahead) (defBody st_passes_ahead) (defScope st_passes_ahead) .none kV doc pm an cdv ct) ⟨us, []⟩ = pure ((["log"] : List Str).zip us) :=
  match us, hl with | [_], _ => rfl
theorem bn_q5 (kV doc pm : Value) (an : Option Addr) (cdv ct : Value) (us : List Value) (hl : us.length = (["log"] : List Str).length) : bindArgs (PySem.W.fnOf "gaps_of" "gaps_of" (defArgs st_gaps_of) (defBody st_gaps_of) (defScope st_gaps_of) .none kV doc pm an cdv ct) ⟨us, []⟩ = pure ((["log"] : List Str).zip us) :=
  match us, hl with | [_], _ => rfl
theorem bn_q6 (kV doc pm : Value) (an : Option Addr) (cdv ct : Value) (us : List Value) (hl : us.length = (["bounds", "gap", "passed"] : List Str).length) : bindArgs (PySem.W.fnOf "narrowed" "narrowed" (defArgs st_narrowed) (defBody st_narrowed) (defScope st_narrowed) .none kV doc pm an cdv ct) ⟨us, []⟩ = pure ((["bounds", "gap", "passed"] : List Str).zip us) :=
  match us, hl with | [_, _, _], _ => rfl
theorem bn_q7 (kV doc pm : Value) (an : Option Addr) (cdv ct : Value) (us : List Value) (hl : us.length = (["log"] : List Str).length) : bindArgs (PySem.W.fnOf "explanations" "explanations" (defArgs st_explanations) (defBody st_explanations) (defScope st_explanations) .none kV doc pm an cdv ct) ⟨us, []⟩ = pure ((["log"] : List Str).zip us) :=
  match us, hl with | [_], _ => rfl
theorem bn_q8 (kV doc pm : Value) (an : Option Addr) (cdv ct : Value) (us : List Value) (hl : us.length = (["log"] : List Str).length) : bindArgs (PySem.W.fnOf "first_conflict" "first_conflict" (defArgs st_first_conflict) (defBody st_first_conflict) (defScope st_first_conflict) .none kV doc pm an cdv ct) ⟨us, []⟩ = pure ((["log"] : List Str).zip us) :=
  match us, hl with | [_], _ => rfl
theorem bn_q9 (kV doc pm : Value) (an : Option Addr) (cdv ct : Value) (us : List Value) (hl : us.length = (["log", "time"] : List Str).length) : bindArgs (PySem.W.fnOf "forecast" "forecast" (defArgs st_forecast) (defBody st_forecast) (defScope st_forecast) .none kV doc pm an cdv ct) ⟨us, []⟩ = pure ((["log", "time"] : List Str).zip us) :=
  match us, hl with | [_, _], _ => rfl
theorem bn_q10 (kV doc pm : Value) (an : Option Addr) (cdv ct : Value) (us : List Value) (hl : us.length = (["_law_cell", "_law_k"] : List Str).length) : bindArgs (PySem.W.fnOf "_law_mixed" "_law_mixed" (defArgs st__law_mixed) (defBody st__law_mixed) (defScope st__law_mixed) .none kV doc pm an cdv ct) ⟨us, []⟩ = pure ((["_law_cell", "_law_k"] : List Str).zip us) :=
  match us, hl with | [_, _], _ => rfl
theorem bn_q11 (kV doc pm : Value) (an : Option Addr) (cdv ct : Value) (us : List Value) (hl : us.length = (["_law_cell"] : List Str).length) : bindArgs (PySem.W.fnOf "_law_well" "_law_well" (defArgs st__law_well) (defBody st__law_well) (defScope st__law_well) .none kV doc pm an cdv ct) ⟨us, []⟩ = pure ((["_law_cell"] : List Str).zip us) :=
  match us, hl with | [_], _ => rfl
theorem bn_q12 (kV doc pm : Value) (an : Option Addr) (cdv ct : Value) (us : List Value) (hl : us.length = (["_law_well_here", "_law_many"] : List Str).length) : bindArgs (PySem.W.fnOf "_law_draw" "_law_draw" (defArgs st__law_draw) (defBody st__law_draw) (defScope st__law_draw) .none kV doc pm an cdv ct) ⟨us, []⟩ = pure ((["_law_well_here", "_law_many"] : List Str).zip us) :=
  match us, hl with | [_, _], _ => rfl
theorem bn_q13 (kV doc pm : Value) (an : Option Addr) (cdv ct : Value) (us : List Value) (hl : us.length = (["_law_well_here", "_law_some"] : List Str).length) : bindArgs (PySem.W.fnOf "_law_one" "_law_one" (defArgs st__law_one) (defBody st__law_one) (defScope st__law_one) .none kV doc pm an cdv ct) ⟨us, []⟩ = pure ((["_law_well_here", "_law_some"] : List Str).zip us) :=
  match us, hl with | [_, _], _ => rfl
theorem bn_q14 (kV doc pm : Value) (an : Option Addr) (cdv ct : Value) (us : List Value) (hl : us.length = (["_law_deed"] : List Str).length) : bindArgs (PySem.W.fnOf "_law_said" "_law_said" (defArgs st__law_said) (defBody st__law_said) (defScope st__law_said) .none kV doc pm an cdv ct) ⟨us, []⟩ = pure ((["_law_deed"] : List Str).zip us) :=
  match us, hl with | [_], _ => rfl
theorem bn_q15 (kV doc pm : Value) (an : Option Addr) (cdv ct : Value) (us : List Value) (hl : us.length = (["_law_breaker", "_law_times"] : List Str).length) : bindArgs (PySem.W.fnOf "_law_log" "_law_log" (defArgs st__law_log) (defBody st__law_log) (defScope st__law_log) .none kV doc pm an cdv ct) ⟨us, []⟩ = pure ((["_law_breaker", "_law_times"] : List Str).zip us) :=
  match us, hl with | [_, _], _ => rfl
theorem bn_q16 (kV doc pm : Value) (an : Option Addr) (cdv ct : Value) (us : List Value) (hl : us.length = (["_law_well_here", "_law_most"] : List Str).length) : bindArgs (PySem.W.fnOf "_law_seen" "_law_seen" (defArgs st__law_seen) (defBody st__law_seen) (defScope st__law_seen) .none kV doc pm an cdv ct) ⟨us, []⟩ = pure ((["_law_well_here", "_law_most"] : List Str).zip us) :=
  match us, hl with | [_, _], _ => rfl
theorem bn_q17 (kV doc pm : Value) (an : Option Addr) (cdv ct : Value) (us : List Value) (hl : us.length = (["_law_log_here", "_law_most"] : List Str).length) : bindArgs (PySem.W.fnOf "_law_fits" "_law_fits" (defArgs st__law_fits) (defBody st__law_fits) (defScope st__law_fits) .none kV doc pm an cdv ct) ⟨us, []⟩ = pure ((["_law_log_here", "_law_most"] : List Str).zip us) :=
  match us, hl with | [_, _], _ => rfl
theorem bn_q18 (kV doc pm : Value) (an : Option Addr) (cdv ct : Value) (us : List Value) (hl : us.length = (["_law_log_here", "_law_most"] : List Str).length) : bindArgs (PySem.W.fnOf "_law_conflict" "_law_conflict" (defArgs st__law_conflict) (defBody st__law_conflict) (defScope st__law_conflict) .none kV doc pm an cdv ct) ⟨us, []⟩ = pure ((["_law_log_here", "_law_most"] : List Str).zip us) :=
  match us, hl with | [_, _], _ => rfl
theorem bn_q19 (kV doc pm : Value) (an : Option Addr) (cdv ct : Value) (us : List Value) (hl : us.length = (["_law_log_here", "_law_most", "_law_time"] : List Str).length) : bindArgs (PySem.W.fnOf "_law_next" "_law_next" (defArgs st__law_next) (defBody st__law_next) (defScope st__law_next) .none kV doc pm an cdv ct) ⟨us, []⟩ = pure ((["_law_log_here", "_law_most", "_law_time"] : List Str).zip us) :=
  match us, hl with | [_, _, _], _ => rfl
theorem bn_q20 (kV doc pm : Value) (an : Option Addr) (cdv ct : Value) (us : List Value) (hl : us.length = (["_law_well_here"] : List Str).length) : bindArgs (PySem.W.fnOf "_law_right" "_law_right" (defArgs st__law_right) (defBody st__law_right) (defScope st__law_right) .none kV doc pm an cdv ct) ⟨us, []⟩ = pure ((["_law_well_here"] : List Str).zip us) :=
  match us, hl with | [_], _ => rfl
theorem bn_NInvalidLog (kV doc pm : Value) (an : Option Addr) (cdv ct : Value) (us : List Value) (hl : us.length = (["self", "at"] : List Str).length) : bindArgs (PySem.W.fnOf "__init__" "InvalidLog.__init__" (defArgs st_InvalidLog_init) (defBody st_InvalidLog_init) (defScope st_InvalidLog_init) .none kV doc pm an cdv ct) ⟨us, []⟩ = pure ((["self", "at"] : List Str).zip us) :=
  match us, hl with | [_, _], _ => rfl
theorem mk_dfn {K : PySem.W.Frag} {h : Heap} {mg : Str → Option Value} {x : Str} {st : Stmt} {f : Addr} {ps : List Str} {oc : Value} {od an : Option Addr} {sl : Array (Option Value)} {kV dc pm cd ct : Value} (X : K.In h) (G : h.Ns mainGlobals mg) (a : PySem.W.nsIn K mainGlobals x = some (some (.ref f)))
    (l : K.lookup f = some ⟨oc, od, .func (PySem.W.fnOf x x (defArgs st) (defBody st) (defScope st) .none kV dc pm an cd ct), sl⟩) (c : PySem.W.codeIn K cd x = true) (k : PySem.W.keepIn K (.ref f) = true)
    (hb : ∀ (kV doc pm : Value) (an : Option Addr) (cdv ct : Value) (us : List Value), us.length = ps.length → bindArgs (PySem.W.fnOf x x (defArgs st) (defBody st) (defScope st) .none kV doc pm an cdv ct) ⟨us, []⟩ = pure (ps.zip us)) : Dfn K mg x st f ps :=
  ⟨⟨_, fun_mk l c k, (fun_mk l c k).binds hb⟩, PySem.W.mg_of X G a⟩
theorem mk_mth {K : PySem.W.Frag} {C : Addr} {x q : Str} {st : Stmt} {f : Addr} {ps : List Str} {oc : Value} {od an : Option Addr} {sl : Array (Option Value)} {kV dc pm cd ct : Value} (a : PySem.W.findIn K (.ref C) x = some (some (.ref f))) (i : PySem.W.isFn K (.ref f) = true) (fk : PySem.W.fnIn K f = true)
    (l : K.lookup f = some ⟨oc, od, .func (PySem.W.fnOf x q (defArgs st) (defBody st) (defScope st) .none kV dc pm an cd ct), sl⟩) (c : PySem.W.codeIn K cd q = true) (k : PySem.W.keepIn K (.ref f) = true)
    (hb : ∀ (kV doc pm : Value) (an : Option Addr) (cdv ct : Value) (us : List Value), us.length = ps.length → bindArgs (PySem.W.fnOf x q (defArgs st) (defBody st) (defScope st) .none kV doc pm an cdv ct) ⟨us, []⟩ = pure (ps.zip us)) : Mth K C x q st f ps :=
  ⟨⟨_, fun_mk l c k, (fun_mk l c k).binds hb⟩, a, i, fk⟩
set_option maxHeartbeats 16000000 in
theorem all_mk {P : Program} {w : World} {K : PySem.W.Frag} {h : Heap} {mg : Str → Option Value} {lv : List (Str × PySem.W.WData)} {fa aLaw fq0 fq1 fq2 fq3 fq4 fq5 fq6 fq7 fq8 fq9 fq10 fq11 fq12 fq13 fq14 fq15 fq16 fq17 fq18 fq19 fq20 kcq20 ktq20 EBreakerError EInvalidRow EInvalidTime EInvalidOutages EInvalidTrains EInvalidIndex EInvalidBound EInvalidLog EInvalidCall EInvalidText ELimitExceeded aIInvalidLog : Addr} {nmInvalidLog qnInvalidLog : Str} {nnInvalidLog : Addr} {bsInvalidLog sbInvalidLog : List Value} {snInvalidLog : List Str} {abInvalidLog : Bool} {coInvalidLog : Option Bool} {ddInvalidLog : Option Addr} {u0InvalidLog u1InvalidLog u2InvalidLog u3InvalidLog u5InvalidLog : Option Value} {tNMOST_ENTRIES : Tok} {odq0 anq0 odq1 anq1 odq2 anq2 odq3 anq3 odq4 anq4 odq5 anq5 odq6 anq6 odq7 anq7 odq8 anq8 odq9 anq9 odq10 anq10 odq11 anq11 odq12 anq12 odq13 anq13 odq14 anq14 odq15 anq15 odq16 anq16 odq17 anq17 odq18 anq18 odq19 anq19 odq20 anq20 odY anY odNInvalidLog anNInvalidLog : Option Addr} {slq0 slq1 slq2 slq3 slq4 slq5 slq6 slq7 slq8 slq9 slq10 slq11 slq12 slq13 slq14 slq15 slq16 slq17 slq18 slq19 slq20 slY slNInvalidLog : Array (Option Value)} {ocq0 kVq0 dcq0 pmq0 cdq0 ctq0 ocq1 kVq1 dcq1 pmq1 cdq1 ctq1 ocq2 kVq2 dcq2 pmq2 cdq2 ctq2 ocq3 kVq3 dcq3 pmq3 cdq3 ctq3 ocq4 kVq4 dcq4 pmq4 cdq4 ctq4 ocq5 kVq5 dcq5 pmq5 cdq5 ctq5 ocq6 kVq6 dcq6 pmq6 cdq6 ctq6 ocq7 kVq7 dcq7 pmq7 cdq7 ctq7 ocq8 kVq8 dcq8 pmq8 cdq8 ctq8 ocq9 kVq9 dcq9 pmq9 cdq9 ctq9 ocq10 kVq10 dcq10 pmq10 cdq10 ctq10 ocq11 kVq11 dcq11 pmq11 cdq11 ctq11 ocq12 kVq12 dcq12 pmq12 cdq12 ctq12 ocq13 kVq13 dcq13 pmq13 cdq13 ctq13 ocq14 kVq14 dcq14 pmq14 cdq14 ctq14 ocq15 kVq15 dcq15 pmq15 cdq15 ctq15 ocq16 kVq16 dcq16 pmq16 cdq16 ctq16 ocq17 kVq17 dcq17 pmq17 cdq17 ctq17 ocq18 kVq18 dcq18 pmq18 cdq18 ctq18 ocq19 kVq19 dcq19 pmq19 cdq19 ctq19 ocq20 kVq20 dcq20 pmq20 ctq20 ocY kVY dcY pmY cdY ctY ocNInvalidLog kVNInvalidLog dcNInvalidLog pmNInvalidLog cdNInvalidLog ctNInvalidLog : Value}
    (X : K.In h) (G : h.Ns mainGlobals mg) (LL : PySem.W.LooseAre lv mg h) (hLMOST_TIME : (("MOST_TIME" : Str), PySem.W.WData.int 1000000000000000000000000000000) ∈ lv) (hfa : mg "law" = some (.ref fa))
    (aq0 : PySem.W.nsIn K mainGlobals "is_integer" = some (some (.ref fq0)))
    (lq0 : K.lookup fq0 = some ⟨ocq0, odq0, .func (PySem.W.fnOf "is_integer" "is_integer" (defArgs st_is_integer) (defBody st_is_integer) (defScope st_is_integer) .none kVq0 dcq0 pmq0 anq0 cdq0 ctq0), slq0⟩)
    (cq0 : PySem.W.codeIn K cdq0 "is_integer" = true)
    (kq0 : PySem.W.keepIn K (.ref fq0) = true)
    (aq1 : PySem.W.nsIn K mainGlobals "is_at_least" = some (some (.ref fq1)))
    (lq1 : K.lookup fq1 = some ⟨ocq1, odq1, .func (PySem.W.fnOf "is_at_least" "is_at_least" (defArgs st_is_at_least) (defBody st_is_at_least) (defScope st_is_at_least) .none kVq1 dcq1 pmq1 anq1 cdq1 ctq1), slq1⟩)
    (cq1 : PySem.W.codeIn K cdq1 "is_at_least" = true)
    (kq1 : PySem.W.keepIn K (.ref fq1) = true)
    (aq2 : PySem.W.nsIn K mainGlobals "is_entry" = some (some (.ref fq2)))
    (lq2 : K.lookup fq2 = some ⟨ocq2, odq2, .func (PySem.W.fnOf "is_entry" "is_entry" (defArgs st_is_entry) (defBody st_is_entry) (defScope st_is_entry) .none kVq2 dcq2 pmq2 anq2 cdq2 ctq2), slq2⟩)
    (cq2 : PySem.W.codeIn K cdq2 "is_entry" = true)
    (kq2 : PySem.W.keepIn K (.ref fq2) = true)
    (aq3 : PySem.W.nsIn K mainGlobals "check_log" = some (some (.ref fq3)))
    (lq3 : K.lookup fq3 = some ⟨ocq3, odq3, .func (PySem.W.fnOf "check_log" "check_log" (defArgs st_check_log) (defBody st_check_log) (defScope st_check_log) .none kVq3 dcq3 pmq3 anq3 cdq3 ctq3), slq3⟩)
    (cq3 : PySem.W.codeIn K cdq3 "check_log" = true)
    (kq3 : PySem.W.keepIn K (.ref fq3) = true)
    (aq4 : PySem.W.nsIn K mainGlobals "passes_ahead" = some (some (.ref fq4)))
    (lq4 : K.lookup fq4 = some ⟨ocq4, odq4, .func (PySem.W.fnOf "passes_ahead" "passes_ahead" (defArgs st_passes_ahead) (defBody st_passes_ahead) (defScope st_passes_ahead) .none kVq4 dcq4 pmq4 anq4 cdq4 ctq4), slq4⟩)
    (cq4 : PySem.W.codeIn K cdq4 "passes_ahead" = true)
    (kq4 : PySem.W.keepIn K (.ref fq4) = true)
    (aq5 : PySem.W.nsIn K mainGlobals "gaps_of" = some (some (.ref fq5)))
    (lq5 : K.lookup fq5 = some ⟨ocq5, odq5, .func (PySem.W.fnOf "gaps_of" "gaps_of" (defArgs st_gaps_of) (defBody st_gaps_of) (defScope st_gaps_of) .none kVq5 dcq5 pmq5 anq5 cdq5 ctq5), slq5⟩)
    (cq5 : PySem.W.codeIn K cdq5 "gaps_of" = true)
    (kq5 : PySem.W.keepIn K (.ref fq5) = true)
    (aq6 : PySem.W.nsIn K mainGlobals "narrowed" = some (some (.ref fq6)))
    (lq6 : K.lookup fq6 = some ⟨ocq6, odq6, .func (PySem.W.fnOf "narrowed" "narrowed" (defArgs st_narrowed) (defBody st_narrowed) (defScope st_narrowed) .none kVq6 dcq6 pmq6 anq6 cdq6 ctq6), slq6⟩)
    (cq6 : PySem.W.codeIn K cdq6 "narrowed" = true)
    (kq6 : PySem.W.keepIn K (.ref fq6) = true)
    (aq7 : PySem.W.nsIn K mainGlobals "explanations" = some (some (.ref fq7)))
    (lq7 : K.lookup fq7 = some ⟨ocq7, odq7, .func (PySem.W.fnOf "explanations" "explanations" (defArgs st_explanations) (defBody st_explanations) (defScope st_explanations) .none kVq7 dcq7 pmq7 anq7 cdq7 ctq7), slq7⟩)
    (cq7 : PySem.W.codeIn K cdq7 "explanations" = true)
    (kq7 : PySem.W.keepIn K (.ref fq7) = true)
    (aq8 : PySem.W.nsIn K mainGlobals "first_conflict" = some (some (.ref fq8)))
    (lq8 : K.lookup fq8 = some ⟨ocq8, odq8, .func (PySem.W.fnOf "first_conflict" "first_conflict" (defArgs st_first_conflict) (defBody st_first_conflict) (defScope st_first_conflict) .none kVq8 dcq8 pmq8 anq8 cdq8 ctq8), slq8⟩)
    (cq8 : PySem.W.codeIn K cdq8 "first_conflict" = true)
    (kq8 : PySem.W.keepIn K (.ref fq8) = true)
    (aq9 : PySem.W.nsIn K mainGlobals "forecast" = some (some (.ref fq9)))
    (lq9 : K.lookup fq9 = some ⟨ocq9, odq9, .func (PySem.W.fnOf "forecast" "forecast" (defArgs st_forecast) (defBody st_forecast) (defScope st_forecast) .none kVq9 dcq9 pmq9 anq9 cdq9 ctq9), slq9⟩)
    (cq9 : PySem.W.codeIn K cdq9 "forecast" = true)
    (kq9 : PySem.W.keepIn K (.ref fq9) = true)
    (aq10 : PySem.W.nsIn K mainGlobals "_law_mixed" = some (some (.ref fq10)))
    (lq10 : K.lookup fq10 = some ⟨ocq10, odq10, .func (PySem.W.fnOf "_law_mixed" "_law_mixed" (defArgs st__law_mixed) (defBody st__law_mixed) (defScope st__law_mixed) .none kVq10 dcq10 pmq10 anq10 cdq10 ctq10), slq10⟩)
    (cq10 : PySem.W.codeIn K cdq10 "_law_mixed" = true)
    (kq10 : PySem.W.keepIn K (.ref fq10) = true)
    (aq11 : PySem.W.nsIn K mainGlobals "_law_well" = some (some (.ref fq11)))
    (lq11 : K.lookup fq11 = some ⟨ocq11, odq11, .func (PySem.W.fnOf "_law_well" "_law_well" (defArgs st__law_well) (defBody st__law_well) (defScope st__law_well) .none kVq11 dcq11 pmq11 anq11 cdq11 ctq11), slq11⟩)
    (cq11 : PySem.W.codeIn K cdq11 "_law_well" = true)
    (kq11 : PySem.W.keepIn K (.ref fq11) = true)
    (aq12 : PySem.W.nsIn K mainGlobals "_law_draw" = some (some (.ref fq12)))
    (lq12 : K.lookup fq12 = some ⟨ocq12, odq12, .func (PySem.W.fnOf "_law_draw" "_law_draw" (defArgs st__law_draw) (defBody st__law_draw) (defScope st__law_draw) .none kVq12 dcq12 pmq12 anq12 cdq12 ctq12), slq12⟩)
    (cq12 : PySem.W.codeIn K cdq12 "_law_draw" = true)
    (kq12 : PySem.W.keepIn K (.ref fq12) = true)
    (aq13 : PySem.W.nsIn K mainGlobals "_law_one" = some (some (.ref fq13)))
    (lq13 : K.lookup fq13 = some ⟨ocq13, odq13, .func (PySem.W.fnOf "_law_one" "_law_one" (defArgs st__law_one) (defBody st__law_one) (defScope st__law_one) .none kVq13 dcq13 pmq13 anq13 cdq13 ctq13), slq13⟩)
    (cq13 : PySem.W.codeIn K cdq13 "_law_one" = true)
    (kq13 : PySem.W.keepIn K (.ref fq13) = true)
    (aq14 : PySem.W.nsIn K mainGlobals "_law_said" = some (some (.ref fq14)))
    (lq14 : K.lookup fq14 = some ⟨ocq14, odq14, .func (PySem.W.fnOf "_law_said" "_law_said" (defArgs st__law_said) (defBody st__law_said) (defScope st__law_said) .none kVq14 dcq14 pmq14 anq14 cdq14 ctq14), slq14⟩)
    (cq14 : PySem.W.codeIn K cdq14 "_law_said" = true)
    (kq14 : PySem.W.keepIn K (.ref fq14) = true)
    (aq15 : PySem.W.nsIn K mainGlobals "_law_log" = some (some (.ref fq15)))
    (lq15 : K.lookup fq15 = some ⟨ocq15, odq15, .func (PySem.W.fnOf "_law_log" "_law_log" (defArgs st__law_log) (defBody st__law_log) (defScope st__law_log) .none kVq15 dcq15 pmq15 anq15 cdq15 ctq15), slq15⟩)
    (cq15 : PySem.W.codeIn K cdq15 "_law_log" = true)
    (kq15 : PySem.W.keepIn K (.ref fq15) = true)
    (aq16 : PySem.W.nsIn K mainGlobals "_law_seen" = some (some (.ref fq16)))
    (lq16 : K.lookup fq16 = some ⟨ocq16, odq16, .func (PySem.W.fnOf "_law_seen" "_law_seen" (defArgs st__law_seen) (defBody st__law_seen) (defScope st__law_seen) .none kVq16 dcq16 pmq16 anq16 cdq16 ctq16), slq16⟩)
    (cq16 : PySem.W.codeIn K cdq16 "_law_seen" = true)
    (kq16 : PySem.W.keepIn K (.ref fq16) = true)
    (aq17 : PySem.W.nsIn K mainGlobals "_law_fits" = some (some (.ref fq17)))
    (lq17 : K.lookup fq17 = some ⟨ocq17, odq17, .func (PySem.W.fnOf "_law_fits" "_law_fits" (defArgs st__law_fits) (defBody st__law_fits) (defScope st__law_fits) .none kVq17 dcq17 pmq17 anq17 cdq17 ctq17), slq17⟩)
    (cq17 : PySem.W.codeIn K cdq17 "_law_fits" = true)
    (kq17 : PySem.W.keepIn K (.ref fq17) = true)
    (aq18 : PySem.W.nsIn K mainGlobals "_law_conflict" = some (some (.ref fq18)))
    (lq18 : K.lookup fq18 = some ⟨ocq18, odq18, .func (PySem.W.fnOf "_law_conflict" "_law_conflict" (defArgs st__law_conflict) (defBody st__law_conflict) (defScope st__law_conflict) .none kVq18 dcq18 pmq18 anq18 cdq18 ctq18), slq18⟩)
    (cq18 : PySem.W.codeIn K cdq18 "_law_conflict" = true)
    (kq18 : PySem.W.keepIn K (.ref fq18) = true)
    (aq19 : PySem.W.nsIn K mainGlobals "_law_next" = some (some (.ref fq19)))
    (lq19 : K.lookup fq19 = some ⟨ocq19, odq19, .func (PySem.W.fnOf "_law_next" "_law_next" (defArgs st__law_next) (defBody st__law_next) (defScope st__law_next) .none kVq19 dcq19 pmq19 anq19 cdq19 ctq19), slq19⟩)
    (cq19 : PySem.W.codeIn K cdq19 "_law_next" = true)
    (kq19 : PySem.W.keepIn K (.ref fq19) = true)
    (aq20 : PySem.W.nsIn K mainGlobals "_law_right" = some (some (.ref fq20)))
    (lq20 : K.lookup fq20 = some ⟨ocq20, odq20, .func (PySem.W.fnOf "_law_right" "_law_right" (defArgs st__law_right) (defBody st__law_right) (defScope st__law_right) .none kVq20 dcq20 pmq20 anq20 (.ref kcq20) ctq20), slq20⟩)
    (cq20 : PySem.W.codeIn K (.ref kcq20) "_law_right" = true)
    (kq20 : PySem.W.keepIn K (.ref fq20) = true)
    (geBreakerError : PySem.W.nsIn K mainGlobals "BreakerError" = some (some (.ref EBreakerError)))
    (xaBreakerError : PySem.W.findIn K (.ref EBreakerError) "__getattribute__" = some (some (.builtin "BaseException.__getattribute__")))
    (xbBreakerError : PySem.W.findIn K (.ref EBreakerError) "__getattr__" = some none)
    (xcBreakerError : PySem.W.subIn K (.ref EBreakerError) (.type "BaseException") = some true)
    (xdBreakerError : PySem.W.hasDictIn K EBreakerError = true)
    (xeBreakerError : PySem.W.typeIn K (.ref EBreakerError) = some (.type "type"))
    (geInvalidRow : PySem.W.nsIn K mainGlobals "InvalidRow" = some (some (.ref EInvalidRow)))
    (xaInvalidRow : PySem.W.findIn K (.ref EInvalidRow) "__getattribute__" = some (some (.builtin "BaseException.__getattribute__")))
    (xbInvalidRow : PySem.W.findIn K (.ref EInvalidRow) "__getattr__" = some none)
    (xcInvalidRow : PySem.W.subIn K (.ref EInvalidRow) (.type "BaseException") = some true)
    (xdInvalidRow : PySem.W.hasDictIn K EInvalidRow = true)
    (xeInvalidRow : PySem.W.typeIn K (.ref EInvalidRow) = some (.type "type"))
    (geInvalidTime : PySem.W.nsIn K mainGlobals "InvalidTime" = some (some (.ref EInvalidTime)))
    (xaInvalidTime : PySem.W.findIn K (.ref EInvalidTime) "__getattribute__" = some (some (.builtin "BaseException.__getattribute__")))
    (xbInvalidTime : PySem.W.findIn K (.ref EInvalidTime) "__getattr__" = some none)
    (xcInvalidTime : PySem.W.subIn K (.ref EInvalidTime) (.type "BaseException") = some true)
    (xdInvalidTime : PySem.W.hasDictIn K EInvalidTime = true)
    (xeInvalidTime : PySem.W.typeIn K (.ref EInvalidTime) = some (.type "type"))
    (geInvalidOutages : PySem.W.nsIn K mainGlobals "InvalidOutages" = some (some (.ref EInvalidOutages)))
    (xaInvalidOutages : PySem.W.findIn K (.ref EInvalidOutages) "__getattribute__" = some (some (.builtin "BaseException.__getattribute__")))
    (xbInvalidOutages : PySem.W.findIn K (.ref EInvalidOutages) "__getattr__" = some none)
    (xcInvalidOutages : PySem.W.subIn K (.ref EInvalidOutages) (.type "BaseException") = some true)
    (xdInvalidOutages : PySem.W.hasDictIn K EInvalidOutages = true)
    (xeInvalidOutages : PySem.W.typeIn K (.ref EInvalidOutages) = some (.type "type"))
    (geInvalidTrains : PySem.W.nsIn K mainGlobals "InvalidTrains" = some (some (.ref EInvalidTrains)))
    (xaInvalidTrains : PySem.W.findIn K (.ref EInvalidTrains) "__getattribute__" = some (some (.builtin "BaseException.__getattribute__")))
    (xbInvalidTrains : PySem.W.findIn K (.ref EInvalidTrains) "__getattr__" = some none)
    (xcInvalidTrains : PySem.W.subIn K (.ref EInvalidTrains) (.type "BaseException") = some true)
    (xdInvalidTrains : PySem.W.hasDictIn K EInvalidTrains = true)
    (xeInvalidTrains : PySem.W.typeIn K (.ref EInvalidTrains) = some (.type "type"))
    (geInvalidIndex : PySem.W.nsIn K mainGlobals "InvalidIndex" = some (some (.ref EInvalidIndex)))
    (xaInvalidIndex : PySem.W.findIn K (.ref EInvalidIndex) "__getattribute__" = some (some (.builtin "BaseException.__getattribute__")))
    (xbInvalidIndex : PySem.W.findIn K (.ref EInvalidIndex) "__getattr__" = some none)
    (xcInvalidIndex : PySem.W.subIn K (.ref EInvalidIndex) (.type "BaseException") = some true)
    (xdInvalidIndex : PySem.W.hasDictIn K EInvalidIndex = true)
    (xeInvalidIndex : PySem.W.typeIn K (.ref EInvalidIndex) = some (.type "type"))
    (geInvalidBound : PySem.W.nsIn K mainGlobals "InvalidBound" = some (some (.ref EInvalidBound)))
    (xaInvalidBound : PySem.W.findIn K (.ref EInvalidBound) "__getattribute__" = some (some (.builtin "BaseException.__getattribute__")))
    (xbInvalidBound : PySem.W.findIn K (.ref EInvalidBound) "__getattr__" = some none)
    (xcInvalidBound : PySem.W.subIn K (.ref EInvalidBound) (.type "BaseException") = some true)
    (xdInvalidBound : PySem.W.hasDictIn K EInvalidBound = true)
    (xeInvalidBound : PySem.W.typeIn K (.ref EInvalidBound) = some (.type "type"))
    (geInvalidLog : PySem.W.nsIn K mainGlobals "InvalidLog" = some (some (.ref EInvalidLog)))
    (xaInvalidLog : PySem.W.findIn K (.ref EInvalidLog) "__getattribute__" = some (some (.builtin "BaseException.__getattribute__")))
    (xbInvalidLog : PySem.W.findIn K (.ref EInvalidLog) "__getattr__" = some none)
    (xcInvalidLog : PySem.W.subIn K (.ref EInvalidLog) (.type "BaseException") = some true)
    (xdInvalidLog : PySem.W.hasDictIn K EInvalidLog = true)
    (xeInvalidLog : PySem.W.typeIn K (.ref EInvalidLog) = some (.type "type"))
    (geInvalidCall : PySem.W.nsIn K mainGlobals "InvalidCall" = some (some (.ref EInvalidCall)))
    (xaInvalidCall : PySem.W.findIn K (.ref EInvalidCall) "__getattribute__" = some (some (.builtin "BaseException.__getattribute__")))
    (xbInvalidCall : PySem.W.findIn K (.ref EInvalidCall) "__getattr__" = some none)
    (xcInvalidCall : PySem.W.subIn K (.ref EInvalidCall) (.type "BaseException") = some true)
    (xdInvalidCall : PySem.W.hasDictIn K EInvalidCall = true)
    (xeInvalidCall : PySem.W.typeIn K (.ref EInvalidCall) = some (.type "type"))
    (geInvalidText : PySem.W.nsIn K mainGlobals "InvalidText" = some (some (.ref EInvalidText)))
    (xaInvalidText : PySem.W.findIn K (.ref EInvalidText) "__getattribute__" = some (some (.builtin "BaseException.__getattribute__")))
    (xbInvalidText : PySem.W.findIn K (.ref EInvalidText) "__getattr__" = some none)
    (xcInvalidText : PySem.W.subIn K (.ref EInvalidText) (.type "BaseException") = some true)
    (xdInvalidText : PySem.W.hasDictIn K EInvalidText = true)
    (xeInvalidText : PySem.W.typeIn K (.ref EInvalidText) = some (.type "type"))
    (geLimitExceeded : PySem.W.nsIn K mainGlobals "LimitExceeded" = some (some (.ref ELimitExceeded)))
    (xaLimitExceeded : PySem.W.findIn K (.ref ELimitExceeded) "__getattribute__" = some (some (.builtin "BaseException.__getattribute__")))
    (xbLimitExceeded : PySem.W.findIn K (.ref ELimitExceeded) "__getattr__" = some none)
    (xcLimitExceeded : PySem.W.subIn K (.ref ELimitExceeded) (.type "BaseException") = some true)
    (xdLimitExceeded : PySem.W.hasDictIn K ELimitExceeded = true)
    (xeLimitExceeded : PySem.W.typeIn K (.ref ELimitExceeded) = some (.type "type"))
    (xoInvalidLog : K.lookup EInvalidLog = some (excClassObj nmInvalidLog qnInvalidLog EInvalidLog nnInvalidLog bsInvalidLog [.ref EBreakerError, .type "ArithmeticError", .type "Exception", .type "BaseException", .type "object"] true snInvalidLog sbInvalidLog abInvalidLog coInvalidLog ddInvalidLog u0InvalidLog u1InvalidLog u2InvalidLog u3InvalidLog u5InvalidLog "ArithmeticError.__new__"))
    (xsInvalidLog : PySem.W.findIn K (.ref EInvalidLog) "__setattr__" = some (some (.builtin "object.__setattr__")))
    (xkInvalidLog : PySem.W.keepIn K (.ref EInvalidLog) = true)
    (aNInvalidLog : PySem.W.findIn K (.ref EInvalidLog) "__init__" = some (some (.ref aIInvalidLog)))
    (tNInvalidLog : PySem.W.typeIn K (.ref aIInvalidLog) = some (.type "function"))
    (lNInvalidLog : K.lookup aIInvalidLog = some ⟨ocNInvalidLog, odNInvalidLog, .func (PySem.W.fnOf "__init__" "InvalidLog.__init__" (defArgs st_InvalidLog_init) (defBody st_InvalidLog_init) (defScope st_InvalidLog_init) .none kVNInvalidLog dcNInvalidLog pmNInvalidLog anNInvalidLog cdNInvalidLog ctNInvalidLog), slNInvalidLog⟩)
    (cNInvalidLog : PySem.W.codeIn K cdNInvalidLog "InvalidLog.__init__" = true)
    (kNInvalidLog : PySem.W.keepIn K (.ref aIInvalidLog) = true)
    (neInvalidLog_part : PySem.W.findIn K (.ref EInvalidLog) "part" = some none)
    (neInvalidLog_at : PySem.W.findIn K (.ref EInvalidLog) "at" = some none)
    (neInvalidLog_time : PySem.W.findIn K (.ref EInvalidLog) "time" = some none)
    (neInvalidLog_index : PySem.W.findIn K (.ref EInvalidLog) "index" = some none)
    (neInvalidLog_call : PySem.W.findIn K (.ref EInvalidLog) "call" = some none)
    (neInvalidLog_line : PySem.W.findIn K (.ref EInvalidLog) "line" = some none)
    (neInvalidLog_word : PySem.W.findIn K (.ref EInvalidLog) "word" = some none)
    (neInvalidLog_limit : PySem.W.findIn K (.ref EInvalidLog) "limit" = some none)
    (xlInvalidLog : PySem.W.findIn K (.ref EInvalidLog) "__class__" = some (some (.builtin "object.__class__")))
    (xmInvalidLog : PySem.W.mroIn K EInvalidLog (.type "object") = some true)
    (gO1 : PySem.W.specialIn K (.builtin "object.__class__") "__get__" = some (some (.builtin "getset_descriptor.__get__")))
    (gO2 : PySem.W.takesIn K (.builtin "object.__class__") = some true)
    (seInvalidLog_BreakerError : PySem.W.subIn K (.ref EInvalidLog) (.ref EBreakerError) = some true)
    (seInvalidLog_InvalidRow : PySem.W.subIn K (.ref EInvalidLog) (.ref EInvalidRow) = some false)
    (seInvalidLog_InvalidTime : PySem.W.subIn K (.ref EInvalidLog) (.ref EInvalidTime) = some false)
    (seInvalidLog_InvalidOutages : PySem.W.subIn K (.ref EInvalidLog) (.ref EInvalidOutages) = some false)
    (seInvalidLog_InvalidTrains : PySem.W.subIn K (.ref EInvalidLog) (.ref EInvalidTrains) = some false)
    (seInvalidLog_InvalidIndex : PySem.W.subIn K (.ref EInvalidLog) (.ref EInvalidIndex) = some false)
    (seInvalidLog_InvalidBound : PySem.W.subIn K (.ref EInvalidLog) (.ref EInvalidBound) = some false)
    (seInvalidLog_InvalidLog : PySem.W.subIn K (.ref EInvalidLog) (.ref EInvalidLog) = some true)
    (seInvalidLog_InvalidCall : PySem.W.subIn K (.ref EInvalidLog) (.ref EInvalidCall) = some false)
    (seInvalidLog_InvalidText : PySem.W.subIn K (.ref EInvalidLog) (.ref EInvalidText) = some false)
    (seInvalidLog_LimitExceeded : PySem.W.subIn K (.ref EInvalidLog) (.ref ELimitExceeded) = some false)
    (saInvalidLog : PySem.W.subIn K (.ref EInvalidLog) (.type "ArithmeticError") = some true)
    (gNMOST_ENTRIES : PySem.W.nsIn K mainGlobals "MOST_ENTRIES" = some (some (.int 1000 tNMOST_ENTRIES)))
    (aY : PySem.W.nsIn K mainGlobals "law" = some (some (.ref aLaw)))
    (lY : K.lookup aLaw = some ⟨ocY, odY, .func (PySem.W.fnOf "law" "law" (defArgs st_law) (defBody st_law) (defScope st_law) .none kVY dcY pmY anY cdY ctY), slY⟩)
    (cY : PySem.W.codeIn K cdY "law" = true)
    (kY : PySem.W.keepIn K (.ref aLaw) = true)
    (z_ArithmeticError : PySem.W.nsIn K mainGlobals "ArithmeticError" = some none)
    (z_bool : PySem.W.nsIn K mainGlobals "bool" = some none)
    (z_enumerate : PySem.W.nsIn K mainGlobals "enumerate" = some none)
    (z_int : PySem.W.nsIn K mainGlobals "int" = some none)
    (z_isinstance : PySem.W.nsIn K mainGlobals "isinstance" = some none)
    (z_len : PySem.W.nsIn K mainGlobals "len" = some none)
    (z_list : PySem.W.nsIn K mainGlobals "list" = some none)
    (z_max : PySem.W.nsIn K mainGlobals "max" = some none)
    (z_min : PySem.W.nsIn K mainGlobals "min" = some none)
    (z_range : PySem.W.nsIn K mainGlobals "range" = some none)
    (z_repr : PySem.W.nsIn K mainGlobals "repr" = some none)
    (z_tuple : PySem.W.nsIn K mainGlobals "tuple" = some none)
    (tbq20 : TabE K h kcq20 ktq20) :
    ∃ (fd : FuncData) (cs : List (Addr × Addr)) (sp : Sp), (∀ p ∈ cs, TabE K h p.1 p.2) ∧ (∀ (s : Shared) (v : Value), BindsTo s fd ⟨[v], []⟩ [("_law_script", v)]) ∧ (∀ (H : Hp) (a : Addr) (ns : List Int), ns.length ≤ 63 → (∀ z ∈ ns, Builtin.Int.intBits z ≤ 1048576) → (∀ p ∈ cs, H p.2 = some (.tbl #[])) → SqL K H a (ns.map V.int) → sp [.ref a] H (fun v _ => v = .bl true) fun _ _ _ => False) ∧ ∀ base : Heap, K.In base → base.Ns mainGlobals mg → (∀ p ∈ cs, LamX.TabB base mg p.1 p.2) → FnOk P w K mg base CX0 14 fa fd ["_law_script"] sp := by
  have e := hfa.symm.trans (PySem.W.mg_of X G aY)
  cases e
  obtain ⟨vMOST_TIME, hvMOST_TIME, rMOST_TIME⟩ := LL.val _ hLMOST_TIME
  obtain ⟨tMOST_TIME, rfl, -⟩ := PySem.W.readsW_int_inv rMOST_TIME
  have T : LX K mg ⟨fq0, fq1, fq2, fq3, fq4, fq5, fq6, fq7, fq8, fq9, fq10, fq11, fq12, fq13, fq14, fq15, fq16, fq17, fq18, fq19, fq20, kcq20, ktq20, EBreakerError, EInvalidRow, EInvalidTime, EInvalidOutages, EInvalidTrains, EInvalidIndex, EInvalidBound, EInvalidLog, EInvalidCall, EInvalidText, ELimitExceeded, aIInvalidLog⟩ := ⟨PySem.W.mg_none_of X G z_ArithmeticError,
    PySem.W.mg_none_of X G z_bool,
    PySem.W.mg_none_of X G z_enumerate,
    PySem.W.mg_none_of X G z_int,
    PySem.W.mg_none_of X G z_isinstance,
    PySem.W.mg_none_of X G z_len,
    PySem.W.mg_none_of X G z_list,
    PySem.W.mg_none_of X G z_max,
    PySem.W.mg_none_of X G z_min,
    PySem.W.mg_none_of X G z_range,
    PySem.W.mg_none_of X G z_repr,
    PySem.W.mg_none_of X G z_tuple,
    ⟨_, hvMOST_TIME⟩,
    ⟨_, PySem.W.mg_of X G gNMOST_ENTRIES⟩,
    mk_dfn X G aq0 lq0 cq0 kq0 bn_q0,
    mk_dfn X G aq1 lq1 cq1 kq1 bn_q1,
    mk_dfn X G aq2 lq2 cq2 kq2 bn_q2,
    mk_dfn X G aq3 lq3 cq3 kq3 bn_q3,
    mk_dfn X G aq4 lq4 cq4 kq4 bn_q4,
    mk_dfn X G aq5 lq5 cq5 kq5 bn_q5,
    mk_dfn X G aq6 lq6 cq6 kq6 bn_q6,
    mk_dfn X G aq7 lq7 cq7 kq7 bn_q7,
    mk_dfn X G aq8 lq8 cq8 kq8 bn_q8,
    mk_dfn X G aq9 lq9 cq9 kq9 bn_q9,
    mk_dfn X G aq10 lq10 cq10 kq10 bn_q10,
    mk_dfn X G aq11 lq11 cq11 kq11 bn_q11,
    mk_dfn X G aq12 lq12 cq12 kq12 bn_q12,
    mk_dfn X G aq13 lq13 cq13 kq13 bn_q13,
    mk_dfn X G aq14 lq14 cq14 kq14 bn_q14,
    mk_dfn X G aq15 lq15 cq15 kq15 bn_q15,
    mk_dfn X G aq16 lq16 cq16 kq16 bn_q16,
    mk_dfn X G aq17 lq17 cq17 kq17 bn_q17,
    mk_dfn X G aq18 lq18 cq18 kq18 bn_q18,
    mk_dfn X G aq19 lq19 cq19 kq19 bn_q19,
    mk_dfnT X G aq20 lq20 cq20 kq20 bn_q20,
    PySem.W.mg_of X G geBreakerError,
    ⟨xaBreakerError, xbBreakerError, xcBreakerError, xdBreakerError⟩,
    xeBreakerError,
    PySem.W.mg_of X G geInvalidRow,
    ⟨xaInvalidRow, xbInvalidRow, xcInvalidRow, xdInvalidRow⟩,
    xeInvalidRow,
    PySem.W.mg_of X G geInvalidTime,
    ⟨xaInvalidTime, xbInvalidTime, xcInvalidTime, xdInvalidTime⟩,
    xeInvalidTime,
    PySem.W.mg_of X G geInvalidOutages,
    ⟨xaInvalidOutages, xbInvalidOutages, xcInvalidOutages, xdInvalidOutages⟩,
    xeInvalidOutages,
    PySem.W.mg_of X G geInvalidTrains,
    ⟨xaInvalidTrains, xbInvalidTrains, xcInvalidTrains, xdInvalidTrains⟩,
    xeInvalidTrains,
    PySem.W.mg_of X G geInvalidIndex,
    ⟨xaInvalidIndex, xbInvalidIndex, xcInvalidIndex, xdInvalidIndex⟩,
    xeInvalidIndex,
    PySem.W.mg_of X G geInvalidBound,
    ⟨xaInvalidBound, xbInvalidBound, xcInvalidBound, xdInvalidBound⟩,
    xeInvalidBound,
    PySem.W.mg_of X G geInvalidLog,
    ⟨xaInvalidLog, xbInvalidLog, xcInvalidLog, xdInvalidLog⟩,
    xeInvalidLog,
    PySem.W.mg_of X G geInvalidCall,
    ⟨xaInvalidCall, xbInvalidCall, xcInvalidCall, xdInvalidCall⟩,
    xeInvalidCall,
    PySem.W.mg_of X G geInvalidText,
    ⟨xaInvalidText, xbInvalidText, xcInvalidText, xdInvalidText⟩,
    xeInvalidText,
    PySem.W.mg_of X G geLimitExceeded,
    ⟨xaLimitExceeded, xbLimitExceeded, xcLimitExceeded, xdLimitExceeded⟩,
    xeLimitExceeded,
    ⟨⟨_, _, _, _, _, _, _, _, _, _, _, _, _, _, _, xoInvalidLog, by rfl⟩, xsInvalidLog, xcInvalidLog, xeInvalidLog, xkInvalidLog⟩,
    aNInvalidLog,
    tNInvalidLog,
    ⟨_, fun_mk lNInvalidLog cNInvalidLog kNInvalidLog, (fun_mk lNInvalidLog cNInvalidLog kNInvalidLog).binds bn_NInvalidLog⟩,
    neInvalidLog_part,
    neInvalidLog_at,
    neInvalidLog_time,
    neInvalidLog_index,
    neInvalidLog_call,
    neInvalidLog_line,
    neInvalidLog_word,
    neInvalidLog_limit,
    ⟨xaInvalidLog, xbInvalidLog, xcInvalidLog, xdInvalidLog, xlInvalidLog, gO1, gO2, xmInvalidLog⟩,
    seInvalidLog_BreakerError,
    seInvalidLog_InvalidRow,
    seInvalidLog_InvalidTime,
    seInvalidLog_InvalidOutages,
    seInvalidLog_InvalidTrains,
    seInvalidLog_InvalidIndex,
    seInvalidLog_InvalidBound,
    seInvalidLog_InvalidLog,
    seInvalidLog_InvalidCall,
    seInvalidLog_InvalidText,
    seInvalidLog_LimitExceeded,
    saInvalidLog⟩
  have tbs : ∀ p ∈ [(kcq20, ktq20)], TabE K h p.1 p.2 := by
    intro p hp
    simp only [List.mem_cons, List.mem_nil_iff, or_false] at hp
    rcases hp with rfl
    · exact tbq20
  refine ⟨_, [(kcq20, ktq20)], spLawT K _, tbs, fun s v => .of_eq rfl, fun H a ns hl _ hH hS => ⟨a, ns, rfl, hS, hl, ?_, fun _ => rfl⟩, fun base _ _ hB => ok_law (fun_mk lY cY kY) T ⟨hB (kcq20, ktq20) (.head _)⟩⟩
  intro p hp
  simp only [LT, List.mem_cons, List.mem_nil_iff, or_false] at hp
  rcases hp with rfl
  · exact LamX.TabS.nil (hH (kcq20, ktq20) (.head _))
/-- the end, with tables of code objects and what the loose names hold -/
theorem walk_tabs {l : PySem.W.OpenLaw} {q p : Program} {lv : List (Str × PySem.W.WData)} {loose : List Str} {YP : World → Heap → Prop} {d : DefRec} {K : Params → PySem.W.Frag} (hn : l.most = some 63) (hd : d.params.defaults = []) (hY : ∀ (w : World) (h : Heap), YP w h → (K w.params).In h)
    (F : ∀ (w : World) (mg : Str → Option Value) (fa : Addr) (h : Heap), YP w h → (K w.params).In h → h.Ns mainGlobals mg → PySem.W.LooseAre lv mg h → mg d.name = some (.ref fa) →
      ∃ (fd : FuncData) (cs : List (Addr × Addr)) (sp : Sp), (∀ p ∈ cs, TabE (K w.params) h p.1 p.2) ∧ (∀ (s : Shared) (v : Value), BindsTo s fd ⟨[v], []⟩ [("_law_script", v)]) ∧ (∀ (H : Hp) (a : Addr) (ns : List Int), ns.length ≤ 63 → (∀ z ∈ ns, Builtin.Int.intBits z ≤ 1048576) → (∀ p ∈ cs, H p.2 = some (.tbl #[])) → SqL (K w.params) H a (ns.map V.int) → sp [.ref a] H (fun v _ => v = .bl true) fun _ _ _ => False) ∧ ∀ base : Heap, (K w.params).In base → base.Ns mainGlobals mg → (∀ p ∈ cs, LamX.TabB base mg p.1 p.2) → FnOk l.prog w (K w.params) mg base CX0 14 fa fd ["_law_script"] sp) :
    PySem.W.WalkO q loose (PySem.W.XL p lv) YP l.row.toRowW d [] (fun f vs => PySem.call f vs) := Att.attach_callB hn hd fun w _ s₁ mg mb fa _ _ _ _ a vs ns G Y _ _ _ hmg hobj hints hlen hbits hg => by
  obtain ⟨fd, cs, sp, hT, hb, hsp, hF⟩ := F w mg fa s₁.heap Y (hY w s₁.heap Y) G.T.g G.X.2 hmg
  exact LamX.law_callTs (hY w s₁.heap Y) G.T.g G.T.b G.T.builtins G.T.nolimit hg (fun p hp => (hT p hp).1) (fun p hp => (hT p hp).2.2) (fun p hp => PySem.W.codeHd_of_K (hY w s₁.heap Y) (hT p hp).2.1) G.T.bmain hobj hints (Nat.le_trans hlen (by decide)) ⟨rfl, by decide, by decide⟩ hF hb (fun H hH hS => hsp H a ns hlen hbits hH hS) fun _ _ _ z => z

end Toy
open PySem PySem.W PyProof.Rows
set_option maxRecDepth 100000 in
set_option maxHeartbeats 0 in
theorem PySem.Challenge.cw_breakerrow_k47_conflicts_and_forecasts_holds : PySem.Challenge.rw_breakerrow_k47_conflicts_and_forecasts.Holds := by
  w_on; o_law; k_head; (case hw => w_witness2)
  k_fill
  refine Toy.walk_tabs (l := PySem.Challenge.rw_breakerrow_k47_conflicts_and_forecasts) rfl rfl (fun w h Y => PySem.W.km_in_of Y) ?F
  intro w mg fa h Y KX G LL hmg
  have hT := PySem.W.km_tabs_of Y
  refine' Toy.all_mk KX G LL (by first | exact .head _ | exact .tail _ (.head _) | exact .tail _ (.tail _ (.head _)) | exact .tail _ (.tail _ (.tail _ (.head _))) | exact .tail _ (.tail _ (.tail _ (.tail _ (.head _)))) | exact .tail _ (.tail _ (.tail _ (.tail _ (.tail _ (.head _))))) | exact .tail _ (.tail _ (.tail _ (.tail _ (.tail _ (.tail _ (.head _)))))) | exact .tail _ (.tail _ (.tail _ (.tail _ (.tail _ (.tail _ (.tail _ (.head _))))))) | exact .tail _ (.tail _ (.tail _ (.tail _ (.tail _ (.tail _ (.tail _ (.tail _ (.head _)))))))) | exact .tail _ (.tail _ (.tail _ (.tail _ (.tail _ (.tail _ (.tail _ (.tail _ (.tail _ (.head _)))))))))) hmg ?aq0 ?lq0 ?cq0 ?kq0 ?aq1 ?lq1 ?cq1 ?kq1 ?aq2 ?lq2 ?cq2 ?kq2 ?aq3 ?lq3 ?cq3 ?kq3 ?aq4 ?lq4 ?cq4 ?kq4 ?aq5 ?lq5 ?cq5 ?kq5 ?aq6 ?lq6 ?cq6 ?kq6 ?aq7 ?lq7 ?cq7 ?kq7 ?aq8 ?lq8 ?cq8 ?kq8 ?aq9 ?lq9 ?cq9 ?kq9 ?aq10 ?lq10 ?cq10 ?kq10 ?aq11 ?lq11 ?cq11 ?kq11 ?aq12 ?lq12 ?cq12 ?kq12 ?aq13 ?lq13 ?cq13 ?kq13 ?aq14 ?lq14 ?cq14 ?kq14 ?aq15 ?lq15 ?cq15 ?kq15 ?aq16 ?lq16 ?cq16 ?kq16 ?aq17 ?lq17 ?cq17 ?kq17 ?aq18 ?lq18 ?cq18 ?kq18 ?aq19 ?lq19 ?cq19 ?kq19 ?aq20 ?lq20 ?cq20 ?kq20 ?geBreakerError ?xaBreakerError ?xbBreakerError ?xcBreakerError ?xdBreakerError ?xeBreakerError ?geInvalidRow ?xaInvalidRow ?xbInvalidRow ?xcInvalidRow ?xdInvalidRow ?xeInvalidRow ?geInvalidTime ?xaInvalidTime ?xbInvalidTime ?xcInvalidTime ?xdInvalidTime ?xeInvalidTime ?geInvalidOutages ?xaInvalidOutages ?xbInvalidOutages ?xcInvalidOutages ?xdInvalidOutages ?xeInvalidOutages ?geInvalidTrains ?xaInvalidTrains ?xbInvalidTrains ?xcInvalidTrains ?xdInvalidTrains ?xeInvalidTrains ?geInvalidIndex ?xaInvalidIndex ?xbInvalidIndex ?xcInvalidIndex ?xdInvalidIndex ?xeInvalidIndex ?geInvalidBound ?xaInvalidBound ?xbInvalidBound ?xcInvalidBound ?xdInvalidBound ?xeInvalidBound ?geInvalidLog ?xaInvalidLog ?xbInvalidLog ?xcInvalidLog ?xdInvalidLog ?xeInvalidLog ?geInvalidCall ?xaInvalidCall ?xbInvalidCall ?xcInvalidCall ?xdInvalidCall ?xeInvalidCall ?geInvalidText ?xaInvalidText ?xbInvalidText ?xcInvalidText ?xdInvalidText ?xeInvalidText ?geLimitExceeded ?xaLimitExceeded ?xbLimitExceeded ?xcLimitExceeded ?xdLimitExceeded ?xeLimitExceeded ?xoInvalidLog ?xsInvalidLog ?xkInvalidLog ?aNInvalidLog ?tNInvalidLog ?lNInvalidLog ?cNInvalidLog ?kNInvalidLog ?neInvalidLog_part ?neInvalidLog_at ?neInvalidLog_time ?neInvalidLog_index ?neInvalidLog_call ?neInvalidLog_line ?neInvalidLog_word ?neInvalidLog_limit ?xlInvalidLog ?xmInvalidLog ?gO1 ?gO2 ?seInvalidLog_BreakerError ?seInvalidLog_InvalidRow ?seInvalidLog_InvalidTime ?seInvalidLog_InvalidOutages ?seInvalidLog_InvalidTrains ?seInvalidLog_InvalidIndex ?seInvalidLog_InvalidBound ?seInvalidLog_InvalidLog ?seInvalidLog_InvalidCall ?seInvalidLog_InvalidText ?seInvalidLog_LimitExceeded ?saInvalidLog ?gNMOST_ENTRIES ?aY ?lY ?cY ?kY ?z_ArithmeticError ?z_bool ?z_enumerate ?z_int ?z_isinstance ?z_len ?z_list ?z_max ?z_min ?z_range ?z_repr ?z_tuple ?tbq20
  (case aq0 => k_is)
  (case lq0 => k_is)
  (case cq0 => k_is)
  (case kq0 => k_is)
  (case aq1 => k_is)
  (case lq1 => k_is)
  (case cq1 => k_is)
  (case kq1 => k_is)
  (case aq2 => k_is)
  (case lq2 => k_is)
  (case cq2 => k_is)
  (case kq2 => k_is)
  (case aq3 => k_is)
  (case lq3 => k_is)
  (case cq3 => k_is)
  (case kq3 => k_is)
  (case aq4 => k_is)
  (case lq4 => k_is)
  (case cq4 => k_is)
  (case kq4 => k_is)
  (case aq5 => k_is)
  (case lq5 => k_is)
  (case cq5 => k_is)
  (case kq5 => k_is)
  (case aq6 => k_is)
  (case lq6 => k_is)
  (case cq6 => k_is)
  (case kq6 => k_is)
  (case aq7 => k_is)
  (case lq7 => k_is)
  (case cq7 => k_is)
  (case kq7 => k_is)
  (case aq8 => k_is)
  (case lq8 => k_is)
  (case cq8 => k_is)
  (case kq8 => k_is)
  (case aq9 => k_is)
  (case lq9 => k_is)
  (case cq9 => k_is)
  (case kq9 => k_is)
  (case aq10 => k_is)
  (case lq10 => k_is)
  (case cq10 => k_is)
  (case kq10 => k_is)
  (case aq11 => k_is)
  (case lq11 => k_is)
  (case cq11 => k_is)
  (case kq11 => k_is)
  (case aq12 => k_is)
  (case lq12 => k_is)
  (case cq12 => k_is)
  (case kq12 => k_is)
  (case aq13 => k_is)
  (case lq13 => k_is)
  (case cq13 => k_is)
  (case kq13 => k_is)
  (case aq14 => k_is)
  (case lq14 => k_is)
  (case cq14 => k_is)
  (case kq14 => k_is)
  (case aq15 => k_is)
  (case lq15 => k_is)
  (case cq15 => k_is)
  (case kq15 => k_is)
  (case aq16 => k_is)
  (case lq16 => k_is)
  (case cq16 => k_is)
  (case kq16 => k_is)
  (case aq17 => k_is)
  (case lq17 => k_is)
  (case cq17 => k_is)
  (case kq17 => k_is)
  (case aq18 => k_is)
  (case lq18 => k_is)
  (case cq18 => k_is)
  (case kq18 => k_is)
  (case aq19 => k_is)
  (case lq19 => k_is)
  (case cq19 => k_is)
  (case kq19 => k_is)
  (case aq20 => k_is)
  (case lq20 => k_is)
  (case cq20 => k_is)
  (case kq20 => k_is)
  (case geBreakerError => k_is)
  (case xaBreakerError => k_is)
  (case xbBreakerError => k_is)
  (case xcBreakerError => k_is)
  (case xdBreakerError => k_is)
  (case xeBreakerError => k_is)
  (case geInvalidRow => k_is)
  (case xaInvalidRow => k_is)
  (case xbInvalidRow => k_is)
  (case xcInvalidRow => k_is)
  (case xdInvalidRow => k_is)
  (case xeInvalidRow => k_is)
  (case geInvalidTime => k_is)
  (case xaInvalidTime => k_is)
  (case xbInvalidTime => k_is)
  (case xcInvalidTime => k_is)
  (case xdInvalidTime => k_is)
  (case xeInvalidTime => k_is)
  (case geInvalidOutages => k_is)
  (case xaInvalidOutages => k_is)
  (case xbInvalidOutages => k_is)
  (case xcInvalidOutages => k_is)
  (case xdInvalidOutages => k_is)
  (case xeInvalidOutages => k_is)
  (case geInvalidTrains => k_is)
  (case xaInvalidTrains => k_is)
  (case xbInvalidTrains => k_is)
  (case xcInvalidTrains => k_is)
  (case xdInvalidTrains => k_is)
  (case xeInvalidTrains => k_is)
  (case geInvalidIndex => k_is)
  (case xaInvalidIndex => k_is)
  (case xbInvalidIndex => k_is)
  (case xcInvalidIndex => k_is)
  (case xdInvalidIndex => k_is)
  (case xeInvalidIndex => k_is)
  (case geInvalidBound => k_is)
  (case xaInvalidBound => k_is)
  (case xbInvalidBound => k_is)
  (case xcInvalidBound => k_is)
  (case xdInvalidBound => k_is)
  (case xeInvalidBound => k_is)
  (case geInvalidLog => k_is)
  (case xaInvalidLog => k_is)
  (case xbInvalidLog => k_is)
  (case xcInvalidLog => k_is)
  (case xdInvalidLog => k_is)
  (case xeInvalidLog => k_is)
  (case geInvalidCall => k_is)
  (case xaInvalidCall => k_is)
  (case xbInvalidCall => k_is)
  (case xcInvalidCall => k_is)
  (case xdInvalidCall => k_is)
  (case xeInvalidCall => k_is)
  (case geInvalidText => k_is)
  (case xaInvalidText => k_is)
  (case xbInvalidText => k_is)
  (case xcInvalidText => k_is)
  (case xdInvalidText => k_is)
  (case xeInvalidText => k_is)
  (case geLimitExceeded => k_is)
  (case xaLimitExceeded => k_is)
  (case xbLimitExceeded => k_is)
  (case xcLimitExceeded => k_is)
  (case xdLimitExceeded => k_is)
  (case xeLimitExceeded => k_is)
  (case xoInvalidLog => k_is)
  (case xsInvalidLog => k_is)
  (case xkInvalidLog => k_is)
  (case aNInvalidLog => k_is)
  (case tNInvalidLog => k_is)
  (case lNInvalidLog => k_is)
  (case cNInvalidLog => k_is)
  (case kNInvalidLog => k_is)
  (case neInvalidLog_part => k_is)
  (case neInvalidLog_at => k_is)
  (case neInvalidLog_time => k_is)
  (case neInvalidLog_index => k_is)
  (case neInvalidLog_call => k_is)
  (case neInvalidLog_line => k_is)
  (case neInvalidLog_word => k_is)
  (case neInvalidLog_limit => k_is)
  (case xlInvalidLog => k_is)
  (case xmInvalidLog => k_is)
  (case gO1 => k_is)
  (case gO2 => k_is)
  (case seInvalidLog_BreakerError => k_is)
  (case seInvalidLog_InvalidRow => k_is)
  (case seInvalidLog_InvalidTime => k_is)
  (case seInvalidLog_InvalidOutages => k_is)
  (case seInvalidLog_InvalidTrains => k_is)
  (case seInvalidLog_InvalidIndex => k_is)
  (case seInvalidLog_InvalidBound => k_is)
  (case seInvalidLog_InvalidLog => k_is)
  (case seInvalidLog_InvalidCall => k_is)
  (case seInvalidLog_InvalidText => k_is)
  (case seInvalidLog_LimitExceeded => k_is)
  (case saInvalidLog => k_is)
  (case gNMOST_ENTRIES => k_is)
  (case aY => k_is)
  (case lY => k_is)
  (case cY => k_is)
  (case kY => k_is)
  (case z_ArithmeticError => k_is)
  (case z_bool => k_is)
  (case z_enumerate => k_is)
  (case z_int => k_is)
  (case z_isinstance => k_is)
  (case z_len => k_is)
  (case z_list => k_is)
  (case z_max => k_is)
  (case z_min => k_is)
  (case z_range => k_is)
  (case z_repr => k_is)
  (case z_tuple => k_is)
  (case tbq20 => first | exact Toy.tabE_of (hT _ (.head _)) (by kernel_rfl) (by kernel_rfl))
