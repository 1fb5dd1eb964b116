import PyProof.Rows.All
import Wide.All
import OpenK.AllK
import Wide.FinOn
import HandS.ForMost
import HandS.IsInst
import HandS.Wide
import HandS.Style
import HandS.Defaults
import HandS.MakeKwOnly
import HandS.Zip
import PySem.Challenge.RW_breakerrow_k01_periods_by_sending_reques
set_option Elab.async false
set_option linter.all false
set_option maxRecDepth 100000
set_option maxHeartbeats 4000000
namespace Own
open PySem PySem.Spec PyProof.Rows L2
open Builtin

section
variable {X : Cx} {CX : CXT} {k : Nat} {f C : Addr} {fd : FuncData} {ps : List Str} {sp : Sp} {E : XK}

theorem rr {p : Addr} : L2.RelV (.ref p) (.ref p) := rfl
/-- a promise used under any frame below the body -/
theorem run_at {A : Around} {pins : List (Addr × Obj)} {σ : L2.St} {H : Hp} {s : Shared} {Q : VK} {us : List Value} {vs : List V} (F : FnOk X.prog X.w X.K X.mg X.base CX k f fd ps sp) (hr : Room k A) (hA : A.frames = X.A.frames)
    (hb : Binds X.K fd ps []) (hx : Passes CX X E) (I : Inv X pins σ H s) (r : Vals vs us) (h : sp vs H Q E) : wpAny (model X.prog X.w) A (call (.ref f) us) (EP X pins σ Q) X.xe s := by
  have hl : us.length = ps.length := by rw [← r.length]; exact F.len _ _ _ _ h
  have e0 : Env0 X.prog X.w X.K X.mg X.base A X.stack s H := by
    have e := I.env0
    exact ⟨by rw [hA]; exact e.frames, e.mod, e.bs, e.bsz, e.funs, e.frf, e.hok, e.bare⟩
  have hB : BindsTo s fd ⟨us, []⟩ (ps.zip us) := by
    have := hb s us I.kIn (by rw [List.append_nil]; exact hl)
    rwa [List.append_nil] at this
  refine wpAny_call (codeAny_mono (F.run A X.stack s H ⟨us, []⟩ us vs Q E hr e0 hB r h) fun r s' hq => ?_)
  cases r with
  | error e => exact hx pins σ H s e s' I hq
  | ok fl =>
    cases fl with
    | ret u => exact I.after hq
    | next => exact False.elim hq
    | brk => exact False.elim hq
    | cont => exact False.elim hq

theorem inst_of {pins : List (Addr × Obj)} {σ : L2.St} {H : Hp} {s : Shared} {p dx : Addr} {fs : List (Str × V)} (I : Inv X pins σ H s) (e : H p = some (.ins C dx fs)) : ∃ od, PySem.W.InstAt s.heap p (PySem.W.instObj C dx) C od := by
  obtain ⟨mA, O, _⟩ := ins_get I.hok e
  obtain ⟨od, J, _⟩ := O.look
  exact ⟨_, J⟩

/-- a bool is wanted of the method -/
def BlQ (Q : VK) (g : Bool → Bool) : VK := fun v H' => ∃ b, v = .bl b ∧ Q (.bl (g b)) H'
def rOwnIn (C : Addr) (sp : Sp) (E : XK) (g : Bool → Bool) : R2 := fun x y H Q => ∃ p dx fs, y = .ref p ∧ H p = some (.ins C dx fs) ∧ sp [.ref p, x] H (BlQ Q g) E
theorem op_own_in (F : FnOk X.prog X.w X.K X.mg X.base CX k f fd ps sp) (hr : Room k X.A) (hs : PySem.W.findIn X.K (.ref C) "__contains__" = some (some (.ref f))) (hf : PySem.W.isFn X.K (.ref f) = true) (hb : Binds X.K fd ps []) (hx : Passes CX X E) :
    OpR X (compareOp .In) (rOwnIn C sp E id) := by
  intro pins s σ H x y v u Q I rx ry h
  obtain ⟨p, dx, fs, rfl, hp, q⟩ := h
  cases ry
  obtain ⟨od, J⟩ := inst_of I hp
  obtain ⟨m, hF⟩ := I.fr
  refine PySem.W.in_K hF I.ok.mod.kin J hs hf (thn (run_at F hr rfl hb hx I (.cons rr (.cons rx .nil)) q) fun r s' hh => ?_)
  obtain ⟨z, H', I', rz, b, ez, q'⟩ := hh
  subst ez
  cases rz
  exact wpAny_truthy_bool ⟨.bl b, H', I', rfl, q'⟩
theorem op_own_notin (F : FnOk X.prog X.w X.K X.mg X.base CX k f fd ps sp) (hr : Room k X.A) (hs : PySem.W.findIn X.K (.ref C) "__contains__" = some (some (.ref f))) (hf : PySem.W.isFn X.K (.ref f) = true) (hb : Binds X.K fd ps []) (hx : Passes CX X E) :
    OpR X (compareOp .NotIn) (rOwnIn C sp E not) := by
  intro pins s σ H x y v u Q I rx ry h
  obtain ⟨p, dx, fs, rfl, hp, q⟩ := h
  cases ry
  obtain ⟨od, J⟩ := inst_of I hp
  obtain ⟨m, hF⟩ := I.fr
  refine PySem.W.notIn_K hF I.ok.mod.kin J hs hf (thn (run_at F hr rfl hb hx I (.cons rr (.cons rx .nil)) q) fun r s' hh => ?_)
  obtain ⟨z, H', I', rz, b, ez, q'⟩ := hh
  subst ez
  cases rz
  exact wpAny_truthy_bool ⟨.bl (!b), H', I', rfl, q'⟩
/-- len(o) -/
def rOwnLen (C : Addr) (sp : Sp) (E : XK) : List V → Hp → VK → Prop := fun xs H Q => ∃ p dx fs, xs = [.ref p] ∧ H p = some (.ins C dx fs) ∧ sp [.ref p] H (fun v H' => ∃ n : Int, v = .int n ∧ 0 ≤ n ∧ n < 2 ^ 63 ∧ Q (.int n) H') E
theorem call_own_len (F : FnOk X.prog X.w X.K X.mg X.base CX k f fd ps sp) (hr : Room (k + 1) X.A) (hs : PySem.W.findIn X.K (.ref C) "__len__" = some (some (.ref f))) (hf : PySem.W.isFn X.K (.ref f) = true) (hb : Binds X.K fd ps []) (hx : Passes CX X E) :
    CallR X (.builtin "len") (rOwnLen C sp E) := by
  intro pins s σ H xs us Q I r h
  obtain ⟨p, dx, fs, rfl, hp, q⟩ := h
  obtain ⟨u, rfl, ru⟩ := vals1 r
  cases ru
  obtain ⟨od, J⟩ := inst_of I hp
  obtain ⟨m, hF⟩ := I.fr
  refine PySem.W.len_K hF I.ok.mod.kin J hs hf (thn (run_at F hr.in1 rfl hb hx I (.cons rr .nil) q) fun r s' hh => ?_)
  obtain ⟨z, H', I', rz, n, ez, h0, h1, q'⟩ := hh
  subst ez
  obtain ⟨t, rfl⟩ := rz
  exact ⟨⟨h0, h1⟩, ⟨.int n, H', I'.tok _, ⟨_, rfl⟩, q'⟩⟩
/-- o + p, both of the class -/
def rOwnAdd (C : Addr) (sp : Sp) (E : XK) : R2 := fun x y H Q => ∃ p dx fs q dy gs, x = .ref p ∧ H p = some (.ins C dx fs) ∧ y = .ref q ∧ H q = some (.ins C dy gs) ∧ sp [.ref p, .ref q] H (fun v H' => (∃ a, v = .ref a) ∧ Q v H') E
theorem op_own_add (F : FnOk X.prog X.w X.K X.mg X.base CX k f fd ps sp) (hr : Room k X.A) (hc : PySem.W.selfFirst X.K C = true) (hs : PySem.W.findIn X.K (.ref C) "__add__" = some (some (.ref f))) (hf : PySem.W.isFn X.K (.ref f) = true) (hb : Binds X.K fd ps []) (hx : Passes CX X E) :
    OpR X (binaryOp .Add) (rOwnAdd C sp E) := by
  intro pins s σ H x y v u Q I rx ry h
  obtain ⟨p, dx, fs, q, dy, gs, rfl, hp, rfl, hq, hh⟩ := h
  cases rx
  cases ry
  obtain ⟨od, J⟩ := inst_of I hp
  obtain ⟨od', J'⟩ := inst_of I hq
  obtain ⟨m, hF⟩ := I.fr
  refine PySem.W.binop_K hF I.ok.mod.kin J J'.type hc hs hf (thn (run_at F hr rfl hb hx I (.cons rr (.cons rr .nil)) hh) fun r s' hh => ?_)
  obtain ⟨z, H', I', rz, ⟨a, ez⟩, q'⟩ := hh
  subst ez
  cases rz
  exact ⟨.ref a, H', I', rfl, q'⟩
/-- o[i] -/
def rOwnIx (C : Addr) (sp : Sp) (E : XK) : R2 := fun x y H Q => ∃ p dx fs, x = .ref p ∧ H p = some (.ins C dx fs) ∧ sp [.ref p, y] H Q E
theorem pe_own_ix {a b : Expr} {ta tb : TE} {pos : Pos} (F : FnOk X.prog X.w X.K X.mg X.base CX k f fd ps sp) (hr : Room (k + 1) X.A) (hs : PySem.W.findIn X.K (.ref C) "__getitem__" = some (some (.ref f))) (hfn : PySem.W.fnIn X.K f = true) (hf : PySem.W.isFn X.K (.ref f) = true)
    (hb : Binds X.K fd ps []) (hx : Passes CX X E) (ha : PE X a ta) (hb' : PE X b tb) (hsl : ∀ o i, subscripted b true o i = runValue (.builtin "lifetime.subscript" ⟨[o, i], []⟩) := by exact fun _ _ => rfl) :
    PE X (.Subscript a b pos) (tOp (rOwnIx C sp E) ta tb) := by
  refine ⟨fun pins s σ H Q I h => ?_⟩
  refine Subscript_ (binT ha hb' I h fun v u s2 x y H2 I2 rx ry q => ?_)
  obtain ⟨p, dx, fs, rfl, hp, q⟩ := q
  cases rx
  obtain ⟨od, J⟩ := inst_of I2 hp
  obtain ⟨m, hF⟩ := I2.fr
  exact PySem.W.sub_K hF I2.ok.mod.kin J hs hfn hf (run_at F hr.in1 rfl hb hx I2 (.cons rr (.cons ry .nil)) q) (hsl _ _)

/-! ### own == and the != that comes with it -/
theorem sub_ty {K : PySem.W.Frag} {C : Addr} {T : String} {l : List String} (e : fastBuiltinMro T = some (l.map Value.type)) : PySem.W.subIn K (.type T) (.ref C) = some false := by
  show (fastBuiltinMro T).map (·.contains (.ref C)) = some false
  rw [e]
  have : ∀ l : List String, (l.map Value.type).contains (Value.ref C) = false := by
    intro l
    induction l with
    | nil => rfl
    | cons a r ih =>
      rw [List.map_cons, List.contains_cons, ih]
      rfl
  rw [Option.map_some, this]
/-- a value's type, not one below the class C -/
inductive TyN (H : Hp) (C : Addr) : V → Value → Prop where
  | non : TyN H C .non (.type "NoneType")
  | bl (x : Bool) : TyN H C (.bl x) (.type "bool")
  | int (i : Int) : TyN H C (.int i) (.type "int")
  | str (x : Str) : TyN H C (.str x) (.type "str")
  | lst {a : Addr} {xs : List V} (e : H a = some (.lst xs)) : TyN H C (.ref a) (.type "list")
  | tup {a : Addr} {xs : List V} (e : H a = some (.tup xs)) : TyN H C (.ref a) (.type "tuple")
  | ins {a dx : Addr} {fs : List (Str × V)} (e : H a = some (.ins C dx fs)) : TyN H C (.ref a) (.ref C)
theorem TyN.notFirst {K : PySem.W.Frag} {H : Hp} {x : V} {t : Value} (h : TyN H C x t) : PySem.W.notFirst K C t = true := by
  cases h with
  | non => exact Bool.or_eq_true_iff.mpr (.inr (beq_iff_eq.mpr (sub_ty (l := ["NoneType", "object"]) (by decide +kernel))))
  | bl _ => exact Bool.or_eq_true_iff.mpr (.inr (beq_iff_eq.mpr (sub_ty (l := ["bool", "int", "object"]) (by decide +kernel))))
  | int _ => exact Bool.or_eq_true_iff.mpr (.inr (beq_iff_eq.mpr (sub_ty (l := ["int", "object"]) (by decide +kernel))))
  | str _ => exact Bool.or_eq_true_iff.mpr (.inr (beq_iff_eq.mpr (sub_ty (l := ["str", "object"]) (by decide +kernel))))
  | lst _ => exact Bool.or_eq_true_iff.mpr (.inr (beq_iff_eq.mpr (sub_ty (l := ["list", "object"]) (by decide +kernel))))
  | tup _ => exact Bool.or_eq_true_iff.mpr (.inr (beq_iff_eq.mpr (sub_ty (l := ["tuple", "object"]) (by decide +kernel))))
  | ins _ => exact Bool.or_eq_true_iff.mpr (.inl (by simp))
theorem looks_obj {M : Model} {h : Heap} {a : Addr} {o : Obj} (e : h.get? a = some o) : PySem.W.Looks M h (typeOf (.ref a)) o.cls := fun A Q E s kp q => PySem.wpAny_typeOf_ref (kp _ _ e) q
theorem TyN.looks {M : Model} {pins : List (Addr × Obj)} {σ : L2.St} {H : Hp} {s : Shared} {x : V} {u t : Value} (I : Inv X pins σ H s) (r : RelV x u) (h : TyN H C x t) : PySem.W.Looks M s.heap (typeOf u) t := by
  cases h with
  | non => cases r; exact PySem.W.Looks.of_pure rfl
  | bl _ => cases r; exact PySem.W.Looks.of_pure rfl
  | int _ => obtain ⟨_, rfl⟩ := r; exact PySem.W.Looks.of_pure rfl
  | str _ => obtain ⟨_, rfl⟩ := r; exact PySem.W.Looks.of_pure rfl
  | @lst a xs e =>
    cases r
    obtain ⟨_, _, n, _, h1⟩ := (show ObjOk X.prog X.w H s.heap a (.lst xs) from I.hok a _ e)
    exact looks_obj h1
  | @tup a xs e =>
    cases r
    obtain ⟨_, _, _, o, h1, h2, _⟩ := (show ObjOk X.prog X.w H s.heap a (.tup xs) from I.hok a _ e)
    have := looks_obj (M := M) h1
    rw [h2] at this
    exact this
  | ins e =>
    cases r
    obtain ⟨od, J⟩ := inst_of I e
    exact J.type
def rOwnEq (C : Addr) (sp : Sp) (E : XK) (g : Bool → Bool) : R2 := fun x y H Q => ∃ p dx fs t, x = .ref p ∧ H p = some (.ins C dx fs) ∧ TyN H C y t ∧ sp [.ref p, y] H (BlQ Q g) E
theorem op_own_eq (F : FnOk X.prog X.w X.K X.mg X.base CX k f fd ps sp) (hr : Room k X.A) (hs : PySem.W.findIn X.K (.ref C) "__eq__" = some (some (.ref f))) (hf : PySem.W.isFn X.K (.ref f) = true) (hb : Binds X.K fd ps []) (hx : Passes CX X E) :
    OpR X (compareOp .Eq) (rOwnEq C sp E id) := by
  intro pins s σ H x y v u Q I rx ry h
  obtain ⟨p, dx, fs, t, rfl, hp, ty, q⟩ := h
  cases rx
  obtain ⟨od, J⟩ := inst_of I hp
  obtain ⟨m, hF⟩ := I.fr
  show wpAny (model X.prog X.w) X.A (richCompare .Eq (.ref p) u) (EP X pins σ Q) X.xe s
  refine PySem.W.cmp_K (op := .Eq) hr.units0 hF I.ok.mod.kin J (ty.looks I ry) ty.notFirst hs hf (thn (run_at F hr rfl hb hx I (.cons rr (.cons ry .nil)) q) fun r s' hh => ?_)
  obtain ⟨z, H', I', rz, b, ez, q'⟩ := hh
  subst ez
  cases rz
  exact ⟨.bl b, H', I', rfl, q'⟩
section
variable {prog : Program} {w : World} {A : Around} {E' : Value → Shared → Prop} {s : Shared} {K : PySem.W.Frag} {x : Addr} {ox : Obj} {od : Option Obj} {b : Value}
theorem objNe_entry (hX : K.In s.heap) (I : PySem.W.InstAt s.heap x ox C od) (hs : PySem.W.findIn K (.ref C) "__eq__" = some (some (.ref f))) (hf : PySem.W.isFn K (.ref f) = true) (hu : A.units < cLine) {Q : Fin → Shared → Prop}
    (hcall : wpAny (model prog w) A (call (.ref f) [.ref x, b]) (fun v s' => ∃ k, v = .bool k ∧ Q (.done (.ret (.bool (!k)))) s') E' s) :
    wpAny (model prog w) A (Builtin.«object.__ne__» ⟨[.ref x, b], []⟩) Q E' s := by
  unfold Builtin.«object.__ne__»
  repeat (first
    | with_reducible refine wpAny_cRoomFor hu ?_
    | (refine wpAny_bind (m := callSpecialIfBound? (.ref x) (Str.ofString "__eq__") [b])
        (PySem.W.ifBound_K hX I hs hf (wpAny_mono hcall (fun r s' hr => by
          obtain ⟨k, rfl, hq⟩ := hr
          repeat (first | exact hq | exact wpAny_pure hq | exact wpAny_truthy_bool hq | (refine wpAny_bind (m := truthy (.bool _)) (wpAny_truthy_bool ?_)) | wp_step)) fun _ _ e => e)))
    | wp_step)
theorem call_objNe (hX : K.In s.heap) (I : PySem.W.InstAt s.heap x ox C od) (hm : PySem.W.mroIn K C (.type "object") = some true) (hs : PySem.W.findIn K (.ref C) "__eq__" = some (some (.ref f))) (hf : PySem.W.isFn K (.ref f) = true) (hu : A.units + 1 < cLine) {Q : Value → Shared → Prop}
    (hcall : wpAny (model prog w) A.in1 (call (.ref f) [.ref x, b]) (fun v s' => ∃ k, v = .bool k ∧ Q (.bool (!k)) s') E' s) :
    wpAny (model prog w) A (call (.builtin "object.__ne__") [.ref x, b]) Q E' s :=
  wpAny_call (codeAny_call_builtin PySem.F.cmp_object.ne.plain PySem.F.cmpEntry_ne (PySem.W.check_slot PySem.F.cmpKind_ne PySem.F.cmpSplit_ne (I.type.andThen (PySem.W.looks_mroIn hX hm)) (PySem.F.cmpArgs_ne _ _)
    (objNe_entry (A := A.in1) hX I hs hf hu (wpAny_mono hcall (fun v s' hv => by
      obtain ⟨k, e, hq⟩ := hv
      exact ⟨k, e, hq⟩) fun _ _ e => e))))
theorem ifBound_objNe {M : Model} {args : List Value} {Q : Option Value → Shared → Prop} (hX : K.In s.heap) (I : PySem.W.InstAt s.heap x ox C od) (hs : PySem.W.findIn K (.ref C) "__ne__" = some (some (.builtin "object.__ne__")))
    (h : wpAny M A (call (.builtin "object.__ne__") (.ref x :: args)) (fun v => Q (some v)) E' s) : wpAny M A (callSpecialIfBound? (.ref x) "__ne__" args) Q E' s := by
  simp only [callSpecialIfBound?, bindSpecialIfBound?]
  refine wpAny_holding (wpAny_bind (wpAny_bind (wpAny_bind (I.type.here ((PySem.W.looks_findIn hX hs).here ?_)))))
  refine wpAny_bind (wpAny_askSetting (wpAny_ite ?_))
  have fin : wpAny M A (call (.builtin "object.__ne__") ([.ref x] ++ args) >>= fun v => pure (some v)) Q E' s := wpAny_bind (wpAny_mono h (fun v s' h' => wpAny_pure h') fun _ _ h' => h')
  split
  · exact wpAny_bind (wpAny_of_eq (PySem.F.cmp_object.ne.bind _) (wpAny_pure (by exact fin)))
  · exact wpAny_tryCatch (wpAny_bind (wpAny_of_eq (PySem.F.cmp_object.ne.bind _) (wpAny_pure (by exact fin))))
theorem rc_ne {tb : Value} {Q : Value → Shared → Prop} (hu : A.units + 1 < cLine) (hX : K.In s.heap) (I : PySem.W.InstAt s.heap x ox C od) (hb : PySem.W.Looks (model prog w) s.heap (typeOf b) tb) (hn : PySem.W.notFirst K C tb = true)
    (hm : PySem.W.mroIn K C (.type "object") = some true) (hne : PySem.W.findIn K (.ref C) "__ne__" = some (some (.builtin "object.__ne__"))) (hs : PySem.W.findIn K (.ref C) "__eq__" = some (some (.ref f))) (hf : PySem.W.isFn K (.ref f) = true)
    (hcall : wpAny (model prog w) A.in1 (call (.ref f) [.ref x, b]) (fun v s' => ∃ k, v = .bool k ∧ Q (.bool (!k)) s') E' s) : wpAny (model prog w) A (richCompare .NotEq (.ref x) b) Q E' s := by
  have one : wpAny (model prog w) A (tryCompare (.ref x) "__ne__" b) (fun r s' => ∃ v, r = some v ∧ Q v s') E' s := by
    unfold tryCompare
    refine wpAny_bind (ifBound_objNe hX I hne (call_objNe hX I hm hs hf hu (wpAny_mono hcall (fun v s' hv => ?_) fun _ _ e => e)))
    obtain ⟨k, rfl, hq⟩ := hv
    exact ⟨k, rfl, wpAny_pure ⟨_, rfl, hq⟩⟩
  unfold richCompare
  simp only [oneThing_ref, cmpInfo_NotEq]
  refine wpAny_holding (wpAny_bind (wpAny_cRoomFor (Nat.lt_of_succ_lt hu) ?_))
  refine wpAny_bind (I.type.here (wpAny_bind (hb.here ?_)))
  split
  · rename_i q
    have e : PySem.W.subIn K tb (.ref C) = some false := by
      rcases Bool.or_eq_true_iff.mp hn with e | e
      · rw [beq_iff_eq.mp e] at q; simp at q
      · exact beq_iff_eq.mp e
    refine wpAny_bind ((PySem.W.looks_subIn hX e).here ?_)
    simp only [Bool.false_eq_true, if_false]
    refine wpAny_bind (wpAny_mono one (fun r s' z => ?_) fun _ _ e => e)
    obtain ⟨v, rfl, hq⟩ := z
    exact wpAny_pure hq
  · refine wpAny_bind (wpAny_pure ?_)
    simp only [Bool.false_eq_true, if_false]
    refine wpAny_bind (wpAny_mono one (fun r s' z => ?_) fun _ _ e => e)
    obtain ⟨v, rfl, hq⟩ := z
    exact wpAny_pure hq
end
theorem op_own_ne (F : FnOk X.prog X.w X.K X.mg X.base CX k f fd ps sp) (hr : Room (k + 1) X.A) (hm : PySem.W.mroIn X.K C (.type "object") = some true) (hne : PySem.W.findIn X.K (.ref C) "__ne__" = some (some (.builtin "object.__ne__")))
    (hs : PySem.W.findIn X.K (.ref C) "__eq__" = some (some (.ref f))) (hf : PySem.W.isFn X.K (.ref f) = true) (hb : Binds X.K fd ps []) (hx : Passes CX X E) :
    OpR X (compareOp .NotEq) (rOwnEq C sp E not) := by
  intro pins s σ H x y v u Q I rx ry h
  obtain ⟨p, dx, fs, t, rfl, hp, ty, q⟩ := h
  cases rx
  obtain ⟨od, J⟩ := inst_of I hp
  show wpAny (model X.prog X.w) X.A (richCompare .NotEq (.ref p) u) (EP X pins σ Q) X.xe s
  refine rc_ne (hu_of hr) I.kIn J (ty.looks I ry) ty.notFirst hm hne hs hf (thn (run_at F hr.in1 rfl hb hx I (.cons rr (.cons ry .nil)) q) fun r s' hh => ?_)
  obtain ⟨z, H', I', rz, b, ez, q'⟩ := hh
  subst ez
  cases rz
  exact ⟨b, rfl, .bl (!b), H', I', rfl, q'⟩
end
end Own

namespace Toy
open PySem L2 Own
/-! ### the text by places -/
def top (i : Nat) : Stmt := PySem.Challenge.pw_breakerrow_k01_periods_by_sending_reques.main.body.getD i (.Pass ⟨0, 0, 0, 0⟩)
abbrev st__wall : Stmt := top 0
abbrev st_InvalidRow_init : Stmt := inClass (top 3) 0
abbrev st_InvalidIndex_init : Stmt := inClass (top 4) 0
abbrev st_is_integer : Stmt := top 6
abbrev st_is_at_least : Stmt := top 7
abbrev st_is_within : Stmt := top 8
abbrev st_steps_to : Stmt := top 9
abbrev st_rounded_up : Stmt := top 10
abbrev st_Row_init : Stmt := inClass (top 15) 0
abbrev st_Row_breaker_list : Stmt := inClass (top 15) 1
abbrev st_Row_step_length : Stmt := inClass (top 15) 2
abbrev st_Row_phase_time : Stmt := inClass (top 15) 3
abbrev st_Row_len : Stmt := inClass (top 15) 4
abbrev st_Row_getitem : Stmt := inClass (top 15) 5
abbrev st_Row_iter : Stmt := inClass (top 15) 6
abbrev st_Row_contains : Stmt := inClass (top 15) 7
abbrev st_Row_add : Stmt := inClass (top 15) 8
abbrev st_Row_eq : Stmt := inClass (top 15) 9
abbrev st_is_breaker : Stmt := top 16
abbrev st_check_breakers : Stmt := top 17
abbrev st_check_step : Stmt := top 18
abbrev st_request_time : Stmt := top 19
abbrev st_periods : Stmt := top 20
abbrev st_row_period : Stmt := top 21
abbrev st__law_source_of : Stmt := top 23
abbrev st__law_next : Stmt := top 24
abbrev st__law_one : Stmt := top 25
abbrev st__law_cell_at : Stmt := top 26
abbrev st__law_specs : Stmt := top 27
abbrev st__law_send : Stmt := top 28
abbrev st__law_note : Stmt := top 29
abbrev st_law : Stmt := top 30
/-- a def of the top -/
structure Dfn (K : PySem.W.Frag) (mg : Str → Option Value) (x : Str) (st : Stmt) (f : Addr) (ps : List Str) : Prop where
  ex : ∃ fd, Fun K x x st f fd ∧ Binds K fd ps []
  g : mg x = some (.ref f)
structure Mth (K : PySem.W.Frag) (C : Addr) (m q : Str) (st : Stmt) (f : Addr) (ps : List Str) : Prop where
  ex : ∃ fd, Fun K m q st f fd ∧ Binds K fd ps []
  at_ : PySem.W.findIn K (.ref C) m = some (some (.ref f))
  fn : PySem.W.isFn K (.ref f) = true
  fk : PySem.W.fnIn K f = true
/-- a def that is called by its name, with its promise -/
structure Cal (P : Program) (w : World) (K : PySem.W.Frag) (mg : Str → Option Value) (base : Heap) (x : Str) (k : Nat) (f : Addr) (ps : List Str) (sp : Sp) : Prop where
  ex : ∃ fd, FnOk P w K mg base CX0 k f fd ps sp ∧ Binds K fd ps []
  g : mg x = some (.ref f)
  kp : PySem.W.keepIn K (.ref f) = true
theorem Dfn.cal {P : Program} {w : World} {K : PySem.W.Frag} {mg : Str → Option Value} {base : Heap} {x : Str} {st : Stmt} {f : Addr} {ps : List Str} {k : Nat} {sp : Sp} (D : Dfn K mg x st f ps) (h : ∀ fd, Fun K x x st f fd → FnOk P w K mg base CX0 k f fd ps sp) : Cal P w K mg base x k f ps sp := by
  obtain ⟨fd, F, b⟩ := D.ex
  exact ⟨⟨fd, h fd F, b⟩, D.g, F.kp⟩
theorem pe_c {X : Cx} {x : Str} {k : Nat} {f : Addr} {ps : List Str} {sp : Sp} {t : TA} {e : Expr} {es : List Expr} {p pos : Pos} (c : Cal X.prog X.w X.K X.mg X.base x k f ps sp) (hr : Room k X.A) (hg : Gl X x)
    (ha : PA X (e :: es) t) (hdb : (x == ("__debug__" : Str)) = false := by decide) (he : starEach (e :: es) X.env = (false, eval e X.env) :: starEach es X.env := by rfl) (hpl : (backTo pos (starEach es X.env)).any (·.1) = false := by rfl) :
    PE X (.Call (.Name x p) (e :: es) [] pos) (tCall sp [] E0 t) := by
  obtain ⟨fd, F, b⟩ := c.ex
  exact pe_call F hr hg c.g c.kp b .nil pass0 ha hdb he hpl
/-- a method with its promise -/
structure Met (P : Program) (w : World) (K : PySem.W.Frag) (mg : Str → Option Value) (base : Heap) (C : Addr) (m : Str) (k : Nat) (f : Addr) (ps : List Str) (sp : Sp) : Prop where
  ex : ∃ fd, FnOk P w K mg base CX0 k f fd ps sp ∧ Binds K fd ps []
  me : Meth K C m f
  fk : PySem.W.fnIn K f = true
theorem Mth.met {P : Program} {w : World} {K : PySem.W.Frag} {mg : Str → Option Value} {base : Heap} {C : Addr} {m q : Str} {st : Stmt} {f : Addr} {ps : List Str} {k : Nat} {sp : Sp} (D : Mth K C m q st f ps) (h : ∀ fd, Fun K m q st f fd → FnOk P w K mg base CX0 k f fd ps sp) : Met P w K mg base C m k f ps sp := by
  obtain ⟨fd, F, b⟩ := D.ex
  exact ⟨⟨fd, h fd F, b⟩, ⟨D.at_, D.fn, F.kp⟩, D.fk⟩

/-! ### values of plain kinds -/
inductive Kd (H : Hp) : V → String → Prop where
  | non : Kd H .non "NoneType"
  | bl (b : Bool) : Kd H (.bl b) "bool"
  | int (i : Int) : Kd H (.int i) "int"
  | str (x : Str) : Kd H (.str x) "str"
  | lst {a : Addr} {xs : List V} (e : H a = some (.lst xs)) : Kd H (.ref a) "list"
  | tup {a : Addr} {xs : List V} (e : H a = some (.tup xs)) : Kd H (.ref a) "tuple"
  | dK {a : Addr} {xs : List (Key × V)} (e : H a = some (.dK xs)) : Kd H (.ref a) "dict"
theorem Kd.ty {K : PySem.W.Frag} {H : Hp} {v : V} {n : String} (h : Kd H v n) : TyX K H v (.type n) := by
  cases h with
  | non => exact .base .non
  | bl b => exact .base (.bl b)
  | int i => exact .base (.int i)
  | str x => exact .base (.str x)
  | lst e => exact .base (.lst e)
  | tup e => exact .base (.tup e)
  | dK e => exact .base (.dK e)
def isI : V → Bool
  | .int _ => true
  | _ => false
def toI : V → Int
  | .int i => i
  | _ => 0
theorem Kd.kit {K : PySem.W.Frag} {H : Hp} {v : V} {n : String} (h : Kd H v n) (c : String) (b : Bool) (hc : c = "int" ∧ b = (n == "int" || n == "bool") ∨ c ≠ "int" ∧ c ∈ ["bool", "list", "tuple"] ∧ b = (n == c)) : PySem.W.kitOne K (.type n) (.type c) = some b := by
  rcases hc with ⟨rfl, rfl⟩ | ⟨_, hc, rfl⟩
  · cases h <;> exact kit_ty (by decide +kernel)
  · simp only [List.mem_cons, List.mem_nil_iff, or_false] at hc
    rcases hc with rfl | rfl | rfl <;> cases h <;> exact kit_ty (by decide +kernel)
theorem Kd.same {H H' : Hp} {v : V} {n : String} (h : Kd H v n) (s : ∀ b o, v = .ref b → H b = some o → H' b = some o) : Kd H' v n := by
  cases h with
  | non => exact .non
  | bl b => exact .bl b
  | int i => exact .int i
  | str x => exact .str x
  | lst e => exact .lst (s _ _ rfl e)
  | tup e => exact .tup (s _ _ rfl e)
  | dK e => exact .dK (s _ _ rfl e)
/-- all but what stands at a is kept -/
def Kp (a : Addr) (H H' : Hp) : Prop := ∀ b o, b ≠ a → H b = some o → H' b = some o
theorem Kp.refl {a : Addr} {H : Hp} : Kp a H H := fun _ _ _ h => h
theorem Kp.trans {a : Addr} {H H1 H2 : Hp} (h : Kp a H H1) (h' : Kp a H1 H2) : Kp a H H2 := fun b o n e => h' b o n (h b o n e)
theorem Kp.of {a : Addr} {H H' : Hp} (s : Same H H') : Kp a H H' := fun b o _ e => s b o e
theorem Kp.upd {a : Addr} {H : Hp} {o : HO} : Kp a H (upd H a o) := fun b _ n e => by rw [upd_ne n]; exact e
theorem Same.upd {H : Hp} {p : Addr} {o : HO} (h : H p = none) : Same H (L2.upd H p o) := fun b u e => by rw [upd_ne (ne_of_none e h)]; exact e
theorem Kp.free {a b : Addr} {H H' : Hp} {o : HO} (k : Kp a H H') (ha : H a = some o) (h : H' b = none) (n : b ≠ a) : H b = none := by
  cases q : H b with
  | none => rfl
  | some u => rw [k b u n q] at h; cases h

/-! ### the promises of the small defs -/
def spIsInt : Sp := fun vs H Q _ => ∃ v n, vs = [v] ∧ Kd H v n ∧ Q (.bl (isI v)) H
def spAtL : Sp := fun vs H Q _ => ∃ v n l, vs = [v, .int l] ∧ Kd H v n ∧ Q (.bl (isI v && decide (l ≤ toI v))) H
def spWithin : Sp := fun vs H Q _ => ∃ v n l m, vs = [v, .int l, .int m] ∧ Kd H v n ∧ Q (.bl (isI v && (decide (l ≤ toI v) && decide (toI v ≤ m)))) H
/-- how many steps -/
def stepsUp (d s : Int) : Int := if -(-d / s) > 0 then -(-d / s) else 0
def spSteps : Sp := fun vs H Q _ => ∃ d s, vs = [.int d, .int s] ∧ 0 < s ∧ s.natAbs.log2 < 9000 ∧ Q (.int (stepsUp d s)) H

/-- what the walk asks of the small defs -/
structure Tx0 (K : PySem.W.Frag) (mg : Str → Option Value) (aI aL aW aS : Addr) : Prop where
  isinstance : mg "isinstance" = none
  int : mg "int" = none
  bool : mg "bool" = none
  max : mg "max" = none
  dI : Dfn K mg "is_integer" st_is_integer aI ["value"]
  dL : Dfn K mg "is_at_least" st_is_at_least aL ["value", "least"]
  dW : Dfn K mg "is_within" st_is_within aW ["value", "least", "most"]
  dS : Dfn K mg "steps_to" st_steps_to aS ["distance", "step"]
section
variable {P : Program} {w : World} {K : PySem.W.Frag} {mg : Str → Option Value} {base : Heap} {aI aL aW aS : Addr}
theorem sc_isint : FnScope ["value"] ["value"] (defScope st_is_integer) := ⟨rfl, rfl, rfl, by decide +kernel, rfl, by decide +kernel, by decide +kernel⟩
theorem ok_isint (T : Tx0 K mg aI aL aW aS) : Cal P w K mg base "is_integer" 1 aI ["value"] spIsInt := T.dI.cal fun fd F => by
  refine F.ok sc_isint (fun vs H Q E h => ?_) (fun cdv A outer s H vs Q E hr h => ?_)
  · obtain ⟨v, n, rfl, _⟩ := h
    rfl
  · obtain ⟨v, n, rfl, hv, k⟩ := h
    refine ⟨_, pss_one (ps_ret (pe_and (pe_callB call_isi (by rfl) T.isinstance (by decide +kernel) (pa_cons (pv 0) (pa_cons (pe_bltn (by rfl) T.int (by decide +kernel : bootBuiltins "int" = some (.type "int")) (v := .ty "int") rfl) pa_nil)))
      (pe_one (pe_not (pe_callB call_isi (by rfl) T.isinstance (by decide +kernel) (pa_cons (pv 0) (pa_cons (pe_bltn (by rfl) T.bool (by decide +kernel : bootBuiltins "bool" = some (.type "bool")) (v := .ty "bool") rfl) pa_nil))))))), ?_⟩
    refine ⟨_, rfl, v, .ty "int", _, _, _, rfl, .ty "int", hv.ty, hv.kit "int" _ (.inl ⟨rfl, rfl⟩), _, rfl, ?_⟩
    refine ite2 (fun c => ?_) (fun c => ?_)
    · refine ⟨_, rfl, v, .ty "bool", _, _, _, rfl, .ty "bool", hv.ty, hv.kit "bool" _ (.inr ⟨by decide, by decide, rfl⟩), _, rfl, ?_⟩
      cases hv <;> first | exact k | (exact absurd c (by decide))
    · cases hv <;> first | exact k | (exact absurd (by decide) c)
theorem sc_atl : FnScope ["value", "least"] ["value", "least"] (defScope st_is_at_least) := ⟨rfl, rfl, rfl, by decide +kernel, rfl, by decide +kernel, by decide +kernel⟩
theorem ok_atl (T : Tx0 K mg aI aL aW aS) : Cal P w K mg base "is_at_least" 2 aL ["value", "least"] spAtL := T.dL.cal fun fd F => by
  have G : Cal P w K mg base "is_integer" 1 aI ["value"] spIsInt := ok_isint T
  refine F.ok sc_atl (fun vs H Q E h => ?_) (fun cdv A outer s H vs Q E hr h => ?_)
  · obtain ⟨v, n, l, rfl, _⟩ := h
    rfl
  · obtain ⟨v, n, l, rfl, hv, k⟩ := h
    refine ⟨_, pss_one (ps_ret (pe_and (pe_c G hr rfl (pa_cons (pv 0) pa_nil)) (pe_one (pe_cmpR op_ge (pv 0) (pv 1) (nomark _))))), ?_⟩
    refine ⟨_, rfl, v, n, rfl, hv, _, rfl, ?_⟩
    cases v with
    | int i => exact iteT ⟨_, rfl, _, rfl, _, _, rfl, rfl, k⟩
    | _ => exact iteF k
theorem sc_within : FnScope ["value", "least", "most"] ["value", "least", "most"] (defScope st_is_within) := ⟨rfl, rfl, rfl, by decide +kernel, rfl, by decide +kernel, by decide +kernel⟩
theorem ok_within (T : Tx0 K mg aI aL aW aS) : Cal P w K mg base "is_within" 2 aW ["value", "least", "most"] spWithin := T.dW.cal fun fd F => by
  have G : Cal P w K mg base "is_integer" 1 aI ["value"] spIsInt := ok_isint T
  refine F.ok sc_within (fun vs H Q E h => ?_) (fun cdv A outer s H vs Q E hr h => ?_)
  · obtain ⟨v, n, l, m, rfl, _⟩ := h
    rfl
  · obtain ⟨v, n, l, m, rfl, hv, k⟩ := h
    refine ⟨_, pss_one (ps_ret (pe_and (pe_c G hr rfl (pa_cons (pv 0) pa_nil)) (pe_one (pe_chain op_le op_le (pv 1) (pv 0) (pv 2))))), ?_⟩
    refine ⟨_, rfl, v, n, rfl, hv, _, rfl, ?_⟩
    cases v with
    | int i =>
      refine iteT ⟨_, rfl, _, rfl, _, _, rfl, rfl, _, rfl, ?_⟩
      refine ite2 (fun c => ?_) (fun c => ?_)
      · refine ⟨_, rfl, _, _, rfl, rfl, ?_⟩
        have c' : decide (l ≤ i) = true := c
        have k' : Q (.bl (decide (l ≤ i) && decide (i ≤ m))) H := k
        rw [c', Bool.true_and] at k'
        exact k'
      · have c' : decide (l ≤ i) = false := by simpa using c
        have k' : Q (.bl (decide (l ≤ i) && decide (i ≤ m))) H := k
        rw [c', Bool.false_and] at k'
        exact k'
    | _ => exact iteF k
theorem sc_steps : FnScope ["distance", "step"] ["distance", "step"] (defScope st_steps_to) := ⟨rfl, rfl, rfl, by decide +kernel, rfl, by decide +kernel, by decide +kernel⟩
theorem ok_steps (T : Tx0 K mg aI aL aW aS) : Cal P w K mg base "steps_to" 1 aS ["distance", "step"] spSteps := T.dS.cal fun fd F => by
  refine F.ok sc_steps (fun vs H Q E h => ?_) (fun cdv A outer s H vs Q E hr h => ?_)
  · obtain ⟨d, s, rfl, _⟩ := h
    rfl
  · obtain ⟨d, st, rfl, h0, h1, k⟩ := h
    refine ⟨_, pss_one (ps_ret (pe_callB (call_max2 rfl) (by rfl) T.max (by decide +kernel) (pa_cons pe_int (pa_cons (pe_un un_neg (pe_op op_fdivW (pe_un un_neg (pv 0)) (pv 1))) pa_nil)))), ?_⟩
    exact ⟨_, rfl, _, rfl, _, rfl, _, _, rfl, rfl, ⟨h0, h1⟩, _, rfl, _, _, rfl, k⟩
end
/-! ### the law's own draws -/
/-- a source of draws at a: at most n were drawn -/
def Src (H : Hp) (a : Addr) (n : Nat) : Prop := ∃ x y z : Int, H a = some (.lst [.int x, .int y, .int z]) ∧ 0 ≤ x ∧ 0 ≤ y ∧ y < 2147483647 ∧ 0 ≤ z ∧ z ≤ n
theorem Src.mono {H : Hp} {a : Addr} {n m : Nat} (h : Src H a n) (l : n ≤ m) : Src H a m := by
  obtain ⟨x, y, z, e, h1, h2, h3, h4, h5⟩ := h
  exact ⟨x, y, z, e, h1, h2, h3, h4, by omega⟩
theorem Src.same {H H' : Hp} {a : Addr} {n : Nat} (h : Src H a n) (s : Same H H') : Src H' a n := by
  obtain ⟨x, y, z, e, r⟩ := h
  exact ⟨x, y, z, s _ _ e, r⟩
theorem Src.has {H : Hp} {a : Addr} {n : Nat} (h : Src H a n) : ∃ xs, H a = some (.lst xs) := by
  obtain ⟨x, y, z, e, r⟩ := h
  exact ⟨_, e⟩
def spSrcOf : Sp := fun vs H Q _ => ∃ c, vs = [.int c] ∧ ∀ a H', H a = none → Same H H' → Src H' a 0 → Q (.ref a) H'
def spNext : Sp := fun vs H Q _ => ∃ (a : Addr) (m : Int) (n : Nat), vs = [.ref a, .int m] ∧ 0 < m ∧ m.natAbs < 2 ^ 200 ∧ Src H a n ∧ n ≤ 1000000 ∧ ∀ (r : Int) H', 0 ≤ r → r < m → Src H' a (n + 1) → Kp a H H' → Q (.int r) H'
def spOne : Sp := fun vs H Q _ => ∃ (a l : Addr) (xs : List V) (n : Nat), vs = [.ref a, .ref l] ∧ a ≠ l ∧ H l = some (.lst xs) ∧ 0 < xs.length ∧ xs.length ≤ 100000 ∧ Src H a n ∧ n ≤ 1000000 ∧ ∀ v H', v ∈ xs → Src H' a (n + 1) → Kp a H H' → Q v H'
def spCell (K : PySem.W.Frag) : Sp := fun vs H Q _ => ∃ (a : Addr) (ns : List Int) (k : Int), vs = [.ref a, .int k] ∧ SqL K H a (ns.map V.int) ∧ 0 ≤ k ∧ ∀ z, Q (.int z) H
structure Tx1 (K : PySem.W.Frag) (mg : Str → Option Value) (aO aN aE aC : Addr) : Prop where
  int : mg "int" = none
  len : mg "len" = none
  dO : Dfn K mg "_law_source_of" st__law_source_of aO ["_law_cell"]
  dN : Dfn K mg "_law_next" st__law_next aN ["_law_source", "_law_many"]
  dE : Dfn K mg "_law_one" st__law_one aE ["_law_source", "_law_options"]
  dC : Dfn K mg "_law_cell_at" st__law_cell_at aC ["_law_script", "_law_k"]
def primes : List V := [.int 2147483647, .int 2147483629, .int 2147483587, .int 2147483579, .int 2147483563, .int 2147483549, .int 2147483543]
theorem prime_at (i : Int) (h0 : 0 ≤ i) (h7 : i < 7) : ∃ p : Int, atI primes i = some (.int p) ∧ 0 < p ∧ p ≤ 2147483647 := by
  have : i = 0 ∨ i = 1 ∨ i = 2 ∨ i = 3 ∨ i = 4 ∨ i = 5 ∨ i = 6 := by omega
  rcases this with rfl | rfl | rfl | rfl | rfl | rfl | rfl <;> exact ⟨_, rfl, by decide, by decide⟩
theorem atI_of {α : Type} {xs : List α} {i : Int} (h0 : 0 ≤ i) (h1 : i < xs.length) : ∃ v, atI xs i = some v ∧ v ∈ xs := by
  have hj : i.toNat < xs.length := by omega
  refine ⟨xs[i.toNat], ?_, List.getElem_mem _⟩
  have e : ((i.toNat : Nat) : Int) = i := by omega
  have := atI_nat (xs := xs) (j := i.toNat) (v := xs[i.toNat]) (List.getElem?_eq_getElem hj)
  rwa [e] at this
section
variable {P : Program} {w : World} {K : PySem.W.Frag} {mg : Str → Option Value} {base : Heap} {aO aN aE aC : Addr}
theorem sc_srcof : FnScope ["_law_cell"] ["_law_cell"] (defScope st__law_source_of) := ⟨rfl, rfl, rfl, by decide +kernel, rfl, by decide +kernel, by decide +kernel⟩
theorem ok_srcof (T : Tx1 K mg aO aN aE aC) : Cal P w K mg base "_law_source_of" 1 aO ["_law_cell"] spSrcOf := T.dO.cal fun fd F => by
  refine F.ok sc_srcof (fun vs H Q E h => ?_) (fun cdv A outer s H vs Q E hr h => ?_)
  · obtain ⟨c, rfl, _⟩ := h
    rfl
  · obtain ⟨c, rfl, k⟩ := h
    refine ⟨_, pss_one (ps_ret (pe_lst (pa_cons (pe_op op_mul (pv 0) (pe_callTy call_int1 (by rfl) T.int (by decide +kernel) (pa_cons (pe_cmpR op_ge (pv 0) (pe_op op_pow pe_int pe_int) (nomark _)) pa_nil)))
      (pa_cons (pe_op op_mod (pe_callTy call_int1 (by rfl) T.int (by decide +kernel) (pa_cons (pv 0) pa_nil)) pe_int) (pa_cons pe_int pa_nil))))), ?_⟩
    refine ⟨_, rfl, _, rfl, _, _, rfl, rfl, ⟨by decide, by decide, by decide⟩, _, _, rfl, rfl, .inr ⟨_, rfl, _, _, rfl, rfl, ?_, ?_⟩⟩
    · refine .inr ?_
      split <;> decide
    · refine ⟨_, rfl, .inl ⟨_, rfl, _, _, rfl, rfl, (by show (0 : Int) < 2147483647; decide), ?_⟩⟩
      refine ⟨(by show 3 ≤ sizeLine; decide), fun l hl => ?_⟩
      refine k l _ hl (Same.upd hl) ⟨_, _, _, upd_same, ?_, Int.emod_nonneg _ (by decide), Int.emod_lt_of_pos _ (by decide), Int.le_refl _, Int.le_refl _⟩
      by_cases hc : (10 : Int) ^ (18 : Int).toNat ≤ c
      · rw [decide_eq_true hc, if_pos rfl, Int.mul_one]
        exact Int.le_trans (by decide) hc
      · rw [decide_eq_false hc, if_neg Bool.false_ne_true, Int.mul_zero]
        exact Int.le_refl _
theorem sc_next : FnScope ["_law_source", "_law_many", "_law_found", "_law_prime", "_law_figure"] ["_law_source", "_law_many"] (defScope st__law_next) := ⟨rfl, rfl, rfl, by decide +kernel, rfl, by decide +kernel, by decide +kernel⟩
theorem ok_next (T : Tx1 K mg aO aN aE aC) : Cal P w K mg base "_law_next" 1 aN ["_law_source", "_law_many"] spNext := T.dN.cal fun fd F => by
  refine F.ok sc_next (fun vs H Q E h => ?_) (fun cdv A outer s H vs Q E hr h => ?_)
  · obtain ⟨a, m, n, rfl, _⟩ := h
    rfl
  · obtain ⟨a, m, n, rfl, m0, m1, ⟨x, y, z, ha, x0, y0, y1, z0, z1⟩, hn, k⟩ := h
    have nd := sc_next.nd
    refine ⟨_, pss_cons (ps_if (pt_cmpR op_gt (pe_ix ix_list (pv 0) pe_int (fun _ _ => rfl)) pe_int (nomark _))
        (pss_cons (ps_set (i := 2) nd rfl (Or.inl rfl) (pe_op op_mod (pe_callTy call_int1 (by rfl) T.int (by decide +kernel) (pa_cons (pe_ix ix_list (pv 0) pe_int (fun _ _ => rfl)) pa_nil)) (pv 1)))
        (pss_cons (ps_asg (pe_op op_fdivW (pe_ix ix_list (pv 0) pe_int (fun _ _ => rfl)) (pv 1)) (pg_sub (pv 0) pe_int set_list))
        (pss_one (ps_ret (pv 2))))) pss_nil)
      (pss_cons (ps_asg (pe_op op_add (pe_ix ix_list (pv 0) pe_int (fun _ _ => rfl)) pe_int) (pg_sub (pv 0) pe_int set_list))
      (pss_cons (ps_set (i := 3) nd rfl (Or.inl rfl) (pe_ix ix_list (pe_lst (pa_cons pe_int (pa_cons pe_int (pa_cons pe_int (pa_cons pe_int (pa_cons pe_int (pa_cons pe_int (pa_cons pe_int pa_nil))))))))
          (pe_op op_mod (pe_callTy call_int1 (by rfl) T.int (by decide +kernel) (pa_cons (pe_ix ix_list (pv 0) pe_int (fun _ _ => rfl)) pa_nil)) pe_int) (fun _ _ => rfl)))
      (pss_cons (ps_set (i := 4) nd rfl (Or.inl rfl) (pe_op op_mod (pe_callTy call_int1 (by rfl) T.int (by decide +kernel) (pa_cons
          (pe_op op_pow (pe_op op_add (pe_op op_add (pe_ix ix_list (pv 0) pe_int (fun _ _ => rfl)) (pe_op op_mul pe_int (pe_ix ix_list (pv 0) pe_int (fun _ _ => rfl)))) pe_int) pe_int) pa_nil)) (pv 3)))
      (pss_cons (ps_set (i := 4) nd rfl (Or.inl rfl) (pe_op op_mod (pe_callTy call_int1 (by rfl) T.int (by decide +kernel) (pa_cons
          (pe_op op_mul (pe_op op_add (pv 4) (pe_ix ix_list (pv 0) pe_int (fun _ _ => rfl))) (pe_op op_add (pe_op op_fdiv (pv 4) pe_int) pe_int)) pa_nil)) (pv 3)))
      (pss_one (ps_ret (pe_op op_mod (pe_callTy call_int1 (by rfl) T.int (by decide +kernel) (pa_cons (pe_op op_fdiv (pv 4) pe_int) pa_nil)) (pv 1)))))))), ?_⟩
    refine ⟨_, rfl, _, _, _, _, rfl, rfl, SqL.of ha, rfl, _, _, rfl, rfl, _, rfl, ?_⟩
    refine ite2 (fun c => ?_) (fun c => ?_)
    · -- found = int(source[0]) % many; source[0] = source[0] // many; return found
      refine ⟨_, rfl, _, _, _, _, rfl, rfl, SqL.of ha, rfl, .inl ⟨_, rfl, _, rfl, _, _, rfl, rfl, m0, ?_⟩⟩
      refine ⟨_, rfl, _, _, _, _, rfl, rfl, SqL.of ha, rfl, _, rfl, _, _, rfl, rfl, wide_div m0 m1 (by decide) (by decide), ?_⟩
      refine ⟨_, rfl, _, _, _, 0, rfl, rfl, ha, rfl, ?_⟩
      refine ⟨_, rfl, ?_⟩
      refine k _ _ (Int.emod_nonneg _ (by omega)) (Int.emod_lt_of_pos _ m0) ⟨_, _, _, upd_same, Int.ediv_nonneg x0 (by omega), y0, y1, z0, by omega⟩ Kp.upd
    · -- the other way
      refine ⟨_, rfl, _, _, _, _, rfl, rfl, SqL.of ha, rfl, _, _, rfl, rfl, ?_⟩
      refine ⟨_, rfl, _, _, _, 2, rfl, rfl, ha, rfl, ?_⟩
      have ha2 : ∀ b o, b ≠ a → (upd (upd H a (.lst [.int x, .int y, .int (z + 1)])) b o) a = some (.lst [.int x, .int y, .int (z + 1)]) := fun b o n => by rw [upd_ne n.symm, upd_same]
      refine ⟨(by show 7 ≤ sizeLine; decide), fun l hl => ?_⟩
      have hla : l ≠ a := fun e => by
        subst e
        have : (upd H l (.lst [.int x, .int y, .int (z + 1)])) l = none := hl
        rw [upd_same] at this
        cases this
      have hA := ha2 l (.lst primes) hla
      refine ⟨_, rfl, _, _, _, _, rfl, rfl, SqL.of hA, rfl, .inl ⟨_, rfl, _, _, rfl, rfl, (by show (0 : Int) < 7; decide), ?_⟩⟩
      obtain ⟨p, hp, p0, p1⟩ := prime_at ((z + 1) % 7) (Int.emod_nonneg _ (by decide)) (Int.emod_lt_of_pos _ (by decide))
      refine ⟨l, primes, _, _, rfl, rfl, SqL.of upd_same, hp, ?_⟩
      -- figure
      refine ⟨_, rfl, _, _, _, _, rfl, rfl, SqL.of hA, rfl, _, rfl, _, _, _, _, rfl, rfl, SqL.of hA, rfl, _, _, rfl, rfl, .inl (by decide), _, _, rfl, rfl, _, _, rfl, rfl, _, _, rfl, rfl, ⟨by decide, by decide, ?_⟩, .inl ⟨_, rfl, _, rfl, _, _, rfl, rfl, p0, ?_⟩⟩
      · omega
      have f0 : 0 ≤ (y + 7919 * (z + 1) + 1) ^ (5 : Int).toNat % p := Int.emod_nonneg _ (by omega)
      have f1 : (y + 7919 * (z + 1) + 1) ^ (5 : Int).toNat % p < p := Int.emod_lt_of_pos _ p0
      refine ⟨_, rfl, _, rfl, _, _, _, _, rfl, rfl, SqL.of hA, rfl, _, _, rfl, rfl, _, rfl, _, _, rfl, rfl, ⟨by decide, by decide⟩, _, _, rfl, rfl, _, _, rfl, rfl, .inl ?_, .inl ⟨_, rfl, _, rfl, _, _, rfl, rfl, p0, ?_⟩⟩
      · omega
      refine ⟨_, rfl, _, _, rfl, rfl, ⟨by decide, by decide⟩, .inl ⟨_, rfl, _, rfl, _, _, rfl, rfl, m0, ?_⟩⟩
      refine k _ _ (Int.emod_nonneg _ (by omega)) (Int.emod_lt_of_pos _ m0) ⟨_, _, _, hA, x0, y0, y1, by omega, by omega⟩ (Kp.upd.trans (Kp.of (Same.upd hl)))
theorem sc_one : FnScope ["_law_source", "_law_options"] ["_law_source", "_law_options"] (defScope st__law_one) := ⟨rfl, rfl, rfl, by decide +kernel, rfl, by decide +kernel, by decide +kernel⟩
theorem ok_one (T : Tx1 K mg aO aN aE aC) : Cal P w K mg base "_law_one" 2 aE ["_law_source", "_law_options"] spOne := T.dE.cal fun fd F => by
  have G : Cal P w K mg base "_law_next" 1 aN ["_law_source", "_law_many"] spNext := ok_next T
  refine F.ok sc_one (fun vs H Q E h => ?_) (fun cdv A outer s H vs Q E hr h => ?_)
  · obtain ⟨a, l, xs, n, rfl, _⟩ := h
    rfl
  · obtain ⟨a, l, xs, n, rfl, hal, hl, x0, x1, hs, hn, k⟩ := h
    refine ⟨_, pss_one (ps_ret (pe_ix ix_list (pv 1) (pe_c G hr rfl (pa_cons (pv 0) (pa_cons (pe_callB call_len_seq (by rfl) T.len PySem.boot_len (pa_cons (pv 1) pa_nil)) pa_nil))) (fun _ _ => rfl))), ?_⟩
    refine ⟨_, rfl, _, rfl, _, rfl, l, xs, rfl, .inl (SqL.of hl), a, _, n, rfl, by omega, ?_, hs, hn, fun r H' r0 r1 hs' hk => ?_⟩
    · exact Nat.lt_of_le_of_lt (show ((xs.length : Int)).natAbs ≤ 100000 by omega) (by decide)
    · obtain ⟨v, hv, hm⟩ := atI_of (xs := xs) r0 r1
      exact ⟨l, xs, r, v, rfl, rfl, SqL.of (hk _ _ hal.symm hl), hv, k v H' hm hs' hk⟩
theorem sc_cellat : FnScope ["_law_script", "_law_k"] ["_law_script", "_law_k"] (defScope st__law_cell_at) := ⟨rfl, rfl, rfl, by decide +kernel, rfl, by decide +kernel, by decide +kernel⟩
theorem ok_cellat (T : Tx1 K mg aO aN aE aC) : Cal P w K mg base "_law_cell_at" 1 aC ["_law_script", "_law_k"] (spCell K) := T.dC.cal fun fd F => by
  refine F.ok sc_cellat (fun vs H Q E h => ?_) (fun cdv A outer s H vs Q E hr h => ?_)
  · obtain ⟨a, ns, z, rfl, _⟩ := h
    rfl
  · obtain ⟨a, ns, i, rfl, hS, i0, k⟩ := h
    refine ⟨_, pss_cons (ps_if (pt_cmpR op_lt (pv 1) (pe_callB call_len_seq (by rfl) T.len PySem.boot_len (pa_cons (pv 0) pa_nil)) (nomark _)) (pss_one (ps_ret (pe_ix ix_list (pv 0) (pv 1) (fun _ _ => rfl)))) pss_nil) (pss_one (ps_ret pe_int)), ?_⟩
    refine ⟨_, rfl, _, rfl, a, _, rfl, .inl hS, _, _, rfl, rfl, _, rfl, ?_⟩
    refine ite2 (fun c => ?_) (fun c => ?_)
    · have c' : i < ((ns.map V.int).length : Nat) := of_decide_eq_true c
      obtain ⟨v, hv, hm⟩ := atI_of (xs := ns.map V.int) i0 c'
      obtain ⟨z, _, rfl⟩ := List.mem_map.mp hm
      exact ⟨_, rfl, _, rfl, a, _, _, _, rfl, rfl, hS, hv, k z⟩
    · exact k 0
end
/-! ### breakers and rows -/
abbrev Tri := Int × Int × Int
def TriV (t : Tri) : List V := [.int t.1, .int t.2.1, .int t.2.2]
def BrAt (H : Hp) (x : V) (t : Tri) : Prop := ∃ a, x = .ref a ∧ H a = some (.tup (TriV t))
def OkT (t : Tri) : Prop := 1 ≤ t.1 ∧ t.1 ≤ 1000000000000 ∧ 1 ≤ t.2.1 ∧ t.2.1 ≤ 1000000000000000000000000000000 ∧ 1 ≤ t.2.2 ∧ t.2.2 ≤ 1000000000000
abbrev Brs (H : Hp) (xs : List V) (ts : List Tri) : Prop := Paired (BrAt H) xs ts
/-- what is no list is kept -/
def NL (H H' : Hp) : Prop := ∀ b o, H b = some o → (∀ xs, o ≠ .lst xs) → H' b = some o
theorem NL.refl {H : Hp} : NL H H := fun _ _ h _ => h
theorem NL.trans {H H1 H2 : Hp} (a : NL H H1) (b : NL H1 H2) : NL H H2 := fun c o h n => b c o (a c o h n) n
theorem NL.of {H H' : Hp} (s : Same H H') : NL H H' := fun b o e _ => s b o e
theorem Kp.nl {a : Addr} {H H' : Hp} {xs : List V} (k : Kp a H H') (h : H a = some (.lst xs)) : NL H H' := fun b o e n => k b o (fun z => by subst z; rw [h] at e; exact n xs (Option.some.inj e).symm) e
theorem NL.upd {H : Hp} {p : Addr} {xs : List V} {o : HO} (h : H p = some (.lst xs)) : NL H (L2.upd H p o) := Kp.nl Kp.upd h
theorem BrAt.nl {H H' : Hp} (k : NL H H') {x : V} {t : Tri} (h : BrAt H x t) : BrAt H' x t := by
  obtain ⟨a, e, h⟩ := h
  exact ⟨a, e, k _ _ h fun _ z => nomatch z⟩
theorem Brs.nl {H H' : Hp} (k : NL H H') {xs : List V} {ts : List Tri} (h : Brs H xs ts) : Brs H' xs ts := L2.Paired.mapP h fun _ _ z => z.nl k
theorem Brs.len {H : Hp} : ∀ {xs : List V} {ts : List Tri}, Brs H xs ts → xs.length = ts.length
  | _, _, .nil => rfl
  | _, _, .cons _ t => congrArg Nat.succ (Brs.len t)
theorem Brs.get {H : Hp} : ∀ {xs : List V} {ts : List Tri} {i : Nat} {x : V}, Brs H xs ts → xs[i]? = some x → ∃ t, ts[i]? = some t ∧ BrAt H x t
  | _, _, _, _, .nil, e => by simp at e
  | _, _, 0, _, .cons r _, e => by simp at e; subst e; exact ⟨_, rfl, r⟩
  | _, _, i + 1, x, .cons _ t, e => by
    obtain ⟨u, h1, h2⟩ := Brs.get (i := i) (x := x) t (by simpa using e)
    exact ⟨u, by simpa using h1, h2⟩
theorem Brs.app {H : Hp} : ∀ {xs ys : List V} {ts us : List Tri}, Brs H xs ts → Brs H ys us → Brs H (xs ++ ys) (ts ++ us)
  | _, _, _, _, .nil, s => s
  | _, _, _, _, .cons r t, s => .cons r (Brs.app t s)
theorem Brs.rev {H : Hp} : ∀ {xs : List V} {ts : List Tri}, Brs H xs ts → Brs H xs.reverse ts.reverse
  | _, _, .nil => .nil
  | _, _, .cons r t => by
    rw [List.reverse_cons, List.reverse_cons]
    exact Brs.app (Brs.rev t) (.cons r .nil)
theorem Brs.take {H : Hp} : ∀ {xs : List V} {ts : List Tri} (n : Nat), Brs H xs ts → Brs H (xs.take n) (ts.take n)
  | _, _, 0, _ => .nil
  | _, _, _ + 1, .nil => .nil
  | _, _, n + 1, .cons r t => .cons r (Brs.take n t)
theorem Brs.drop {H : Hp} : ∀ {xs : List V} {ts : List Tri} (n : Nat), Brs H xs ts → Brs H (xs.drop n) (ts.drop n)
  | _, _, 0, r => r
  | _, _, _ + 1, .nil => .nil
  | _, _, n + 1, .cons _ t => Brs.drop n t
/-! the attributes of a row, as __init__ stores them -/
theorem k1 : ¬ (("breakers" : Str) = "step") := by decide +kernel
theorem k2 : ¬ (("breakers" : Str) = "phase") := by decide +kernel
theorem k3 : ¬ (("step" : Str) = "phase") := by decide +kernel
def rowF (T : Addr) (st ph : Int) : List (Str × V) := putF "phase" (.int ph) (putF "step" (.int st) (putF "breakers" (.ref T) []))
theorem rowF_b (T : Addr) (st ph : Int) : (rowF T st ph).lookup ("breakers" : Str) = some (.ref T) := by
  unfold rowF
  rw [lookup_putF, if_neg k2, lookup_putF, if_neg k1, lookup_putF, if_pos rfl]
theorem rowF_s (T : Addr) (st ph : Int) : (rowF T st ph).lookup ("step" : Str) = some (.int st) := by
  unfold rowF
  rw [lookup_putF, if_neg k3, lookup_putF, if_pos rfl]
theorem rowF_p (T : Addr) (st ph : Int) : (rowF T st ph).lookup ("phase" : Str) = some (.int ph) := by
  unfold rowF
  rw [lookup_putF, if_pos rfl]
theorem rowF_no (T : Addr) (st ph : Int) {m : Str} (h1 : ¬ m = "phase") (h2 : ¬ m = "step") (h3 : ¬ m = "breakers") : (rowF T st ph).lookup m = none := by
  unfold rowF
  rw [lookup_putF, if_neg h1, lookup_putF, if_neg h2, lookup_putF, if_neg h3]
  all_goals rfl
theorem putF_len (f : Str) (v : V) (fs : List (Str × V)) {n : Nat} (h : fs.length ≤ n) : (putF f v fs).length ≤ n + 1 := Nat.le_trans (length_putF f v fs) (Nat.succ_le_succ h)
/-- a Row stands at p -/
structure RowAt (C : Addr) (H : Hp) (p T : Addr) (xs : List V) (ts : List Tri) (st ph : Int) : Prop where
  ob : ∃ dx, H p = some (.ins C dx (rowF T st ph))
  tp : H T = some (.tup xs)
  br : Brs H xs ts
  ok : ∀ t ∈ ts, OkT t
  ln : ts.length ≤ 12
  s0 : 1 ≤ st
  s1 : st ≤ 1000000000000000000000000000000
  p0 : 0 ≤ ph
  p1 : ph ≤ 1000000000000000000000000000000
theorem RowAt.nl {C : Addr} {H H' : Hp} {p T : Addr} {xs : List V} {ts : List Tri} {st ph : Int} (R : RowAt C H p T xs ts st ph) (k : NL H H') : RowAt C H' p T xs ts st ph := by
  obtain ⟨dx, h⟩ := R.ob
  exact ⟨⟨dx, k _ _ h fun _ z => nomatch z⟩, k _ _ R.tp fun _ z => (nomatch z), R.br.nl k, R.ok, R.ln, R.s0, R.s1, R.p0, R.p1⟩
/-- over enumerate(list) -/
theorem for_enum {K : PySem.W.Frag} {a : Addr} {xs : List V} {g : TG} {tb : TS} {D : Ends} {σ : L2.St} {H : Hp} (Pv : Nat → L2.St → Hp → Prop) (h0 : Pv 0 σ H) (hl : ∀ i σ H, i ≤ xs.length → Pv i σ H → SqL K H a xs)
    (hs : ∀ i x T σ H, xs[i]? = some x → Pv i σ H → H T = none → g (.ref T) σ (upd H T (.tup [.int (i : Nat), x])) fun σ2 H2 => tb { D with nx := Pv (i + 1), ct := Pv (i + 1), bk := D.nx } σ2 H2) (hd : ∀ σ H, Pv xs.length σ H → D.nx σ H) :
    ∃ W : Nat → Nat → L2.St → Hp → Prop, (∃ m, W 0 m σ H) ∧ ∀ i m σ H, W i m σ H →
      ((Ite K a).stop i H ∧ D.nx σ H) ∨ ((Ite K a).go i H ∧ ∃ N : L2.St → Hp → Prop, (∀ σ' H', N σ' H' → ∃ m', m' < m ∧ W (i + 1) m' σ' H') ∧ ∀ x H', (Ite K a).yld i H x H' → g x σ H' fun σ2 H2 => tb { D with nx := N, ct := N, bk := D.nx } σ2 H2) := by
  refine ⟨fun i m σ H => m = xs.length - i ∧ i ≤ xs.length ∧ Pv i σ H, ⟨xs.length, by simp, Nat.zero_le _, h0⟩, ?_⟩
  rintro i m σ H ⟨rfl, hi, p⟩
  have q := hl i σ H hi p
  by_cases hlt : i < xs.length
  · refine .inr ⟨⟨xs, xs[i], q, by simp [hlt]⟩, Pv (i + 1), fun σ' H' p' => ⟨xs.length - (i + 1), by omega, rfl, hlt, p'⟩, fun x H' y => ?_⟩
    obtain ⟨T, x', rfl, hT, rfl, hx⟩ := y
    exact hs i x' T σ H (hx xs q) p hT
  · have e : i = xs.length := by omega
    subst e
    exact .inl ⟨⟨xs, q, Nat.le_refl _⟩, hd σ H p⟩
theorem pe_callN0 {X : Cx} {CX : CXT} {k : Nat} {f : Addr} {fd : FuncData} {ps ks : List Str} {sp : Sp} {E : XK} {x : Str} {p pos : Pos} {kws : List Keyword} {tk : TA} {g : List Value → List Value → List Value} {gV : List V → List V → List V}
    (F : FnOk X.prog X.w X.K X.mg X.base CX k f fd ps sp) (hr : Room k X.A) (hg : Gl X x) (hm : X.mg x = some (.ref f)) (hk : PySem.W.keepIn X.K (.ref f) = true) (hb : KBn X.K fd ps 0 ks g gV) (hx : Passes CX X E) (hkw : PK X kws tk)
    (hall : (backToKw pos (keywordEach kws X.env)).all (·.1.isSome) = true := by rfl) (hks : (backToKw pos (keywordEach kws X.env)).filterMap (·.1) = ks := by rfl) (hdb : (x == ("__debug__" : Str)) = false := by decide)
    (hpl : ((backTo pos (starEach [] X.env)).any (·.1) || (backToKw pos (keywordEach kws X.env)).any (·.1.isNone)) = false := by rfl) :
    PE X (.Call (.Name x p) [] kws pos) (tCallN 0 ks.length sp gV E tNil tk) := by
  refine ⟨fun pins s σ H Q I h => ?_⟩
  refine wpAny_Call_Name_kw (ld_glob I hg hm ?_ hdb)
  refine PySem.W.callWith_KW0 (h₀ := X.base) I.ok.mod.kin hk hall ?_ hpl
  refine thn (hkw.run pos pins s σ H _ I h) fun ws s2 ⟨zs, H2, I2, rz, l1, l2, q2⟩ => ⟨I2.kIn, ?_⟩
  rw [hks]
  exact run_fnN F hr hb hx I2 .nil rz rfl l2 q2
theorem pe_gI {X : Cx} {x : Str} {i : Int} {t : Tok} {pos : Pos} (hm : X.mg x = some (.int i t)) (hg : Gl X x := by rfl) (hd : (x == ("__debug__" : Str)) = false := by decide) : PE X (.Name x pos) (tC (.int i)) := pe_glob hg hm ⟨t, rfl⟩ hd
/-! ### promises -/
def spIsBr : Sp := fun vs H Q _ => ∃ x t, vs = [x] ∧ BrAt H x t ∧ OkT t ∧ Q (.bl true) H
def spChk : Sp := fun vs H Q _ => ∃ a xs ts pt, vs = [.ref a, .str pt] ∧ H a = some (.lst xs) ∧ Brs H xs ts ∧ (∀ t ∈ ts, OkT t) ∧ ts.length ≤ 12 ∧ ∀ H', Same H H' → Q .non H'
def spStep : Sp := fun vs H Q _ => ∃ st : Int, vs = [.int st] ∧ 1 ≤ st ∧ st ≤ 1000000000000000000000000000000 ∧ Q .non H
def spInit (C : Addr) : Sp := fun vs H Q _ => ∃ p a st ph xs ts dx, vs = [.ref p, .ref a, .int st, .int ph] ∧ H p = some (.ins C dx []) ∧ H a = some (.lst xs) ∧ Brs H xs ts ∧ (∀ t ∈ ts, OkT t) ∧ ts.length ≤ 12 ∧
  (1 ≤ st ∧ st ≤ 1000000000000000000000000000000 ∧ 0 ≤ ph ∧ ph ≤ 1000000000000000000000000000000) ∧ ∀ T H', RowAt C H' p T xs ts st ph → Kp p H H' → Q .non H'
def spBl (C : Addr) : Sp := fun vs H Q _ => ∃ p T xs ts st ph, vs = [.ref p] ∧ RowAt C H p T xs ts st ph ∧ ∀ l H', H l = none → H' = upd H l (.lst xs) → Q (.ref l) H'
def spSt (C : Addr) : Sp := fun vs H Q _ => ∃ p T xs ts st ph, vs = [.ref p] ∧ RowAt C H p T xs ts st ph ∧ Q (.int st) H
def spPh (C : Addr) : Sp := fun vs H Q _ => ∃ p T xs ts st ph, vs = [.ref p] ∧ RowAt C H p T xs ts st ph ∧ Q (.int ph) H
def spLen (C : Addr) : Sp := fun vs H Q _ => ∃ p T xs ts st ph, vs = [.ref p] ∧ RowAt C H p T xs ts st ph ∧ Q (.int xs.length) H
def spGet (C : Addr) : Sp := fun vs H Q _ => ∃ p T xs ts st ph i x, vs = [.ref p, .int i] ∧ RowAt C H p T xs ts st ph ∧ 0 ≤ i ∧ atI xs i = some x ∧ i < xs.length ∧ Q x H
def spCon (C : Addr) : Sp := fun vs H Q _ => ∃ p T xs ts st ph x n, vs = [.ref p, x] ∧ RowAt C H p T xs ts st ph ∧ Kd H x n ∧ Q (.bl (isI x && (decide (ph ≤ toI x) && decide ((toI x - ph) % st = 0)))) H
def spRt (C : Addr) : Sp := fun vs H Q _ => ∃ p T xs ts st ph i, vs = [.ref p, .int i] ∧ RowAt C H p T xs ts st ph ∧ 0 ≤ i ∧ Int.natAbs i < 2 ^ 200 ∧ Q (.int (ph + i * st)) H
def spFr (C : Addr) : Sp := fun vs H Q _ => ∃ p T xs ts st ph i, vs = [.ref p, .int i] ∧ RowAt C H p T xs ts st ph ∧ 0 ≤ i ∧ Q (.int (stepsUp (i - ph) st)) H
structure Tx2 (K : PySem.W.Frag) (mg : Str → Option Value) (C aB aK aX : Addr) : Prop where
  list : mg "list" = none
  tuple : mg "tuple" = none
  len : mg "len" = none
  enumerate : mg "enumerate" = none
  cB : ∃ t, mg "MOST_BREAKERS" = some (.int 12 t)
  cC : ∃ t, mg "MOST_COUNT" = some (.int 1000000000000 t)
  cT : ∃ t, mg "MOST_TIME" = some (.int 1000000000000000000000000000000 t)
  cl : Cls K C
  nB : NoAttr K C "breakers"
  nS : NoAttr K C "step"
  nP : NoAttr K C "phase"
  dB : Dfn K mg "is_breaker" st_is_breaker aB ["value"]
  dK : Dfn K mg "check_breakers" st_check_breakers aK ["breakers", "part"]
  dKS : ∃ aU, Dfn K mg "check_step" st_check_step aU ["step"]
  dX : ∃ fd, Fun K "__init__" "Row.__init__" st_Row_init aX fd
section
variable {P : Program} {w : World} {K : PySem.W.Frag} {mg : Str → Option Value} {base : Heap} {aI aL aW aS C aB aK aX : Addr}
theorem sc_isbr : FnScope ["value", "failures", "wait", "successes"] ["value"] (defScope st_is_breaker) := ⟨rfl, rfl, rfl, by decide +kernel, rfl, by decide +kernel, by decide +kernel⟩
theorem ok_isbr (T : Tx0 K mg aI aL aW aS) (T2 : Tx2 K mg C aB aK aX) : Cal P w K mg base "is_breaker" 3 aB ["value"] spIsBr := T2.dB.cal fun fd F => by
  have G : Cal P w K mg base "is_within" 2 aW ["value", "least", "most"] spWithin := ok_within T
  obtain ⟨tC, cC⟩ := T2.cC
  obtain ⟨tT, cT⟩ := T2.cT
  have nd := sc_isbr.nd
  refine F.ok sc_isbr (fun vs H Q E h => ?_) (fun cdv A outer s H vs Q E hr h => ?_)
  · obtain ⟨x, t, rfl, _⟩ := h
    rfl
  · obtain ⟨x, t, rfl, ⟨a, rfl, ha⟩, ⟨h1, h2, h3, h4, h5, h6⟩, k⟩ := h
    refine ⟨_, pss_cons (ps_if (PW.pt (pw_or (pt_not (pt_val (pe_callB call_isi (by rfl) T.isinstance (by decide +kernel) (pa_cons (pv 0) (pa_cons (pe_bltn (by rfl) T2.tuple (by decide +kernel : bootBuiltins "tuple" = some (.type "tuple")) (v := .ty "tuple") rfl) pa_nil)))))
        (pw_or1 (pt_cmpR op_ne (pe_callB call_len_seq (by rfl) T2.len PySem.boot_len (pa_cons (pv 0) pa_nil)) pe_int (nomark _))))) (pss_one (ps_ret pe_bl)) pss_nil)
      (pss_cons (ps_asg (pv 0) (pg_tup rfl (pgs_cons (pg_name (i := 1) nd rfl (Or.inl rfl)) (pgs_cons (pg_name (i := 2) nd rfl (Or.inl rfl)) (pgs_cons (pg_name (i := 3) nd rfl (Or.inl rfl)) pgs_nil)))))
      (pss_one (ps_ret (pe_and (pe_c G hr rfl (pa_cons (pv 1) (pa_cons pe_int (pa_cons (pe_gI cC) pa_nil)))) (pe_and (pe_c G hr rfl (pa_cons (pv 2) (pa_cons pe_int (pa_cons (pe_gI cT) pa_nil)))) (pe_one (pe_c G hr rfl (pa_cons (pv 3) (pa_cons pe_int (pa_cons (pe_gI cC) pa_nil)))))))))), ?_⟩
    refine ⟨_, rfl, _, .ty "tuple", _, _, _, rfl, .ty "tuple", (Kd.tup ha).ty, (Kd.tup ha).kit "tuple" _ (.inr ⟨by decide, by decide, rfl⟩), _, rfl, iteF ?_⟩
    refine ⟨_, rfl, a, _, rfl, .inr (SqT.of ha), rfl, _, rfl, iteF ?_⟩
    refine ⟨_, rfl, a, _, rfl, SqT.of ha, rfl, _, _, rfl, _, _, rfl, _, _, rfl, rfl, ?_⟩
    refine ⟨_, rfl, _, _, _, _, rfl, .int _, _, rfl, ?_⟩
    have e1 : (decide ((1 : Int) ≤ t.1) && decide (t.1 ≤ 1000000000000)) = true := by rw [decide_eq_true h1, decide_eq_true h2]; rfl
    have e2 : (decide ((1 : Int) ≤ t.2.1) && decide (t.2.1 ≤ 1000000000000000000000000000000)) = true := by rw [decide_eq_true h3, decide_eq_true h4]; rfl
    have e3 : (decide ((1 : Int) ≤ t.2.2) && decide (t.2.2 ≤ 1000000000000)) = true := by rw [decide_eq_true h5, decide_eq_true h6]; rfl
    show if (decide ((1 : Int) ≤ t.1) && decide (t.1 ≤ 1000000000000)) = true then _ else _
    rw [e1]
    refine iteT ?_
    refine ⟨_, rfl, _, _, _, _, rfl, .int _, _, rfl, ?_⟩
    show if (decide ((1 : Int) ≤ t.2.1) && decide (t.2.1 ≤ 1000000000000000000000000000000)) = true then _ else _
    rw [e2]
    refine iteT ?_
    refine ⟨_, rfl, _, _, _, _, rfl, .int _, ?_⟩
    show Q (.bl (decide ((1 : Int) ≤ t.2.2) && decide (t.2.2 ≤ 1000000000000))) H
    rw [e3]
    exact k
theorem sc_chk : FnScope ["breakers", "part", "at", "breaker"] ["breakers", "part"] (defScope st_check_breakers) := ⟨rfl, rfl, rfl, by decide +kernel, rfl, by decide +kernel, by decide +kernel⟩
theorem ok_chk (T : Tx0 K mg aI aL aW aS) (T2 : Tx2 K mg C aB aK aX) : Cal P w K mg base "check_breakers" 4 aK ["breakers", "part"] spChk := T2.dK.cal fun fd F => by
  have G : Cal P w K mg base "is_breaker" 3 aB ["value"] spIsBr := ok_isbr T T2
  obtain ⟨tB, cB⟩ := T2.cB
  have nd := sc_chk.nd
  refine F.ok sc_chk (fun vs H Q E h => ?_) (fun cdv A outer s H vs Q E hr h => ?_)
  · obtain ⟨a, xs, ts, pt, rfl, _⟩ := h
    rfl
  · obtain ⟨a, xs, ts, pt, rfl, ha, hb, ho, hl, k⟩ := h
    refine ⟨_, pss_cons (ps_if (PW.pt (pw_or (pt_not (pt_val (pe_callB call_isi (by rfl) T.isinstance (by decide +kernel) (pa_cons (pv 0) (pa_cons (pe_bltn (by rfl) T2.list (by decide +kernel : bootBuiltins "list" = some (.type "list")) (v := .ty "list") rfl) pa_nil)))))
        (pw_or1 (pt_cmpR op_gt (pe_callB call_len_seq (by rfl) T2.len PySem.boot_len (pa_cons (pv 0) pa_nil)) (pe_gI cB) (nomark _))))) (pss_one ps_never) pss_nil)
      (pss_one (ps_for PassesOwn.never rfl (pi_enum (by rfl) T2.enumerate (pa_cons (pv 0) pa_nil)) (pg_tup rfl (pgs_cons (pg_name (i := 2) nd rfl (Or.inl rfl)) (pgs_cons (pg_name (i := 3) nd rfl (Or.inl rfl)) pgs_nil)))
        (pss_one (ps_if (pt_not (pt_val (pe_c G hr rfl (pa_cons (pv 3) pa_nil)))) (pss_one ps_never) pss_nil)))), ?_⟩
    refine ⟨_, rfl, _, .ty "list", _, _, _, rfl, .ty "list", (Kd.lst ha).ty, (Kd.lst ha).kit "list" _ (.inr ⟨by decide, by decide, rfl⟩), _, rfl, iteF ?_⟩
    refine ⟨_, rfl, a, _, rfl, .inl (SqL.of ha), _, _, rfl, rfl, _, rfl, ?_⟩
    have hn : ¬ ((12 : Int) < (xs.length : Nat)) := by rw [hb.len]; omega
    rw [decide_eq_false hn]
    refine iteF ?_
    refine ⟨_, rfl, a, xs, rfl, SqL.of ha, for_enum (K := K) (a := a) (xs := xs) (fun i σ H2 => ∃ u v : Option V, σ = [some (.ref a), some (.str pt), u, v] ∧ Same H H2) ⟨none, none, rfl, Same.refl H⟩ (fun i σ H2 _ ⟨_, _, _, s2⟩ => SqL.of (s2 _ _ ha)) ?_ ?_⟩
    · rintro i x T' σ H2 hx ⟨u, v, rfl, s2⟩ hT
      obtain ⟨t, ht, hbr⟩ := hb.get hx
      have s3 : Same H (upd H2 T' (.tup [.int (i : Nat), x])) := s2.trans (Same.upd hT)
      refine ⟨T', _, rfl, SqT.of upd_same, rfl, _, _, rfl, _, _, rfl, rfl, ?_⟩
      refine ⟨_, rfl, x, t, rfl, hbr.nl (NL.of s3), ho t (List.mem_of_getElem? ht), _, rfl, iteF ?_⟩
      exact ⟨_, _, rfl, s3⟩
    · rintro σ H2 ⟨u, v, rfl, s2⟩
      exact k H2 s2
theorem sc_kst : FnScope ["step"] ["step"] (defScope st_check_step) := ⟨rfl, rfl, rfl, by decide +kernel, rfl, by decide +kernel, by decide +kernel⟩
theorem ok_kst (T : Tx0 K mg aI aL aW aS) (T2 : Tx2 K mg C aB aK aX) {aU : Addr} (D : Dfn K mg "check_step" st_check_step aU ["step"]) : Cal P w K mg base "check_step" 3 aU ["step"] spStep := D.cal fun fd F => by
  have GW : Cal P w K mg base "is_within" 2 aW ["value", "least", "most"] spWithin := ok_within T
  obtain ⟨tT, cT⟩ := T2.cT
  refine F.ok sc_kst (fun vs H Q E h => ?_) (fun cdv A outer s H vs Q E hr h => ?_)
  · obtain ⟨st, rfl, _⟩ := h
    rfl
  · obtain ⟨st, rfl, b1, b2, k⟩ := h
    refine ⟨_, pss_one (ps_if (pt_not (pt_val (pe_c GW hr rfl (pa_cons (pv 0) (pa_cons pe_int (pa_cons (pe_gI cT) pa_nil)))))) (pss_one ps_never) pss_nil), ?_⟩
    have e1 : (decide ((1 : Int) ≤ st) && decide (st ≤ 1000000000000000000000000000000)) = true := by rw [decide_eq_true b1, decide_eq_true b2]; rfl
    refine ⟨_, rfl, _, _, _, _, rfl, .int _, _, rfl, ?_⟩
    show if (!(decide ((1 : Int) ≤ st) && decide (st ≤ 1000000000000000000000000000000))) = true then _ else _
    rw [e1]
    exact iteF k
theorem sc_init : FnScope ["self", "breakers", "step", "phase"] ["self", "breakers", "step", "phase"] (defScope st_Row_init) := ⟨rfl, rfl, rfl, by decide +kernel, rfl, by decide +kernel, by decide +kernel⟩
theorem ok_init (T : Tx0 K mg aI aL aW aS) (T2 : Tx2 K mg C aB aK aX) {fd : FuncData} (F : Fun K "__init__" "Row.__init__" st_Row_init aX fd) : FnOk P w K mg base CX0 5 aX fd ["self", "breakers", "step", "phase"] (spInit C) := by
  have G : Cal P w K mg base "check_breakers" 4 aK ["breakers", "part"] spChk := ok_chk T T2
  obtain ⟨aU, dKS⟩ := T2.dKS
  have GS : Cal P w K mg base "check_step" 3 aU ["step"] spStep := ok_kst T T2 dKS
  have GW : Cal P w K mg base "is_within" 2 aW ["value", "least", "most"] spWithin := ok_within T
  obtain ⟨tT, cT⟩ := T2.cT
  refine F.ok sc_init (fun vs H Q E h => ?_) (fun cdv A outer s H vs Q E hr h => ?_)
  · obtain ⟨p, a, st, ph, xs, ts, dx, rfl, _⟩ := h
    rfl
  · obtain ⟨p, a, st, ph, xs, ts, dx, rfl, hp, ha, hb, ho, hl, ⟨b1, b2, b3, b4⟩, k⟩ := h
    have hr2 : Room 2 _ := hr.mono (by decide)
    have hr3 : Room 3 _ := hr.mono (by decide)
    refine ⟨_, pss_cons (ps_expr (pe_c G hr rfl (pa_cons (pv 1) (pa_cons pe_str pa_nil))))
      (pss_cons (ps_expr (pe_c GS hr3 rfl (pa_cons (pv 2) pa_nil)))
      (pss_cons (ps_if (pt_not (pt_val (pe_c GW hr2 rfl (pa_cons (pv 3) (pa_cons pe_int (pa_cons (pe_gI cT) pa_nil)))))) (pss_one ps_never) pss_nil)
      (pss_cons (ps_fld (pv 0) (pe_callTy call_tuple_of (by rfl) T2.tuple (by decide +kernel) (pa_cons (pv 1) pa_nil)) rfl)
      (pss_cons (ps_fld (pv 0) (pv 2) rfl)
      (pss_one (ps_fld (pv 0) (pv 3) rfl)))))), ?_⟩
    refine ⟨_, rfl, a, xs, ts, _, rfl, ha, hb, ho, hl, fun H1 s1 => ?_⟩
    have e2 : (decide ((0 : Int) ≤ ph) && decide (ph ≤ 1000000000000000000000000000000)) = true := by rw [decide_eq_true b3, decide_eq_true b4]; rfl
    refine ⟨_, rfl, _, rfl, b1, b2, ?_⟩
    refine ⟨_, rfl, _, _, _, _, rfl, .int _, _, rfl, ?_⟩
    show if (!(decide ((0 : Int) ≤ ph) && decide (ph ≤ 1000000000000000000000000000000))) = true then _ else _
    rw [e2]
    refine iteF ?_
    have hp1 := s1 _ _ hp
    refine ⟨_, rfl, a, xs, rfl, .inl ⟨SqL.of (s1 _ _ ha), fun l hl' => ?_⟩⟩
    have npl : p ≠ l := ne_of_none hp1 hl'
    refine ⟨_, rfl, p, C, dx, [], rfl, (by rw [upd_ne npl]; exact hp1), T2.cl, T2.nB, (by show 0 < 1000; decide), ?_⟩
    refine ⟨_, rfl, _, rfl, p, C, dx, _, rfl, upd_same, T2.cl, T2.nS, Nat.lt_of_le_of_lt (putF_len _ _ [] (Nat.le_refl 0)) (by decide), ?_⟩
    refine ⟨_, rfl, _, rfl, p, C, dx, _, rfl, upd_same, T2.cl, T2.nP, Nat.lt_of_le_of_lt (putF_len _ _ _ (putF_len _ _ [] (Nat.le_refl 0))) (by decide), ?_⟩
    refine k l _ ⟨⟨dx, upd_same⟩, ?_, ?_, ho, hl, b1, b2, b3, b4⟩ ?_
    · rw [upd_ne npl.symm, upd_ne npl.symm, upd_ne npl.symm, upd_same]
    · refine L2.Paired.mapP hb fun x t ⟨b, e, h⟩ => ⟨b, e, ?_⟩
      have nbp : b ≠ p := ne_of h hp (by intro z; cases z)
      have h1 := s1 _ _ h
      rw [upd_ne nbp, upd_ne nbp, upd_ne nbp, upd_ne (ne_of_none h1 hl')]
      exact h1
    · intro b o n e
      have h1 := s1 _ _ e
      rw [upd_ne n, upd_ne n, upd_ne n, upd_ne (ne_of_none h1 hl')]
      exact h1
end
/-! ### rows made, added, compared -/
structure MkR (K : PySem.W.Frag) (mg : Str → Option Value) (C aX : Addr) : Prop where
  mkk : Mk K C aX
  g : mg "Row" = some (.ref C)
  ex : ∃ fd, FunD K "__init__" "Row.__init__" (defArgs st_Row_init) (defBody st_Row_init) (defScope st_Row_init) [] [("phase", .int 0)] aX fd
  cls : PySem.W.isClsIn K C = true
  ty : PySem.W.typeIn K (.ref C) = some (.type "type")
  oc : PySem.W.findIn K (.ref C) "__class__" = some (some (.builtin "object.__class__"))
  og : PySem.W.specialIn K (.builtin "object.__class__") "__get__" = some (some (.builtin "getset_descriptor.__get__"))
  ot : PySem.W.takesIn K (.builtin "object.__class__") = some true
  om : PySem.W.mroIn K C (.type "object") = some true
theorem MkR.kitT {K : PySem.W.Frag} {mg : Str → Option Value} {C aX : Addr} (M : MkR K mg C aX) {H : Hp} {v : V} {n : String} (h : Kd H v n) : PySem.W.kitOne K (.type n) (.ref C) = some false := by
  have e1 : ((PySem.W.clsIn K C).isSome && PySem.W.typeIn K (.ref C) == some (.type "type")) = true := by
    have h2 : (PySem.W.clsIn K C).isSome = true := M.cls
    rw [h2, M.ty] <;> rfl
  have e2 : PySem.W.subIn K (.type n) (.ref C) = some false := by
    cases h with
    | non => exact sub_ty (l := ["NoneType", "object"]) (by decide +kernel)
    | bl _ => exact sub_ty (l := ["bool", "int", "object"]) (by decide +kernel)
    | int _ => exact sub_ty (l := ["int", "object"]) (by decide +kernel)
    | str _ => exact sub_ty (l := ["str", "object"]) (by decide +kernel)
    | lst _ => exact sub_ty (l := ["list", "object"]) (by decide +kernel)
    | tup _ => exact sub_ty (l := ["tuple", "object"]) (by decide +kernel)
    | dK _ => exact sub_ty (l := ["dict", "object"]) (by decide +kernel)
  show (if (Value.type n == Value.ref C) = true then some true else PySem.W.kitCls K (.type n) (.ref C)) = some false
  rw [if_neg (by intro z; cases z)]
  show (if ((PySem.W.clsIn K C).isSome && PySem.W.typeIn K (.ref C) == some (.type "type")) = true then PySem.W.subIn K (.type n) (.ref C) else none) = some false
  rw [if_pos e1, e2]
theorem MkR.tyR {K : PySem.W.Frag} {mg : Str → Option Value} {C aX : Addr} (M : MkR K mg C aX) (cl : Cls K C) {H : Hp} {p dx : Addr} {fs : List (Str × V)} (h : H p = some (.ins C dx fs)) : TyX K H (.ref p) (.ref C) := .base (.ins h cl M.oc M.og M.ot M.om)
theorem MkR.fn {K : PySem.W.Frag} {mg : Str → Option Value} {C aX : Addr} (M : MkR K mg C aX) : ∃ fd, Fun K "__init__" "Row.__init__" st_Row_init aX fd ∧ FunD K "__init__" "Row.__init__" (defArgs st_Row_init) (defBody st_Row_init) (defScope st_Row_init) [] [("phase", .int 0)] aX fd := by
  obtain ⟨fd, F⟩ := M.ex
  refine ⟨fd, ?_, F⟩
  obtain ⟨oc, od, dV, kV, doc, pm, an, cdv, ct, osl, rfl, lk, hcd, hD, hK⟩ := F.ex
  rcases hD with ⟨_, rfl⟩ | ⟨e, _⟩
  · exact ⟨⟨oc, od, kV, doc, pm, an, cdv, ct, osl, rfl, lk, hcd⟩, F.kp⟩
  · exact absurd rfl e
theorem row_made {C : Addr} {H : Hp} {Q : Addr → Hp → Prop} {a : Addr} {st ph : Int} {xs : List V} {ts : List Tri} (ha : H a = some (.lst xs)) (hb : Brs H xs ts) (ho : ∀ t ∈ ts, OkT t) (hl : ts.length ≤ 12)
    (bd : 1 ≤ st ∧ st ≤ 1000000000000000000000000000000 ∧ 0 ≤ ph ∧ ph ≤ 1000000000000000000000000000000) (k : ∀ p T H', RowAt C H' p T xs ts st ph → Same H H' → H p = none → Q p H') :
    ∀ x dx, H x = none → H dx = none → dx ≠ x → spInit C [.ref x, .ref a, .int st, .int ph] (upd (upd H dx (.own x)) x (.ins C dx [])) (fun v H3 => v = .non ∧ Q x H3) E0 := by
  intro x dx hx hd hne
  have s0 : Same H (upd (upd H dx (.own x)) x (.ins C dx [])) := fun b o e => by
    rw [upd_ne (ne_of_none e hx), upd_ne (ne_of_none e hd)]
    exact e
  refine ⟨x, a, st, ph, xs, ts, dx, rfl, upd_same, s0 _ _ ha, hb.nl (NL.of s0), ho, hl, bd, fun T H' R kp => ⟨rfl, k x T H' R (fun b o e => kp b o (ne_of_none e hx) (s0 b o e)) hx⟩⟩
abbrev g3 {α : Type} (us ws : List α) : List α := us ++ ws
section
variable {X : Cx} {aI aL aW aS C aB aK aX : Addr}
theorem row_b1 {K : PySem.W.Frag} {mg : Str → Option Value} (M : MkR K mg C aX) : ∃ fd, Fun K "__init__" "Row.__init__" st_Row_init aX fd ∧ KBn K fd ["self", "breakers", "step", "phase"] 3 ["phase"] (fun us ws => us ++ ws) (fun us ws => us ++ ws) := by
  obtain ⟨fd, F, FD⟩ := M.fn
  obtain ⟨mv, h⟩ := FD.kbinds0 (ps := ["self", "breakers", "step", "phase"]) 3 ["phase"] [] (fun us _ ws => us ++ ws) (by simp) (by simp) (fun r1 _ r3 => r1.append r3) (fun D doc pm an cdv ct us mv ws h1 h2 h3 => by
    match us, h1, ws, h3, mv, h2 with
    | [_, _, _], _, [_], _, [], _ => rfl)
  exact ⟨fd, F, h⟩
theorem row_b3 {K : PySem.W.Frag} {mg : Str → Option Value} (M : MkR K mg C aX) : ∃ fd, Fun K "__init__" "Row.__init__" st_Row_init aX fd ∧ KBn K fd ["self", "breakers", "step", "phase"] 1 ["phase", "step", "breakers"] (fun us ws => us ++ ws.reverse) (fun us ws => us ++ ws.reverse) := by
  obtain ⟨fd, F, FD⟩ := M.fn
  have rv : ∀ {vs : List V} {us : List Value}, Vals vs us → Vals vs.reverse us.reverse := by
    intro vs us r
    induction r with
    | nil => exact .nil
    | cons h t ih =>
      rw [List.reverse_cons, List.reverse_cons]
      exact ih.append (.cons h .nil)
  obtain ⟨mv, h⟩ := FD.kbinds0 (ps := ["self", "breakers", "step", "phase"]) 1 ["phase", "step", "breakers"] [] (fun us _ ws => us ++ ws.reverse) (by simp) (by simp) (fun r1 _ r3 => r1.append (rv r3)) (fun D doc pm an cdv ct us mv ws h1 h2 h3 => by
    match us, h1, ws, h3, mv, h2 with
    | [_], _, [_, _, _], _, [], _ => rfl)
  exact ⟨fd, F, h⟩
theorem row_b2 {K : PySem.W.Frag} {mg : Str → Option Value} (M : MkR K mg C aX) : ∃ fd ds, Fun K "__init__" "Row.__init__" st_Row_init aX fd ∧ Vals [.int 0] ds ∧ Binds K fd ["self", "breakers", "step", "phase"] ds := by
  obtain ⟨fd, F, FD⟩ := M.fn
  obtain ⟨ds, h1, h2⟩ := FD.binds0 (ps := ["self", "breakers", "step", "phase"]) 3 (by simp) rfl (fun D doc pm an cdv ct us ks h1 h2 => by
    match us, h1, ks, h2 with
    | [_, _, _], _, [_], _ => exact ⟨_, _, _, _, _, _, rfl, rfl, rfl⟩)
  exact ⟨fd, ds, F, h1, h2⟩
/-- Row(e, s, phase=f) -/
theorem pe_row1 (T : Tx0 X.K X.mg aI aL aW aS) (T2 : Tx2 X.K X.mg C aB aK aX) (M : MkR X.K X.mg C aX) (hr : Room 6 X.A) {p pos : Pos} {e e2 : Expr} {kws : List Keyword} {t tk : TA} (hg : Gl X "Row") (ha : PA X [e, e2] t) (hkw : PK X kws tk)
    (hall : (backToKw pos (keywordEach kws X.env)).all (·.1.isSome) = true := by rfl) (hks : (backToKw pos (keywordEach kws X.env)).filterMap (·.1) = (["phase"] : List Str) := by rfl)
    (he : starEach (e :: [e2]) X.env = (false, eval e X.env) :: starEach [e2] X.env := by rfl) (hpl : ((backTo pos (starEach (e :: [e2]) X.env)).any (·.1) || (backToKw pos (keywordEach kws X.env)).any (·.1.isNone)) = false := by rfl) :
    PE X (.Call (.Name "Row" p) (e :: [e2]) kws pos) (tMakeK C 2 1 (spInit C) (fun us ws => us ++ ws) E0 t tk) := by
  obtain ⟨fd, F, b⟩ := row_b1 M
  exact pe_makeK M.mkk (ok_init T T2 F) hr hg M.g b pass0 ha hkw hall hks (by decide) he hpl
/-- Row(phase=.., step=.., breakers=..) -/
theorem pe_row3 (T : Tx0 X.K X.mg aI aL aW aS) (T2 : Tx2 X.K X.mg C aB aK aX) (M : MkR X.K X.mg C aX) (hr : Room 6 X.A) {p pos : Pos} {kws : List Keyword} {tk : TA} (hg : Gl X "Row") (hkw : PK X kws tk)
    (hall : (backToKw pos (keywordEach kws X.env)).all (·.1.isSome) = true := by rfl) (hks : (backToKw pos (keywordEach kws X.env)).filterMap (·.1) = (["phase", "step", "breakers"] : List Str) := by rfl)
    (hpl : ((backTo pos (starEach [] X.env)).any (·.1) || (backToKw pos (keywordEach kws X.env)).any (·.1.isNone)) = false := by rfl) :
    PE X (.Call (.Name "Row" p) [] kws pos) (tMakeK C 0 3 (spInit C) (fun us ws => us ++ ws.reverse) E0 tNil tk) := by
  obtain ⟨fd, F, b⟩ := row_b3 M
  exact pe_makeK0 M.mkk (ok_init T T2 F) hr hg M.g b pass0 hkw hall hks (by decide) hpl
/-- Row(e, s) -/
theorem pe_row2 (T : Tx0 X.K X.mg aI aL aW aS) (T2 : Tx2 X.K X.mg C aB aK aX) (M : MkR X.K X.mg C aX) (hr : Room 6 X.A) {p pos : Pos} {e e2 : Expr} {t : TA} (hg : Gl X "Row") (ha : PA X [e, e2] t)
    (he : starEach (e :: [e2]) X.env = (false, eval e X.env) :: starEach [e2] X.env := by rfl) (hpl : (backTo pos (starEach [e2] X.env)).any (·.1) = false := by rfl) :
    PE X (.Call (.Name "Row" p) (e :: [e2]) [] pos) (tMake C (spInit C) [.int 0] E0 t) := by
  obtain ⟨fd, ds, F, hv, b⟩ := row_b2 M
  exact pe_make M.mkk (ok_init T T2 F) hr hg M.g b hv pass0 ha (by decide) he hpl
end
structure Tx3 (K : PySem.W.Frag) (mg : Str → Option Value) (C aR : Addr) : Prop where
  dR : Dfn K mg "request_time" st_request_time aR ["row", "number"]
section
variable {P : Program} {w : World} {K : PySem.W.Frag} {mg : Str → Option Value} {base : Heap} {aI aL aW aS C aB aK aX aR : Addr}
theorem sc_rt : FnScope ["row", "number"] ["row", "number"] (defScope st_request_time) := ⟨rfl, rfl, rfl, by decide +kernel, rfl, by decide +kernel, by decide +kernel⟩
theorem wide200 {i j : Int} (h1 : i.natAbs < 2 ^ 200) (h2 : j.natAbs < 2 ^ 200) : CMulW i j := wide_mul h1 h2 (by decide) (by decide) (by decide)
theorem lt200 {i : Int} (h0 : 0 ≤ i) (h : i ≤ 1000000000000000000000000000000) : i.natAbs < 2 ^ 200 := Nat.lt_of_le_of_lt (show i.natAbs ≤ 1000000000000000000000000000000 by omega) (by decide)
theorem log200 {i : Int} (h0 : 1 ≤ i) (h : i ≤ 1000000000000000000000000000000) : i.natAbs.log2 < 9000 := (wide_div (by omega : 0 < i) (lt200 (by omega) h) (by decide) (by decide) (i := 0)).2
theorem fn_rt (T : Tx0 K mg aI aL aW aS) (T2 : Tx2 K mg C aB aK aX) (T3 : Tx3 K mg C aR) {fd : FuncData} (F : Fun K "request_time" "request_time" st_request_time aR fd) : FnOk P w K mg base CX0 3 aR fd ["row", "number"] (spRt C) := by
  have GL : Cal P w K mg base "is_at_least" 2 aL ["value", "least"] spAtL := ok_atl T
  refine F.ok sc_rt (fun vs H Q E h => ?_) (fun cdv A outer s H vs Q E hr h => ?_)
  · obtain ⟨p, T, xs, ts, st, ph, i, rfl, _⟩ := h
    rfl
  · obtain ⟨p, T, xs, ts, st, ph, i, rfl, R, i0, i1, k⟩ := h
    obtain ⟨dx, hp⟩ := R.ob
    have s0 := R.s0
    refine ⟨_, pss_cons (ps_if (pt_not (pt_val (pe_c GL hr rfl (pa_cons (pv 1) (pa_cons pe_int pa_nil))))) (pss_one ps_never) pss_nil)
      (pss_one (ps_ret (pe_op op_add (pe_fld (pv 0) rfl) (pe_op op_mulW (pv 1) (pe_fld (pv 0) rfl))))), ?_⟩
    refine ⟨_, rfl, _, _, _, rfl, .int _, _, rfl, ?_⟩
    show if (!(decide ((0 : Int) ≤ i))) = true then _ else _
    rw [decide_eq_true i0]
    refine iteF ?_
    exact ⟨_, rfl, p, C, dx, _, _, rfl, hp, T2.cl, T2.nP, rowF_p _ _ _, _, rfl, _, rfl, p, C, dx, _, _, rfl, hp, T2.cl, T2.nS, rowF_s _ _ _, _, _, rfl, rfl, wide200 i1 (lt200 (by omega) R.s1), _, _, rfl, rfl, k⟩
theorem ok_rt (T : Tx0 K mg aI aL aW aS) (T2 : Tx2 K mg C aB aK aX) (T3 : Tx3 K mg C aR) : Cal P w K mg base "request_time" 3 aR ["row", "number"] (spRt C) := T3.dR.cal fun fd F => fn_rt T T2 T3 F
end
/-! ### draws, and the breakers drawn -/
theorem draw_gen {P : Program} {w : World} {mg : Str → Option Value} {aO aN aE aC : Addr} {t : TA} {σ : L2.St} {H : Hp} {Q : VK} {a : Addr} {n : Nat} {ns : List Int} {hi : Int} {j : Nat} (σ0 : σ[j]? = some (some (.ref a))) (hs : Src H a n) (hn : n ≤ 999000) (ht : ∀ R : List V → Hp → Prop, R (ns.map V.int) H → t σ H R)
    (h0 : 0 < ns.length) (h1 : ns.length ≤ 1000) (hb : ∀ m ∈ ns, 0 < m ∧ m ≤ hi) (hh : hi.natAbs < 2 ^ 200) (k : ∀ (r : Int) H', 0 ≤ r → r < hi → (∃ m ∈ ns, r < m) → Src H' a (n + 2) → Kp a H H' → Q (.int r) H') :
    tCall spNext [] E0 (tCons (tVar j) (tCons (tCall spOne [] E0 (tCons (tVar j) (tCons (tLst t) tNil))) tNil)) σ H Q := by
  obtain ⟨ys, hy⟩ := hs.has
  refine ⟨_, σ0, _, σ0, ht _ ⟨(by rw [List.length_map]; exact Nat.le_trans h1 (by decide)), fun l hl => ?_⟩⟩
  have hal : a ≠ l := ne_of_none hy hl
  refine ⟨a, l, ns.map V.int, n, rfl, hal, upd_same, (by rw [List.length_map]; exact h0), (by rw [List.length_map]; omega), hs.same (Same.upd hl), by omega, fun v H1 hv hs1 k1 => ?_⟩
  obtain ⟨m, hm, rfl⟩ := List.mem_map.mp hv
  obtain ⟨m0, m1⟩ := hb m hm
  refine ⟨a, m, n + 1, rfl, m0, Nat.lt_of_le_of_lt (show m.natAbs ≤ hi.natAbs by omega) hh, hs1, by omega, fun r H2 r0 r1 hs2 k2 => ?_⟩
  exact k r H2 r0 (by omega) ⟨m, hm, r1⟩ hs2 ((Kp.of (Same.upd hl)).trans (k1.trans k2))
def OkW (W M : Int) (t : Tri) : Prop := 1 ≤ t.1 ∧ t.1 ≤ M ∧ 1 ≤ t.2.1 ∧ t.2.1 ≤ W ∧ 1 ≤ t.2.2 ∧ t.2.2 ≤ M
def spSpecs : Sp := fun vs H Q _ => ∃ (a : Addr) (mo W M : Int) (n : Nat), vs = [.ref a, .int mo, .int W, .int M] ∧ 0 ≤ mo ∧ mo ≤ 100 ∧ 3 ≤ W ∧ W ≤ 1000000000000000000000000000000 ∧ 2 ≤ M ∧ M ≤ 1000000000000 ∧ Src H a n ∧ n ≤ 900000 ∧
  ∀ l xs ts H', H' l = some (.lst xs) → Brs H' xs ts → (∀ t ∈ ts, OkW W M t) → (ts.length : Int) ≤ mo → Src H' a (n + 1000) → Kp a H H' → H l = none → Q (.ref l) H'
structure Tx4 (K : PySem.W.Frag) (mg : Str → Option Value) (aP : Addr) : Prop where
  range : mg "range" = none
  dP : Dfn K mg "_law_specs" st__law_specs aP ["_law_source", "_law_most", "_law_wide", "_law_many"]
section
variable {P : Program} {w : World} {K : PySem.W.Frag} {mg : Str → Option Value} {base : Heap} {aO aN aE aC aP : Addr}
theorem sc_specs : FnScope ["_law_source", "_law_most", "_law_wide", "_law_many", "_law_found", "_law_k", "_law_wait", "_law_fails"] ["_law_source", "_law_most", "_law_wide", "_law_many"] (defScope st__law_specs) := ⟨rfl, rfl, rfl, by decide +kernel, rfl, by decide +kernel, by decide +kernel⟩
theorem ok_specs (T : Tx1 K mg aO aN aE aC) (T4 : Tx4 K mg aP) : Cal P w K mg base "_law_specs" 3 aP ["_law_source", "_law_most", "_law_wide", "_law_many"] spSpecs := T4.dP.cal fun fd F => by
  have GN : Cal P w K mg base "_law_next" 1 aN ["_law_source", "_law_many"] spNext := ok_next T
  have GO : Cal P w K mg base "_law_one" 2 aE ["_law_source", "_law_options"] spOne := ok_one T
  have nd := sc_specs.nd
  refine F.ok sc_specs (fun vs H Q E h => ?_) (fun cdv A outer s H vs Q E hr h => ?_)
  · obtain ⟨a, mo, W, M, n, rfl, _⟩ := h
    rfl
  · obtain ⟨a, mo, W, M, n, rfl, m0, m1, w0, w1, f0, f1, hs, hn, k⟩ := h
    have hr1 : Room 1 _ := hr.mono (by decide)
    refine ⟨_, pss_cons (ps_set (i := 4) nd rfl (Or.inl rfl) (pe_lst pa_nil))
      (pss_cons (ps_for PassesOwn.never rfl (pi_range1 rfl T4.range (pa_cons (pe_c GN hr1 rfl (pa_cons (pv 0) (pa_cons (pe_op op_add (pv 1) pe_int) pa_nil))) pa_nil)) (pg_name (i := 5) nd rfl (Or.inl rfl))
        (pss_cons (ps_set (i := 6) nd rfl (Or.inl rfl) (pe_op op_add pe_int (pe_c GN hr1 rfl (pa_cons (pv 0) (pa_cons (pe_c GO hr rfl (pa_cons (pv 0) (pa_cons (pe_lst (pa_cons pe_int (pa_cons (pv 2) pa_nil))) pa_nil))) pa_nil)))))
        (pss_cons (ps_set (i := 7) nd rfl (Or.inl rfl) (pe_op op_add pe_int (pe_c GN hr1 rfl (pa_cons (pv 0) (pa_cons (pe_c GO hr rfl (pa_cons (pv 0) (pa_cons (pe_lst (pa_cons pe_int (pa_cons (pv 3) pa_nil))) pa_nil))) pa_nil)))))
        (pss_one (ps_expr (pe_bm PySem.F.plainAttrs_list PySem.F.slot_list_append PySem.F.type_list_append mt_append (pv 4) (pa_cons (pe_tup (pa_cons (pv 7) (pa_cons (pv 6) (pa_cons
          (pe_op op_add pe_int (pe_c GN hr1 rfl (pa_cons (pv 0) (pa_cons (pe_c GO hr rfl (pa_cons (pv 0) (pa_cons (pe_lst (pa_cons pe_int (pa_cons (pv 3) pa_nil))) pa_nil))) pa_nil)))) pa_nil)))) pa_nil)))))))
      (pss_one (ps_ret (pv 4)))), ?_⟩
    obtain ⟨ya, hya⟩ := hs.has
    refine ⟨by decide, fun l hl => ?_⟩
    have hal : a ≠ l := ne_of_none hya hl
    have s1 : Same H (upd H l (.lst [])) := Same.upd hl
    refine ⟨_, rfl, _, rfl, _, _, rfl, rfl, a, mo + 1, n, rfl, by omega, Nat.lt_of_le_of_lt (show (mo + 1).natAbs ≤ 101 by omega) (by decide), hs.same s1, by omega, fun r H1 r0 r1 hs1 k1 => ?_⟩
    refine ⟨r, rfl, by omega, by omega, for_range (lo := 0) (n := r.toNat) (fun i σ H2 => ∃ (xs : List V) (ts : List Tri) (v5 v6 v7 : Option V), σ = [some (.ref a), some (.int mo), some (.int W), some (.int M), some (.ref l), v5, v6, v7] ∧ H2 l = some (.lst xs) ∧ Brs H2 xs ts ∧ (∀ t ∈ ts, OkW W M t) ∧ ts.length = i ∧ Src H2 a (n + 1 + 6 * i) ∧ (∀ b o, b ≠ a → b ≠ l → H b = some o → H2 b = some o))
      ⟨[], [], none, none, none, rfl, k1 _ _ hal.symm upd_same, .nil, (fun t ht => by simp at ht), rfl, hs1, fun b o n1 n2 e => k1 b o n1 (s1 b o e)⟩ ?_ ?_⟩
    · rintro i σ H2 hi ⟨xs, ts, v5, v6, v7, rfl, hl2, hb2, ho2, hln, hs2, kk⟩
      have hi' : i < 101 := by omega
      -- wait
      refine draw_gen (P := P) (w := w) (mg := mg) (aO := aO) (aN := aN) (aE := aE) (aC := aC) (a := a) (n := n + 1 + 6 * i) (ns := [3, W]) (hi := W) rfl hs2 (by omega) (fun R h => ⟨_, rfl, h⟩) (by simp) (by simp) (fun m hm => ?_) (Nat.lt_of_le_of_lt (show W.natAbs ≤ 1000000000000000000000000000000 by omega) (by decide)) fun x H3 x0 x1 _ hs3 k3 => ⟨_, _, rfl, rfl, ?_⟩
      · simp only [List.mem_cons, List.mem_nil_iff, or_false] at hm
        rcases hm with rfl | rfl <;> omega
      refine draw_gen (P := P) (w := w) (mg := mg) (aO := aO) (aN := aN) (aE := aE) (aC := aC) (a := a) (n := n + 1 + 6 * i + 2) (ns := [2, M]) (hi := M) rfl hs3 (by omega) (fun R h => ⟨_, rfl, h⟩) (by simp) (by simp) (fun m hm => ?_) (Nat.lt_of_le_of_lt (show M.natAbs ≤ 1000000000000 by omega) (by decide)) fun y H4 y0 y1 _ hs4 k4 => ⟨_, _, rfl, rfl, ?_⟩
      · simp only [List.mem_cons, List.mem_nil_iff, or_false] at hm
        rcases hm with rfl | rfl <;> omega
      have h3 := k3 _ _ hal.symm hl2
      have h4 := k4 _ _ hal.symm h3
      refine ⟨_, rfl, .inl ⟨rfl, _, SqL.of h4⟩, _, rfl, _, rfl, ?_⟩
      refine draw_gen (P := P) (w := w) (mg := mg) (aO := aO) (aN := aN) (aE := aE) (aC := aC) (a := a) (n := n + 1 + 6 * i + 2 + 2) (ns := [2, M]) (hi := M) rfl hs4 (by omega) (fun R h => ⟨_, rfl, h⟩) (by simp) (by simp) (fun m hm => ?_) (Nat.lt_of_le_of_lt (show M.natAbs ≤ 1000000000000 by omega) (by decide)) fun z H5 z0 z1 _ hs5 k5 => ⟨_, _, rfl, rfl, ?_⟩
      · simp only [List.mem_cons, List.mem_nil_iff, or_false] at hm
        rcases hm with rfl | rfl <;> omega
      have h5 := k5 _ _ hal.symm h4
      refine ⟨(by show 3 ≤ sizeLine; decide), fun tp htp => ?_⟩
      have nlt : l ≠ tp := ne_of_none h5 htp
      obtain ⟨ya5, hya5⟩ := hs5.has
      have nat : a ≠ tp := ne_of_none hya5 htp
      have hlx : xs.length = i := by rw [hb2.len, hln]
      have st5 : Same H5 (upd H5 tp (.tup [.int (1 + y), .int (1 + x), .int (1 + z)])) := Same.upd htp
      refine ⟨l, xs, _, rfl, rfl, st5 _ _ h5, Nat.lt_of_le_of_lt (show xs.length ≤ 1000 by omega) (by decide), ?_⟩
      obtain ⟨ya2, hya2⟩ := hs2.has
      obtain ⟨ya3, hya3⟩ := hs3.has
      obtain ⟨ya4, hya4⟩ := hs4.has
      have n5 : NL H2 H5 := ((k3.nl hya2).trans (k4.nl hya3)).trans (k5.nl hya4)
      have nn : NL H2 (upd (upd H5 tp (.tup [.int (1 + y), .int (1 + x), .int (1 + z)])) l (.lst (xs ++ [.ref tp]))) := (n5.trans (NL.of st5)).trans (NL.upd (st5 _ _ h5))
      refine ⟨xs ++ [.ref tp], ts ++ [(1 + y, 1 + x, 1 + z)], _, _, _, rfl, upd_same, (hb2.nl nn).app (.cons ⟨tp, rfl, ?_⟩ .nil), fun t ht => ?_, by rw [List.length_append, hln]; rfl, ?_, fun b o n1 n2 e => ?_⟩
      · rw [upd_ne nlt.symm, upd_same]
        rfl
      · rcases List.mem_append.mp ht with ht | ht
        · exact ho2 t ht
        · have e : t = (1 + y, 1 + x, 1 + z) := by simpa using ht
          subst e
          refine ⟨?_, ?_, ?_, ?_, ?_, ?_⟩
          · show 1 ≤ 1 + y; omega
          · show 1 + y ≤ M; omega
          · show 1 ≤ 1 + x; omega
          · show 1 + x ≤ W; omega
          · show 1 ≤ 1 + z; omega
          · show 1 + z ≤ M; omega
      · obtain ⟨p, q, r', e, c⟩ := hs5
        refine Src.mono (n := n + 1 + 6 * i + 2 + 2 + 2) ⟨p, q, r', ?_, c⟩ (by omega)
        rw [upd_ne hal]
        exact st5 _ _ e
      · rw [upd_ne n2]
        exact st5 _ _ (k5 _ _ n1 (k4 _ _ n1 (k3 _ _ n1 (kk b o n1 n2 e))))
    · rintro σ H2 ⟨xs, ts, v5, v6, v7, rfl, hl2, hb2, ho2, hln, hs2, kk⟩
      exact ⟨_, rfl, k l xs ts H2 hl2 hb2 ho2 (by omega) (hs2.mono (by omega)) (fun b o n1 e => kk b o n1 (ne_of_none e hl) e) hl⟩
end
/-! ### periods -/
theorem stepsUp_at {d s n : Int} (hs : 0 < s) (h1 : (n - 1) * s < d) (h2 : d ≤ n * s) : stepsUp d s = if n > 0 then n else 0 := by
  have e : -d / s = -n := by
    refine Int.le_antisymm ?_ ?_
    · have : -d / s < -n + 1 := (Int.ediv_lt_iff_lt_mul hs).mpr (by
        have e1 : (-n + 1) * s = -((n - 1) * s) := by rw [← Int.neg_mul]; congr 1; omega
        omega)
      omega
    · refine (Int.le_ediv_iff_mul_le hs).mpr ?_
      rw [Int.neg_mul]
      omega
  unfold stepsUp
  rw [e, Int.neg_neg]
/-- v, rounded up to a multiple of u -/
def rup (v u : Int) : Int := stepsUp v u * u
theorem rup_bd {v u : Int} (hu : 0 < u) (hv : 1 ≤ v) : v ≤ rup v u ∧ rup v u < v + u ∧ 0 ≤ stepsUp v u ∧ stepsUp v u ≤ rup v u := by
  have e := Int.mul_ediv_add_emod (-v) u
  have m0 := Int.emod_nonneg (-v) (show u ≠ 0 by omega)
  have m1 := Int.emod_lt_of_pos (-v) hu
  have e2 : -(-v / u) * u = v + -v % u := by
    rw [Int.neg_mul, Int.mul_comm]
    omega
  have np : -(-v / u) > 0 := by
    by_cases c : -(-v / u) > 0
    · exact c
    · have : -(-v / u) * u ≤ 0 := Int.mul_nonpos_of_nonpos_of_nonneg (by omega) (by omega)
      omega
  have es : stepsUp v u = -(-v / u) := by
    unfold stepsUp
    rw [if_pos np]
  unfold rup
  rw [es, e2]
  refine ⟨by omega, by omega, by omega, ?_⟩
  rw [← e2]
  have : -(-v / u) * 1 ≤ -(-v / u) * u := Int.mul_le_mul_of_nonneg_left (by omega) (by omega)
  omega
theorem rup_step {w u j : Int} (hu : 0 < u) (hj : 0 ≤ j) (h1 : j * u < w) (h2 : w ≤ j * u + u) : rup w u = j * u + u := by
  have e : (j + 1) * u = j * u + u := by rw [Int.add_mul, Int.one_mul]
  unfold rup
  rw [stepsUp_at (n := j + 1) hu (by rw [Int.add_sub_cancel]; exact h1) (by rw [e]; exact h2), if_pos (by omega), e]
def pers (q : Int) : List Tri → List Int
  | [] => [q]
  | t :: ts => q :: pers (rup t.2.1 q) ts
def lastP (q : Int) : List Tri → Int
  | [] => q
  | t :: ts => lastP (rup t.2.1 q) ts
theorem lastP_app (t : Tri) : ∀ (ts : List Tri) (q : Int), lastP q (ts ++ [t]) = rup t.2.1 (lastP q ts)
  | [], _ => rfl
  | u :: ts, q => lastP_app t ts (rup u.2.1 q)
theorem pers_app (t : Tri) : ∀ (ts : List Tri) (q : Int), pers q (ts ++ [t]) = pers q ts ++ [rup t.2.1 (lastP q ts)]
  | [], _ => rfl
  | u :: ts, q => by
    show q :: pers (rup u.2.1 q) (ts ++ [t]) = _
    rw [pers_app t ts]
    rfl
theorem pers_last : ∀ (ts : List Tri) (q : Int), ∃ i, pers q ts = i ++ [lastP q ts]
  | [], q => ⟨[], rfl⟩
  | u :: ts, q => by
    obtain ⟨i, e⟩ := pers_last ts (rup u.2.1 q)
    refine ⟨q :: i, ?_⟩
    show q :: pers (rup u.2.1 q) ts = _
    rw [e]
    rfl
theorem pers_len : ∀ (ts : List Tri) (q : Int), (pers q ts).length = ts.length + 1
  | [], _ => rfl
  | u :: ts, q => congrArg Nat.succ (pers_len ts (rup u.2.1 q))
theorem pers_get : ∀ (ts : List Tri) (q : Int) (i : Nat), i ≤ ts.length → (pers q ts)[i]? = some (lastP q (ts.take i))
  | [], q, 0, _ => rfl
  | [], q, i + 1, h => by simp at h
  | t :: ts, q, 0, _ => rfl
  | t :: ts, q, i + 1, h => by
    show (pers (rup t.2.1 q) ts)[i]? = some (lastP (rup t.2.1 q) (ts.take i))
    exact pers_get ts _ i (by simpa using h)
theorem lastP_bd : ∀ (ts : List Tri) (q : Int), (∀ t ∈ ts, OkT t) → 1 ≤ q → 1 ≤ lastP q ts ∧ lastP q ts ≤ q + ts.length * 1000000000000000000000000000000
  | [], q, _, h => ⟨h, by show q ≤ _; simp⟩
  | t :: ts, q, ho, h => by
    obtain ⟨o1, o2, o3, o4, o5, o6⟩ := ho t (List.mem_cons_self ..)
    obtain ⟨b1, b2, _, _⟩ := rup_bd (u := q) (v := t.2.1) (by omega) o3
    have b2' : rup t.2.1 q ≤ q + 1000000000000000000000000000000 := by omega
    obtain ⟨c1, c2⟩ := lastP_bd ts (rup t.2.1 q) (fun t' h' => ho t' (List.mem_cons_of_mem _ h')) (by omega)
    refine ⟨c1, ?_⟩
    show lastP (rup t.2.1 q) ts ≤ _
    rw [List.length_cons]
    have e : (((ts.length + 1 : Nat) : Int)) * 1000000000000000000000000000000 = (ts.length : Int) * 1000000000000000000000000000000 + 1000000000000000000000000000000 := by
      rw [Int.natCast_add, Int.add_mul]
      rfl
    omega
def spRup : Sp := fun vs H Q _ => ∃ v u, vs = [.int v, .int u] ∧ 1 ≤ v ∧ v ≤ 1000000000000000000000000000000 ∧ 1 ≤ u ∧ u ≤ 100000000000000000000000000000000 ∧ Q (.int (rup v u)) H
def spPers (C : Addr) : Sp := fun vs H Q _ => ∃ p T xs ts st ph, vs = [.ref p] ∧ RowAt C H p T xs ts st ph ∧ ∀ l H', H' l = some (.lst ((pers st ts).map V.int)) → Same H H' → H l = none → Q (.ref l) H'
def spRp (C : Addr) : Sp := fun vs H Q _ => ∃ p T xs ts st ph, vs = [.ref p] ∧ RowAt C H p T xs ts st ph ∧ ∀ H', Same H H' → Q (.int (lastP st ts)) H'
structure Tx7 (K : PySem.W.Frag) (mg : Str → Option Value) (aV aQ aM : Addr) : Prop where
  dV : Dfn K mg "rounded_up" st_rounded_up aV ["value", "unit"]
  dQ : Dfn K mg "periods" st_periods aQ ["row"]
  dM : Dfn K mg "row_period" st_row_period aM ["row"]
/-- f(a = ..) of a def f(a) -/
theorem pe_k1 {X : Cx} {k : Nat} {f : Addr} {sp : Sp} {x a : Str} {st : Stmt} {kws : List Keyword} {tk : TA} {p pos : Pos} (D : Dfn X.K X.mg x st f [a]) (h : ∀ fd, Fun X.K x x st f fd → FnOk X.prog X.w X.K X.mg X.base CX0 k f fd [a] sp)
    (hbind : ∀ (kV doc pm : Value) (an : Option Addr) (cdv ct : Value) (u : Value), bindArgs (PySem.W.fnOf x x (defArgs st) (defBody st) (defScope st) .none kV doc pm an cdv ct) ⟨[], [(a, u)]⟩ = pure [(a, u)])
    (hr : Room k X.A) (hg : Gl X x) (hkw : PK X kws tk) (hall : (backToKw pos (keywordEach kws X.env)).all (·.1.isSome) = true := by rfl) (hks : (backToKw pos (keywordEach kws X.env)).filterMap (·.1) = [a] := by rfl) (hdb : (x == ("__debug__" : Str)) = false := by decide)
    (hpl : ((backTo pos (starEach [] X.env)).any (·.1) || (backToKw pos (keywordEach kws X.env)).any (·.1.isNone)) = false := by rfl) :
    PE X (.Call (.Name x p) [] kws pos) (tCallN 0 1 sp (fun us ws => us ++ ws) E0 tNil tk) := by
  obtain ⟨fd, F, _⟩ := D.ex
  have hb : KBn X.K fd [a] 0 [a] (fun us ws => us ++ ws) (fun us ws => us ++ ws) := by
    refine ⟨fun s us ws hX h1 h2 => ?_, fun r1 r2 => r1.append r2⟩
    obtain ⟨oc, od, kV, doc, pm, an, cdv, ct, osl, rfl, lk, hcd⟩ := F.ex
    match us, h1, ws, h2 with
    | [], _, [u], _ => exact .of_eq (hbind kV doc pm an cdv ct u)
  exact pe_callN0 (h fd F) hr hg D.g F.kp hb pass0 hkw hall hks hdb hpl
section
variable {P : Program} {w : World} {K : PySem.W.Frag} {mg : Str → Option Value} {base : Heap} {aI aL aW aS C aB aK aX aV aQ aM : Addr}
theorem sc_rup : FnScope ["value", "unit"] ["value", "unit"] (defScope st_rounded_up) := ⟨rfl, rfl, rfl, by decide +kernel, rfl, by decide +kernel, by decide +kernel⟩
theorem ok_rup (T : Tx0 K mg aI aL aW aS) (T7 : Tx7 K mg aV aQ aM) : Cal P w K mg base "rounded_up" 2 aV ["value", "unit"] spRup := T7.dV.cal fun fd F => by
  have GS : Cal P w K mg base "steps_to" 1 aS ["distance", "step"] spSteps := ok_steps T
  refine F.ok sc_rup (fun vs H Q E h => ?_) (fun cdv A outer s H vs Q E hr h => ?_)
  · obtain ⟨v, u, rfl, _⟩ := h
    rfl
  · obtain ⟨v, u, rfl, v1, v2, u1, u2, k⟩ := h
    obtain ⟨b1, b2, b3, b4⟩ := rup_bd (u := u) (v := v) (by omega) v1
    have ub : u.natAbs < 2 ^ 200 := Nat.lt_of_le_of_lt (show u.natAbs ≤ 100000000000000000000000000000000 by omega) (by decide)
    have sb : (stepsUp v u).natAbs < 2 ^ 200 := Nat.lt_of_le_of_lt (show (stepsUp v u).natAbs ≤ 1000000000000000000000000000000000 by omega) (by decide)
    refine ⟨_, pss_one (ps_ret (pe_op op_mulW (pe_c GS hr rfl (pa_cons (pv 0) (pa_cons (pv 1) pa_nil))) (pv 1))), ?_⟩
    exact ⟨_, rfl, _, rfl, _, _, rfl, by omega, (wide_div (i := 0) (by omega : 0 < u) ub (by decide) (by decide)).2, _, rfl, _, _, rfl, rfl, wide200 sb ub, k⟩
theorem sc_pers : FnScope ["row", "found", "breaker"] ["row"] (defScope st_periods) := ⟨rfl, rfl, rfl, by decide +kernel, rfl, by decide +kernel, by decide +kernel⟩
theorem fn_pers (T : Tx0 K mg aI aL aW aS) (T2 : Tx2 K mg C aB aK aX) (T7 : Tx7 K mg aV aQ aM) {fd : FuncData} (F : Fun K "periods" "periods" st_periods aQ fd) : FnOk P w K mg base CX0 3 aQ fd ["row"] (spPers C) := by
  have GR : Cal P w K mg base "rounded_up" 2 aV ["value", "unit"] spRup := ok_rup T T7
  have nd := sc_pers.nd
  refine F.ok sc_pers (fun vs H Q E h => ?_) (fun cdv A outer s H vs Q E hr h => ?_)
  · obtain ⟨p, T, xs, ts, st, ph, rfl, _⟩ := h
    rfl
  · obtain ⟨p, T', xs, ts, st, ph, rfl, R, k⟩ := h
    obtain ⟨dx, hp⟩ := R.ob
    refine ⟨_, pss_cons (ps_set (i := 1) nd rfl (Or.inl rfl) (pe_lst (pa_cons (pe_fld (pv 0) rfl) pa_nil)))
      (pss_cons (ps_for PassesOwn.never rfl (pi_tup (pe_fld (pv 0) rfl)) (pg_name (i := 2) nd rfl (Or.inl rfl))
        (pss_one (ps_expr (pe_bm PySem.F.plainAttrs_list PySem.F.slot_list_append PySem.F.type_list_append mt_append (pv 1) (pa_cons (pe_c GR hr rfl (pa_cons (pe_ix ix_tup (pv 2) pe_int (fun _ _ => rfl)) (pa_cons (pe_ix ix_list (pv 1) (pe_un un_neg pe_int) (fun _ _ => rfl)) pa_nil))) pa_nil)))))
      (pss_one (ps_ret (pv 1)))), ?_⟩
    refine ⟨_, rfl, p, C, dx, _, _, rfl, hp, T2.cl, T2.nS, rowF_s _ _ _, (by show 1 ≤ sizeLine; decide), fun l hl => ?_⟩
    have s1 : Same H (upd H l (.lst [.int st])) := Same.upd hl
    refine ⟨_, rfl, p, C, dx, _, _, rfl, s1 _ _ hp, T2.cl, T2.nB, rowF_b _ _ _, T', rfl, ⟨xs, SqT.of (s1 _ _ R.tp)⟩, for_tup (K := K) (a := T') (xs := xs) (fun i σ H2 => ∃ v : Option V, σ = [some (.ref p), some (.ref l), v] ∧ H2 l = some (.lst ((pers st (ts.take i)).map V.int)) ∧ Same H H2)
      ⟨none, rfl, upd_same, s1⟩ (fun i σ H2 _ ⟨_, _, _, s2⟩ => SqT.of (s2 _ _ R.tp)) ?_ ?_⟩
    · rintro i x σ H2 hx ⟨v, rfl, hl2, s2⟩
      obtain ⟨t, ht, a, rfl, ha⟩ := R.br.get hx
      have hi : i < ts.length := (List.getElem?_eq_some_iff.mp ht).1
      have rln := R.ln
      have tk : ts.take (i + 1) = ts.take i ++ [t] := by rw [List.take_add_one, ht]; rfl
      obtain ⟨ini, ei⟩ := pers_last (ts.take i) st
      obtain ⟨p1, p2⟩ := lastP_bd (ts.take i) st (fun t' h' => R.ok t' (List.mem_of_mem_take h')) R.s0
      have hlen : (ts.take i).length = i := by rw [List.length_take]; omega
      rw [hlen] at p2
      have s1' := R.s1
      obtain ⟨o1, o2, o3, o4, o5, o6⟩ := R.ok t (List.mem_of_getElem? ht)
      have pl : lastP st (ts.take i) ≤ 100000000000000000000000000000000 := by
        have : (i : Int) * 1000000000000000000000000000000 ≤ 12 * 1000000000000000000000000000000 := Int.mul_le_mul_of_nonneg_right (by omega) (by decide)
        omega
      refine ⟨_, rfl, .inl ⟨rfl, _, SqL.of hl2⟩, _, rfl, a, _, 1, .int t.2.1, rfl, rfl, SqT.of (s2 _ _ ha), rfl, _, rfl, _, rfl, l, _, -1, .int (lastP st (ts.take i)), rfl, rfl, SqL.of hl2, ?_, t.2.1, lastP st (ts.take i), rfl, o3, o4, p1, pl, ?_⟩
      · rw [ei, List.map_append]
        exact atI_last _ _
      refine ⟨l, _, _, rfl, rfl, hl2, small1000 (by rw [List.length_map, pers_len]; omega), some (.ref a), rfl, ?_, fun b o e => ?_⟩
      · rw [upd_same, tk, pers_app, List.map_append]
        rfl
      · rw [upd_ne (ne_of_none e hl)]
        exact s2 _ _ e
    · rintro σ H2 ⟨v, rfl, hl2, s2⟩
      rw [List.take_of_length_le (by rw [R.br.len]; exact Nat.le_refl _)] at hl2
      exact ⟨_, rfl, k l H2 hl2 s2 hl⟩
theorem ok_pers (T : Tx0 K mg aI aL aW aS) (T2 : Tx2 K mg C aB aK aX) (T7 : Tx7 K mg aV aQ aM) : Cal P w K mg base "periods" 3 aQ ["row"] (spPers C) := T7.dQ.cal fun fd F => fn_pers T T2 T7 F
theorem sc_rp : FnScope ["row"] ["row"] (defScope st_row_period) := ⟨rfl, rfl, rfl, by decide +kernel, rfl, by decide +kernel, by decide +kernel⟩
theorem fn_rp (T : Tx0 K mg aI aL aW aS) (T2 : Tx2 K mg C aB aK aX) (T7 : Tx7 K mg aV aQ aM) {fd : FuncData} (F : Fun K "row_period" "row_period" st_row_period aM fd) : FnOk P w K mg base CX0 4 aM fd ["row"] (spRp C) := by
  have GP : Cal P w K mg base "periods" 3 aQ ["row"] (spPers C) := ok_pers T T2 T7
  refine F.ok sc_rp (fun vs H Q E h => ?_) (fun cdv A outer s H vs Q E hr h => ?_)
  · obtain ⟨p, T, xs, ts, st, ph, rfl, _⟩ := h
    rfl
  · obtain ⟨p, T', xs, ts, st, ph, rfl, R, k⟩ := h
    refine ⟨_, pss_one (ps_ret (pe_ix ix_list (pe_c GP hr rfl (pa_cons (pv 0) pa_nil)) (pe_un un_neg pe_int) (fun _ _ => rfl))), ?_⟩
    refine ⟨_, rfl, p, T', xs, ts, st, ph, rfl, R, fun l H2 hl s2 hn => ⟨_, rfl, l, _, -1, _, rfl, rfl, SqL.of hl, ?_, k H2 s2⟩⟩
    obtain ⟨ini, ei⟩ := pers_last ts st
    rw [ei, List.map_append]
    exact atI_last _ _
theorem ok_rp (T : Tx0 K mg aI aL aW aS) (T2 : Tx2 K mg C aB aK aX) (T7 : Tx7 K mg aV aQ aM) : Cal P w K mg base "row_period" 4 aM ["row"] (spRp C) := T7.dM.cal fun fd F => fn_rp T T2 T7 F
end
/-! ### breakers as the law plays them -/
inductive B where
  | cl (f : Int) | op (t : Int) | hf (n : Int)
def bV : B → List V
  | .cl f => [.str "closed", .int f]
  | .op t => [.str "open", .int t]
  | .hf n => [.str "half", .int n]
/-- a list at ta of lists at as, the i-th of which holds F i -/
structure Tab (H : Hp) (ta : Addr) (as : List Addr) (F : Nat → List V) : Prop where
  li : H ta = some (.lst (as.map V.ref))
  nd : as.Nodup
  na : ta ∉ as
  at_ : ∀ (i : Nat) (a : Addr), as[i]? = some a → H a = some (.lst (F i))
theorem Tab.keep {H H' : Hp} {ta : Addr} {as : List Addr} {F : Nat → List V} (T : Tab H ta as F) (k : ∀ b o, (b = ta ∨ b ∈ as) → H b = some o → H' b = some o) : Tab H' ta as F :=
  ⟨k _ _ (.inl rfl) T.li, T.nd, T.na, fun i a e => k _ _ (.inr (List.mem_of_getElem? e)) (T.at_ i a e)⟩
theorem Tab.same {H H' : Hp} {ta : Addr} {as : List Addr} {F : Nat → List V} (T : Tab H ta as F) (k : Same H H') : Tab H' ta as F := T.keep fun b o _ e => k b o e
theorem nodup_at {as : List Addr} (h : as.Nodup) {i j : Nat} {a : Addr} (hi : as[i]? = some a) (hj : as[j]? = some a) : i = j := by
  obtain ⟨h1, e1⟩ := List.getElem?_eq_some_iff.mp hi
  obtain ⟨h2, e2⟩ := List.getElem?_eq_some_iff.mp hj
  exact (List.getElem_inj h).mp (e1.trans e2.symm)
/-- the i-th is written, all else of the table stays -/
theorem Tab.set {H H' : Hp} {ta : Addr} {as : List Addr} {F : Nat → List V} (T : Tab H ta as F) {i : Nat} {a : Addr} {v : List V} (ha : as[i]? = some a) (hv : H' a = some (.lst v)) (k : ∀ b o, b ≠ a → H b = some o → H' b = some o) : Tab H' ta as (fun j => if j = i then v else F j) := by
  have nt : ta ≠ a := fun e => T.na (by rw [e]; exact List.mem_of_getElem? ha)
  refine ⟨k _ _ nt T.li, T.nd, T.na, fun j b hb => ?_⟩
  by_cases e : j = i
  · subst e
    rw [ha] at hb
    cases hb
    rw [if_pos rfl]
    exact hv
  · rw [if_neg e]
    exact k _ _ (fun z => e (by subst z; exact nodup_at T.nd hb ha)) (T.at_ j b hb)
theorem Tab.congr {H : Hp} {ta : Addr} {as : List Addr} {F G : Nat → List V} (T : Tab H ta as F) (e : ∀ i, i < as.length → F i = G i) : Tab H ta as G :=
  ⟨T.li, T.nd, T.na, fun i a h => by rw [← e i (List.getElem?_eq_some_iff.mp h).1]; exact T.at_ i a h⟩
def psB (t : Int) (u : Tri) : B → Bool
  | .op o => decide (u.2.1 ≤ t - o)
  | _ => true
def halfB : B → B
  | .op _ => .hf 0
  | b => b
def failB (t : Int) (u : Tri) : B → B
  | .op _ => .op t
  | .hf _ => .op t
  | .cl f => if f + 1 = u.1 then .op t else .cl (f + 1)
def noHf : B → Prop
  | .hf _ => False
  | _ => True
theorem failB_half (t : Int) (u : Tri) (b : B) : failB t u (halfB b) = failB t u b := by cases b <;> rfl
def spNote : Sp := fun vs H Q _ => ∃ tr s t u b, vs = [.ref tr, .ref s, .int t, .bl false] ∧ H tr = some (.tup (TriV u)) ∧ H s = some (.lst (bV b)) ∧ (∀ o, b ≠ .op o) ∧ ∀ H', H' s = some (.lst (bV (failB t u b))) → Kp s H H' → Q .non H'
def spSend : Sp := fun vs H Q _ => ∃ (l sa : Addr) (t : Int) (xs : List V) (ts : List Tri) (as : List Addr) (f : Nat → B), vs = [.ref l, .ref sa, .int t, .bl false] ∧ H l = some (.lst xs) ∧ Brs H xs ts ∧ Tab H sa as (fun i => bV (f i)) ∧ as.length = ts.length ∧ ts.length ≤ 12 ∧ l ∉ as ∧ l ≠ sa ∧ (∀ i, noHf (f i)) ∧
  ∀ p (g : Nat) H', g ≤ ts.length → (∀ i u, i < g → ts[i]? = some u → psB t u (f i) = true) → (∀ u, ts[g]? = some u → psB t u (f g) = false) → H' p = some (.tup [.bl false, .int g]) → H p = none →
    Tab H' sa as (fun i => bV (if i < g then failB t (ts.getD i (1, 1, 1)) (f i) else f i)) → (∀ b o, b ∉ as → H b = some o → H' b = some o) → Q (.ref p) H'
structure Tx8 (K : PySem.W.Frag) (mg : Str → Option Value) (aJ aG : Addr) : Prop where
  zip : mg "zip" = none
  len : mg "len" = none
  range : mg "range" = none
  dJ : Dfn K mg "_law_note" st__law_note aJ ["_law_spec", "_law_state", "_law_time", "_law_good"]
  dG : Dfn K mg "_law_send" st__law_send aG ["_law_specs_here", "_law_states", "_law_time", "_law_upright"]
section
variable {P : Program} {w : World} {K : PySem.W.Frag} {mg : Str → Option Value} {base : Heap} {aJ aG : Addr}
theorem sc_note : FnScope ["_law_spec", "_law_state", "_law_time", "_law_good"] ["_law_spec", "_law_state", "_law_time", "_law_good"] (defScope st__law_note) := ⟨rfl, rfl, rfl, by decide +kernel, rfl, by decide +kernel, by decide +kernel⟩
theorem nq1 : decide (V.str "closed" = V.str "half") = false := by decide +kernel
theorem nq2 : decide (V.str "open" = V.str "half") = false := by decide +kernel
theorem nq3 : decide (V.str "closed" = V.str "open") = false := by decide +kernel
theorem nq4 : decide (V.str "half" = V.str "open") = false := by decide +kernel
theorem nq5 : decide (V.str "open" = V.str "closed") = false := by decide +kernel
theorem ok_note (T8 : Tx8 K mg aJ aG) : Cal P w K mg base "_law_note" 1 aJ ["_law_spec", "_law_state", "_law_time", "_law_good"] spNote := T8.dJ.cal fun fd F => by
  refine F.ok sc_note (fun vs H Q E h => ?_) (fun cdv A outer s H vs Q E hr h => ?_)
  · obtain ⟨tr, s, t, u, b, rfl, _⟩ := h
    rfl
  · obtain ⟨tr, s, t, u, b, rfl, htr, hs, hb, k⟩ := h
    refine ⟨_, pss_one (ps_if (PW.pt (pw_and (pt_cmpR op_eq (pe_ix ix_list (pv 1) pe_int (fun _ _ => rfl)) pe_str (nomark _)) (pw_and1 (pt_not (pt_val (pv 3))))))
        (pss_cons (ps_asg pe_str (pg_sub (pv 1) pe_int set_list)) (pss_one (ps_asg (pv 2) (pg_sub (pv 1) pe_int set_list))))
      (pss_one (ps_if (pt_cmpR op_eq (pe_ix ix_list (pv 1) pe_int (fun _ _ => rfl)) pe_str (nomark _)) pss_never
      (pss_one (ps_if (pt_val (pv 3)) pss_never
        (pss_cons (ps_asg (pe_op op_add (pe_ix ix_list (pv 1) pe_int (fun _ _ => rfl)) pe_int) (pg_sub (pv 1) pe_int set_list))
        (pss_one (ps_if (pt_cmpR op_eq (pe_ix ix_list (pv 1) pe_int (fun _ _ => rfl)) (pe_ix ix_tup (pv 0) pe_int (fun _ _ => rfl)) (nomark _))
          (pss_cons (ps_asg pe_str (pg_sub (pv 1) pe_int set_list)) (pss_one (ps_asg (pv 2) (pg_sub (pv 1) pe_int set_list)))) pss_nil)))))))), ?_⟩
    have nts : tr ≠ s := ne_of htr hs (by intro z; cases z)
    cases b with
    | op o => exact absurd rfl (hb o)
    | hf n =>
      refine ⟨_, rfl, s, _, 0, _, rfl, rfl, SqL.of hs, rfl, rfl, _, rfl, ?_⟩
      rw [decide_eq_true (rfl : (V.str "half") = V.str "half")]
      refine iteT ⟨_, rfl, _, rfl, iteT ?_⟩
      refine ⟨_, rfl, s, _, 0, 0, rfl, rfl, hs, rfl, ?_⟩
      refine ⟨_, rfl, _, rfl, s, _, 1, 1, rfl, rfl, upd_same, rfl, ?_⟩
      exact k _ upd_same (Kp.upd.trans Kp.upd)
    | cl f =>
      refine ⟨_, rfl, s, _, 0, _, rfl, rfl, SqL.of hs, rfl, rfl, _, rfl, ?_⟩
      rw [nq1]
      refine iteF (iteF ?_)
      refine ⟨_, rfl, s, _, 0, _, rfl, rfl, SqL.of hs, rfl, rfl, _, rfl, ?_⟩
      rw [nq1]
      refine iteF ⟨_, rfl, _, rfl, iteF ?_⟩
      refine ⟨_, rfl, s, _, 1, _, rfl, rfl, SqL.of hs, rfl, _, _, rfl, rfl, _, rfl, s, _, 1, 1, rfl, rfl, hs, rfl, ?_⟩
      refine ⟨_, rfl, s, _, 1, _, rfl, rfl, SqL.of upd_same, rfl, _, rfl, tr, _, 0, _, rfl, rfl, SqT.of (by rw [upd_ne nts]; exact htr), rfl, rfl, _, rfl, ?_⟩
      refine ite2 (fun c => ?_) (fun c => ?_)
      · have c' : f + 1 = u.1 := V.int.inj (of_decide_eq_true c)
        refine ⟨_, rfl, s, _, 0, 0, rfl, rfl, upd_same, rfl, _, rfl, _, rfl, s, _, 1, 1, rfl, rfl, upd_same, rfl, ?_⟩
        refine k _ ?_ ((Kp.upd.trans Kp.upd).trans Kp.upd)
        show _ = some (HO.lst (bV (if f + 1 = u.1 then .op t else .cl (f + 1))))
        rw [if_pos c']
        exact upd_same
      · have c' : ¬ f + 1 = u.1 := fun e => c (decide_eq_true (congrArg V.int e))
        refine k _ ?_ Kp.upd
        show _ = some (HO.lst (bV (if f + 1 = u.1 then .op t else .cl (f + 1))))
        rw [if_neg c']
        exact upd_same
theorem sc_send : FnScope ["_law_specs_here", "_law_states", "_law_time", "_law_upright", "_law_gone", "_law_spec", "_law_state", "_law_good", "_law_k"] ["_law_specs_here", "_law_states", "_law_time", "_law_upright"] (defScope st__law_send) := ⟨rfl, rfl, rfl, by decide +kernel, rfl, by decide +kernel, by decide +kernel⟩
theorem ok_send (T8 : Tx8 K mg aJ aG) : Cal P w K mg base "_law_send" 2 aG ["_law_specs_here", "_law_states", "_law_time", "_law_upright"] spSend := T8.dG.cal fun fd F => by
  have GJ : Cal P w K mg base "_law_note" 1 aJ ["_law_spec", "_law_state", "_law_time", "_law_good"] spNote := ok_note T8
  have nd := sc_send.nd
  refine F.ok sc_send (fun vs H Q E h => ?_) (fun cdv A outer s H vs Q E hr h => ?_)
  · obtain ⟨l, sa, t, xs, ts, as, f, rfl, _⟩ := h
    rfl
  · obtain ⟨l, sa, t, xs, ts, as, f, rfl, hl, hb, hT, hal, hln, nla, nls, hnf, k⟩ := h
    refine ⟨_, pss_cons (ps_set (i := 4) nd rfl (Or.inl rfl) pe_int)
      (pss_cons (ps_for PassesOwn.never rfl (pi_zip (by rfl) T8.zip (pa_cons (pv 0) (pa_cons (pv 1) pa_nil))) (pg_tup rfl (pgs_cons (pg_name (i := 5) nd rfl (Or.inl rfl)) (pgs_cons (pg_name (i := 6) nd rfl (Or.inl rfl)) pgs_nil)))
        (pss_cons (ps_if (PW.pt (pw_and (pt_cmpR op_eq (pe_ix ix_list (pv 6) pe_int (fun _ _ => rfl)) pe_str (nomark _)) (pw_and1 (pt_cmpR op_ge (pe_op op_sub (pv 2) (pe_ix ix_list (pv 6) pe_int (fun _ _ => rfl))) (pe_ix ix_tup (pv 5) pe_int (fun _ _ => rfl)) (nomark _)))))
          (pss_cons (ps_asg pe_str (pg_sub (pv 6) pe_int set_list)) (pss_one (ps_asg pe_int (pg_sub (pv 6) pe_int set_list)))) pss_nil)
        (pss_cons (ps_if (pt_cmpR op_eq (pe_ix ix_list (pv 6) pe_int (fun _ _ => rfl)) pe_str (nomark _)) (pss_one ps_break) pss_nil)
        (pss_one (ps_set (i := 4) nd rfl (Or.inl rfl) (pe_op op_add (pv 4) pe_int))))))
      (pss_cons (ps_set (i := 7) nd rfl (Or.inl rfl) (pe_and (pv 3) (pe_one (pe_cmpR op_eq (pv 4) (pe_callB call_len_seq (by rfl) T8.len PySem.boot_len (pa_cons (pv 0) pa_nil)) (nomark _)))))
      (pss_cons (ps_for PassesOwn.never rfl (pi_range1 rfl T8.range (pa_cons (pv 4) pa_nil)) (pg_name (i := 8) nd rfl (Or.inl rfl))
        (pss_one (ps_expr (pe_c GJ hr rfl (pa_cons (pe_ix ix_list (pv 0) (pv 8) (fun _ _ => rfl)) (pa_cons (pe_ix ix_list (pv 1) (pv 8) (fun _ _ => rfl)) (pa_cons (pv 2) (pa_cons (pv 7) pa_nil))))))))
      (pss_one (ps_ret (pe_tup (pa_cons (pv 7) (pa_cons (pv 4) pa_nil)))))))), ?_⟩
    have hxl := hb.len
    -- behind the first loop: g breakers have passed
    have after : ∀ (g : Nat) (v5 v6 : Option V) (H1 : Hp), g ≤ ts.length → (∀ i u, i < g → ts[i]? = some u → psB t u (f i) = true) → (∀ u, ts[g]? = some u → psB t u (f g) = false) →
        Tab H1 sa as (fun i => bV (if i < g then halfB (f i) else f i)) → (∀ b o, b ∉ as → H b = some o → H1 b = some o) →
        tSeq (tAsg (tAndV (tVar 3) (tOp rEq (tVar 4) (tCB (fun xs H Q => ∃ p ys, xs = [.ref p] ∧ (SqL K H p ys ∨ SqT K H p ys) ∧ Q (.int ys.length) H) (tCons (tVar 0) tNil)))) (gName 7))
          (tSeq (tFor (iRng1 (tCons (tVar 4) tNil)) (gName 8) (tSeq (tDrop (tCall spNote [] E0 (tCons (tOp (rIxL K) (tVar 0) (tVar 8)) (tCons (tOp (rIxL K) (tVar 1) (tVar 8)) (tCons (tVar 2) (tCons (tVar 7) tNil)))))) tNext))
          (tSeq (tRet (tTup (tCons (tVar 7) (tCons (tVar 4) tNil)))) tNext)) { nx := fun _ H' => Q .non H', rt := Q }
          [some (.ref l), some (.ref sa), some (.int t), some (.bl false), some (.int g), v5, v6, none, none] H1 := by
      intro g v5 v6 H1 hg hp1 hp2 hT1 hk1
      refine ⟨_, rfl, _, rfl, iteF ?_⟩
      have hl1 := hk1 _ _ nla hl
      have hb1 : Brs H1 xs ts := hb.nl fun b o e n => hk1 b o (fun z => by
        obtain ⟨i, hi⟩ := List.getElem?_of_mem z
        rw [hT.at_ i b hi] at e
        exact n _ (Option.some.inj e).symm) e
      refine ⟨_, rfl, (g : Int), rfl, by omega, by omega, for_range (lo := 0) (n := ((g : Nat) : Int).toNat) (fun kk σ H2 => ∃ v8 : Option V, σ = [some (.ref l), some (.ref sa), some (.int t), some (.bl false), some (.int g), v5, v6, some (.bl false), v8] ∧ Tab H2 sa as (fun i => bV (if i < kk then failB t (ts.getD i (1, 1, 1)) (f i) else if i < g then halfB (f i) else f i)) ∧ (∀ b o, b ∉ as → H1 b = some o → H2 b = some o))
        ⟨none, rfl, hT1.congr fun i _ => by rw [if_neg (Nat.not_lt_zero i)], fun _ _ _ e => e⟩ ?_ ?_⟩
      · rintro kk σ H2 hkk ⟨v8, rfl, hT2, hk2⟩
        have hkg : kk < g := by omega
        have hx : kk < xs.length := by omega
        obtain ⟨u, hu, tr, ex, htr⟩ := hb1.get (List.getElem?_eq_getElem hx)
        have ha : as[kk]? = some as[kk] := List.getElem?_eq_getElem (by omega)
        have e0 : (0 : Int) + (kk : Int) = ((kk : Nat) : Int) := by omega
        have hs2 := hT2.at_ kk _ ha
        simp only [Nat.lt_irrefl, if_false, hkg, if_true] at hs2
        have ntr : tr ∉ as := fun z => by
          obtain ⟨i, hi⟩ := List.getElem?_of_mem z
          rw [hT1.at_ i tr hi] at htr
          cases htr
        have nop : ∀ o, halfB (f kk) ≠ .op o := fun o => by
          cases f kk with
          | cl _ => intro z; cases z
          | op _ => intro z; cases z
          | hf _ => intro z; cases z
        refine ⟨_, rfl, _, rfl, l, xs, _, .ref tr, rfl, rfl, SqL.of (hk2 _ _ nla hl1), (by rw [e0, ← ex]; exact atI_nat (List.getElem?_eq_getElem hx)), _, rfl, _, rfl, sa, _, _, .ref as[kk], rfl, rfl, SqL.of hT2.li, (by rw [e0]; exact atI_nat (by rw [List.getElem?_map, ha]; rfl)), _, rfl, _, rfl,
          tr, as[kk], t, u, halfB (f kk), rfl, hk2 _ _ ntr htr, hs2, nop, fun H3 h3 k3 => ?_⟩
        refine ⟨_, rfl, (hT2.set ha h3 k3).congr fun i hi => ?_, fun b o n e => k3 b o (fun z => n (by rw [z]; exact List.mem_of_getElem? ha)) (hk2 b o n e)⟩
        by_cases c : i = kk
        · subst c
          rw [if_pos rfl, if_pos (Nat.lt_succ_self _), failB_half]
          have eg : ts.getD i (1, 1, 1) = u := by rw [List.getD_eq_getElem?_getD, hu]; rfl
          rw [eg]
        · rw [if_neg c]
          by_cases c2 : i < kk
          · rw [if_pos c2, if_pos (by omega)]
          · rw [if_neg c2, if_neg (show ¬ i < kk + 1 by omega)]
      · rintro σ H2 ⟨v8, rfl, hT2, hk2⟩
        refine ⟨_, rfl, _, rfl, (by show 2 ≤ sizeLine; decide), fun p hp => ?_⟩
        have hs := Same.upd (o := .tup [.bl false, .int g]) hp
        refine k p g _ hg hp1 hp2 upd_same ?_ ((hT2.congr fun i _ => ?_).same hs) fun b o n e => hs _ _ (hk2 _ _ n (hk1 _ _ n e))
        · cases q : H p with
          | none => rfl
          | some o =>
            by_cases n : p ∈ as
            · obtain ⟨i, hi⟩ := List.getElem?_of_mem n
              rw [hT2.at_ i p hi] at hp
              cases hp
            · rw [hk2 _ _ n (hk1 _ _ n q)] at hp
              cases hp
        · have eg : ((g : Nat) : Int).toNat = g := by omega
          rw [eg]
          by_cases c : i < g
          · rw [if_pos c, if_pos c]
          · rw [if_neg c, if_neg c, if_neg c]
    refine ⟨_, rfl, _, rfl, l, sa, xs, as.map V.ref, rfl, SqL.of hl, SqL.of hT.li, RZ.for_zipL (K := K) (a := l) (b := sa) (xs := xs) (ys := as.map V.ref) (by rw [List.length_map]; omega)
      (fun i σ H2 => ∃ v5 v6 : Option V, σ = [some (.ref l), some (.ref sa), some (.int t), some (.bl false), some (.int i), v5, v6, none, none] ∧ (∀ j u, j < i → ts[j]? = some u → psB t u (f j) = true) ∧ Tab H2 sa as (fun j => bV (if j < i then halfB (f j) else f j)) ∧ (∀ b o, b ∉ as → H b = some o → H2 b = some o))
      ⟨none, none, rfl, fun j _ h => absurd h (Nat.not_lt_zero j), hT.congr fun j _ => by rw [if_neg (Nat.not_lt_zero j)], fun _ _ _ e => e⟩ (fun i σ H2 ⟨_, _, _, _, hT2, hk2⟩ => ⟨SqL.of (hk2 _ _ nla hl), SqL.of hT2.li⟩) ?_ ?_⟩
    · rintro i x y T' σ H2 hx hy ⟨v5, v6, rfl, hp2, hT2, hk2⟩ hn
      obtain ⟨a, ha, rfl⟩ : ∃ a, as[i]? = some a ∧ y = V.ref a := by
        rw [List.getElem?_map] at hy
        cases e : as[i]? with
        | none => rw [e] at hy; cases hy
        | some a => rw [e] at hy; exact ⟨a, rfl, (Option.some.inj hy).symm⟩
      obtain ⟨u, hu, tr, rfl, htr⟩ := hb.get hx
      have hi : i < ts.length := (List.getElem?_eq_some_iff.mp hu).1
      have am : a ∈ as := List.mem_of_getElem? ha
      have sT : Same H2 (upd H2 T' (.tup [.ref tr, .ref a])) := Same.upd hn
      have ntr : tr ∉ as := fun z => by
        obtain ⟨j, hj⟩ := List.getElem?_of_mem z
        rw [hT.at_ j tr hj] at htr
        cases htr
      have htr2 := sT _ _ (hk2 _ _ ntr htr)
      have hs2 := hT2.at_ i a ha
      simp only [Nat.lt_irrefl, if_false] at hs2
      have hs3 := sT _ _ hs2
      have kk3 : ∀ b o, b ∉ as → H b = some o → (upd H2 T' (.tup [.ref tr, .ref a])) b = some o := fun b o n e => sT _ _ (hk2 b o n e)
      have go : ∀ H3, psB t u (f i) = true → H3 a = some (.lst (bV (halfB (f i)))) → (∀ b o, b ≠ a → (upd H2 T' (.tup [.ref tr, .ref a])) b = some o → H3 b = some o) →
          (∀ j v, j < i + 1 → ts[j]? = some v → psB t v (f j) = true) ∧ Tab H3 sa as (fun j => bV (if j < i + 1 then halfB (f j) else f j)) ∧ (∀ b o, b ∉ as → H b = some o → H3 b = some o) := fun H3 hp h3 k3 => by
        refine ⟨fun j v hj hv => ?_, ((hT2.same sT).set ha h3 k3).congr fun j hj => ?_, fun b o n e => k3 b o (fun z => n (by rw [z]; exact am)) (kk3 b o n e)⟩
        · by_cases c : j = i
          · subst c
            rw [hu] at hv
            cases hv
            exact hp
          · exact hp2 j v (by omega) hv
        · by_cases c : j = i
          · subst c
            rw [if_pos rfl, if_pos (Nat.lt_succ_self _)]
          · rw [if_neg c]
            by_cases c2 : j < i
            · rw [if_pos c2, if_pos (by omega)]
            · rw [if_neg c2, if_neg (show ¬ j < i + 1 by omega)]
      refine ⟨T', _, rfl, SqT.of upd_same, rfl, _, _, rfl, _, _, rfl, rfl, ?_⟩
      cases hf : f i with
      | hf n =>
        have := hnf i
        rw [hf] at this
        exact this.elim
      | cl f' =>
        rw [hf] at hs3
        refine ⟨_, rfl, a, _, 0, _, rfl, rfl, SqL.of hs3, rfl, rfl, _, rfl, ?_⟩
        rw [nq3]
        refine iteF (iteF ?_)
        refine ⟨_, rfl, a, _, 0, _, rfl, rfl, SqL.of hs3, rfl, rfl, _, rfl, ?_⟩
        rw [nq3]
        refine iteF ?_
        obtain ⟨g1, g2, g3⟩ := go _ (by rw [hf]; rfl) (by rw [hf]; exact hs3) fun _ _ _ e => e
        exact ⟨_, rfl, _, _, rfl, rfl, _, _, rfl, g1, g2, g3⟩
      | op o =>
        rw [hf] at hs3
        refine ⟨_, rfl, a, _, 0, _, rfl, rfl, SqL.of hs3, rfl, rfl, _, rfl, ?_⟩
        rw [decide_eq_true (rfl : (V.str "open") = V.str "open")]
        refine iteT ⟨_, rfl, _, rfl, a, _, 1, _, rfl, rfl, SqL.of hs3, rfl, _, _, rfl, rfl, _, rfl, tr, _, 1, _, rfl, rfl, SqT.of htr2, rfl, _, _, rfl, rfl, _, rfl, ?_⟩
        refine ite2 (fun c => ?_) (fun c => ?_)
        · refine ⟨_, rfl, a, _, 0, 0, rfl, rfl, hs3, rfl, _, rfl, a, _, 1, 1, rfl, rfl, upd_same, rfl, ?_⟩
          refine ⟨_, rfl, a, _, 0, _, rfl, rfl, SqL.of upd_same, rfl, rfl, _, rfl, ?_⟩
          show if decide (V.str "half" = V.str "open") = true then _ else _
          rw [nq4]
          refine iteF ?_
          obtain ⟨g1, g2, g3⟩ := go _ (by rw [hf]; exact c) (by rw [hf]; exact upd_same) (Kp.upd.trans Kp.upd)
          exact ⟨_, rfl, _, _, rfl, rfl, _, _, rfl, g1, g2, g3⟩
        · refine ⟨_, rfl, a, _, 0, _, rfl, rfl, SqL.of hs3, rfl, rfl, _, rfl, ?_⟩
          rw [decide_eq_true (rfl : (V.str "open") = V.str "open")]
          refine iteT ?_
          refine after i _ _ _ (by omega) (fun j v hj hv => hp2 j v hj hv) (fun v hv => ?_) (hT2.same sT) kk3
          rw [hu] at hv
          cases hv
          rw [hf]
          show decide (u.2.1 ≤ t - o) = false
          simpa using c
    · rintro σ H2 ⟨v5, v6, rfl, hp2, hT2, hk2⟩
      refine after xs.length _ _ _ (by omega) (fun j v hj hv => hp2 j v hj hv) (fun v hv => ?_) hT2 hk2
      rw [List.getElem?_eq_none (by omega)] at hv
      cases hv
end
/-! ### the mathematics of the law -/
def apl (F p : Int) (c : Nat) : List Int := (List.range c).map fun (k : Nat) => F + (k : Int) * p
theorem apl_succ (F p : Int) (c : Nat) : apl F p (c + 1) = apl F p c ++ [F + (c : Int) * p] := by
  unfold apl
  rw [List.range_succ, List.map_append]
  rfl
theorem apl_len (F p : Int) (c : Nat) : (apl F p c).length = c := by
  unfold apl
  rw [List.length_map, List.length_range]
def per (st : Int) (ts : List Tri) (i : Nat) : Int := lastP st (ts.take i)
def wt (ts : List Tri) (i : Nat) : Int := (ts.getD i (1, 1, 1)).2.1
theorem per_succ {st : Int} {ts : List Tri} {i : Nat} (h : i < ts.length) : per st ts (i + 1) = rup (wt ts i) (per st ts i) := by
  have hi : ts[i]? = some ts[i] := List.getElem?_eq_getElem h
  unfold per wt
  rw [List.take_add_one, hi, List.getD_eq_getElem?_getD, hi]
  exact lastP_app _ _ _
/-- the last time of those that came to breaker i -/
def lst (st : Int) (ts : List Tri) (F : Nat → Int) (c : Nat → Nat) (i : Nat) : Int := F i + ((c i : Int) - 1) * per st ts i
structure J (st T : Int) (ts : List Tri) (f : Nat → B) (F : Nat → Int) (c : Nat → Nat) : Prop where
  o : (∀ i, i ≤ ts.length → c i = 0) ∨ ∀ i, i < ts.length → ∃ o, f i = .op o
  z : 0 < c 0 → F 0 + (c 0 : Int) * st = T
  s : ∀ i, i < ts.length → 0 < c (i + 1) → 0 < c i ∧ f i = .op (lst st ts F c (i + 1)) ∧ ∃ j : Int, 0 ≤ j ∧ lst st ts F c i = lst st ts F c (i + 1) + j * per st ts i ∧ j * per st ts i < wt ts i
def nF (T : Int) (g : Nat) (F : Nat → Int) (c : Nat → Nat) (i : Nat) : Int := if i ≤ g ∧ c i = 0 then T else F i
def nc (g : Nat) (c : Nat → Nat) (i : Nat) : Nat := if i ≤ g then c i + 1 else c i
theorem lst_next {st : Int} {ts : List Tri} {F : Nat → Int} {c : Nat → Nat} {i : Nat} : F i + (c i : Int) * per st ts i = lst st ts F c i + per st ts i := by
  unfold lst
  rw [Int.sub_mul, Int.one_mul]
  omega
section
variable {st T : Int} {ts : List Tri} {f : Nat → B} {F : Nat → Int} {c : Nat → Nat} {g : Nat}
theorem pos_per (hok : ∀ t ∈ ts, OkT t) (h1 : 1 ≤ st) (i : Nat) : 0 < per st ts i := by
  have := (lastP_bd (ts.take i) st (fun t h => hok t (List.mem_of_mem_take h)) h1).1
  unfold per
  omega
theorem pos_wt (hok : ∀ t ∈ ts, OkT t) {i : Nat} (h : i < ts.length) : 1 ≤ wt ts i := by
  unfold wt
  rw [List.getD_eq_getElem?_getD, List.getElem?_eq_getElem h]
  exact (hok _ (List.getElem_mem h)).2.2.1
/-- what comes to a breaker that is reached comes a period behind the one before -/
theorem J.main (hJ : J st T ts f F c) (hok : ∀ t ∈ ts, OkT t) (h1 : 1 ≤ st) (hg : g ≤ ts.length) (hp : ∀ i u, i < g → ts[i]? = some u → psB T u (f i) = true) :
    ∀ i, i ≤ g → 0 < c i → F i + (c i : Int) * per st ts i = T
  | 0, _, h => hJ.z h
  | i + 1, hi, h => by
    have hin : i < ts.length := by omega
    obtain ⟨ci, fi, j, j0, e1, e2⟩ := hJ.s i hin h
    have ih := J.main hJ hok h1 hg hp i (by omega) ci
    have hpass := hp i ts[i] (by omega) (List.getElem?_eq_getElem hin)
    rw [fi] at hpass
    have hw : wt ts i = ts[i].2.1 := by
      unfold wt
      rw [List.getD_eq_getElem?_getD, List.getElem?_eq_getElem hin]
      rfl
    have hpass' : wt ts i ≤ T - lst st ts F c (i + 1) := by
      rw [hw]
      exact of_decide_eq_true hpass
    rw [lst_next] at ih
    have hT : T = lst st ts F c (i + 1) + (j * per st ts i + per st ts i) := by omega
    have er := rup_step (w := wt ts i) (pos_per hok h1 i) j0 e2 (by omega)
    rw [lst_next, per_succ hin, er]
    exact hT.symm
theorem J.shut (hJ : J st T ts f F c) (hn : ¬ ∀ i, i < ts.length → ∃ o, f i = .op o) (f' : Nat → B) (T' : Int) : J st T' ts f' F c := by
  have h0 : ∀ i, i ≤ ts.length → c i = 0 := hJ.o.resolve_right hn
  refine ⟨.inl h0, fun h => ?_, fun i hi h => ?_⟩
  · rw [h0 0 (Nat.zero_le _)] at h
    cases h
  · rw [h0 (i + 1) hi] at h
    cases h
theorem J.open_ (hJ : J st T ts f F c) (hok : ∀ t ∈ ts, OkT t) (h1 : 1 ≤ st) (hg : g ≤ ts.length) (hop : ∀ i, i < ts.length → ∃ o, f i = .op o) (hp : ∀ i u, i < g → ts[i]? = some u → psB T u (f i) = true) (hr : ∀ u, ts[g]? = some u → psB T u (f g) = false) :
    J st (T + st) ts (fun i => if i < g then failB T (ts.getD i (1, 1, 1)) (f i) else f i) (nF T g F c) (nc g c) := by
  have hm : ∀ i, i ≤ g → nF T g F c i + (c i : Int) * per st ts i = T := fun i hi => by
    unfold nF
    by_cases h : c i = 0
    · rw [if_pos ⟨hi, h⟩, h]
      simp
    · rw [if_neg (fun z => h z.2)]
      exact hJ.main hok h1 hg hp i hi (by omega)
  have hl : ∀ i, i ≤ g → lst st ts (nF T g F c) (nc g c) i = T := fun i hi => by
    have h2 := hm i hi
    unfold lst nc
    rw [if_pos hi]
    have e : (((c i + 1 : Nat) : Int) - 1) = (c i : Int) := by omega
    rw [e]
    exact h2
  have hl2 : ∀ i, ¬ i ≤ g → lst st ts (nF T g F c) (nc g c) i = lst st ts F c i := fun i hi => by
    unfold lst nc nF
    rw [if_neg hi, if_neg (fun z => hi z.1)]
  refine ⟨.inr fun i hi => ?_, fun _ => ?_, fun i hi hc => ?_⟩
  · obtain ⟨o, ho⟩ := hop i hi
    by_cases h : i < g
    · exact ⟨T, by simp only [h, if_true, ho]; rfl⟩
    · exact ⟨o, by simp only [h, if_false, ho]⟩
  · have h2 := hm 0 (Nat.zero_le _)
    unfold nc
    rw [if_pos (Nat.zero_le _)]
    have e : (((c 0 + 1 : Nat) : Int)) * st = (c 0 : Int) * st + st := by
      rw [Int.natCast_add, Int.add_mul]
      simp
    rw [e]
    have h3 : nF T g F c 0 + (c 0 : Int) * st = T := h2
    omega
  · by_cases hig : i + 1 ≤ g
    · have hi2 : i < g := hig
      refine ⟨?_, ?_, 0, Int.le_refl _, ?_, ?_⟩
      · unfold nc
        rw [if_pos (by omega)]
        omega
      · obtain ⟨o, ho⟩ := hop i hi
        rw [hl (i + 1) hig]
        simp only [hi2, if_true, ho]
        rfl
      · rw [hl i (by omega), hl (i + 1) hig]
        simp
      · have := pos_wt hok hi
        omega
    · have hc2 : nc g c (i + 1) = c (i + 1) := by unfold nc; rw [if_neg hig]
      rw [hc2] at hc
      obtain ⟨ci, fi, j, j0, e1, e2⟩ := hJ.s i hi hc
      rw [hl2 (i + 1) hig]
      have hig2 : ¬ i < g := by omega
      by_cases he : i = g
      · subst he
        have hm' := hm i (Nat.le_refl _)
        have hF : nF T i F c i = F i := by unfold nF; rw [if_neg (fun z => by have := z.2; omega)]
        rw [hF, lst_next] at hm'
        have hrej := hr ts[i] (List.getElem?_eq_getElem hi)
        rw [fi] at hrej
        have hw : wt ts i = ts[i].2.1 := by
          unfold wt
          rw [List.getD_eq_getElem?_getD, List.getElem?_eq_getElem hi]
          rfl
        have hrej' : ¬ wt ts i ≤ T - lst st ts F c (i + 1) := by
          rw [hw]
          exact of_decide_eq_false hrej
        have ej : (j + 1) * per st ts i = j * per st ts i + per st ts i := by rw [Int.add_mul, Int.one_mul]
        refine ⟨?_, ?_, j + 1, by omega, ?_, ?_⟩
        · unfold nc
          rw [if_pos (Nat.le_refl _)]
          omega
        · simp only [Nat.lt_irrefl, if_false]
          exact fi
        · rw [hl i (Nat.le_refl _), ej]
          omega
        · rw [ej]
          omega
      · have hgt : ¬ i ≤ g := by omega
        refine ⟨?_, ?_, j, j0, ?_, e2⟩
        · unfold nc
          rw [if_neg hgt]
          exact ci
        · simp only [hig2, if_false]
          exact fi
        · rw [hl2 i hgt]
          exact e1
theorem apl_new (hJ : J st T ts f F c) (hok : ∀ t ∈ ts, OkT t) (h1 : 1 ≤ st) (hg : g ≤ ts.length) (hp : ∀ i u, i < g → ts[i]? = some u → psB T u (f i) = true) (i : Nat) (hi : i ≤ g) :
    apl (nF T g F c i) (per st ts i) (nc g c i) = apl (F i) (per st ts i) (c i) ++ [T] := by
  unfold nc nF
  rw [if_pos hi]
  by_cases h : c i = 0
  · rw [if_pos ⟨hi, h⟩, h]
    show apl T (per st ts i) (0 + 1) = _
    rw [apl_succ]
    simp [apl]
  · rw [if_neg (fun z => h z.2), apl_succ, hJ.main hok h1 hg hp i hi (by omega)]
theorem apl_old (i : Nat) (hi : ¬ i ≤ g) : apl (nF T g F c i) (per st ts i) (nc g c i) = apl (F i) (per st ts i) (c i) := by
  unfold nc nF
  rw [if_neg hi, if_neg (fun z => hi z.1)]
end
/-! ### the law's loops -/
/-- a comprehension over zip of two lists -/
theorem lc_zip {K : PySem.W.Frag} {a b : Addr} {xs ys : List V} {g : TG} {tt : TT} {te : TE} {vs : List Nat} {σ : L2.St} {H1 : Hp} {D : Addr} {Qd : Hp → Prop} (hlen : ys.length ≤ xs.length) (Pv : Nat → Hp → Prop) (h0 : Pv 0 (upd H1 D (.lst []))) (hl : ∀ i H, Pv i H → SqL K H a xs ∧ SqL K H b ys)
    (hs : ∀ (i : Nat) (x y : V) (T : Addr) (H : Hp), xs[i]? = some x → ys[i]? = some y → Pv i H → H T = none → g (.ref T) (wipe σ vs) (upd H T (.tup [x, y])) fun σ2 H2 => wipe σ2 vs = wipe σ vs ∧ tt σ2 H2 fun b H3 =>
      if b = true then te σ2 H3 fun y H4 => ∃ acc, H4 D = some (.lst acc) ∧ acc.length < sizeLine ∧ Pv (i + 1) (upd H4 D (.lst (acc ++ [y]))) else Pv (i + 1) H3) (hd : ∀ H, Pv ys.length H → Qd H) :
    ∃ W : Nat → Nat → Hp → Prop, (∃ m, W 0 m (upd H1 D (.lst []))) ∧ ∀ i m H, W i m H → ((Itz K a b).stop i H ∧ Qd H) ∨ ((Itz K a b).go i H ∧ ∃ Nx : Hp → Prop, (∀ H', Nx H' → ∃ m', m' < m ∧ W (i + 1) m' H') ∧ ∀ x H', (Itz K a b).yld i H x H' → g x (wipe σ vs) H' fun σ2 H2 => wipe σ2 vs = wipe σ vs ∧ tt σ2 H2 fun b H3 =>
        if b = true then te σ2 H3 fun y H4 => ∃ acc, H4 D = some (.lst acc) ∧ acc.length < sizeLine ∧ Nx (upd H4 D (.lst (acc ++ [y]))) else Nx H3) := by
  refine ⟨fun i m H => m = ys.length - i ∧ i ≤ ys.length ∧ Pv i H, ⟨ys.length, by omega, Nat.zero_le _, h0⟩, ?_⟩
  rintro i m H ⟨rfl, hi, p⟩
  obtain ⟨qx, qy⟩ := hl i H p
  by_cases hlt : i < ys.length
  · have hx : xs[i]? = some xs[i] := List.getElem?_eq_getElem (by omega)
    have hy : ys[i]? = some ys[i] := List.getElem?_eq_getElem hlt
    refine .inr ⟨⟨xs, ys, _, _, qx, qy, hx, hy⟩, Pv (i + 1), fun H' p' => ⟨ys.length - (i + 1), by omega, rfl, hlt, p'⟩, fun v H' y => ?_⟩
    obtain ⟨T, x', y', rfl, hT, rfl, f1, f2⟩ := y
    exact hs i x' y' T H (f1 xs qx) (f2 ys qy) p hT
  · have e : i = ys.length := by omega
    subst e
    exact .inl ⟨⟨xs, ys, qx, qy, .inr (Nat.le_refl _)⟩, hd H p⟩
theorem strs_dp {K : PySem.W.Frag} {H : Hp} (x : Str) : ∀ k : Nat, DpAll K H (List.replicate k (.str x)) (List.replicate k (.str x))
  | 0 => .nil
  | k + 1 => .cons (.str x) (strs_dp x k)
theorem strs_can (x : Str) (hx : PyData.strOk x = true) : ∀ k : Nat, PyData.canLayAll0 (List.replicate k (.str x)) = true
  | 0 => by simp [PyData.canLayAll0]
  | k + 1 => by
    rw [List.replicate_succ, PyData.canLayAll0, strs_can x hx k]
    simp [PyData.canLay0, hx]
theorem strs_dep (x : Str) : ∀ k : Nat, PyData.depthAll (List.replicate k (.str x)) ≤ 10
  | 0 => by simp [PyData.depthAll]
  | k + 1 => by
    have := strs_dep x k
    rw [List.replicate_succ, PyData.depthAll]
    have h2 : (PyData.str x).depth ≤ 10 := by simp [PyData.depth]
    omega
theorem strs_sh (x : Str) (hx : PyData.strOk x = true) (k : Nat) : SeqAt.shaped (.list (List.replicate k (.str x))) = true := by
  refine Bool.and_eq_true_iff.mpr ⟨?_, decide_eq_true ?_⟩
  · rw [PyData.canLay0]
    exact strs_can x hx k
  · have := strs_dep x k
    rw [PyData.depth]
    omega
theorem strs_eq (x : Str) (k : Nat) : PyData.eqv (.list (List.replicate k (.str x))) (.list []) = decide (k = 0) := by
  rw [PyData.eqv]
  cases k with
  | zero => simp [PyData.eqvAll]
  | succ k => simp [List.replicate_succ, PyData.eqvAll]
theorem ints_dpa {K : PySem.W.Frag} {H : Hp} : ∀ ns : List Int, DpAll K H (ns.map V.int) (ns.map PyData.int)
  | [] => .nil
  | n :: ns => .cons (.int n) (ints_dpa ns)
theorem ints_can : ∀ ns : List Int, PyData.canLayAll0 (ns.map PyData.int) = true
  | [] => by simp [PyData.canLayAll0]
  | n :: ns => by
    rw [List.map_cons, PyData.canLayAll0, ints_can ns]
    simp [PyData.canLay0]
theorem ints_dep : ∀ ns : List Int, PyData.depthAll (ns.map PyData.int) ≤ 10
  | [] => by simp [PyData.depthAll]
  | n :: ns => by
    have := ints_dep ns
    rw [List.map_cons, PyData.depthAll]
    have h2 : (PyData.int n).depth ≤ 10 := by simp [PyData.depth]
    omega
theorem ints_sh (ns : List Int) : SeqAt.shaped (.list (ns.map PyData.int)) = true := by
  refine Bool.and_eq_true_iff.mpr ⟨?_, decide_eq_true ?_⟩
  · rw [PyData.canLay0]
    exact ints_can ns
  · have := ints_dep ns
    rw [PyData.depth]
    omega
theorem ints_refl (ns : List Int) : PyData.eqv (.list (ns.map PyData.int)) (.list (ns.map PyData.int)) = true := SeqAt.eqv_refl _ (Bool.and_eq_true_iff.mp (ints_sh ns)).1
theorem tYes_of {σ : L2.St} {H : Hp} {A B : Hp → Prop} (h : A H) : tYes σ H (fun b H3 => if b = true then A H3 else B H3) := by
  show if true = true then A H else B H
  rw [if_pos rfl]
  exact h
theorem small2 {n : Nat} (h : n ≤ 10000) : n ≤ sizeLine := Nat.le_trans h (by decide)
theorem cut_hi1 (xs : List V) (h : 1 ≤ xs.length) : cutV xs (some 1) none = xs.drop 1 := by
  unfold cutV
  have e : (1 : Int) = ((1 : Nat) : Int) := rfl
  rw [e, HT.sIx_nat, HT.sIx_none, Nat.min_eq_left h, List.take_of_length_le (by rw [List.length_drop]; exact Nat.le_refl _)]
theorem ref_at {as : List Addr} {i : Nat} {y : V} (hy : (as.map V.ref)[i]? = some y) : ∃ a, as[i]? = some a ∧ y = V.ref a := by
  rw [List.getElem?_map] at hy
  cases e : as[i]? with
  | none => rw [e] at hy; cases hy
  | some a => rw [e] at hy; exact ⟨a, rfl, (Option.some.inj hy).symm⟩
theorem at_ref {as : List Addr} {i : Nat} {a : Addr} {z : Int} (e : z = (i : Int)) (ha : as[i]? = some a) : atI (as.map V.ref) z = some (.ref a) := by
  rw [e]
  exact atI_nat (by rw [List.getElem?_map, ha]; rfl)
theorem flat_one {α : Type} (x : α) : ∀ k : Nat, (List.replicate k [x]).flatten = List.replicate k x
  | 0 => rfl
  | k + 1 => by
    rw [List.replicate_succ, List.flatten_cons, flat_one x k, List.replicate_succ]
    rfl
theorem apl_at {F p : Int} {c i : Nat} (h : i < c) : (apl F p c)[i]? = some (F + (i : Int) * p) := by
  unfold apl
  rw [List.getElem?_map, List.getElem?_range h]
  rfl
theorem noHf_fail {t : Int} {u : Tri} {b : B} (h : noHf b) : noHf (failB t u b) := by
  cases b with
  | op _ => exact trivial
  | hf _ => exact trivial
  | cl f =>
    show noHf (if f + 1 = u.1 then .op t else .cl (f + 1))
    by_cases c : f + 1 = u.1
    · rw [if_pos c]; exact trivial
    · rw [if_neg c]; exact trivial
def spLaw (K : PySem.W.Frag) : Sp := fun vs H Q _ => ∃ (a : Addr) (ns : List Int), vs = [.ref a] ∧ SqL K H a (ns.map V.int) ∧ ns.length ≤ 63 ∧ ∀ H', Q (.bl true) H'
abbrev NLaw : List Str := ["_law_script", "_law_cell", "_law_source", "_law_specs_here", "_law_lane", "_law_states", "_law_k", "_law_passes", "_law_number", "_law_time", "_law_is_open", "_law_result", "_law_gone", "_law_found", "_law_spec", "_law_state", "_law_some", "_law_early", "_law_late"]
structure Tx9 (mg : Str → Option Value) : Prop where
  min : mg "min" = none
section
variable {P : Program} {w : World} {K : PySem.W.Frag} {mg : Str → Option Value} {base : Heap} {aI aL aW aS C aB aK aX aR aV aQ aM aO aN aE aC aP aJ aG aLaw : Addr}
theorem sc_law : FnScope NLaw ["_law_script"] (defScope st_law) := ⟨rfl, rfl, rfl, by decide +kernel, rfl, by decide +kernel, by decide +kernel⟩
theorem ok_law {fd : FuncData} (F : Fun K "law" "law" st_law aLaw fd) (T : Tx0 K mg aI aL aW aS) (T1 : Tx1 K mg aO aN aE aC) (T2 : Tx2 K mg C aB aK aX) (M : MkR K mg C aX) (T3 : Tx3 K mg C aR) (T4 : Tx4 K mg aP) (T7 : Tx7 K mg aV aQ aM) (T8 : Tx8 K mg aJ aG) (T9 : Tx9 mg) : FnOk P w K mg base CX0 7 aLaw fd ["_law_script"] (spLaw K) := by
  have GO : Cal P w K mg base "_law_source_of" 1 aO ["_law_cell"] spSrcOf := ok_srcof T1
  have GN : Cal P w K mg base "_law_next" 1 aN ["_law_source", "_law_many"] spNext := ok_next T1
  have GC : Cal P w K mg base "_law_cell_at" 1 aC ["_law_script", "_law_k"] (spCell K) := ok_cellat T1
  have GP : Cal P w K mg base "_law_specs" 3 aP ["_law_source", "_law_most", "_law_wide", "_law_many"] spSpecs := ok_specs T1 T4
  have GR : Cal P w K mg base "request_time" 3 aR ["row", "number"] (spRt C) := ok_rt T T2 T3
  have GS : Cal P w K mg base "_law_send" 2 aG ["_law_specs_here", "_law_states", "_law_time", "_law_upright"] spSend := ok_send T8
  have GQ : Cal P w K mg base "periods" 3 aQ ["row"] (spPers C) := ok_pers T T2 T7
  have GM : Cal P w K mg base "row_period" 4 aM ["row"] (spRp C) := ok_rp T T2 T7
  have nd := sc_law.nd
  refine F.ok sc_law (fun vs H Q E h => ?_) (fun cdv A outer s H vs Q E hr h => ?_)
  · obtain ⟨a, ns, rfl, _⟩ := h
    rfl
  · obtain ⟨a, ns, rfl, hS, hlen, k⟩ := h
    have hr1 : Room 1 _ := hr.mono (by decide)
    have hr2 : Room 2 _ := hr.mono (by decide)
    have hr3 : Room 3 _ := hr.mono (by decide)
    have hr4 : Room 4 _ := hr.mono (by decide)
    refine ⟨_, pss_cons (ps_for PassesOwn.never rfl (pi_list (pe_op op_cat (pe_lst (pa_cons (pe_c GC hr1 rfl (pa_cons (pv 0) (pa_cons pe_int pa_nil))) pa_nil)) (pe_slice (r := rSlL K) sl_list (pv 0) (po_some pe_int) (po_some pe_int)))) (pg_name (i := 1) nd rfl (Or.inl rfl))
        (pss_cons (ps_set (i := 2) nd rfl (Or.inl rfl) (pe_c GO hr1 rfl (pa_cons (pv 1) pa_nil)))
        (pss_cons (ps_set (i := 3) nd rfl (Or.inl rfl) (pe_c GP hr3 rfl (pa_cons (pv 2) (pa_cons pe_int (pa_cons pe_int (pa_cons pe_int pa_nil))))))
        (pss_cons (ps_set (i := 4) nd rfl (Or.inl rfl) (pe_row1 T T2 M hr rfl (pa_cons (pv 3) (pa_cons (pe_op op_add pe_int (pe_c GN hr1 rfl (pa_cons (pv 2) (pa_cons pe_int pa_nil)))) pa_nil)) (pk_cons (pe_c GN hr1 rfl (pa_cons (pv 2) (pa_cons pe_int pa_nil))) pk_nil)))
        (pss_cons (ps_setLc (i := 5) (own := [("_law_spec", 14)]) (g := gName 14) (tt := tYes) (by rfl) nd rfl rfl (sw_true rfl rfl rfl (by decide +kernel)) (pi_list (pv 3)) (blkOk_by (own := [("_law_spec", 14)]) (N := NLaw) (sc := defScope st_law) (by decide +kernel)) (fun _ _ _ _ _ => pg_name (i := 14) nd rfl (Or.inl rfl)) (fun _ _ _ _ _ => pts_nil) (fun _ _ _ _ _ => pe_lst (pa_cons pe_str (pa_cons pe_int pa_nil))))
        (pss_cons (ps_setLc (i := 7) (own := [("_law_k", 6)]) (g := gName 6) (tt := tYes) (by rfl) nd rfl rfl (sw_true rfl rfl rfl (by decide +kernel)) (pi_range1 rfl T4.range (pa_cons (pe_op op_add (pe_callB call_len_seq (by rfl) T1.len PySem.boot_len (pa_cons (pv 3) pa_nil)) pe_int) pa_nil)) (blkOk_by (own := [("_law_k", 6)]) (N := NLaw) (sc := defScope st_law) (by decide +kernel)) (fun _ _ _ _ _ => pg_name (i := 6) nd rfl (Or.inl rfl)) (fun _ _ _ _ _ => pts_nil) (fun _ _ _ _ _ => pe_lst pa_nil))
        (pss_cons (ps_set (i := 8) nd rfl (Or.inl rfl) pe_int)
        (pss_cons (ps_while PassesOwn.never (PW.pt (pw_and (pt_cmpR op_lt (pv 8) pe_int (nomark _)) (pw_and1 (pt_cmpR op_lt (pe_callB (cr_min rfl) (by rfl) T9.min (by decide +kernel) (pa_cons (pe_lc (own := [("_law_some", 16)]) (g := gName 16) (tt := tYes) rfl nd (pi_list (pv 7)) (blkOk_by (own := [("_law_some", 16)]) (N := NLaw) (sc := defScope st_law) (by decide +kernel)) (fun _ _ _ _ _ => pg_name (i := 16) nd rfl (Or.inl rfl)) (fun _ _ _ _ _ => pts_nil)
              (fun _ _ _ _ _ => pe_callB (r := fun xs H Q => ∃ p ys, xs = [V.ref p] ∧ (SqL K H p ys ∨ SqT K H p ys) ∧ Q (.int (ys.length : Nat)) H) call_len_seq (by rfl) T1.len PySem.boot_len (pa_cons (pv 16) pa_nil))) pa_nil)) pe_int (nomark _)))))
            (pss_cons (ps_set (i := 9) nd rfl (Or.inl rfl) (pe_c GR hr3 rfl (pa_cons (pv 4) (pa_cons (pv 8) pa_nil))))
            (pss_cons (ps_set (i := 10) nd rfl (Or.inl rfl) (pe_cmpR (op_eqD hr.units) (pe_lc (own := [("_law_state", 15)]) (g := gName 15) rfl nd (pi_list (pv 5)) (blkOk_by (own := [("_law_state", 15)]) (N := NLaw) (sc := defScope st_law) (by decide +kernel)) (fun _ _ _ _ _ => pg_name (i := 15) nd rfl (Or.inl rfl))
                (fun _ _ _ _ _ => pts_one (pt_cmpR op_eq (pe_ix (r := rIxL K) ix_list (pv 15) pe_int (fun _ _ => rfl)) pe_str (nomark _))) (fun _ _ _ _ _ => pe_str)) (pe_lst pa_nil) (nomark _)))
            (pss_cons (ps_asg (pe_c GS hr2 rfl (pa_cons (pv 3) (pa_cons (pv 5) (pa_cons (pv 9) (pa_cons pe_bl pa_nil))))) (pg_tup rfl (pgs_cons (pg_name (i := 11) nd rfl (Or.inl rfl)) (pgs_cons (pg_name (i := 12) nd rfl (Or.inl rfl)) pgs_nil))))
            (pss_cons (ps_for PassesOwn.never rfl (pi_range1 rfl T4.range (pa_cons (pe_op op_add (pv 12) pe_int) pa_nil)) (pg_name (i := 6) nd rfl (Or.inl rfl))
                (pss_one (ps_if (pt_val (pv 10)) (pss_one (ps_expr (pe_bm PySem.F.plainAttrs_list PySem.F.slot_list_append PySem.F.type_list_append mt_append (pe_ix ix_list (pv 7) (pv 6) (fun _ _ => rfl)) (pa_cons (pv 9) pa_nil)))) pss_nil)))
            (pss_one (ps_set (i := 8) nd rfl (Or.inl rfl) (pe_op op_add (pv 8) pe_int))))))))
        (pss_one (ps_if (pt_cmpR op_lt (pv 8) pe_int (nomark _))
            (pss_cons (ps_set (i := 13) nd rfl (Or.inl rfl) (pe_c GQ hr3 rfl (pa_cons (pv 4) pa_nil)))
            (pss_cons (ps_for PassesOwn.never rfl (pi_range1 rfl T4.range (pa_cons (pe_callB call_len_seq (by rfl) T1.len PySem.boot_len (pa_cons (pv 7) pa_nil)) pa_nil)) (pg_name (i := 6) nd rfl (Or.inl rfl))
                (pss_one (ps_if (pt_cmpR (op_neD hr.units) (pe_lc (own := [("_law_early", 17), ("_law_late", 18)]) (g := gTup K 2 (gCons (gName 17) (gCons (gName 18) gNil))) (tt := tYes) rfl nd (pi_zip (by rfl) T8.zip (pa_cons (pe_ix ix_list (pv 7) (pv 6) (fun _ _ => rfl)) (pa_cons (pe_slice (r := rSlL K) sl_list (pe_ix ix_list (pv 7) (pv 6) (fun _ _ => rfl)) (po_some pe_int) po_none) pa_nil)))
                    (blkOk_by (own := [("_law_early", 17), ("_law_late", 18)]) (N := NLaw) (sc := defScope st_law) (by decide +kernel)) (fun _ _ _ _ _ => pg_tup rfl (pgs_cons (pg_name (i := 17) nd rfl (Or.inl rfl)) (pgs_cons (pg_name (i := 18) nd rfl (Or.inl rfl)) pgs_nil))) (fun _ _ _ _ _ => pts_nil) (fun _ _ _ _ _ => pe_op op_sub (pv 18) (pv 17)))
                  (pe_op op_rep (pe_lst (pa_cons (pe_ix ix_list (pv 13) (pv 6) (fun _ _ => rfl)) pa_nil)) (pe_op op_sub (pe_callB call_len_seq (by rfl) T1.len PySem.boot_len (pa_cons (pe_ix ix_list (pv 7) (pv 6) (fun _ _ => rfl)) pa_nil)) pe_int)) (nomark _)) (pss_one (ps_ret pe_bl)) pss_nil)))
            (pss_cons (ps_if (PW.pt (pw_or (pt_cmpR op_ne (pe_c GM hr4 rfl (pa_cons (pv 4) pa_nil)) (pe_ix ix_list (pv 13) (pe_un un_neg pe_int) (fun _ _ => rfl)) (nomark _))
                (pw_or (pt_cmpR op_ne (pe_k1 T7.dM (fun fd F => fn_rp T T2 T7 F) (fun _ _ _ _ _ _ _ => rfl) hr4 rfl (pk_cons (pv 4) pk_nil)) (pe_ix ix_list (pv 13) (pe_un un_neg pe_int) (fun _ _ => rfl)) (nomark _))
                (pw_or1 (pt_cmpR op_ne (pe_callB call_len_seq (by rfl) T1.len PySem.boot_len (pa_cons (pv 13) pa_nil)) (pe_op op_add (pe_callB call_len_seq (by rfl) T1.len PySem.boot_len (pa_cons (pv 3) pa_nil)) pe_int) (nomark _)))))) (pss_one (ps_ret pe_bl)) pss_nil)
            (pss_cons (ps_expr (pe_bm PySem.F.plainAttrs_list PySem.F.slot_list_append PySem.F.type_list_append mt_append (pe_k1 T7.dQ (fun fd F => fn_pers T T2 T7 F) (fun _ _ _ _ _ _ _ => rfl) hr3 rfl (pk_cons (pv 4) pk_nil)) (pa_cons pe_int pa_nil)))
            (pss_one (ps_if (pt_cmpR (op_neD hr.units) (pe_c GQ hr3 rfl (pa_cons (pv 4) pa_nil)) (pv 13) (nomark _)) (pss_one (ps_ret pe_bl)) pss_nil)))))) pss_nil))))))))))
      (pss_one (ps_ret pe_bl)), ?_⟩
    -- [cell_at(script, 0)] + script[1:4]
    refine ⟨_, rfl, a, ns, 0, rfl, hS, Int.le_refl _, fun z => ⟨(by show 1 ≤ sizeLine; decide), fun l1 hl1 => ?_⟩⟩
    have z1 : Same H (upd H l1 (.lst [.int z])) := Same.upd hl1
    refine ⟨_, rfl, 1, rfl, 4, rfl, a, ns.map V.int, rfl, z1.seq hS, fun l2 hl2 => ?_⟩
    refine ⟨l1, l2, _, _, rfl, rfl, (Same.upd hl2) _ _ upd_same, upd_same, small2 (by have := cutV_length (ns.map V.int) (some 1) (some 4); rw [List.length_map] at this; show 1 + _ ≤ 10000; omega), fun l3 hl3 => ?_⟩
    have items : ∀ v ∈ [V.int z] ++ cutV (ns.map V.int) (some 1) (some 4), ∃ c, v = .int c := fun v hv => by
      rcases List.mem_append.mp hv with hv | hv
      · exact ⟨z, by simpa using hv⟩
      · obtain ⟨c, _, e⟩ := List.mem_map.mp (List.mem_of_mem_drop (List.mem_of_mem_take hv))
        exact ⟨c, e.symm⟩
    refine ⟨l3, rfl, ⟨_, SqL.of upd_same⟩, ?_⟩
    refine for_list (K := K) (a := l3) (xs := [V.int z] ++ cutV (ns.map V.int) (some 1) (some 4)) (fun i σ H2 => ∃ v1 v2 v3 v4 v5 v6 v7 v8 v9 v10 v11 v12 v13 : Option V, σ = [some (.ref a), v1, v2, v3, v4, v5, v6, v7, v8, v9, v10, v11, v12, v13, none, none, none, none, none] ∧ H2 l3 = some (.lst ([V.int z] ++ cutV (ns.map V.int) (some 1) (some 4))))
      ⟨none, none, none, none, none, none, none, none, none, none, none, none, none, rfl, upd_same⟩ (fun i σ H2 _ ⟨_, _, _, _, _, _, _, _, _, _, _, _, _, _, e⟩ => SqL.of e) ?_ ?_
    · rintro i v σ H0 hi ⟨v1, v2, v3, v4, v5, v6, v7, v8, v9, v10, v11, v12, v13, rfl, hL⟩
      obtain ⟨cc, rfl⟩ := items v (List.mem_of_getElem? hi)
      generalize hit : [V.int z] ++ cutV (ns.map V.int) (some 1) (some 4) = its at *
      refine ⟨_, rfl, cc, rfl, fun s H1 hs0 y1 src1 => ?_⟩
      have nls : l3 ≠ s := ne_of_none hL hs0
      have hL1 := y1 _ _ hL
      refine ⟨_, rfl, s, 4, 9, 3, 0, rfl, by decide, by decide, by decide, by decide, by decide, by decide, src1, by decide, fun l xs ts H2 hl2' hb2 ho2 hn2 src2 k2 hln => ?_⟩
      have hL2 := k2 _ _ nls hL1
      have nL : l3 ≠ l := ne_of_none hL1 hln
      have nsl : l ≠ s := by
        obtain ⟨ya, hya⟩ := src1.has
        exact (ne_of_none hya hln).symm
      have hok : ∀ t ∈ ts, OkT t := fun t ht => by
        obtain ⟨o1, o2, o3, o4, o5, o6⟩ := ho2 t ht
        exact ⟨o1, by omega, o3, by omega, o5, by omega⟩
      have hn4 : ts.length ≤ 4 := by omega
      have hxl := hb2.len
      -- lane
      refine ⟨_, rfl, _, rfl, s, 3, 1000, rfl, by decide, by decide, src2, by decide, fun r H3 r0 r1 src3 k3 => ⟨_, _, rfl, rfl, _, rfl, s, 5, 1001, rfl, by decide, by decide, src3, by decide, fun ph H4 p0 p1 src4 k4 => ⟨rfl, rfl, ?_⟩⟩⟩
      obtain ⟨ys2, hys2⟩ := src2.has
      obtain ⟨ys3, hys3⟩ := src3.has
      have hl4 := k4 _ _ nsl (k3 _ _ nsl hl2')
      have hL4 := k4 _ _ nls (k3 _ _ nls hL2)
      have hb4 : Brs H4 xs ts := (hb2.nl (k3.nl hys2)).nl (k4.nl hys3)
      refine row_made (xs := xs) (ts := ts) hl4 hb4 hok (by omega) ⟨by omega, by omega, by omega, by omega⟩ fun p Tp H5 R5 y5 hp5 => ?_
      have hl5 := y5 _ _ hl4
      have hL5 := y5 _ _ hL4
      generalize hst : 1 + r = st at *
      have st1 : 1 ≤ st := R5.s0
      -- states
      refine ⟨_, rfl, l, rfl, ⟨_, SqL.of hl5⟩, fun sa hsa => ?_⟩
      have nD : ∀ b o, H5 b = some o → b ≠ sa := fun b o e => ne_of_none e hsa
      refine lc_list (K := K) (a := l) (xs := xs) (fun j H6 => ∃ as : List Addr, H6 sa = some (.lst (as.map V.ref)) ∧ as.Nodup ∧ sa ∉ as ∧ as.length = j ∧ (∀ b ∈ as, H6 b = some (.lst [.str "closed", .int 0]) ∧ H5 b = none) ∧ Same H5 H6)
        ⟨[], upd_same, List.nodup_nil, by simp, rfl, fun b hb => by simp at hb, Same.upd hsa⟩ (fun j H6 _ ⟨_, _, _, _, _, _, s6⟩ => SqL.of (s6 _ _ hl5)) ?_ ?_
      · rintro j x H6 hx ⟨as, e1, e2, e3, e4, e5, s6⟩
        have hj : j < xs.length := (List.getElem?_eq_some_iff.mp hx).1
        refine ⟨rfl, tYes_of ⟨(by show 2 ≤ sizeLine; decide), fun e he => ?_⟩⟩
        have se := Same.upd (o := .lst [.str "closed", .int 0]) he
        have nes : sa ≠ e := ne_of_none e1 he
        have nem : e ∉ as := fun hm => ne_of_none (e5 e hm).1 he rfl
        refine ⟨as.map V.ref, se _ _ e1, small1000 (by rw [List.length_map]; omega), as ++ [e], ?_, ?_, ?_, by rw [List.length_append, e4]; rfl, fun b hb => ?_, fun b o eb => ?_⟩
        · rw [upd_same, List.map_append]
          rfl
        · exact List.nodup_append.mpr ⟨e2, by simp, fun b hb b' hb' => by
            have : b' = e := by simpa using hb'
            rw [this]
            exact fun z => nem (by rw [← z]; exact hb)⟩
        · intro hm
          rcases List.mem_append.mp hm with hm | hm
          · exact e3 hm
          · exact nes (by simpa using hm)
        · rcases List.mem_append.mp hb with hb | hb
          · refine ⟨?_, (e5 b hb).2⟩
            rw [upd_ne (show b ≠ sa from fun z => e3 (by rw [← z]; exact hb))]
            exact se _ _ (e5 b hb).1
          · have : b = e := by simpa using hb
            subst this
            refine ⟨by rw [upd_ne nes.symm]; exact upd_same, s6.free he⟩
        · rw [upd_ne (nD b o eb)]
          exact se _ _ (s6 _ _ eb)
      · rintro H6 ⟨as, hsa6, asN, nsa, asL, asV, s6⟩
        have hl6 := s6 _ _ hl5
        -- passes
        refine ⟨_, rfl, l, xs, rfl, .inl (SqL.of hl6), _, _, rfl, rfl, _, rfl, by omega, by omega, fun pa hpa => ?_⟩
        refine lc_range (lo := 0) (n := ((xs.length : Int) + 1).toNat) (fun j H7 => ∃ qs : List Addr, H7 pa = some (.lst (qs.map V.ref)) ∧ qs.Nodup ∧ pa ∉ qs ∧ qs.length = j ∧ (∀ b ∈ qs, H7 b = some (.lst []) ∧ H6 b = none) ∧ Same H6 H7)
          ⟨[], upd_same, List.nodup_nil, by simp, rfl, fun b hb => by simp at hb, Same.upd hpa⟩ ?_ ?_
        · rintro j H7 hj ⟨qs, e1, e2, e3, e4, e5, s7⟩
          refine ⟨rfl, tYes_of ⟨(by show 0 ≤ sizeLine; decide), fun e he => ?_⟩⟩
          have se := Same.upd (o := .lst []) he
          have nes : pa ≠ e := ne_of_none e1 he
          have nem : e ∉ qs := fun hm => ne_of_none (e5 e hm).1 he rfl
          refine ⟨qs.map V.ref, se _ _ e1, small1000 (by rw [List.length_map]; omega), qs ++ [e], ?_, ?_, ?_, by rw [List.length_append, e4]; rfl, fun b hb => ?_, fun b o eb => ?_⟩
          · rw [upd_same, List.map_append]
            rfl
          · exact List.nodup_append.mpr ⟨e2, by simp, fun b hb b' hb' => by
              have : b' = e := by simpa using hb'
              rw [this]
              exact fun z => nem (by rw [← z]; exact hb)⟩
          · intro hm
            rcases List.mem_append.mp hm with hm | hm
            · exact e3 hm
            · exact nes (by simpa using hm)
          · rcases List.mem_append.mp hb with hb | hb
            · refine ⟨?_, (e5 b hb).2⟩
              rw [upd_ne (show b ≠ pa from fun z => e3 (by rw [← z]; exact hb))]
              exact se _ _ (e5 b hb).1
            · have : b = e := by simpa using hb
              subst this
              refine ⟨by rw [upd_ne nes.symm]; exact upd_same, s7.free he⟩
          · rw [upd_ne (ne_of_none eb hpa)]
            exact se _ _ (s7 _ _ eb)
        · rintro H7 ⟨qs, hpa7, qsN, npa, qsL, qsV, s7⟩
          have hn : ((xs.length : Int) + 1).toNat = ts.length + 1 := by omega
          rw [hn] at qsL
          have asL' : as.length = ts.length := by omega
          have s57 := s6.trans s7
          -- who is apart from whom
          have dq : ∀ b o, H6 b = some o → b ∉ qs := fun b o e hm => by rw [(qsV b hm).2] at e; cases e
          have da : ∀ b o, H5 b = some o → b ∉ as := fun b o e hm => by rw [(asV b hm).2] at e; cases e
          have aq : ∀ b ∈ as, b ∉ qs ∧ b ≠ pa := fun b hb => ⟨dq b _ (asV b hb).1, ne_of_none (asV b hb).1 hpa⟩
          have saq : sa ∉ qs := dq sa _ hsa6
          have lq : l ∉ qs := dq l _ hl6
          have la : l ∉ as := da l _ hl5
          have lsa : l ≠ sa := nD l _ hl5
          have Lq : l3 ∉ qs := dq l3 _ (s6 _ _ hL5)
          have La : l3 ∉ as := da l3 _ hL5
          have R7 := R5.nl (NL.of s57)
          have paA : pa ∉ as := fun hm => (aq pa hm).2 rfl
          have TA : Tab H7 sa as (fun i => bV ((fun _ => B.cl 0 : Nat → B) i)) := ⟨s7 _ _ hsa6, asN, nsa, fun i b hb => s7 _ _ (asV b (List.mem_of_getElem? hb)).1⟩
          have TP : Tab H7 pa qs (fun i => (apl ((fun _ => 0 : Nat → Int) i) (per st ts i) ((fun _ => 0 : Nat → Nat) i)).map V.int) := ⟨hpa7, qsN, npa, fun i b hb => (qsV b (List.mem_of_getElem? hb)).1⟩
          have J0 : J st (ph + ((0 : Nat) : Int) * st) ts (fun _ => B.cl 0) (fun _ => 0) (fun _ => 0) := ⟨.inl fun _ _ => rfl, fun h => absurd h (by decide), fun _ _ h => absurd h (by decide)⟩
          obtain ⟨W, hW⟩ : ∃ W : Nat → L2.St → Hp → Prop, W = fun m σ H8 => ∃ (N : Nat) (f : Nat → B) (F : Nat → Int) (c : Nat → Nat) (u6 u9 u10 u11 u12 : Option V), m = 900 - N ∧ N ≤ 900 ∧ σ = [some (.ref a), some (.int cc), some (.ref s), some (.ref l), some (.ref p), some (.ref sa), u6, some (.ref pa), some (.int (N : Nat)), u9, u10, u11, u12, v13, none, none, none, none, none] ∧
            Tab H8 sa as (fun i => bV (f i)) ∧ Tab H8 pa qs (fun i => (apl (F i) (per st ts i) (c i)).map V.int) ∧ (∀ i, noHf (f i)) ∧ J st (ph + (N : Int) * st) ts f F c ∧ RowAt C H8 p Tp xs ts st ph ∧ H8 l = some (.lst xs) ∧ H8 l3 = some (.lst its) ∧ (∀ i, c i ≤ N) := ⟨_, rfl⟩
          refine ⟨W, ⟨900, ?_⟩, fun m σ H8 hw => ?_⟩
          · rw [hW]
            exact ⟨0, _, _, _, _, _, _, _, _, rfl, by decide, rfl, TA, TP, fun _ => trivial, J0, R7, s57 _ _ hl5, s57 _ _ hL5, fun _ => Nat.le_refl _⟩
          · rw [hW] at hw
            obtain ⟨N, f, F, c, u6, u9, u10, u11, u12, rfl, hN, rfl, tA, tP, hnf, hJ, R8, hl8, hL8, hcN⟩ := hw
            have qn : qs.length = ts.length + 1 := qsL
            have hper := pos_per hok st1
            refine ⟨_, rfl, _, _, rfl, rfl, _, rfl, ?_⟩
            refine ite2 (fun c1 => ?_) (fun c1 => ?_)
            · have c1' : (N : Int) < 900 := of_decide_eq_true c1
              -- the lengths
              refine ⟨_, rfl, pa, rfl, ⟨_, SqL.of tP.li⟩, fun D hD => ?_⟩
              refine lc_list (K := K) (a := pa) (xs := qs.map V.ref) (fun j H9 => H9 D = some (.lst (((List.range j).map fun i => ((c i : Nat) : Int)).map V.int)) ∧ Same H8 H9) ⟨upd_same, Same.upd hD⟩ (fun j H9 _ ⟨_, s9⟩ => SqL.of (s9 _ _ tP.li)) ?_ ?_
              · rintro j x H9 hx ⟨hD9, s9⟩
                obtain ⟨q, hq, rfl⟩ := ref_at hx
                have hj : j < qs.length := (List.getElem?_eq_some_iff.mp hq).1
                refine ⟨rfl, tYes_of ⟨_, rfl, q, _, rfl, .inl (SqL.of (s9 _ _ (tP.at_ j q hq))), _, hD9, small1000 (by rw [List.length_map, List.length_map, List.length_range]; omega), ?_, fun b o e => ?_⟩⟩
                · rw [upd_same, List.length_map, apl_len, List.range_succ, List.map_append, List.map_append]
                  rfl
                · rw [upd_ne (ne_of_none e hD)]
                  exact s9 _ _ e
              · rintro H9 ⟨hD9, s9⟩
                rw [List.length_map, qn] at hD9
                refine ⟨D, (List.range (ts.length + 1)).map fun i => ((c i : Nat) : Int), rfl, SqL.of hD9, by rw [List.length_map, List.length_range]; omega, fun mm hm hle => ⟨_, _, rfl, rfl, _, rfl, ?_⟩⟩
                have tA9 := tA.same s9
                have tP9 := tP.same s9
                have R9 := R8.nl (NL.of s9)
                have hl9 := s9 _ _ hl8
                have hL9 := s9 _ _ hL8
                refine ite2 (fun c2 => ?_) (fun c2 => ?_)
                · refine ⟨fun σ' H' => ∃ m', m' < 900 - N ∧ W m' σ' H', fun _ _ h => h, ?_⟩
                  -- time
                  refine ⟨_, rfl, _, rfl, p, Tp, xs, ts, st, ph, (N : Int), rfl, R9, by omega, Nat.lt_of_le_of_lt (show (N : Int).natAbs ≤ 900 by omega) (by decide), ?_⟩
                  generalize hTT : ph + (N : Int) * st = TT at *
                  -- is_open
                  refine ⟨_, rfl, sa, rfl, ⟨_, SqL.of tA9.li⟩, fun D2 hD2 => ?_⟩
                  refine lc_list (K := K) (a := sa) (xs := as.map V.ref) (fun j HA => ∃ kk, kk ≤ j ∧ HA D2 = some (.lst (List.replicate kk (.str "closed"))) ∧ (kk = 0 ↔ ∀ i, i < j → ∃ o, f i = .op o) ∧ Same H9 HA)
                    ⟨0, Nat.le_refl _, upd_same, ⟨fun _ i hi => absurd hi (Nat.not_lt_zero i), fun _ => rfl⟩, Same.upd hD2⟩ (fun j HA _ ⟨_, _, _, _, sA⟩ => SqL.of (sA _ _ tA9.li)) ?_ ?_
                  · rintro j x HA hx ⟨kk, hk1, hD3, hk2, sA⟩
                    obtain ⟨e, he, rfl⟩ := ref_at hx
                    have hj : j < as.length := (List.getElem?_eq_some_iff.mp he).1
                    have hv := sA _ _ (tA9.at_ j e he)
                    cases hf : f j with
                    | hf n =>
                      have := hnf j
                      rw [hf] at this
                      exact this.elim
                    | cl f' =>
                      rw [hf] at hv
                      refine ⟨rfl, _, rfl, e, _, 0, _, rfl, rfl, SqL.of hv, rfl, rfl, _, rfl, ?_⟩
                      rw [decide_eq_true (rfl : (V.str "closed") = V.str "closed")]
                      refine iteT ⟨_, hD3, small1000 (by rw [List.length_replicate]; omega), kk + 1, by omega, ?_, ⟨fun z => absurd z (by omega), fun z => ?_⟩, fun b o eb => ?_⟩
                      · rw [upd_same, List.replicate_succ']
                      · obtain ⟨o, ho⟩ := z j (Nat.lt_succ_self _)
                        rw [hf] at ho
                        cases ho
                      · rw [upd_ne (ne_of_none eb hD2)]
                        exact sA _ _ eb
                    | op o =>
                      rw [hf] at hv
                      refine ⟨rfl, _, rfl, e, _, 0, _, rfl, rfl, SqL.of hv, rfl, rfl, _, rfl, ?_⟩
                      rw [nq5]
                      refine iteF ⟨kk, by omega, hD3, ⟨fun z i hi => ?_, fun z => hk2.mpr fun i hi => z i (by omega)⟩, sA⟩
                      by_cases e2 : i = j
                      · subst e2
                        exact ⟨o, hf⟩
                      · exact hk2.mp z i (by omega)
                  · rintro HA ⟨kk, hk1, hD3, hk2, sA⟩
                    rw [List.length_map, asL'] at hk1 hk2
                    refine ⟨(by show 0 ≤ sizeLine; decide), fun l4 hl4' => ?_⟩
                    have s4 := Same.upd (o := .lst []) hl4'
                    refine ⟨.list (List.replicate kk (.str "closed")), .list [], .lst (SqL.of (s4 _ _ hD3)) (strs_dp _ _), .lst (SqL.of upd_same) .nil, strs_sh _ (by decide +kernel) _, by decide +kernel, ?_⟩
                    rw [strs_eq]
                    have sB := sA.trans s4
                    have tAB := tA9.same sB
                    have tPB := tP9.same sB
                    have RB := R9.nl (NL.of sB)
                    have hlB := sB _ _ hl9
                    have hLB := sB _ _ hL9
                    generalize upd HA l4 (.lst []) = HB at *
                    -- send
                    refine ⟨_, rfl, _, rfl, _, rfl, l, sa, TT, xs, ts, as, f, rfl, hlB, RB.br, tAB, asL', by omega, la, lsa, hnf, fun tp g HC hg hp1 hp2 htp htpn tAC kC => ?_⟩
                    refine ⟨tp, _, rfl, SqT.of htp, rfl, _, _, rfl, _, _, rfl, rfl, ?_⟩
                    have tPC := tPB.keep (H' := HC) fun b o hb e => kC b o (fun hm => by
                      rcases hb with rfl | hb
                      · exact paA hm
                      · exact (aq b hm).1 hb) e
                    have RC : RowAt C HC p Tp xs ts st ph := RB.nl fun b o e n => kC b o (fun hm => by
                      obtain ⟨i, hi⟩ := List.getElem?_of_mem hm
                      rw [tAB.at_ i b hi] at e
                      exact n _ (Option.some.inj e).symm) e
                    have hlC := kC _ _ la hlB
                    have hLC := kC _ _ La hLB
                    -- the appends
                    refine ⟨_, rfl, _, _, rfl, rfl, _, rfl, by omega, by omega, ?_⟩
                    refine for_range (lo := 0) (n := ((g : Int) + 1).toNat) (fun j σ HD => ∃ w6 : Option V, σ = [some (.ref a), some (.int cc), some (.ref s), some (.ref l), some (.ref p), some (.ref sa), w6, some (.ref pa), some (.int (N : Nat)), some (.int TT), some (.bl (decide (kk = 0))), some (.bl false), some (.int (g : Nat)), v13, none, none, none, none, none] ∧
                        Tab HD pa qs (fun i => if kk = 0 ∧ i < j then (apl (F i) (per st ts i) (c i)).map V.int ++ [.int TT] else (apl (F i) (per st ts i) (c i)).map V.int) ∧ (∀ b o, b ∉ qs → HC b = some o → HD b = some o))
                      ⟨u6, rfl, tPC.congr fun i _ => by rw [if_neg (fun z => Nat.not_lt_zero i z.2)], fun _ _ _ e => e⟩ ?_ ?_
                    · rintro j σ HD hj ⟨w6, rfl, tD, kD⟩
                      have hjq : j < qs.length := by omega
                      have hq : qs[j]? = some qs[j] := List.getElem?_eq_getElem hjq
                      refine ⟨_, rfl, _, rfl, ?_⟩
                      refine ite2 (fun c3 => ?_) (fun c3 => ?_)
                      · have c3' : kk = 0 := of_decide_eq_true c3
                        have hv := tD.at_ j _ hq
                        simp only [Nat.lt_irrefl, and_false, if_false] at hv
                        refine ⟨_, rfl, _, rfl, pa, _, _, .ref qs[j], rfl, rfl, SqL.of tD.li, at_ref (by omega) hq, .inl ⟨rfl, _, SqL.of hv⟩, _, rfl, qs[j], _, _, rfl, rfl, hv, small1000 (by rw [List.length_map, apl_len]; have := hcN j; omega), ?_⟩
                        refine ⟨_, rfl, (tD.set hq upd_same Kp.upd).congr fun i _ => ?_, fun b o n e => ?_⟩
                        · by_cases e2 : i = j
                          · subst e2
                            rw [if_pos rfl, if_pos ⟨c3', Nat.lt_succ_self _⟩]
                          · rw [if_neg e2]
                            by_cases e3 : i < j
                            · rw [if_pos ⟨c3', e3⟩, if_pos ⟨c3', by omega⟩]
                            · rw [if_neg (fun z => e3 z.2), if_neg (fun z => by have := z.2; omega)]
                        · rw [upd_ne (fun z => n (by rw [z]; exact List.getElem_mem hjq))]
                          exact kD _ _ n e
                      · have c3' : ¬ kk = 0 := fun z => c3 (decide_eq_true z)
                        exact ⟨_, rfl, tD.congr fun i _ => by rw [if_neg (fun z => c3' z.1), if_neg (fun z => c3' z.1)], kD⟩
                    · rintro σ HD ⟨w6, rfl, tD, kD⟩
                      have hgn : ((g : Int) + 1).toNat = g + 1 := by omega
                      rw [hgn] at tD
                      have tAD := tAC.keep (H' := HD) fun b o hb e => kD b o (fun hm => by
                        rcases hb with rfl | hb
                        · exact saq hm
                        · exact (aq b hb).1 hm) e
                      have RD : RowAt C HD p Tp xs ts st ph := RC.nl fun b o e n => kD b o (fun hm => by
                        obtain ⟨i, hi⟩ := List.getElem?_of_mem hm
                        rw [tPC.at_ i b hi] at e
                        exact n _ (Option.some.inj e).symm) e
                      have eT : ph + ((N + 1 : Nat) : Int) * st = TT + st := by
                        rw [← hTT, Int.natCast_add, Int.add_mul]
                        simp
                        omega
                      have hpd : ∀ i u, i < g → ts[i]? = some u → psB TT u (f i) = true := hp1
                      have eN : (N : Int) + 1 = ((N + 1 : Nat) : Int) := by omega
                      refine ⟨_, rfl, _, _, rfl, rfl, 900 - (N + 1), by omega, ?_⟩
                      rw [hW]
                      by_cases ho : kk = 0
                      · have hop := hk2.mp ho
                        refine ⟨N + 1, _, nF TT g F c, nc g c, _, _, _, _, _, rfl, by omega, by rw [← eN]; rfl, tAD, tD.congr fun i hi => ?_, fun i => ?_, ?_, RD, kD _ _ lq hlC, kD _ _ Lq hLC, fun i => ?_⟩
                        · by_cases e2 : i ≤ g
                          · rw [if_pos ⟨ho, by omega⟩, apl_new hJ hok st1 hg hpd i e2, List.map_append]
                            rfl
                          · rw [if_neg (fun z => by have := z.2; omega), apl_old i e2]
                        · by_cases e2 : i < g
                          · rw [if_pos e2]; exact noHf_fail (hnf i)
                          · rw [if_neg e2]; exact hnf i
                        · rw [eT]
                          exact hJ.open_ hok st1 hg hop hpd hp2
                        · unfold nc
                          have := hcN i
                          by_cases e2 : i ≤ g
                          · rw [if_pos e2]; omega
                          · rw [if_neg e2]; omega
                      · refine ⟨N + 1, _, F, c, _, _, _, _, _, rfl, by omega, by rw [← eN]; rfl, tAD, tD.congr fun i hi => by rw [if_neg (fun z => ho z.1)], fun i => ?_, ?_, RD, kD _ _ lq hlC, kD _ _ Lq hLC, fun i => Nat.le_succ_of_le (hcN i)⟩
                        · by_cases e2 : i < g
                          · rw [if_pos e2]; exact noHf_fail (hnf i)
                          · rw [if_neg e2]; exact hnf i
                        · exact hJ.shut (fun z => ho (hk2.mpr z)) _ _
                · -- fewer than nine hundred requests: each list has three times or more
                  have hc3 : ∀ i, i ≤ ts.length → 3 ≤ c i := fun i hi => by
                    have h1 := hle ((c i : Nat) : Int) (List.mem_map.mpr ⟨i, List.mem_range.mpr (by omega), rfl⟩)
                    have h2 : ¬ mm < 3 := fun z => c2 (decide_eq_true z)
                    omega
                  refine ⟨_, rfl, _, _, rfl, rfl, _, rfl, ?_⟩
                  rw [decide_eq_true (show (N : Int) < 900 from c1')]
                  refine iteT ?_
                  refine ⟨_, rfl, p, Tp, xs, ts, st, ph, rfl, R9, fun fo HA hfo yA hfon => ?_⟩
                  have tPA := tP9.same yA
                  have RA := R9.nl (NL.of yA)
                  have hlA := yA _ _ hl9
                  have hLA := yA _ _ hL9
                  have pl := pers_len ts st
                  obtain ⟨ini, ei⟩ := pers_last ts st
                  refine ⟨_, rfl, pa, _, rfl, .inl (SqL.of tPA.li), _, rfl, by omega, by rw [List.length_map]; omega, ?_⟩
                  refine for_range (lo := 0) (n := (((qs.map V.ref).length : Nat) : Int).toNat) (fun j σ HB => ∃ w6 : Option V, σ = [some (.ref a), some (.int cc), some (.ref s), some (.ref l), some (.ref p), some (.ref sa), w6, some (.ref pa), some (.int (N : Nat)), u9, u10, u11, u12, some (.ref fo), none, none, none, none, none] ∧ Same HA HB)
                    ⟨u6, rfl, Same.refl HA⟩ ?_ ?_
                  · rintro j σ HB hj ⟨w6, rfl, sB⟩
                    rw [List.length_map] at hj
                    have hjq : j < qs.length := by omega
                    have hq : qs[j]? = some qs[j] := List.getElem?_eq_getElem hjq
                    have tPB := tPA.same sB
                    have hP := tPB.at_ j _ hq
                    have h3 := hc3 j (by omega)
                    have hN2 := hcN j
                    have hPl : ((apl (F j) (per st ts j) (c j)).map V.int).length = c j := by rw [List.length_map, apl_len]
                    have ej : (0 : Int) + (j : Int) = ((j : Nat) : Int) := by omega
                    refine ⟨_, rfl, _, rfl, pa, _, _, .ref qs[j], rfl, rfl, SqL.of tPB.li, at_ref ej hq, ?_⟩
                    refine ⟨_, rfl, _, rfl, pa, _, _, .ref qs[j], rfl, rfl, SqL.of tPB.li, at_ref ej hq, 1, rfl, qs[j], _, rfl, SqL.of hP, fun l5 hl5 => ?_⟩
                    rw [cut_hi1 _ (by omega)]
                    have s5 := Same.upd (o := .lst (((apl (F j) (per st ts j) (c j)).map V.int).drop 1)) hl5
                    refine ⟨qs[j], l5, _, _, rfl, SqL.of (s5 _ _ hP), SqL.of upd_same, fun D3 hD3 => ?_⟩
                    have s53 := s5.trans (Same.upd (o := .lst []) hD3)
                    refine lc_zip (K := K) (a := qs[j]) (b := l5) (xs := (apl (F j) (per st ts j) (c j)).map V.int) (ys := ((apl (F j) (per st ts j) (c j)).map V.int).drop 1) (by rw [List.length_drop]; omega) (fun i HC => HC D3 = some (.lst ((List.replicate i (per st ts j)).map V.int)) ∧ Same (upd HB l5 (.lst (((apl (F j) (per st ts j) (c j)).map V.int).drop 1))) HC)
                      ⟨upd_same, Same.upd hD3⟩ (fun i HC ⟨_, sC⟩ => ⟨SqL.of (sC _ _ (s5 _ _ hP)), SqL.of (sC _ _ upd_same)⟩) ?_ ?_
                    · rintro i x y T' HC hx hy ⟨hC, sC⟩ hT'
                      rw [List.getElem?_drop] at hy
                      have hi1 : 1 + i < c j := by
                        have := (List.getElem?_eq_some_iff.mp hy).1
                        omega
                      rw [List.getElem?_map, apl_at (by omega)] at hx hy
                      have ex : x = V.int (F j + (i : Int) * per st ts j) := (Option.some.inj hx).symm
                      have ey : y = V.int (F j + ((1 + i : Nat) : Int) * per st ts j) := (Option.some.inj hy).symm
                      subst ex ey
                      refine ⟨T', _, rfl, SqT.of upd_same, rfl, _, _, rfl, _, _, rfl, rfl, rfl, tYes_of ⟨_, rfl, _, rfl, _, _, rfl, rfl, _, (Same.upd hT') _ _ hC, small1000 (by rw [List.length_map, List.length_replicate]; omega), ?_, fun b o eb => ?_⟩⟩
                      · have ed : F j + ((1 + i : Nat) : Int) * per st ts j - (F j + (i : Int) * per st ts j) = per st ts j := by
                          rw [Int.natCast_add, Int.add_mul]
                          simp
                          omega
                        rw [upd_same]
                        show some (HO.lst ((List.replicate i (per st ts j)).map V.int ++ [V.int (F j + ((1 + i : Nat) : Int) * per st ts j - (F j + (i : Int) * per st ts j))])) = _
                        rw [ed, List.replicate_succ', List.map_append]
                        rfl
                      · rw [upd_ne (ne_of_none eb hD3)]
                        exact (Same.upd hT') _ _ (sC _ _ eb)
                    · rintro HC ⟨hC, sC⟩
                      rw [List.length_drop, hPl] at hC
                      have sBC := s5.trans sC
                      have tPC := tPB.same sBC
                      have hfoC := sBC _ _ (sB _ _ hfo)
                      have efo : atI ((pers st ts).map V.int) ((0 : Int) + (j : Int)) = some (.int (per st ts j)) := by
                        rw [ej]
                        refine atI_nat ?_
                        rw [List.getElem?_map, pers_get ts st j (by omega)]
                        rfl
                      refine ⟨_, rfl, _, rfl, fo, _, _, .int (per st ts j), rfl, rfl, SqL.of hfoC, efo, (by show 1 ≤ sizeLine; decide), fun l6 hl6 => ?_⟩
                      have s6' := Same.upd (o := .lst [.int (per st ts j)]) hl6
                      refine ⟨_, rfl, _, rfl, pa, _, _, .ref qs[j], rfl, rfl, SqL.of (s6' _ _ tPC.li), at_ref ej hq, qs[j], _, rfl, .inl (SqL.of (s6' _ _ (sBC _ _ hP))), _, _, rfl, rfl, ?_⟩
                      rw [hPl]
                      have ec : ((c j : Int) - 1).toNat = c j - 1 := by omega
                      refine ⟨l6, _, _, rfl, rfl, upd_same, by omega, by omega, small2 (by rw [ec]; show 1 * _ ≤ 10000; omega), fun l7 hl7 => ?_⟩
                      rw [flat_one, ec]
                      have s7' := s6'.trans (Same.upd (o := .lst (List.replicate (c j - 1) (.int (per st ts j)))) hl7)
                      refine ⟨.list ((List.replicate (c j - 1) (per st ts j)).map PyData.int), .list ((List.replicate (c j - 1) (per st ts j)).map PyData.int), .lst (SqL.of (s7' _ _ hC)) (ints_dpa _), .lst (SqL.of (by rw [upd_same, List.map_replicate])) (ints_dpa _), ints_sh _, ints_sh _, _, rfl, ?_⟩
                      rw [ints_refl]
                      exact iteF ⟨_, rfl, (sB.trans sBC).trans s7'⟩
                  · rintro σ HB ⟨w6, rfl, sB⟩
                    have RB := RA.nl (NL.of sB)
                    have hfoB := sB _ _ hfo
                    have hlast : atI ((pers st ts).map V.int) (-1) = some (.int (lastP st ts)) := by
                      rw [ei, List.map_append]
                      exact atI_last _ _
                    refine ⟨_, rfl, p, Tp, xs, ts, st, ph, rfl, RB, fun HC sC => ⟨_, rfl, _, rfl, fo, _, -1, .int (lastP st ts), rfl, rfl, SqL.of (sC _ _ hfoB), hlast, rfl, _, rfl, iteNS rfl ?_⟩⟩
                    refine ⟨_, rfl, rfl, rfl, p, Tp, xs, ts, st, ph, rfl, RB.nl (NL.of sC), fun HD sD => ⟨_, rfl, _, rfl, fo, _, -1, .int (lastP st ts), rfl, rfl, SqL.of (sD _ _ (sC _ _ hfoB)), hlast, rfl, _, rfl, iteNS rfl ?_⟩⟩
                    have sBD := sC.trans sD
                    have hlD := sBD _ _ (sB _ _ hlA)
                    refine ⟨_, rfl, fo, _, rfl, .inl (SqL.of (sBD _ _ hfoB)), _, rfl, l, xs, rfl, .inl (SqL.of hlD), _, _, rfl, rfl, rfl, _, rfl, iteNS (by rw [List.length_map, pl, ← hxl]; rfl) ?_⟩
                    have RD := RB.nl (NL.of sBD)
                    refine ⟨_, rfl, rfl, rfl, p, Tp, xs, ts, st, ph, rfl, RD, fun f2 HE hf2 sE hf2n => ⟨.inl ⟨rfl, _, SqL.of hf2⟩, f2, _, _, rfl, rfl, hf2, small1000 (by rw [List.length_map, pl]; omega), ?_⟩⟩
                    have sF : Same HD (upd HE f2 (.lst ((pers st ts).map V.int ++ [.int 0]))) := fun b o eb => by
                      rw [upd_ne (ne_of_none eb hf2n)]
                      exact sE _ _ eb
                    refine ⟨_, rfl, p, Tp, xs, ts, st, ph, rfl, RD.nl (NL.of sF), fun f3 HG hf3 sG _ => ?_⟩
                    have sAll := (sBD.trans sF).trans sG
                    refine ⟨_, rfl, .list ((pers st ts).map PyData.int), .list ((pers st ts).map PyData.int), .lst (SqL.of hf3) (ints_dpa _), .lst (SqL.of (sAll _ _ hfoB)) (ints_dpa _), ints_sh _, ints_sh _, _, rfl, ?_⟩
                    rw [ints_refl]
                    exact iteF ⟨_, _, _, _, _, _, _, _, _, _, _, _, _, rfl, sAll _ _ (sB _ _ hLA)⟩
            · refine ⟨_, rfl, _, _, rfl, rfl, _, rfl, ?_⟩
              rw [decide_eq_false (show ¬ (N : Int) < 900 from fun z => c1 (decide_eq_true z))]
              exact iteF ⟨_, _, _, _, _, _, _, _, _, _, _, _, _, rfl, hL8⟩
    · rintro σ H2 ⟨v1, v2, v3, v4, v5, v6, v7, v8, v9, v10, v11, v12, v13, rfl, hL⟩
      exact k H2
end
/-! ### the end -/
theorem bn_I (kV doc pm : Value) (an : Option Addr) (cdv ct : Value) (us : List Value) (hl : us.length = (["value"] : List Str).length) : bindArgs (PySem.W.fnOf "is_integer" "is_integer" (defArgs st_is_integer) (defBody st_is_integer) (defScope st_is_integer) .none kV doc pm an cdv ct) ⟨us, []⟩ = pure ((["value"] : List Str).zip us) :=
  match us, hl with | [_], _ => rfl
theorem bn_L (kV doc pm : Value) (an : Option Addr) (cdv ct : Value) (us : List Value) (hl : us.length = (["value", "least"] : List Str).length) : bindArgs (PySem.W.fnOf "is_at_least" "is_at_least" (defArgs st_is_at_least) (defBody st_is_at_least) (defScope st_is_at_least) .none kV doc pm an cdv ct) ⟨us, []⟩ = pure ((["value", "least"] : List Str).zip us) :=
  match us, hl with | [_, _], _ => rfl
theorem bn_W (kV doc pm : Value) (an : Option Addr) (cdv ct : Value) (us : List Value) (hl : us.length = (["value", "least", "most"] : List Str).length) : bindArgs (PySem.W.fnOf "is_within" "is_within" (defArgs st_is_within) (defBody st_is_within) (defScope st_is_within) .none kV doc pm an cdv ct) ⟨us, []⟩ = pure ((["value", "least", "most"] : List Str).zip us) :=
  match us, hl with | [_, _, _], _ => rfl
theorem bn_S (kV doc pm : Value) (an : Option Addr) (cdv ct : Value) (us : List Value) (hl : us.length = (["distance", "step"] : List Str).length) : bindArgs (PySem.W.fnOf "steps_to" "steps_to" (defArgs st_steps_to) (defBody st_steps_to) (defScope st_steps_to) .none kV doc pm an cdv ct) ⟨us, []⟩ = pure ((["distance", "step"] : List Str).zip us) :=
  match us, hl with | [_, _], _ => rfl
theorem bn_V (kV doc pm : Value) (an : Option Addr) (cdv ct : Value) (us : List Value) (hl : us.length = (["value", "unit"] : List Str).length) : bindArgs (PySem.W.fnOf "rounded_up" "rounded_up" (defArgs st_rounded_up) (defBody st_rounded_up) (defScope st_rounded_up) .none kV doc pm an cdv ct) ⟨us, []⟩ = pure ((["value", "unit"] : List Str).zip us) :=
  match us, hl with | [_, _], _ => rfl
theorem bn_B (kV doc pm : Value) (an : Option Addr) (cdv ct : Value) (us : List Value) (hl : us.length = (["value"] : List Str).length) : bindArgs (PySem.W.fnOf "is_breaker" "is_breaker" (defArgs st_is_breaker) (defBody st_is_breaker) (defScope st_is_breaker) .none kV doc pm an cdv ct) ⟨us, []⟩ = pure ((["value"] : List Str).zip us) :=
  match us, hl with | [_], _ => rfl
theorem bn_K (kV doc pm : Value) (an : Option Addr) (cdv ct : Value) (us : List Value) (hl : us.length = (["breakers", "part"] : List Str).length) : bindArgs (PySem.W.fnOf "check_breakers" "check_breakers" (defArgs st_check_breakers) (defBody st_check_breakers) (defScope st_check_breakers) .none kV doc pm an cdv ct) ⟨us, []⟩ = pure ((["breakers", "part"] : List Str).zip us) :=
  match us, hl with | [_, _], _ => rfl
theorem bn_KS (kV doc pm : Value) (an : Option Addr) (cdv ct : Value) (us : List Value) (hl : us.length = (["step"] : List Str).length) : bindArgs (PySem.W.fnOf "check_step" "check_step" (defArgs st_check_step) (defBody st_check_step) (defScope st_check_step) .none kV doc pm an cdv ct) ⟨us, []⟩ = pure ((["step"] : List Str).zip us) :=
  match us, hl with | [_], _ => rfl
theorem bn_R (kV doc pm : Value) (an : Option Addr) (cdv ct : Value) (us : List Value) (hl : us.length = (["row", "number"] : List Str).length) : bindArgs (PySem.W.fnOf "request_time" "request_time" (defArgs st_request_time) (defBody st_request_time) (defScope st_request_time) .none kV doc pm an cdv ct) ⟨us, []⟩ = pure ((["row", "number"] : List Str).zip us) :=
  match us, hl with | [_, _], _ => rfl
theorem bn_Q (kV doc pm : Value) (an : Option Addr) (cdv ct : Value) (us : List Value) (hl : us.length = (["row"] : List Str).length) : bindArgs (PySem.W.fnOf "periods" "periods" (defArgs st_periods) (defBody st_periods) (defScope st_periods) .none kV doc pm an cdv ct) ⟨us, []⟩ = pure ((["row"] : List Str).zip us) :=
  match us, hl with | [_], _ => rfl
theorem bn_M (kV doc pm : Value) (an : Option Addr) (cdv ct : Value) (us : List Value) (hl : us.length = (["row"] : List Str).length) : bindArgs (PySem.W.fnOf "row_period" "row_period" (defArgs st_row_period) (defBody st_row_period) (defScope st_row_period) .none kV doc pm an cdv ct) ⟨us, []⟩ = pure ((["row"] : List Str).zip us) :=
  match us, hl with | [_], _ => rfl
theorem bn_O (kV doc pm : Value) (an : Option Addr) (cdv ct : Value) (us : List Value) (hl : us.length = (["_law_cell"] : List Str).length) : bindArgs (PySem.W.fnOf "_law_source_of" "_law_source_of" (defArgs st__law_source_of) (defBody st__law_source_of) (defScope st__law_source_of) .none kV doc pm an cdv ct) ⟨us, []⟩ = pure ((["_law_cell"] : List Str).zip us) :=
  match us, hl with | [_], _ => rfl
theorem bn_N (kV doc pm : Value) (an : Option Addr) (cdv ct : Value) (us : List Value) (hl : us.length = (["_law_source", "_law_many"] : List Str).length) : bindArgs (PySem.W.fnOf "_law_next" "_law_next" (defArgs st__law_next) (defBody st__law_next) (defScope st__law_next) .none kV doc pm an cdv ct) ⟨us, []⟩ = pure ((["_law_source", "_law_many"] : List Str).zip us) :=
  match us, hl with | [_, _], _ => rfl
theorem bn_E (kV doc pm : Value) (an : Option Addr) (cdv ct : Value) (us : List Value) (hl : us.length = (["_law_source", "_law_options"] : List Str).length) : bindArgs (PySem.W.fnOf "_law_one" "_law_one" (defArgs st__law_one) (defBody st__law_one) (defScope st__law_one) .none kV doc pm an cdv ct) ⟨us, []⟩ = pure ((["_law_source", "_law_options"] : List Str).zip us) :=
  match us, hl with | [_, _], _ => rfl
theorem bn_C (kV doc pm : Value) (an : Option Addr) (cdv ct : Value) (us : List Value) (hl : us.length = (["_law_script", "_law_k"] : List Str).length) : bindArgs (PySem.W.fnOf "_law_cell_at" "_law_cell_at" (defArgs st__law_cell_at) (defBody st__law_cell_at) (defScope st__law_cell_at) .none kV doc pm an cdv ct) ⟨us, []⟩ = pure ((["_law_script", "_law_k"] : List Str).zip us) :=
  match us, hl with | [_, _], _ => rfl
theorem bn_P (kV doc pm : Value) (an : Option Addr) (cdv ct : Value) (us : List Value) (hl : us.length = (["_law_source", "_law_most", "_law_wide", "_law_many"] : List Str).length) : bindArgs (PySem.W.fnOf "_law_specs" "_law_specs" (defArgs st__law_specs) (defBody st__law_specs) (defScope st__law_specs) .none kV doc pm an cdv ct) ⟨us, []⟩ = pure ((["_law_source", "_law_most", "_law_wide", "_law_many"] : List Str).zip us) :=
  match us, hl with | [_, _, _, _], _ => rfl
theorem bn_J (kV doc pm : Value) (an : Option Addr) (cdv ct : Value) (us : List Value) (hl : us.length = (["_law_spec", "_law_state", "_law_time", "_law_good"] : List Str).length) : bindArgs (PySem.W.fnOf "_law_note" "_law_note" (defArgs st__law_note) (defBody st__law_note) (defScope st__law_note) .none kV doc pm an cdv ct) ⟨us, []⟩ = pure ((["_law_spec", "_law_state", "_law_time", "_law_good"] : List Str).zip us) :=
  match us, hl with | [_, _, _, _], _ => rfl
theorem bn_G (kV doc pm : Value) (an : Option Addr) (cdv ct : Value) (us : List Value) (hl : us.length = (["_law_specs_here", "_law_states", "_law_time", "_law_upright"] : List Str).length) : bindArgs (PySem.W.fnOf "_law_send" "_law_send" (defArgs st__law_send) (defBody st__law_send) (defScope st__law_send) .none kV doc pm an cdv ct) ⟨us, []⟩ = pure ((["_law_specs_here", "_law_states", "_law_time", "_law_upright"] : List Str).zip us) :=
  match us, hl with | [_, _, _, _], _ => rfl
theorem mk_dfn {K : PySem.W.Frag} {h : Heap} {mg : Str → Option Value} {x : Str} {st : Stmt} {f : Addr} {ps : List Str} {oc : Value} {od an : Option Addr} {sl : Array (Option Value)} {kV dc pm cd ct : Value} (X : K.In h) (G : h.Ns mainGlobals mg) (a : PySem.W.nsIn K mainGlobals x = some (some (.ref f)))
    (l : K.lookup f = some ⟨oc, od, .func (PySem.W.fnOf x x (defArgs st) (defBody st) (defScope st) .none kV dc pm an cd ct), sl⟩) (c : PySem.W.codeIn K cd x = true) (k : PySem.W.keepIn K (.ref f) = true)
    (hb : ∀ (kV doc pm : Value) (an : Option Addr) (cdv ct : Value) (us : List Value), us.length = ps.length → bindArgs (PySem.W.fnOf x x (defArgs st) (defBody st) (defScope st) .none kV doc pm an cdv ct) ⟨us, []⟩ = pure (ps.zip us)) : Dfn K mg x st f ps :=
  ⟨⟨_, fun_mk l c k, (fun_mk l c k).binds hb⟩, PySem.W.mg_of X G a⟩
theorem mk_mth {K : PySem.W.Frag} {C : Addr} {x q : Str} {st : Stmt} {f : Addr} {ps : List Str} {oc : Value} {od an : Option Addr} {sl : Array (Option Value)} {kV dc pm cd ct : Value} (a : PySem.W.findIn K (.ref C) x = some (some (.ref f))) (i : PySem.W.isFn K (.ref f) = true) (fk : PySem.W.fnIn K f = true)
    (l : K.lookup f = some ⟨oc, od, .func (PySem.W.fnOf x q (defArgs st) (defBody st) (defScope st) .none kV dc pm an cd ct), sl⟩) (c : PySem.W.codeIn K cd q = true) (k : PySem.W.keepIn K (.ref f) = true)
    (hb : ∀ (kV doc pm : Value) (an : Option Addr) (cdv ct : Value) (us : List Value), us.length = ps.length → bindArgs (PySem.W.fnOf x q (defArgs st) (defBody st) (defScope st) .none kV doc pm an cdv ct) ⟨us, []⟩ = pure (ps.zip us)) : Mth K C x q st f ps :=
  ⟨⟨_, fun_mk l c k, (fun_mk l c k).binds hb⟩, a, i, fk⟩
set_option maxHeartbeats 16000000 in
theorem all_mk {P : Program} {w : World} {K : PySem.W.Frag} {h : Heap} {mg : Str → Option Value} {lv : List (Str × PySem.W.WData)} {fa C aX aLaw aD fI fL fW fS fV fB fK fKS fR fQ fM fO fN fE fC fP fJ fG : Addr} {tB tZ : Tok} {odI anI odL anL odW anW odS anS odV anV odB anB odK anK odKS anKS odR anR odQ anQ odM anM odO anO odN anN odE anE odC anC odP anP odJ anJ odG anG odY anY odZ anZ : Option Addr} {slI slL slW slS slV slB slK slKS slR slQ slM slO slN slE slC slP slJ slG slY slZ : Array (Option Value)} {ocI kVI dcI pmI cdI ctI ocL kVL dcL pmL cdL ctL ocW kVW dcW pmW cdW ctW ocS kVS dcS pmS cdS ctS ocV kVV dcV pmV cdV ctV ocB kVB dcB pmB cdB ctB ocK kVK dcK pmK cdK ctK ocKS kVKS dcKS pmKS cdKS ctKS ocR kVR dcR pmR cdR ctR ocQ kVQ dcQ pmQ cdQ ctQ ocM kVM dcM pmM cdM ctM ocO kVO dcO pmO cdO ctO ocN kVN dcN pmN cdN ctN ocE kVE dcE pmE cdE ctE ocC kVC dcC pmC cdC ctC ocP kVP dcP pmP cdP ctP ocJ kVJ dcJ pmJ cdJ ctJ ocG kVG dcG pmG cdG ctG ocY kVY dcY pmY cdY ctY ocZ dcZ pmZ cdZ ctZ : Value}
    (X : K.In h) (G : h.Ns mainGlobals mg) (L : PySem.W.LooseAre lv mg h) (hC : (("MOST_COUNT" : Str), PySem.W.WData.int 1000000000000) ∈ lv) (hT : (("MOST_TIME" : Str), PySem.W.WData.int 1000000000000000000000000000000) ∈ lv) (hfa : mg "law" = some (.ref fa))
    (aCls : PySem.W.nsIn K mainGlobals "Row" = some (some (.ref C)))
    (aI : PySem.W.nsIn K mainGlobals "is_integer" = some (some (.ref fI)))
    (lI : K.lookup fI = some ⟨ocI, odI, .func (PySem.W.fnOf "is_integer" "is_integer" (defArgs st_is_integer) (defBody st_is_integer) (defScope st_is_integer) .none kVI dcI pmI anI cdI ctI), slI⟩)
    (cI : PySem.W.codeIn K cdI "is_integer" = true)
    (kI : PySem.W.keepIn K (.ref fI) = true)
    (aL : PySem.W.nsIn K mainGlobals "is_at_least" = some (some (.ref fL)))
    (lL : K.lookup fL = some ⟨ocL, odL, .func (PySem.W.fnOf "is_at_least" "is_at_least" (defArgs st_is_at_least) (defBody st_is_at_least) (defScope st_is_at_least) .none kVL dcL pmL anL cdL ctL), slL⟩)
    (cL : PySem.W.codeIn K cdL "is_at_least" = true)
    (kL : PySem.W.keepIn K (.ref fL) = true)
    (aW : PySem.W.nsIn K mainGlobals "is_within" = some (some (.ref fW)))
    (lW : K.lookup fW = some ⟨ocW, odW, .func (PySem.W.fnOf "is_within" "is_within" (defArgs st_is_within) (defBody st_is_within) (defScope st_is_within) .none kVW dcW pmW anW cdW ctW), slW⟩)
    (cW : PySem.W.codeIn K cdW "is_within" = true)
    (kW : PySem.W.keepIn K (.ref fW) = true)
    (aS : PySem.W.nsIn K mainGlobals "steps_to" = some (some (.ref fS)))
    (lS : K.lookup fS = some ⟨ocS, odS, .func (PySem.W.fnOf "steps_to" "steps_to" (defArgs st_steps_to) (defBody st_steps_to) (defScope st_steps_to) .none kVS dcS pmS anS cdS ctS), slS⟩)
    (cS : PySem.W.codeIn K cdS "steps_to" = true)
    (kS : PySem.W.keepIn K (.ref fS) = true)
    (aV : PySem.W.nsIn K mainGlobals "rounded_up" = some (some (.ref fV)))
    (lV : K.lookup fV = some ⟨ocV, odV, .func (PySem.W.fnOf "rounded_up" "rounded_up" (defArgs st_rounded_up) (defBody st_rounded_up) (defScope st_rounded_up) .none kVV dcV pmV anV cdV ctV), slV⟩)
    (cV : PySem.W.codeIn K cdV "rounded_up" = true)
    (kV : PySem.W.keepIn K (.ref fV) = true)
    (aB : PySem.W.nsIn K mainGlobals "is_breaker" = some (some (.ref fB)))
    (lB : K.lookup fB = some ⟨ocB, odB, .func (PySem.W.fnOf "is_breaker" "is_breaker" (defArgs st_is_breaker) (defBody st_is_breaker) (defScope st_is_breaker) .none kVB dcB pmB anB cdB ctB), slB⟩)
    (cB : PySem.W.codeIn K cdB "is_breaker" = true)
    (kB : PySem.W.keepIn K (.ref fB) = true)
    (aK : PySem.W.nsIn K mainGlobals "check_breakers" = some (some (.ref fK)))
    (lK : K.lookup fK = some ⟨ocK, odK, .func (PySem.W.fnOf "check_breakers" "check_breakers" (defArgs st_check_breakers) (defBody st_check_breakers) (defScope st_check_breakers) .none kVK dcK pmK anK cdK ctK), slK⟩)
    (cK : PySem.W.codeIn K cdK "check_breakers" = true)
    (kK : PySem.W.keepIn K (.ref fK) = true)
    (aKS : PySem.W.nsIn K mainGlobals "check_step" = some (some (.ref fKS)))
    (lKS : K.lookup fKS = some ⟨ocKS, odKS, .func (PySem.W.fnOf "check_step" "check_step" (defArgs st_check_step) (defBody st_check_step) (defScope st_check_step) .none kVKS dcKS pmKS anKS cdKS ctKS), slKS⟩)
    (cKS : PySem.W.codeIn K cdKS "check_step" = true)
    (kKS : PySem.W.keepIn K (.ref fKS) = true)
    (aR : PySem.W.nsIn K mainGlobals "request_time" = some (some (.ref fR)))
    (lR : K.lookup fR = some ⟨ocR, odR, .func (PySem.W.fnOf "request_time" "request_time" (defArgs st_request_time) (defBody st_request_time) (defScope st_request_time) .none kVR dcR pmR anR cdR ctR), slR⟩)
    (cR : PySem.W.codeIn K cdR "request_time" = true)
    (kR : PySem.W.keepIn K (.ref fR) = true)
    (aQ : PySem.W.nsIn K mainGlobals "periods" = some (some (.ref fQ)))
    (lQ : K.lookup fQ = some ⟨ocQ, odQ, .func (PySem.W.fnOf "periods" "periods" (defArgs st_periods) (defBody st_periods) (defScope st_periods) .none kVQ dcQ pmQ anQ cdQ ctQ), slQ⟩)
    (cQ : PySem.W.codeIn K cdQ "periods" = true)
    (kQ : PySem.W.keepIn K (.ref fQ) = true)
    (aM : PySem.W.nsIn K mainGlobals "row_period" = some (some (.ref fM)))
    (lM : K.lookup fM = some ⟨ocM, odM, .func (PySem.W.fnOf "row_period" "row_period" (defArgs st_row_period) (defBody st_row_period) (defScope st_row_period) .none kVM dcM pmM anM cdM ctM), slM⟩)
    (cM : PySem.W.codeIn K cdM "row_period" = true)
    (kM : PySem.W.keepIn K (.ref fM) = true)
    (aO : PySem.W.nsIn K mainGlobals "_law_source_of" = some (some (.ref fO)))
    (lO : K.lookup fO = some ⟨ocO, odO, .func (PySem.W.fnOf "_law_source_of" "_law_source_of" (defArgs st__law_source_of) (defBody st__law_source_of) (defScope st__law_source_of) .none kVO dcO pmO anO cdO ctO), slO⟩)
    (cO : PySem.W.codeIn K cdO "_law_source_of" = true)
    (kO : PySem.W.keepIn K (.ref fO) = true)
    (aN : PySem.W.nsIn K mainGlobals "_law_next" = some (some (.ref fN)))
    (lN : K.lookup fN = some ⟨ocN, odN, .func (PySem.W.fnOf "_law_next" "_law_next" (defArgs st__law_next) (defBody st__law_next) (defScope st__law_next) .none kVN dcN pmN anN cdN ctN), slN⟩)
    (cN : PySem.W.codeIn K cdN "_law_next" = true)
    (kN : PySem.W.keepIn K (.ref fN) = true)
    (aE : PySem.W.nsIn K mainGlobals "_law_one" = some (some (.ref fE)))
    (lE : K.lookup fE = some ⟨ocE, odE, .func (PySem.W.fnOf "_law_one" "_law_one" (defArgs st__law_one) (defBody st__law_one) (defScope st__law_one) .none kVE dcE pmE anE cdE ctE), slE⟩)
    (cE : PySem.W.codeIn K cdE "_law_one" = true)
    (kE : PySem.W.keepIn K (.ref fE) = true)
    (aC : PySem.W.nsIn K mainGlobals "_law_cell_at" = some (some (.ref fC)))
    (lC : K.lookup fC = some ⟨ocC, odC, .func (PySem.W.fnOf "_law_cell_at" "_law_cell_at" (defArgs st__law_cell_at) (defBody st__law_cell_at) (defScope st__law_cell_at) .none kVC dcC pmC anC cdC ctC), slC⟩)
    (cC : PySem.W.codeIn K cdC "_law_cell_at" = true)
    (kC : PySem.W.keepIn K (.ref fC) = true)
    (aP : PySem.W.nsIn K mainGlobals "_law_specs" = some (some (.ref fP)))
    (lP : K.lookup fP = some ⟨ocP, odP, .func (PySem.W.fnOf "_law_specs" "_law_specs" (defArgs st__law_specs) (defBody st__law_specs) (defScope st__law_specs) .none kVP dcP pmP anP cdP ctP), slP⟩)
    (cP : PySem.W.codeIn K cdP "_law_specs" = true)
    (kP : PySem.W.keepIn K (.ref fP) = true)
    (aJ : PySem.W.nsIn K mainGlobals "_law_note" = some (some (.ref fJ)))
    (lJ : K.lookup fJ = some ⟨ocJ, odJ, .func (PySem.W.fnOf "_law_note" "_law_note" (defArgs st__law_note) (defBody st__law_note) (defScope st__law_note) .none kVJ dcJ pmJ anJ cdJ ctJ), slJ⟩)
    (cJ : PySem.W.codeIn K cdJ "_law_note" = true)
    (kJ : PySem.W.keepIn K (.ref fJ) = true)
    (aG : PySem.W.nsIn K mainGlobals "_law_send" = some (some (.ref fG)))
    (lG : K.lookup fG = some ⟨ocG, odG, .func (PySem.W.fnOf "_law_send" "_law_send" (defArgs st__law_send) (defBody st__law_send) (defScope st__law_send) .none kVG dcG pmG anG cdG ctG), slG⟩)
    (cG : PySem.W.codeIn K cdG "_law_send" = true)
    (kG : PySem.W.keepIn K (.ref fG) = true)
    (aZ : PySem.W.findIn K (.ref C) "__init__" = some (some (.ref aX)))
    (iZ : PySem.W.isFn K (.ref aX) = true)
    (lZ : K.lookup aX = some ⟨ocZ, odZ, .func (PySem.W.fnOf "__init__" "Row.__init__" (defArgs st_Row_init) (defBody st_Row_init) (defScope st_Row_init) .none (.ref aD) dcZ pmZ anZ cdZ ctZ), slZ⟩)
    (cZ : PySem.W.codeIn K cdZ "Row.__init__" = true)
    (kZ : PySem.W.keepIn K (.ref aX) = true)
    (dZ : PySem.W.nsIn K aD "phase" = some (some (.int 0 tZ)))
    (aY : PySem.W.nsIn K mainGlobals "law" = some (some (.ref aLaw)))
    (lY : K.lookup aLaw = some ⟨ocY, odY, .func (PySem.W.fnOf "law" "law" (defArgs st_law) (defBody st_law) (defScope st_law) .none kVY dcY pmY anY cdY ctY), slY⟩)
    (cY : PySem.W.codeIn K cdY "law" = true)
    (kY : PySem.W.keepIn K (.ref aLaw) = true)
    (g1 : PySem.W.plainGet K C Str.empty = true)
    (g2 : PySem.W.hasDictIn K C = true)
    (g3 : PySem.W.plainOver K C = true)
    (g4 : PySem.W.findIn K (.ref C) "__setattr__" = some (some (.builtin "object.__setattr__")))
    (g5 : PySem.W.makesIn K C = true)
    (g6 : PySem.W.keepIn K (.ref C) = true)
    (g7 : PySem.W.findIn K (.ref C) "breakers" = some none)
    (g8 : PySem.W.findIn K (.ref C) "step" = some none)
    (g9 : PySem.W.findIn K (.ref C) "phase" = some none)
    (g10 : PySem.W.isClsIn K C = true)
    (g11 : PySem.W.typeIn K (.ref C) = some (.type "type"))
    (g12 : PySem.W.findIn K (.ref C) "__class__" = some (some (.builtin "object.__class__")))
    (g13 : PySem.W.specialIn K (.builtin "object.__class__") "__get__" = some (some (.builtin "getset_descriptor.__get__")))
    (g14 : PySem.W.takesIn K (.builtin "object.__class__") = some true)
    (g15 : PySem.W.mroIn K C (.type "object") = some true)
    (gB : PySem.W.nsIn K mainGlobals "MOST_BREAKERS" = some (some (.int 12 tB)))
    (z_isinstance : PySem.W.nsIn K mainGlobals "isinstance" = some none)
    (z_int : PySem.W.nsIn K mainGlobals "int" = some none)
    (z_bool : PySem.W.nsIn K mainGlobals "bool" = some none)
    (z_max : PySem.W.nsIn K mainGlobals "max" = some none)
    (z_len : PySem.W.nsIn K mainGlobals "len" = some none)
    (z_list : PySem.W.nsIn K mainGlobals "list" = some none)
    (z_tuple : PySem.W.nsIn K mainGlobals "tuple" = some none)
    (z_enumerate : PySem.W.nsIn K mainGlobals "enumerate" = some none)
    (z_range : PySem.W.nsIn K mainGlobals "range" = some none)
    (z_zip : PySem.W.nsIn K mainGlobals "zip" = some none)
    (z_min : PySem.W.nsIn K mainGlobals "min" = some none) :
    ∃ fd : FuncData, (∀ (s : Shared) (v : Value), BindsTo s fd ⟨[v], []⟩ [("_law_script", v)]) ∧ ∀ base : Heap, K.In base → base.Ns mainGlobals mg → FnOk P w K mg base CX0 7 fa fd ["_law_script"] (spLaw K) := by
  have e := hfa.symm.trans (PySem.W.mg_of X G aY)
  cases e
  obtain ⟨vC, hvC, rC⟩ := L.val _ hC
  obtain ⟨vT, hvT, rT⟩ := L.val _ hT
  obtain ⟨tC, rfl, -⟩ := PySem.W.readsW_int_inv rC
  obtain ⟨tT, rfl, -⟩ := PySem.W.readsW_int_inv rT
  have T0 : Tx0 K mg fI fL fW fS := ⟨PySem.W.mg_none_of X G z_isinstance, PySem.W.mg_none_of X G z_int, PySem.W.mg_none_of X G z_bool, PySem.W.mg_none_of X G z_max, mk_dfn X G aI lI cI kI bn_I, mk_dfn X G aL lL cL kL bn_L, mk_dfn X G aW lW cW kW bn_W, mk_dfn X G aS lS cS kS bn_S⟩
  have T1 : Tx1 K mg fO fN fE fC := ⟨PySem.W.mg_none_of X G z_int, PySem.W.mg_none_of X G z_len, mk_dfn X G aO lO cO kO bn_O, mk_dfn X G aN lN cN kN bn_N, mk_dfn X G aE lE cE kE bn_E, mk_dfn X G aC lC cC kC bn_C⟩
  have FZ : FunD K "__init__" "Row.__init__" (defArgs st_Row_init) (defBody st_Row_init) (defScope st_Row_init) [] [("phase", .int 0)] aX (PySem.W.fnOf "__init__" "Row.__init__" (defArgs st_Row_init) (defBody st_Row_init) (defScope st_Row_init) .none (.ref aD) dcZ pmZ anZ cdZ ctZ) :=
    ⟨⟨ocZ, odZ, .none, .ref aD, dcZ, pmZ, anZ, cdZ, ctZ, slZ, rfl, lZ, cZ, .inl ⟨rfl, rfl⟩, .inr ⟨aD, rfl, fun q hq => by rw [List.mem_singleton.mp hq]; exact ⟨_, dZ, _, rfl⟩⟩⟩, kZ⟩
  have T2 : Tx2 K mg C fB fK aX := ⟨PySem.W.mg_none_of X G z_list, PySem.W.mg_none_of X G z_tuple, PySem.W.mg_none_of X G z_len, PySem.W.mg_none_of X G z_enumerate, ⟨_, PySem.W.mg_of X G gB⟩, ⟨_, hvC⟩, ⟨_, hvT⟩, ⟨g1, g2, g3, g4⟩, g7, g8, g9, mk_dfn X G aB lB cB kB bn_B, mk_dfn X G aK lK cK kK bn_K, ⟨_, mk_dfn X G aKS lKS cKS kKS bn_KS⟩, ⟨_, fun_mk lZ cZ kZ⟩⟩
  have M : MkR K mg C aX := ⟨⟨g5, aZ, iZ, g6⟩, PySem.W.mg_of X G aCls, ⟨_, FZ⟩, g10, g11, g12, g13, g14, g15⟩
  have T3 : Tx3 K mg C fR := ⟨mk_dfn X G aR lR cR kR bn_R⟩
  have T4 : Tx4 K mg fP := ⟨PySem.W.mg_none_of X G z_range, mk_dfn X G aP lP cP kP bn_P⟩
  have T7 : Tx7 K mg fV fQ fM := ⟨mk_dfn X G aV lV cV kV bn_V, mk_dfn X G aQ lQ cQ kQ bn_Q, mk_dfn X G aM lM cM kM bn_M⟩
  have T8 : Tx8 K mg fJ fG := ⟨PySem.W.mg_none_of X G z_zip, PySem.W.mg_none_of X G z_len, PySem.W.mg_none_of X G z_range, mk_dfn X G aJ lJ cJ kJ bn_J, mk_dfn X G aG lG cG kG bn_G⟩
  have T9 : Tx9 mg := ⟨PySem.W.mg_none_of X G z_min⟩
  exact ⟨_, fun s v => .of_eq rfl, fun base _ _ => ok_law (fun_mk lY cY kY) T0 T1 T2 M T3 T4 T7 T8 T9⟩
/-- as the hand layer's end, with what the loose names hold -/
theorem walk_loose {l : PySem.W.OpenLaw} {q p : Program} {lv : List (Str × PySem.W.WData)} {loose : List Str} {YP : World → Heap → Prop} {d : DefRec} {K : Params → PySem.W.Frag} (hn : l.most = some 63) (hd : d.params.defaults = []) (hY : ∀ (w : World) (h : Heap), YP w h → (K w.params).In h)
    (F : ∀ (w : World) (mg : Str → Option Value) (fa : Addr) (h : Heap), (K w.params).In h → h.Ns mainGlobals mg → PySem.W.LooseAre lv mg h → mg d.name = some (.ref fa) → ∃ fd : FuncData, (∀ (s : Shared) (u : Value), BindsTo s fd ⟨[u], []⟩ [("_law_script", u)]) ∧ ∀ base : Heap, (K w.params).In base → base.Ns mainGlobals mg → FnOk l.prog w (K w.params) mg base CX0 7 fa fd ["_law_script"] (spLaw (K w.params))) :
    PySem.W.WalkO q loose (PySem.W.XL p lv) YP l.row.toRowW d [] (fun f vs => PySem.call f vs) := Att.attach_call hn hd fun w _ s₁ mg mb fa _ _ _ _ a vs ns G Y _ _ _ hmg hobj hints hlen hg => by
  obtain ⟨fd, hb, hF⟩ := F w mg fa s₁.heap (hY w s₁.heap Y) G.T.g G.X.2 hmg
  exact law_call (hY w s₁.heap Y) G.T.g G.T.b G.T.builtins G.T.nolimit hg hobj hints (Nat.le_trans hlen (by decide)) ⟨rfl, by decide, by decide⟩ hF hb (fun H _ hS => ⟨a, ns, rfl, hS, hlen, fun _ => rfl⟩) fun _ _ _ z => z

end Toy
open PySem PySem.W PyProof.Rows
set_option maxRecDepth 100000 in
set_option maxHeartbeats 0 in
theorem PySem.Challenge.cw_breakerrow_k01_periods_by_sending_reques_holds : PySem.Challenge.rw_breakerrow_k01_periods_by_sending_reques.Holds := by
  w_on; o_law; k_head; (case hw => w_witness2)
  k_fill
  refine Toy.walk_loose (l := PySem.Challenge.rw_breakerrow_k01_periods_by_sending_reques) rfl rfl (fun w h Y => PySem.W.kIn_of Y) ?F
  intro w mg fa h KX G LL hmg
  refine' Toy.all_mk KX G LL (by first | exact .head _ | exact .tail _ (.head _)) (by first | exact .head _ | exact .tail _ (.head _)) hmg ?aCls ?aI ?lI ?cI ?kI ?aL ?lL ?cL ?kL ?aW ?lW ?cW ?kW ?aS ?lS ?cS ?kS ?aV ?lV ?cV ?kV ?aB ?lB ?cB ?kB ?aK ?lK ?cK ?kK ?aKS ?lKS ?cKS ?kKS ?aR ?lR ?cR ?kR ?aQ ?lQ ?cQ ?kQ ?aM ?lM ?cM ?kM ?aO ?lO ?cO ?kO ?aN ?lN ?cN ?kN ?aE ?lE ?cE ?kE ?aC ?lC ?cC ?kC ?aP ?lP ?cP ?kP ?aJ ?lJ ?cJ ?kJ ?aG ?lG ?cG ?kG ?aZ ?iZ ?lZ ?cZ ?kZ ?dZ ?aY ?lY ?cY ?kY ?g1 ?g2 ?g3 ?g4 ?g5 ?g6 ?g7 ?g8 ?g9 ?g10 ?g11 ?g12 ?g13 ?g14 ?g15 ?gB ?z_isinstance ?z_int ?z_bool ?z_max ?z_len ?z_list ?z_tuple ?z_enumerate ?z_range ?z_zip ?z_min
  (case aCls => k_is)
  (case aI => k_is)
  (case lI => k_is)
  (case cI => k_is)
  (case kI => k_is)
  (case aL => k_is)
  (case lL => k_is)
  (case cL => k_is)
  (case kL => k_is)
  (case aW => k_is)
  (case lW => k_is)
  (case cW => k_is)
  (case kW => k_is)
  (case aS => k_is)
  (case lS => k_is)
  (case cS => k_is)
  (case kS => k_is)
  (case aV => k_is)
  (case lV => k_is)
  (case cV => k_is)
  (case kV => k_is)
  (case aB => k_is)
  (case lB => k_is)
  (case cB => k_is)
  (case kB => k_is)
  (case aK => k_is)
  (case lK => k_is)
  (case cK => k_is)
  (case kK => k_is)
  (case aKS => k_is)
  (case lKS => k_is)
  (case cKS => k_is)
  (case kKS => k_is)
  (case aR => k_is)
  (case lR => k_is)
  (case cR => k_is)
  (case kR => k_is)
  (case aQ => k_is)
  (case lQ => k_is)
  (case cQ => k_is)
  (case kQ => k_is)
  (case aM => k_is)
  (case lM => k_is)
  (case cM => k_is)
  (case kM => k_is)
  (case aO => k_is)
  (case lO => k_is)
  (case cO => k_is)
  (case kO => k_is)
  (case aN => k_is)
  (case lN => k_is)
  (case cN => k_is)
  (case kN => k_is)
  (case aE => k_is)
  (case lE => k_is)
  (case cE => k_is)
  (case kE => k_is)
  (case aC => k_is)
  (case lC => k_is)
  (case cC => k_is)
  (case kC => k_is)
  (case aP => k_is)
  (case lP => k_is)
  (case cP => k_is)
  (case kP => k_is)
  (case aJ => k_is)
  (case lJ => k_is)
  (case cJ => k_is)
  (case kJ => k_is)
  (case aG => k_is)
  (case lG => k_is)
  (case cG => k_is)
  (case kG => k_is)
  (case aZ => k_is)
  (case iZ => k_is)
  (case lZ => k_is)
  (case cZ => k_is)
  (case kZ => k_is)
  (case dZ => k_is)
  (case aY => k_is)
  (case lY => k_is)
  (case cY => k_is)
  (case kY => k_is)
  (case g1 => k_is)
  (case g2 => k_is)
  (case g3 => k_is)
  (case g4 => k_is)
  (case g5 => k_is)
  (case g6 => k_is)
  (case g7 => k_is)
  (case g8 => k_is)
  (case g9 => k_is)
  (case g10 => k_is)
  (case g11 => k_is)
  (case g12 => k_is)
  (case g13 => k_is)
  (case g14 => k_is)
  (case g15 => k_is)
  (case gB => k_is)
  (case z_isinstance => k_is)
  (case z_int => k_is)
  (case z_bool => k_is)
  (case z_max => k_is)
  (case z_len => k_is)
  (case z_list => k_is)
  (case z_tuple => k_is)
  (case z_enumerate => k_is)
  (case z_range => k_is)
  (case z_zip => k_is)
  (case z_min => k_is)
