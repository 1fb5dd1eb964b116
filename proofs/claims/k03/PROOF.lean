import PyProof.Rows.All
import Wide.All
import OpenK.AllK
import Wide.FinOn
import HandS.ForMost
import HandS.IsInst
import HandS.Wide
import HandS.Style
import HandS.Defaults
import HandS.MakeKwOnly
import PySem.Challenge.RW_breakerrow_k03_requests_and_parts_of_row
set_option Elab.async false
set_option linter.all false
set_option maxRecDepth 100000
set_option maxHeartbeats 4000000
namespace Own
open PySem PySem.Spec PyProof.Rows L2
open Builtin

section
variable {X : Cx} {CX : CXT} {k : Nat} {f C : Addr} {fd : FuncData} {ps : List Str} {sp : Sp} {E : XK}

theorem rr {p : Addr} : L2.RelV (.ref p) (.ref p) := rfl
/-- a promise used under any frame below the body -/
theorem run_at {A : Around} {pins : List (Addr × Obj)} {σ : L2.St} {H : Hp} {s : Shared} {Q : VK} {us : List Value} {vs : List V} (F : FnOk X.prog X.w X.K X.mg X.base CX k f fd ps sp) (hr : Room k A) (hA : A.frames = X.A.frames)
    (hb : Binds X.K fd ps []) (hx : Passes CX X E) (I : Inv X pins σ H s) (r : Vals vs us) (h : sp vs H Q E) : wpAny (model X.prog X.w) A (call (.ref f) us) (EP X pins σ Q) X.xe s := by
  have hl : us.length = ps.length := by rw [← r.length]; exact F.len _ _ _ _ h
  have e0 : Env0 X.prog X.w X.K X.mg X.base A X.stack s H := by
    have e := I.env0
    exact ⟨by rw [hA]; exact e.frames, e.mod, e.bs, e.bsz, e.funs, e.frf, e.hok, e.bare⟩
  have hB : BindsTo s fd ⟨us, []⟩ (ps.zip us) := by
    have := hb s us I.kIn (by rw [List.append_nil]; exact hl)
    rwa [List.append_nil] at this
  refine wpAny_call (codeAny_mono (F.run A X.stack s H ⟨us, []⟩ us vs Q E hr e0 hB r h) fun r s' hq => ?_)
  cases r with
  | error e => exact hx pins σ H s e s' I hq
  | ok fl =>
    cases fl with
    | ret u => exact I.after hq
    | next => exact False.elim hq
    | brk => exact False.elim hq
    | cont => exact False.elim hq

theorem inst_of {pins : List (Addr × Obj)} {σ : L2.St} {H : Hp} {s : Shared} {p dx : Addr} {fs : List (Str × V)} (I : Inv X pins σ H s) (e : H p = some (.ins C dx fs)) : ∃ od, PySem.W.InstAt s.heap p (PySem.W.instObj C dx) C od := by
  obtain ⟨mA, O, _⟩ := ins_get I.hok e
  obtain ⟨od, J, _⟩ := O.look
  exact ⟨_, J⟩

/-- a bool is wanted of the method -/
def BlQ (Q : VK) (g : Bool → Bool) : VK := fun v H' => ∃ b, v = .bl b ∧ Q (.bl (g b)) H'
def rOwnIn (C : Addr) (sp : Sp) (E : XK) (g : Bool → Bool) : R2 := fun x y H Q => ∃ p dx fs, y = .ref p ∧ H p = some (.ins C dx fs) ∧ sp [.ref p, x] H (BlQ Q g) E
theorem op_own_in (F : FnOk X.prog X.w X.K X.mg X.base CX k f fd ps sp) (hr : Room k X.A) (hs : PySem.W.findIn X.K (.ref C) "__contains__" = some (some (.ref f))) (hf : PySem.W.isFn X.K (.ref f) = true) (hb : Binds X.K fd ps []) (hx : Passes CX X E) :
    OpR X (compareOp .In) (rOwnIn C sp E id) := by
  intro pins s σ H x y v u Q I rx ry h
  obtain ⟨p, dx, fs, rfl, hp, q⟩ := h
  cases ry
  obtain ⟨od, J⟩ := inst_of I hp
  obtain ⟨m, hF⟩ := I.fr
  refine PySem.W.in_K hF I.ok.mod.kin J hs hf (thn (run_at F hr rfl hb hx I (.cons rr (.cons rx .nil)) q) fun r s' hh => ?_)
  obtain ⟨z, H', I', rz, b, ez, q'⟩ := hh
  subst ez
  cases rz
  exact wpAny_truthy_bool ⟨.bl b, H', I', rfl, q'⟩
theorem op_own_notin (F : FnOk X.prog X.w X.K X.mg X.base CX k f fd ps sp) (hr : Room k X.A) (hs : PySem.W.findIn X.K (.ref C) "__contains__" = some (some (.ref f))) (hf : PySem.W.isFn X.K (.ref f) = true) (hb : Binds X.K fd ps []) (hx : Passes CX X E) :
    OpR X (compareOp .NotIn) (rOwnIn C sp E not) := by
  intro pins s σ H x y v u Q I rx ry h
  obtain ⟨p, dx, fs, rfl, hp, q⟩ := h
  cases ry
  obtain ⟨od, J⟩ := inst_of I hp
  obtain ⟨m, hF⟩ := I.fr
  refine PySem.W.notIn_K hF I.ok.mod.kin J hs hf (thn (run_at F hr rfl hb hx I (.cons rr (.cons rx .nil)) q) fun r s' hh => ?_)
  obtain ⟨z, H', I', rz, b, ez, q'⟩ := hh
  subst ez
  cases rz
  exact wpAny_truthy_bool ⟨.bl (!b), H', I', rfl, q'⟩
/-- len(o) -/
def rOwnLen (C : Addr) (sp : Sp) (E : XK) : List V → Hp → VK → Prop := fun xs H Q => ∃ p dx fs, xs = [.ref p] ∧ H p = some (.ins C dx fs) ∧ sp [.ref p] H (fun v H' => ∃ n : Int, v = .int n ∧ 0 ≤ n ∧ n < 2 ^ 63 ∧ Q (.int n) H') E
theorem call_own_len (F : FnOk X.prog X.w X.K X.mg X.base CX k f fd ps sp) (hr : Room (k + 1) X.A) (hs : PySem.W.findIn X.K (.ref C) "__len__" = some (some (.ref f))) (hf : PySem.W.isFn X.K (.ref f) = true) (hb : Binds X.K fd ps []) (hx : Passes CX X E) :
    CallR X (.builtin "len") (rOwnLen C sp E) := by
  intro pins s σ H xs us Q I r h
  obtain ⟨p, dx, fs, rfl, hp, q⟩ := h
  obtain ⟨u, rfl, ru⟩ := vals1 r
  cases ru
  obtain ⟨od, J⟩ := inst_of I hp
  obtain ⟨m, hF⟩ := I.fr
  refine PySem.W.len_K hF I.ok.mod.kin J hs hf (thn (run_at F hr.in1 rfl hb hx I (.cons rr .nil) q) fun r s' hh => ?_)
  obtain ⟨z, H', I', rz, n, ez, h0, h1, q'⟩ := hh
  subst ez
  obtain ⟨t, rfl⟩ := rz
  exact ⟨⟨h0, h1⟩, ⟨.int n, H', I'.tok _, ⟨_, rfl⟩, q'⟩⟩
/-- o + p, both of the class -/
def rOwnAdd (C : Addr) (sp : Sp) (E : XK) : R2 := fun x y H Q => ∃ p dx fs q dy gs, x = .ref p ∧ H p = some (.ins C dx fs) ∧ y = .ref q ∧ H q = some (.ins C dy gs) ∧ sp [.ref p, .ref q] H (fun v H' => (∃ a, v = .ref a) ∧ Q v H') E
theorem op_own_add (F : FnOk X.prog X.w X.K X.mg X.base CX k f fd ps sp) (hr : Room k X.A) (hc : PySem.W.selfFirst X.K C = true) (hs : PySem.W.findIn X.K (.ref C) "__add__" = some (some (.ref f))) (hf : PySem.W.isFn X.K (.ref f) = true) (hb : Binds X.K fd ps []) (hx : Passes CX X E) :
    OpR X (binaryOp .Add) (rOwnAdd C sp E) := by
  intro pins s σ H x y v u Q I rx ry h
  obtain ⟨p, dx, fs, q, dy, gs, rfl, hp, rfl, hq, hh⟩ := h
  cases rx
  cases ry
  obtain ⟨od, J⟩ := inst_of I hp
  obtain ⟨od', J'⟩ := inst_of I hq
  obtain ⟨m, hF⟩ := I.fr
  refine PySem.W.binop_K hF I.ok.mod.kin J J'.type hc hs hf (thn (run_at F hr rfl hb hx I (.cons rr (.cons rr .nil)) hh) fun r s' hh => ?_)
  obtain ⟨z, H', I', rz, ⟨a, ez⟩, q'⟩ := hh
  subst ez
  cases rz
  exact ⟨.ref a, H', I', rfl, q'⟩
/-- o[i] -/
def rOwnIx (C : Addr) (sp : Sp) (E : XK) : R2 := fun x y H Q => ∃ p dx fs, x = .ref p ∧ H p = some (.ins C dx fs) ∧ sp [.ref p, y] H Q E
theorem pe_own_ix {a b : Expr} {ta tb : TE} {pos : Pos} (F : FnOk X.prog X.w X.K X.mg X.base CX k f fd ps sp) (hr : Room (k + 1) X.A) (hs : PySem.W.findIn X.K (.ref C) "__getitem__" = some (some (.ref f))) (hfn : PySem.W.fnIn X.K f = true) (hf : PySem.W.isFn X.K (.ref f) = true)
    (hb : Binds X.K fd ps []) (hx : Passes CX X E) (ha : PE X a ta) (hb' : PE X b tb) (hsl : ∀ o i, subscripted b true o i = runValue (.builtin "lifetime.subscript" ⟨[o, i], []⟩) := by exact fun _ _ => rfl) :
    PE X (.Subscript a b pos) (tOp (rOwnIx C sp E) ta tb) := by
  refine ⟨fun pins s σ H Q I h => ?_⟩
  refine Subscript_ (binT ha hb' I h fun v u s2 x y H2 I2 rx ry q => ?_)
  obtain ⟨p, dx, fs, rfl, hp, q⟩ := q
  cases rx
  obtain ⟨od, J⟩ := inst_of I2 hp
  obtain ⟨m, hF⟩ := I2.fr
  exact PySem.W.sub_K hF I2.ok.mod.kin J hs hfn hf (run_at F hr.in1 rfl hb hx I2 (.cons rr (.cons ry .nil)) q) (hsl _ _)

/-! ### own == and the != that comes with it -/
theorem sub_ty {K : PySem.W.Frag} {C : Addr} {T : String} {l : List String} (e : fastBuiltinMro T = some (l.map Value.type)) : PySem.W.subIn K (.type T) (.ref C) = some false := by
  show (fastBuiltinMro T).map (·.contains (.ref C)) = some false
  rw [e]
  have : ∀ l : List String, (l.map Value.type).contains (Value.ref C) = false := by
    intro l
    induction l with
    | nil => rfl
    | cons a r ih =>
      rw [List.map_cons, List.contains_cons, ih]
      rfl
  rw [Option.map_some, this]
/-- a value's type, not one below the class C -/
inductive TyN (H : Hp) (C : Addr) : V → Value → Prop where
  | non : TyN H C .non (.type "NoneType")
  | bl (x : Bool) : TyN H C (.bl x) (.type "bool")
  | int (i : Int) : TyN H C (.int i) (.type "int")
  | str (x : Str) : TyN H C (.str x) (.type "str")
  | lst {a : Addr} {xs : List V} (e : H a = some (.lst xs)) : TyN H C (.ref a) (.type "list")
  | tup {a : Addr} {xs : List V} (e : H a = some (.tup xs)) : TyN H C (.ref a) (.type "tuple")
  | ins {a dx : Addr} {fs : List (Str × V)} (e : H a = some (.ins C dx fs)) : TyN H C (.ref a) (.ref C)
theorem TyN.notFirst {K : PySem.W.Frag} {H : Hp} {x : V} {t : Value} (h : TyN H C x t) : PySem.W.notFirst K C t = true := by
  cases h with
  | non => exact Bool.or_eq_true_iff.mpr (.inr (beq_iff_eq.mpr (sub_ty (l := ["NoneType", "object"]) (by decide +kernel))))
  | bl _ => exact Bool.or_eq_true_iff.mpr (.inr (beq_iff_eq.mpr (sub_ty (l := ["bool", "int", "object"]) (by decide +kernel))))
  | int _ => exact Bool.or_eq_true_iff.mpr (.inr (beq_iff_eq.mpr (sub_ty (l := ["int", "object"]) (by decide +kernel))))
  | str _ => exact Bool.or_eq_true_iff.mpr (.inr (beq_iff_eq.mpr (sub_ty (l := ["str", "object"]) (by decide +kernel))))
  | lst _ => exact Bool.or_eq_true_iff.mpr (.inr (beq_iff_eq.mpr (sub_ty (l := ["list", "object"]) (by decide +kernel))))
  | tup _ => exact Bool.or_eq_true_iff.mpr (.inr (beq_iff_eq.mpr (sub_ty (l := ["tuple", "object"]) (by decide +kernel))))
  | ins _ => exact Bool.or_eq_true_iff.mpr (.inl (by simp))
theorem looks_obj {M : Model} {h : Heap} {a : Addr} {o : Obj} (e : h.get? a = some o) : PySem.W.Looks M h (typeOf (.ref a)) o.cls := fun A Q E s kp q => PySem.wpAny_typeOf_ref (kp _ _ e) q
theorem TyN.looks {M : Model} {pins : List (Addr × Obj)} {σ : L2.St} {H : Hp} {s : Shared} {x : V} {u t : Value} (I : Inv X pins σ H s) (r : RelV x u) (h : TyN H C x t) : PySem.W.Looks M s.heap (typeOf u) t := by
  cases h with
  | non => cases r; exact PySem.W.Looks.of_pure rfl
  | bl _ => cases r; exact PySem.W.Looks.of_pure rfl
  | int _ => obtain ⟨_, rfl⟩ := r; exact PySem.W.Looks.of_pure rfl
  | str _ => obtain ⟨_, rfl⟩ := r; exact PySem.W.Looks.of_pure rfl
  | @lst a xs e =>
    cases r
    obtain ⟨_, _, n, _, h1⟩ := (show ObjOk X.prog X.w H s.heap a (.lst xs) from I.hok a _ e)
    exact looks_obj h1
  | @tup a xs e =>
    cases r
    obtain ⟨_, _, _, o, h1, h2, _⟩ := (show ObjOk X.prog X.w H s.heap a (.tup xs) from I.hok a _ e)
    have := looks_obj (M := M) h1
    rw [h2] at this
    exact this
  | ins e =>
    cases r
    obtain ⟨od, J⟩ := inst_of I e
    exact J.type
def rOwnEq (C : Addr) (sp : Sp) (E : XK) (g : Bool → Bool) : R2 := fun x y H Q => ∃ p dx fs t, x = .ref p ∧ H p = some (.ins C dx fs) ∧ TyN H C y t ∧ sp [.ref p, y] H (BlQ Q g) E
theorem op_own_eq (F : FnOk X.prog X.w X.K X.mg X.base CX k f fd ps sp) (hr : Room k X.A) (hs : PySem.W.findIn X.K (.ref C) "__eq__" = some (some (.ref f))) (hf : PySem.W.isFn X.K (.ref f) = true) (hb : Binds X.K fd ps []) (hx : Passes CX X E) :
    OpR X (compareOp .Eq) (rOwnEq C sp E id) := by
  intro pins s σ H x y v u Q I rx ry h
  obtain ⟨p, dx, fs, t, rfl, hp, ty, q⟩ := h
  cases rx
  obtain ⟨od, J⟩ := inst_of I hp
  obtain ⟨m, hF⟩ := I.fr
  show wpAny (model X.prog X.w) X.A (richCompare .Eq (.ref p) u) (EP X pins σ Q) X.xe s
  refine PySem.W.cmp_K (op := .Eq) hr.units0 hF I.ok.mod.kin J (ty.looks I ry) ty.notFirst hs hf (thn (run_at F hr rfl hb hx I (.cons rr (.cons ry .nil)) q) fun r s' hh => ?_)
  obtain ⟨z, H', I', rz, b, ez, q'⟩ := hh
  subst ez
  cases rz
  exact ⟨.bl b, H', I', rfl, q'⟩
section
variable {prog : Program} {w : World} {A : Around} {E' : Value → Shared → Prop} {s : Shared} {K : PySem.W.Frag} {x : Addr} {ox : Obj} {od : Option Obj} {b : Value}
theorem objNe_entry (hX : K.In s.heap) (I : PySem.W.InstAt s.heap x ox C od) (hs : PySem.W.findIn K (.ref C) "__eq__" = some (some (.ref f))) (hf : PySem.W.isFn K (.ref f) = true) (hu : A.units < cLine) {Q : Fin → Shared → Prop}
    (hcall : wpAny (model prog w) A (call (.ref f) [.ref x, b]) (fun v s' => ∃ k, v = .bool k ∧ Q (.done (.ret (.bool (!k)))) s') E' s) :
    wpAny (model prog w) A (Builtin.«object.__ne__» ⟨[.ref x, b], []⟩) Q E' s := by
  unfold Builtin.«object.__ne__»
  repeat (first
    | with_reducible refine wpAny_cRoomFor hu ?_
    | (refine wpAny_bind (m := callSpecialIfBound? (.ref x) (Str.ofString "__eq__") [b])
        (PySem.W.ifBound_K hX I hs hf (wpAny_mono hcall (fun r s' hr => by
          obtain ⟨k, rfl, hq⟩ := hr
          repeat (first | exact hq | exact wpAny_pure hq | exact wpAny_truthy_bool hq | (refine wpAny_bind (m := truthy (.bool _)) (wpAny_truthy_bool ?_)) | wp_step)) fun _ _ e => e)))
    | wp_step)
theorem call_objNe (hX : K.In s.heap) (I : PySem.W.InstAt s.heap x ox C od) (hm : PySem.W.mroIn K C (.type "object") = some true) (hs : PySem.W.findIn K (.ref C) "__eq__" = some (some (.ref f))) (hf : PySem.W.isFn K (.ref f) = true) (hu : A.units + 1 < cLine) {Q : Value → Shared → Prop}
    (hcall : wpAny (model prog w) A.in1 (call (.ref f) [.ref x, b]) (fun v s' => ∃ k, v = .bool k ∧ Q (.bool (!k)) s') E' s) :
    wpAny (model prog w) A (call (.builtin "object.__ne__") [.ref x, b]) Q E' s :=
  wpAny_call (codeAny_call_builtin PySem.F.cmp_object.ne.plain PySem.F.cmpEntry_ne (PySem.W.check_slot PySem.F.cmpKind_ne PySem.F.cmpSplit_ne (I.type.andThen (PySem.W.looks_mroIn hX hm)) (PySem.F.cmpArgs_ne _ _)
    (objNe_entry (A := A.in1) hX I hs hf hu (wpAny_mono hcall (fun v s' hv => by
      obtain ⟨k, e, hq⟩ := hv
      exact ⟨k, e, hq⟩) fun _ _ e => e))))
theorem ifBound_objNe {M : Model} {args : List Value} {Q : Option Value → Shared → Prop} (hX : K.In s.heap) (I : PySem.W.InstAt s.heap x ox C od) (hs : PySem.W.findIn K (.ref C) "__ne__" = some (some (.builtin "object.__ne__")))
    (h : wpAny M A (call (.builtin "object.__ne__") (.ref x :: args)) (fun v => Q (some v)) E' s) : wpAny M A (callSpecialIfBound? (.ref x) "__ne__" args) Q E' s := by
  simp only [callSpecialIfBound?, bindSpecialIfBound?]
  refine wpAny_holding (wpAny_bind (wpAny_bind (wpAny_bind (I.type.here ((PySem.W.looks_findIn hX hs).here ?_)))))
  refine wpAny_bind (wpAny_askSetting (wpAny_ite ?_))
  have fin : wpAny M A (call (.builtin "object.__ne__") ([.ref x] ++ args) >>= fun v => pure (some v)) Q E' s := wpAny_bind (wpAny_mono h (fun v s' h' => wpAny_pure h') fun _ _ h' => h')
  split
  · exact wpAny_bind (wpAny_of_eq (PySem.F.cmp_object.ne.bind _) (wpAny_pure (by exact fin)))
  · exact wpAny_tryCatch (wpAny_bind (wpAny_of_eq (PySem.F.cmp_object.ne.bind _) (wpAny_pure (by exact fin))))
theorem rc_ne {tb : Value} {Q : Value → Shared → Prop} (hu : A.units + 1 < cLine) (hX : K.In s.heap) (I : PySem.W.InstAt s.heap x ox C od) (hb : PySem.W.Looks (model prog w) s.heap (typeOf b) tb) (hn : PySem.W.notFirst K C tb = true)
    (hm : PySem.W.mroIn K C (.type "object") = some true) (hne : PySem.W.findIn K (.ref C) "__ne__" = some (some (.builtin "object.__ne__"))) (hs : PySem.W.findIn K (.ref C) "__eq__" = some (some (.ref f))) (hf : PySem.W.isFn K (.ref f) = true)
    (hcall : wpAny (model prog w) A.in1 (call (.ref f) [.ref x, b]) (fun v s' => ∃ k, v = .bool k ∧ Q (.bool (!k)) s') E' s) : wpAny (model prog w) A (richCompare .NotEq (.ref x) b) Q E' s := by
  have one : wpAny (model prog w) A (tryCompare (.ref x) "__ne__" b) (fun r s' => ∃ v, r = some v ∧ Q v s') E' s := by
    unfold tryCompare
    refine wpAny_bind (ifBound_objNe hX I hne (call_objNe hX I hm hs hf hu (wpAny_mono hcall (fun v s' hv => ?_) fun _ _ e => e)))
    obtain ⟨k, rfl, hq⟩ := hv
    exact ⟨k, rfl, wpAny_pure ⟨_, rfl, hq⟩⟩
  unfold richCompare
  simp only [oneThing_ref, cmpInfo_NotEq]
  refine wpAny_holding (wpAny_bind (wpAny_cRoomFor (Nat.lt_of_succ_lt hu) ?_))
  refine wpAny_bind (I.type.here (wpAny_bind (hb.here ?_)))
  split
  · rename_i q
    have e : PySem.W.subIn K tb (.ref C) = some false := by
      rcases Bool.or_eq_true_iff.mp hn with e | e
      · rw [beq_iff_eq.mp e] at q; simp at q
      · exact beq_iff_eq.mp e
    refine wpAny_bind ((PySem.W.looks_subIn hX e).here ?_)
    simp only [Bool.false_eq_true, if_false]
    refine wpAny_bind (wpAny_mono one (fun r s' z => ?_) fun _ _ e => e)
    obtain ⟨v, rfl, hq⟩ := z
    exact wpAny_pure hq
  · refine wpAny_bind (wpAny_pure ?_)
    simp only [Bool.false_eq_true, if_false]
    refine wpAny_bind (wpAny_mono one (fun r s' z => ?_) fun _ _ e => e)
    obtain ⟨v, rfl, hq⟩ := z
    exact wpAny_pure hq
end
theorem op_own_ne (F : FnOk X.prog X.w X.K X.mg X.base CX k f fd ps sp) (hr : Room (k + 1) X.A) (hm : PySem.W.mroIn X.K C (.type "object") = some true) (hne : PySem.W.findIn X.K (.ref C) "__ne__" = some (some (.builtin "object.__ne__")))
    (hs : PySem.W.findIn X.K (.ref C) "__eq__" = some (some (.ref f))) (hf : PySem.W.isFn X.K (.ref f) = true) (hb : Binds X.K fd ps []) (hx : Passes CX X E) :
    OpR X (compareOp .NotEq) (rOwnEq C sp E not) := by
  intro pins s σ H x y v u Q I rx ry h
  obtain ⟨p, dx, fs, t, rfl, hp, ty, q⟩ := h
  cases rx
  obtain ⟨od, J⟩ := inst_of I hp
  show wpAny (model X.prog X.w) X.A (richCompare .NotEq (.ref p) u) (EP X pins σ Q) X.xe s
  refine rc_ne (hu_of hr) I.kIn J (ty.looks I ry) ty.notFirst hm hne hs hf (thn (run_at F hr.in1 rfl hb hx I (.cons rr (.cons ry .nil)) q) fun r s' hh => ?_)
  obtain ⟨z, H', I', rz, b, ez, q'⟩ := hh
  subst ez
  cases rz
  exact ⟨b, rfl, .bl (!b), H', I', rfl, q'⟩
end
end Own

namespace Toy
open PySem L2 Own
/-! ### the text by places -/
def top (i : Nat) : Stmt := PySem.Challenge.pw_breakerrow_k03_requests_and_parts_of_row.main.body.getD i (.Pass ⟨0, 0, 0, 0⟩)
abbrev st_InvalidRow_init : Stmt := inClass (top 2) 0
abbrev st_InvalidTime_init : Stmt := inClass (top 3) 0
abbrev st_InvalidIndex_init : Stmt := inClass (top 4) 0
abbrev st_is_integer : Stmt := top 6
abbrev st_is_at_least : Stmt := top 7
abbrev st_is_within : Stmt := top 8
abbrev st_steps_to : Stmt := top 9
abbrev st_Row_init : Stmt := inClass (top 14) 0
abbrev st_Row_breaker_list : Stmt := inClass (top 14) 1
abbrev st_Row_step_length : Stmt := inClass (top 14) 2
abbrev st_Row_phase_time : Stmt := inClass (top 14) 3
abbrev st_Row_len : Stmt := inClass (top 14) 4
abbrev st_Row_getitem : Stmt := inClass (top 14) 5
abbrev st_Row_iter : Stmt := inClass (top 14) 6
abbrev st_Row_contains : Stmt := inClass (top 14) 7
abbrev st_Row_add : Stmt := inClass (top 14) 8
abbrev st_Row_eq : Stmt := inClass (top 14) 9
abbrev st_is_breaker : Stmt := top 15
abbrev st_check_breakers : Stmt := top 16
abbrev st_check_step : Stmt := top 17
abbrev st_request_time : Stmt := top 18
abbrev st_first_request : Stmt := top 19
abbrev st__law_source_of : Stmt := top 21
abbrev st__law_next : Stmt := top 22
abbrev st__law_one : Stmt := top 23
abbrev st__law_cell_at : Stmt := top 24
abbrev st__law_specs : Stmt := top 25
abbrev st__law_times_right : Stmt := top 26
abbrev st__law_others_right : Stmt := top 27
abbrev st_law : Stmt := top 28
/-- a def of the top -/
structure Dfn (K : PySem.W.Frag) (mg : Str → Option Value) (x : Str) (st : Stmt) (f : Addr) (ps : List Str) : Prop where
  ex : ∃ fd, Fun K x x st f fd ∧ Binds K fd ps []
  g : mg x = some (.ref f)
structure Mth (K : PySem.W.Frag) (C : Addr) (m q : Str) (st : Stmt) (f : Addr) (ps : List Str) : Prop where
  ex : ∃ fd, Fun K m q st f fd ∧ Binds K fd ps []
  at_ : PySem.W.findIn K (.ref C) m = some (some (.ref f))
  fn : PySem.W.isFn K (.ref f) = true
  fk : PySem.W.fnIn K f = true
/-- a def that is called by its name, with its promise -/
structure Cal (P : Program) (w : World) (K : PySem.W.Frag) (mg : Str → Option Value) (base : Heap) (x : Str) (k : Nat) (f : Addr) (ps : List Str) (sp : Sp) : Prop where
  ex : ∃ fd, FnOk P w K mg base CX0 k f fd ps sp ∧ Binds K fd ps []
  g : mg x = some (.ref f)
  kp : PySem.W.keepIn K (.ref f) = true
theorem Dfn.cal {P : Program} {w : World} {K : PySem.W.Frag} {mg : Str → Option Value} {base : Heap} {x : Str} {st : Stmt} {f : Addr} {ps : List Str} {k : Nat} {sp : Sp} (D : Dfn K mg x st f ps) (h : ∀ fd, Fun K x x st f fd → FnOk P w K mg base CX0 k f fd ps sp) : Cal P w K mg base x k f ps sp := by
  obtain ⟨fd, F, b⟩ := D.ex
  exact ⟨⟨fd, h fd F, b⟩, D.g, F.kp⟩
theorem pe_c {X : Cx} {x : Str} {k : Nat} {f : Addr} {ps : List Str} {sp : Sp} {t : TA} {e : Expr} {es : List Expr} {p pos : Pos} (c : Cal X.prog X.w X.K X.mg X.base x k f ps sp) (hr : Room k X.A) (hg : Gl X x)
    (ha : PA X (e :: es) t) (hdb : (x == ("__debug__" : Str)) = false := by decide) (he : starEach (e :: es) X.env = (false, eval e X.env) :: starEach es X.env := by rfl) (hpl : (backTo pos (starEach es X.env)).any (·.1) = false := by rfl) :
    PE X (.Call (.Name x p) (e :: es) [] pos) (tCall sp [] E0 t) := by
  obtain ⟨fd, F, b⟩ := c.ex
  exact pe_call F hr hg c.g c.kp b .nil pass0 ha hdb he hpl
/-- a method with its promise -/
structure Met (P : Program) (w : World) (K : PySem.W.Frag) (mg : Str → Option Value) (base : Heap) (C : Addr) (m : Str) (k : Nat) (f : Addr) (ps : List Str) (sp : Sp) : Prop where
  ex : ∃ fd, FnOk P w K mg base CX0 k f fd ps sp ∧ Binds K fd ps []
  me : Meth K C m f
  fk : PySem.W.fnIn K f = true
theorem Mth.met {P : Program} {w : World} {K : PySem.W.Frag} {mg : Str → Option Value} {base : Heap} {C : Addr} {m q : Str} {st : Stmt} {f : Addr} {ps : List Str} {k : Nat} {sp : Sp} (D : Mth K C m q st f ps) (h : ∀ fd, Fun K m q st f fd → FnOk P w K mg base CX0 k f fd ps sp) : Met P w K mg base C m k f ps sp := by
  obtain ⟨fd, F, b⟩ := D.ex
  exact ⟨⟨fd, h fd F, b⟩, ⟨D.at_, D.fn, F.kp⟩, D.fk⟩

/-! ### values of plain kinds -/
inductive Kd (H : Hp) : V → String → Prop where
  | non : Kd H .non "NoneType"
  | bl (b : Bool) : Kd H (.bl b) "bool"
  | int (i : Int) : Kd H (.int i) "int"
  | str (x : Str) : Kd H (.str x) "str"
  | lst {a : Addr} {xs : List V} (e : H a = some (.lst xs)) : Kd H (.ref a) "list"
  | tup {a : Addr} {xs : List V} (e : H a = some (.tup xs)) : Kd H (.ref a) "tuple"
  | dK {a : Addr} {xs : List (Key × V)} (e : H a = some (.dK xs)) : Kd H (.ref a) "dict"
theorem Kd.ty {K : PySem.W.Frag} {H : Hp} {v : V} {n : String} (h : Kd H v n) : TyX K H v (.type n) := by
  cases h with
  | non => exact .base .non
  | bl b => exact .base (.bl b)
  | int i => exact .base (.int i)
  | str x => exact .base (.str x)
  | lst e => exact .base (.lst e)
  | tup e => exact .base (.tup e)
  | dK e => exact .base (.dK e)
def isI : V → Bool
  | .int _ => true
  | _ => false
def toI : V → Int
  | .int i => i
  | _ => 0
theorem Kd.kit {K : PySem.W.Frag} {H : Hp} {v : V} {n : String} (h : Kd H v n) (c : String) (b : Bool) (hc : c = "int" ∧ b = (n == "int" || n == "bool") ∨ c ≠ "int" ∧ c ∈ ["bool", "list", "tuple"] ∧ b = (n == c)) : PySem.W.kitOne K (.type n) (.type c) = some b := by
  rcases hc with ⟨rfl, rfl⟩ | ⟨_, hc, rfl⟩
  · cases h <;> exact kit_ty (by decide +kernel)
  · simp only [List.mem_cons, List.mem_nil_iff, or_false] at hc
    rcases hc with rfl | rfl | rfl <;> cases h <;> exact kit_ty (by decide +kernel)
theorem Kd.same {H H' : Hp} {v : V} {n : String} (h : Kd H v n) (s : ∀ b o, v = .ref b → H b = some o → H' b = some o) : Kd H' v n := by
  cases h with
  | non => exact .non
  | bl b => exact .bl b
  | int i => exact .int i
  | str x => exact .str x
  | lst e => exact .lst (s _ _ rfl e)
  | tup e => exact .tup (s _ _ rfl e)
  | dK e => exact .dK (s _ _ rfl e)
/-- all but what stands at a is kept -/
def Kp (a : Addr) (H H' : Hp) : Prop := ∀ b o, b ≠ a → H b = some o → H' b = some o
theorem Kp.refl {a : Addr} {H : Hp} : Kp a H H := fun _ _ _ h => h
theorem Kp.trans {a : Addr} {H H1 H2 : Hp} (h : Kp a H H1) (h' : Kp a H1 H2) : Kp a H H2 := fun b o n e => h' b o n (h b o n e)
theorem Kp.of {a : Addr} {H H' : Hp} (s : Same H H') : Kp a H H' := fun b o _ e => s b o e
theorem Kp.upd {a : Addr} {H : Hp} {o : HO} : Kp a H (upd H a o) := fun b _ n e => by rw [upd_ne n]; exact e
theorem Same.upd {H : Hp} {p : Addr} {o : HO} (h : H p = none) : Same H (L2.upd H p o) := fun b u e => by rw [upd_ne (ne_of_none e h)]; exact e
theorem Kp.free {a b : Addr} {H H' : Hp} {o : HO} (k : Kp a H H') (ha : H a = some o) (h : H' b = none) (n : b ≠ a) : H b = none := by
  cases q : H b with
  | none => rfl
  | some u => rw [k b u n q] at h; cases h

/-! ### the promises of the small defs -/
def spIsInt : Sp := fun vs H Q _ => ∃ v n, vs = [v] ∧ Kd H v n ∧ Q (.bl (isI v)) H
def spAtL : Sp := fun vs H Q _ => ∃ v n l, vs = [v, .int l] ∧ Kd H v n ∧ Q (.bl (isI v && decide (l ≤ toI v))) H
def spWithin : Sp := fun vs H Q _ => ∃ v n l m, vs = [v, .int l, .int m] ∧ Kd H v n ∧ Q (.bl (isI v && (decide (l ≤ toI v) && decide (toI v ≤ m)))) H
/-- how many steps -/
def stepsUp (d s : Int) : Int := if -(-d / s) > 0 then -(-d / s) else 0
def spSteps : Sp := fun vs H Q _ => ∃ d s, vs = [.int d, .int s] ∧ 0 < s ∧ s.natAbs.log2 < 9000 ∧ Q (.int (stepsUp d s)) H

/-- what the walk asks of the small defs -/
structure Tx0 (K : PySem.W.Frag) (mg : Str → Option Value) (aI aL aW aS : Addr) : Prop where
  isinstance : mg "isinstance" = none
  int : mg "int" = none
  bool : mg "bool" = none
  max : mg "max" = none
  dI : Dfn K mg "is_integer" st_is_integer aI ["value"]
  dL : Dfn K mg "is_at_least" st_is_at_least aL ["value", "least"]
  dW : Dfn K mg "is_within" st_is_within aW ["value", "least", "most"]
  dS : Dfn K mg "steps_to" st_steps_to aS ["distance", "step"]
section
variable {P : Program} {w : World} {K : PySem.W.Frag} {mg : Str → Option Value} {base : Heap} {aI aL aW aS : Addr}
theorem sc_isint : FnScope ["value"] ["value"] (defScope st_is_integer) := ⟨rfl, rfl, rfl, by decide +kernel, rfl, by decide +kernel, by decide +kernel⟩
theorem ok_isint (T : Tx0 K mg aI aL aW aS) : Cal P w K mg base "is_integer" 1 aI ["value"] spIsInt := T.dI.cal fun fd F => by
  refine F.ok sc_isint (fun vs H Q E h => ?_) (fun cdv A outer s H vs Q E hr h => ?_)
  · obtain ⟨v, n, rfl, _⟩ := h
    rfl
  · obtain ⟨v, n, rfl, hv, k⟩ := h
    refine ⟨_, pss_one (ps_ret (pe_and (pe_callB call_isi (by rfl) T.isinstance (by decide +kernel) (pa_cons (pv 0) (pa_cons (pe_bltn (by rfl) T.int (by decide +kernel : bootBuiltins "int" = some (.type "int")) (v := .ty "int") rfl) pa_nil)))
      (pe_one (pe_not (pe_callB call_isi (by rfl) T.isinstance (by decide +kernel) (pa_cons (pv 0) (pa_cons (pe_bltn (by rfl) T.bool (by decide +kernel : bootBuiltins "bool" = some (.type "bool")) (v := .ty "bool") rfl) pa_nil))))))), ?_⟩
    refine ⟨_, rfl, v, .ty "int", _, _, _, rfl, .ty "int", hv.ty, hv.kit "int" _ (.inl ⟨rfl, rfl⟩), _, rfl, ?_⟩
    refine ite2 (fun c => ?_) (fun c => ?_)
    · refine ⟨_, rfl, v, .ty "bool", _, _, _, rfl, .ty "bool", hv.ty, hv.kit "bool" _ (.inr ⟨by decide, by decide, rfl⟩), _, rfl, ?_⟩
      cases hv <;> first | exact k | (exact absurd c (by decide))
    · cases hv <;> first | exact k | (exact absurd (by decide) c)
theorem sc_atl : FnScope ["value", "least"] ["value", "least"] (defScope st_is_at_least) := ⟨rfl, rfl, rfl, by decide +kernel, rfl, by decide +kernel, by decide +kernel⟩
theorem ok_atl (T : Tx0 K mg aI aL aW aS) : Cal P w K mg base "is_at_least" 2 aL ["value", "least"] spAtL := T.dL.cal fun fd F => by
  have G : Cal P w K mg base "is_integer" 1 aI ["value"] spIsInt := ok_isint T
  refine F.ok sc_atl (fun vs H Q E h => ?_) (fun cdv A outer s H vs Q E hr h => ?_)
  · obtain ⟨v, n, l, rfl, _⟩ := h
    rfl
  · obtain ⟨v, n, l, rfl, hv, k⟩ := h
    refine ⟨_, pss_one (ps_ret (pe_and (pe_c G hr rfl (pa_cons (pv 0) pa_nil)) (pe_one (pe_cmpR op_ge (pv 0) (pv 1) (nomark _))))), ?_⟩
    refine ⟨_, rfl, v, n, rfl, hv, _, rfl, ?_⟩
    cases v with
    | int i => exact iteT ⟨_, rfl, _, rfl, _, _, rfl, rfl, k⟩
    | _ => exact iteF k
theorem sc_within : FnScope ["value", "least", "most"] ["value", "least", "most"] (defScope st_is_within) := ⟨rfl, rfl, rfl, by decide +kernel, rfl, by decide +kernel, by decide +kernel⟩
theorem ok_within (T : Tx0 K mg aI aL aW aS) : Cal P w K mg base "is_within" 2 aW ["value", "least", "most"] spWithin := T.dW.cal fun fd F => by
  have G : Cal P w K mg base "is_integer" 1 aI ["value"] spIsInt := ok_isint T
  refine F.ok sc_within (fun vs H Q E h => ?_) (fun cdv A outer s H vs Q E hr h => ?_)
  · obtain ⟨v, n, l, m, rfl, _⟩ := h
    rfl
  · obtain ⟨v, n, l, m, rfl, hv, k⟩ := h
    refine ⟨_, pss_one (ps_ret (pe_and (pe_c G hr rfl (pa_cons (pv 0) pa_nil)) (pe_one (pe_chain op_le op_le (pv 1) (pv 0) (pv 2))))), ?_⟩
    refine ⟨_, rfl, v, n, rfl, hv, _, rfl, ?_⟩
    cases v with
    | int i =>
      refine iteT ⟨_, rfl, _, rfl, _, _, rfl, rfl, _, rfl, ?_⟩
      refine ite2 (fun c => ?_) (fun c => ?_)
      · refine ⟨_, rfl, _, _, rfl, rfl, ?_⟩
        have c' : decide (l ≤ i) = true := c
        have k' : Q (.bl (decide (l ≤ i) && decide (i ≤ m))) H := k
        rw [c', Bool.true_and] at k'
        exact k'
      · have c' : decide (l ≤ i) = false := by simpa using c
        have k' : Q (.bl (decide (l ≤ i) && decide (i ≤ m))) H := k
        rw [c', Bool.false_and] at k'
        exact k'
    | _ => exact iteF k
theorem sc_steps : FnScope ["distance", "step"] ["distance", "step"] (defScope st_steps_to) := ⟨rfl, rfl, rfl, by decide +kernel, rfl, by decide +kernel, by decide +kernel⟩
theorem ok_steps (T : Tx0 K mg aI aL aW aS) : Cal P w K mg base "steps_to" 1 aS ["distance", "step"] spSteps := T.dS.cal fun fd F => by
  refine F.ok sc_steps (fun vs H Q E h => ?_) (fun cdv A outer s H vs Q E hr h => ?_)
  · obtain ⟨d, s, rfl, _⟩ := h
    rfl
  · obtain ⟨d, st, rfl, h0, h1, k⟩ := h
    refine ⟨_, pss_one (ps_ret (pe_callB (call_max2 rfl) (by rfl) T.max (by decide +kernel) (pa_cons pe_int (pa_cons (pe_un un_neg (pe_op op_fdivW (pe_un un_neg (pv 0)) (pv 1))) pa_nil)))), ?_⟩
    exact ⟨_, rfl, _, rfl, _, rfl, _, _, rfl, rfl, ⟨h0, h1⟩, _, rfl, _, _, rfl, k⟩
end
/-! ### the law's own draws -/
/-- a source of draws at a: at most n were drawn -/
def Src (H : Hp) (a : Addr) (n : Nat) : Prop := ∃ x y z : Int, H a = some (.lst [.int x, .int y, .int z]) ∧ 0 ≤ x ∧ 0 ≤ y ∧ y < 2147483647 ∧ 0 ≤ z ∧ z ≤ n
theorem Src.mono {H : Hp} {a : Addr} {n m : Nat} (h : Src H a n) (l : n ≤ m) : Src H a m := by
  obtain ⟨x, y, z, e, h1, h2, h3, h4, h5⟩ := h
  exact ⟨x, y, z, e, h1, h2, h3, h4, by omega⟩
theorem Src.same {H H' : Hp} {a : Addr} {n : Nat} (h : Src H a n) (s : Same H H') : Src H' a n := by
  obtain ⟨x, y, z, e, r⟩ := h
  exact ⟨x, y, z, s _ _ e, r⟩
theorem Src.has {H : Hp} {a : Addr} {n : Nat} (h : Src H a n) : ∃ xs, H a = some (.lst xs) := by
  obtain ⟨x, y, z, e, r⟩ := h
  exact ⟨_, e⟩
def spSrcOf : Sp := fun vs H Q _ => ∃ c, vs = [.int c] ∧ ∀ a H', H a = none → Same H H' → Src H' a 0 → Q (.ref a) H'
def spNext : Sp := fun vs H Q _ => ∃ (a : Addr) (m : Int) (n : Nat), vs = [.ref a, .int m] ∧ 0 < m ∧ m.natAbs < 2 ^ 200 ∧ Src H a n ∧ n ≤ 1000000 ∧ ∀ (r : Int) H', 0 ≤ r → r < m → Src H' a (n + 1) → Kp a H H' → Q (.int r) H'
def spOne : Sp := fun vs H Q _ => ∃ (a l : Addr) (xs : List V) (n : Nat), vs = [.ref a, .ref l] ∧ a ≠ l ∧ H l = some (.lst xs) ∧ 0 < xs.length ∧ xs.length ≤ 100000 ∧ Src H a n ∧ n ≤ 1000000 ∧ ∀ v H', v ∈ xs → Src H' a (n + 1) → Kp a H H' → Q v H'
def spCell (K : PySem.W.Frag) : Sp := fun vs H Q _ => ∃ (a : Addr) (ns : List Int) (k : Int), vs = [.ref a, .int k] ∧ SqL K H a (ns.map V.int) ∧ 0 ≤ k ∧ ∀ z, Q (.int z) H
structure Tx1 (K : PySem.W.Frag) (mg : Str → Option Value) (aO aN aE aC : Addr) : Prop where
  int : mg "int" = none
  len : mg "len" = none
  dO : Dfn K mg "_law_source_of" st__law_source_of aO ["_law_cell"]
  dN : Dfn K mg "_law_next" st__law_next aN ["_law_source", "_law_many"]
  dE : Dfn K mg "_law_one" st__law_one aE ["_law_source", "_law_options"]
  dC : Dfn K mg "_law_cell_at" st__law_cell_at aC ["_law_script", "_law_k"]
def primes : List V := [.int 2147483647, .int 2147483629, .int 2147483587, .int 2147483579, .int 2147483563, .int 2147483549, .int 2147483543]
theorem prime_at (i : Int) (h0 : 0 ≤ i) (h7 : i < 7) : ∃ p : Int, atI primes i = some (.int p) ∧ 0 < p ∧ p ≤ 2147483647 := by
  have : i = 0 ∨ i = 1 ∨ i = 2 ∨ i = 3 ∨ i = 4 ∨ i = 5 ∨ i = 6 := by omega
  rcases this with rfl | rfl | rfl | rfl | rfl | rfl | rfl <;> exact ⟨_, rfl, by decide, by decide⟩
theorem atI_of {α : Type} {xs : List α} {i : Int} (h0 : 0 ≤ i) (h1 : i < xs.length) : ∃ v, atI xs i = some v ∧ v ∈ xs := by
  have hj : i.toNat < xs.length := by omega
  refine ⟨xs[i.toNat], ?_, List.getElem_mem _⟩
  have e : ((i.toNat : Nat) : Int) = i := by omega
  have := atI_nat (xs := xs) (j := i.toNat) (v := xs[i.toNat]) (List.getElem?_eq_getElem hj)
  rwa [e] at this
section
variable {P : Program} {w : World} {K : PySem.W.Frag} {mg : Str → Option Value} {base : Heap} {aO aN aE aC : Addr}
theorem sc_srcof : FnScope ["_law_cell"] ["_law_cell"] (defScope st__law_source_of) := ⟨rfl, rfl, rfl, by decide +kernel, rfl, by decide +kernel, by decide +kernel⟩
theorem ok_srcof (T : Tx1 K mg aO aN aE aC) : Cal P w K mg base "_law_source_of" 1 aO ["_law_cell"] spSrcOf := T.dO.cal fun fd F => by
  refine F.ok sc_srcof (fun vs H Q E h => ?_) (fun cdv A outer s H vs Q E hr h => ?_)
  · obtain ⟨c, rfl, _⟩ := h
    rfl
  · obtain ⟨c, rfl, k⟩ := h
    refine ⟨_, pss_one (ps_ret (pe_lst (pa_cons (pe_op op_mul (pv 0) (pe_callTy call_int1 (by rfl) T.int (by decide +kernel) (pa_cons (pe_cmpR op_ge (pv 0) (pe_op op_pow pe_int pe_int) (nomark _)) pa_nil)))
      (pa_cons (pe_op op_mod (pe_callTy call_int1 (by rfl) T.int (by decide +kernel) (pa_cons (pv 0) pa_nil)) pe_int) (pa_cons pe_int pa_nil))))), ?_⟩
    refine ⟨_, rfl, _, rfl, _, _, rfl, rfl, ⟨by decide, by decide, by decide⟩, _, _, rfl, rfl, .inr ⟨_, rfl, _, _, rfl, rfl, ?_, ?_⟩⟩
    · refine .inr ?_
      split <;> decide
    · refine ⟨_, rfl, .inl ⟨_, rfl, _, _, rfl, rfl, (by show (0 : Int) < 2147483647; decide), ?_⟩⟩
      refine ⟨(by show 3 ≤ sizeLine; decide), fun l hl => ?_⟩
      refine k l _ hl (Same.upd hl) ⟨_, _, _, upd_same, ?_, Int.emod_nonneg _ (by decide), Int.emod_lt_of_pos _ (by decide), Int.le_refl _, Int.le_refl _⟩
      by_cases hc : (10 : Int) ^ (18 : Int).toNat ≤ c
      · rw [decide_eq_true hc, if_pos rfl, Int.mul_one]
        exact Int.le_trans (by decide) hc
      · rw [decide_eq_false hc, if_neg Bool.false_ne_true, Int.mul_zero]
        exact Int.le_refl _
theorem sc_next : FnScope ["_law_source", "_law_many", "_law_found", "_law_prime", "_law_figure"] ["_law_source", "_law_many"] (defScope st__law_next) := ⟨rfl, rfl, rfl, by decide +kernel, rfl, by decide +kernel, by decide +kernel⟩
theorem ok_next (T : Tx1 K mg aO aN aE aC) : Cal P w K mg base "_law_next" 1 aN ["_law_source", "_law_many"] spNext := T.dN.cal fun fd F => by
  refine F.ok sc_next (fun vs H Q E h => ?_) (fun cdv A outer s H vs Q E hr h => ?_)
  · obtain ⟨a, m, n, rfl, _⟩ := h
    rfl
  · obtain ⟨a, m, n, rfl, m0, m1, ⟨x, y, z, ha, x0, y0, y1, z0, z1⟩, hn, k⟩ := h
    have nd := sc_next.nd
    refine ⟨_, pss_cons (ps_if (pt_cmpR op_gt (pe_ix ix_list (pv 0) pe_int (fun _ _ => rfl)) pe_int (nomark _))
        (pss_cons (ps_set (i := 2) nd rfl (Or.inl rfl) (pe_op op_mod (pe_callTy call_int1 (by rfl) T.int (by decide +kernel) (pa_cons (pe_ix ix_list (pv 0) pe_int (fun _ _ => rfl)) pa_nil)) (pv 1)))
        (pss_cons (ps_asg (pe_op op_fdivW (pe_ix ix_list (pv 0) pe_int (fun _ _ => rfl)) (pv 1)) (pg_sub (pv 0) pe_int set_list))
        (pss_one (ps_ret (pv 2))))) pss_nil)
      (pss_cons (ps_asg (pe_op op_add (pe_ix ix_list (pv 0) pe_int (fun _ _ => rfl)) pe_int) (pg_sub (pv 0) pe_int set_list))
      (pss_cons (ps_set (i := 3) nd rfl (Or.inl rfl) (pe_ix ix_list (pe_lst (pa_cons pe_int (pa_cons pe_int (pa_cons pe_int (pa_cons pe_int (pa_cons pe_int (pa_cons pe_int (pa_cons pe_int pa_nil))))))))
          (pe_op op_mod (pe_callTy call_int1 (by rfl) T.int (by decide +kernel) (pa_cons (pe_ix ix_list (pv 0) pe_int (fun _ _ => rfl)) pa_nil)) pe_int) (fun _ _ => rfl)))
      (pss_cons (ps_set (i := 4) nd rfl (Or.inl rfl) (pe_op op_mod (pe_callTy call_int1 (by rfl) T.int (by decide +kernel) (pa_cons
          (pe_op op_pow (pe_op op_add (pe_op op_add (pe_ix ix_list (pv 0) pe_int (fun _ _ => rfl)) (pe_op op_mul pe_int (pe_ix ix_list (pv 0) pe_int (fun _ _ => rfl)))) pe_int) pe_int) pa_nil)) (pv 3)))
      (pss_cons (ps_set (i := 4) nd rfl (Or.inl rfl) (pe_op op_mod (pe_callTy call_int1 (by rfl) T.int (by decide +kernel) (pa_cons
          (pe_op op_mul (pe_op op_add (pv 4) (pe_ix ix_list (pv 0) pe_int (fun _ _ => rfl))) (pe_op op_add (pe_op op_fdiv (pv 4) pe_int) pe_int)) pa_nil)) (pv 3)))
      (pss_one (ps_ret (pe_op op_mod (pe_callTy call_int1 (by rfl) T.int (by decide +kernel) (pa_cons (pe_op op_fdiv (pv 4) pe_int) pa_nil)) (pv 1)))))))), ?_⟩
    refine ⟨_, rfl, _, _, _, _, rfl, rfl, SqL.of ha, rfl, _, _, rfl, rfl, _, rfl, ?_⟩
    refine ite2 (fun c => ?_) (fun c => ?_)
    · -- found = int(source[0]) % many; source[0] = source[0] // many; return found
      refine ⟨_, rfl, _, _, _, _, rfl, rfl, SqL.of ha, rfl, .inl ⟨_, rfl, _, rfl, _, _, rfl, rfl, m0, ?_⟩⟩
      refine ⟨_, rfl, _, _, _, _, rfl, rfl, SqL.of ha, rfl, _, rfl, _, _, rfl, rfl, wide_div m0 m1 (by decide) (by decide), ?_⟩
      refine ⟨_, rfl, _, _, _, 0, rfl, rfl, ha, rfl, ?_⟩
      refine ⟨_, rfl, ?_⟩
      refine k _ _ (Int.emod_nonneg _ (by omega)) (Int.emod_lt_of_pos _ m0) ⟨_, _, _, upd_same, Int.ediv_nonneg x0 (by omega), y0, y1, z0, by omega⟩ Kp.upd
    · -- the other way
      refine ⟨_, rfl, _, _, _, _, rfl, rfl, SqL.of ha, rfl, _, _, rfl, rfl, ?_⟩
      refine ⟨_, rfl, _, _, _, 2, rfl, rfl, ha, rfl, ?_⟩
      have ha2 : ∀ b o, b ≠ a → (upd (upd H a (.lst [.int x, .int y, .int (z + 1)])) b o) a = some (.lst [.int x, .int y, .int (z + 1)]) := fun b o n => by rw [upd_ne n.symm, upd_same]
      refine ⟨(by show 7 ≤ sizeLine; decide), fun l hl => ?_⟩
      have hla : l ≠ a := fun e => by
        subst e
        have : (upd H l (.lst [.int x, .int y, .int (z + 1)])) l = none := hl
        rw [upd_same] at this
        cases this
      have hA := ha2 l (.lst primes) hla
      refine ⟨_, rfl, _, _, _, _, rfl, rfl, SqL.of hA, rfl, .inl ⟨_, rfl, _, _, rfl, rfl, (by show (0 : Int) < 7; decide), ?_⟩⟩
      obtain ⟨p, hp, p0, p1⟩ := prime_at ((z + 1) % 7) (Int.emod_nonneg _ (by decide)) (Int.emod_lt_of_pos _ (by decide))
      refine ⟨l, primes, _, _, rfl, rfl, SqL.of upd_same, hp, ?_⟩
      -- figure
      refine ⟨_, rfl, _, _, _, _, rfl, rfl, SqL.of hA, rfl, _, rfl, _, _, _, _, rfl, rfl, SqL.of hA, rfl, _, _, rfl, rfl, .inl (by decide), _, _, rfl, rfl, _, _, rfl, rfl, _, _, rfl, rfl, ⟨by decide, by decide, ?_⟩, .inl ⟨_, rfl, _, rfl, _, _, rfl, rfl, p0, ?_⟩⟩
      · omega
      have f0 : 0 ≤ (y + 7919 * (z + 1) + 1) ^ (5 : Int).toNat % p := Int.emod_nonneg _ (by omega)
      have f1 : (y + 7919 * (z + 1) + 1) ^ (5 : Int).toNat % p < p := Int.emod_lt_of_pos _ p0
      refine ⟨_, rfl, _, rfl, _, _, _, _, rfl, rfl, SqL.of hA, rfl, _, _, rfl, rfl, _, rfl, _, _, rfl, rfl, ⟨by decide, by decide⟩, _, _, rfl, rfl, _, _, rfl, rfl, .inl ?_, .inl ⟨_, rfl, _, rfl, _, _, rfl, rfl, p0, ?_⟩⟩
      · omega
      refine ⟨_, rfl, _, _, rfl, rfl, ⟨by decide, by decide⟩, .inl ⟨_, rfl, _, rfl, _, _, rfl, rfl, m0, ?_⟩⟩
      refine k _ _ (Int.emod_nonneg _ (by omega)) (Int.emod_lt_of_pos _ m0) ⟨_, _, _, hA, x0, y0, y1, by omega, by omega⟩ (Kp.upd.trans (Kp.of (Same.upd hl)))
theorem sc_one : FnScope ["_law_source", "_law_options"] ["_law_source", "_law_options"] (defScope st__law_one) := ⟨rfl, rfl, rfl, by decide +kernel, rfl, by decide +kernel, by decide +kernel⟩
theorem ok_one (T : Tx1 K mg aO aN aE aC) : Cal P w K mg base "_law_one" 2 aE ["_law_source", "_law_options"] spOne := T.dE.cal fun fd F => by
  have G : Cal P w K mg base "_law_next" 1 aN ["_law_source", "_law_many"] spNext := ok_next T
  refine F.ok sc_one (fun vs H Q E h => ?_) (fun cdv A outer s H vs Q E hr h => ?_)
  · obtain ⟨a, l, xs, n, rfl, _⟩ := h
    rfl
  · obtain ⟨a, l, xs, n, rfl, hal, hl, x0, x1, hs, hn, k⟩ := h
    refine ⟨_, pss_one (ps_ret (pe_ix ix_list (pv 1) (pe_c G hr rfl (pa_cons (pv 0) (pa_cons (pe_callB call_len_seq (by rfl) T.len PySem.boot_len (pa_cons (pv 1) pa_nil)) pa_nil))) (fun _ _ => rfl))), ?_⟩
    refine ⟨_, rfl, _, rfl, _, rfl, l, xs, rfl, .inl (SqL.of hl), a, _, n, rfl, by omega, ?_, hs, hn, fun r H' r0 r1 hs' hk => ?_⟩
    · exact Nat.lt_of_le_of_lt (show ((xs.length : Int)).natAbs ≤ 100000 by omega) (by decide)
    · obtain ⟨v, hv, hm⟩ := atI_of (xs := xs) r0 r1
      exact ⟨l, xs, r, v, rfl, rfl, SqL.of (hk _ _ hal.symm hl), hv, k v H' hm hs' hk⟩
theorem sc_cellat : FnScope ["_law_script", "_law_k"] ["_law_script", "_law_k"] (defScope st__law_cell_at) := ⟨rfl, rfl, rfl, by decide +kernel, rfl, by decide +kernel, by decide +kernel⟩
theorem ok_cellat (T : Tx1 K mg aO aN aE aC) : Cal P w K mg base "_law_cell_at" 1 aC ["_law_script", "_law_k"] (spCell K) := T.dC.cal fun fd F => by
  refine F.ok sc_cellat (fun vs H Q E h => ?_) (fun cdv A outer s H vs Q E hr h => ?_)
  · obtain ⟨a, ns, z, rfl, _⟩ := h
    rfl
  · obtain ⟨a, ns, i, rfl, hS, i0, k⟩ := h
    refine ⟨_, pss_cons (ps_if (pt_cmpR op_lt (pv 1) (pe_callB call_len_seq (by rfl) T.len PySem.boot_len (pa_cons (pv 0) pa_nil)) (nomark _)) (pss_one (ps_ret (pe_ix ix_list (pv 0) (pv 1) (fun _ _ => rfl)))) pss_nil) (pss_one (ps_ret pe_int)), ?_⟩
    refine ⟨_, rfl, _, rfl, a, _, rfl, .inl hS, _, _, rfl, rfl, _, rfl, ?_⟩
    refine ite2 (fun c => ?_) (fun c => ?_)
    · have c' : i < ((ns.map V.int).length : Nat) := of_decide_eq_true c
      obtain ⟨v, hv, hm⟩ := atI_of (xs := ns.map V.int) i0 c'
      obtain ⟨z, _, rfl⟩ := List.mem_map.mp hm
      exact ⟨_, rfl, _, rfl, a, _, _, _, rfl, rfl, hS, hv, k z⟩
    · exact k 0
end
/-! ### breakers and rows -/
abbrev Tri := Int × Int × Int
def TriV (t : Tri) : List V := [.int t.1, .int t.2.1, .int t.2.2]
def BrAt (H : Hp) (x : V) (t : Tri) : Prop := ∃ a, x = .ref a ∧ H a = some (.tup (TriV t))
def OkT (t : Tri) : Prop := 1 ≤ t.1 ∧ t.1 ≤ 1000000000000 ∧ 1 ≤ t.2.1 ∧ t.2.1 ≤ 1000000000000000000000000000000 ∧ 1 ≤ t.2.2 ∧ t.2.2 ≤ 1000000000000
abbrev Brs (H : Hp) (xs : List V) (ts : List Tri) : Prop := Paired (BrAt H) xs ts
/-- what is no list is kept -/
def NL (H H' : Hp) : Prop := ∀ b o, H b = some o → (∀ xs, o ≠ .lst xs) → H' b = some o
theorem NL.refl {H : Hp} : NL H H := fun _ _ h _ => h
theorem NL.trans {H H1 H2 : Hp} (a : NL H H1) (b : NL H1 H2) : NL H H2 := fun c o h n => b c o (a c o h n) n
theorem NL.of {H H' : Hp} (s : Same H H') : NL H H' := fun b o e _ => s b o e
theorem Kp.nl {a : Addr} {H H' : Hp} {xs : List V} (k : Kp a H H') (h : H a = some (.lst xs)) : NL H H' := fun b o e n => k b o (fun z => by subst z; rw [h] at e; exact n xs (Option.some.inj e).symm) e
theorem NL.upd {H : Hp} {p : Addr} {xs : List V} {o : HO} (h : H p = some (.lst xs)) : NL H (L2.upd H p o) := Kp.nl Kp.upd h
theorem BrAt.nl {H H' : Hp} (k : NL H H') {x : V} {t : Tri} (h : BrAt H x t) : BrAt H' x t := by
  obtain ⟨a, e, h⟩ := h
  exact ⟨a, e, k _ _ h fun _ z => nomatch z⟩
theorem Brs.nl {H H' : Hp} (k : NL H H') {xs : List V} {ts : List Tri} (h : Brs H xs ts) : Brs H' xs ts := L2.Paired.mapP h fun _ _ z => z.nl k
theorem Brs.len {H : Hp} : ∀ {xs : List V} {ts : List Tri}, Brs H xs ts → xs.length = ts.length
  | _, _, .nil => rfl
  | _, _, .cons _ t => congrArg Nat.succ (Brs.len t)
theorem Brs.get {H : Hp} : ∀ {xs : List V} {ts : List Tri} {i : Nat} {x : V}, Brs H xs ts → xs[i]? = some x → ∃ t, ts[i]? = some t ∧ BrAt H x t
  | _, _, _, _, .nil, e => by simp at e
  | _, _, 0, _, .cons r _, e => by simp at e; subst e; exact ⟨_, rfl, r⟩
  | _, _, i + 1, x, .cons _ t, e => by
    obtain ⟨u, h1, h2⟩ := Brs.get (i := i) (x := x) t (by simpa using e)
    exact ⟨u, by simpa using h1, h2⟩
theorem Brs.app {H : Hp} : ∀ {xs ys : List V} {ts us : List Tri}, Brs H xs ts → Brs H ys us → Brs H (xs ++ ys) (ts ++ us)
  | _, _, _, _, .nil, s => s
  | _, _, _, _, .cons r t, s => .cons r (Brs.app t s)
theorem Brs.rev {H : Hp} : ∀ {xs : List V} {ts : List Tri}, Brs H xs ts → Brs H xs.reverse ts.reverse
  | _, _, .nil => .nil
  | _, _, .cons r t => by
    rw [List.reverse_cons, List.reverse_cons]
    exact Brs.app (Brs.rev t) (.cons r .nil)
theorem Brs.take {H : Hp} : ∀ {xs : List V} {ts : List Tri} (n : Nat), Brs H xs ts → Brs H (xs.take n) (ts.take n)
  | _, _, 0, _ => .nil
  | _, _, _ + 1, .nil => .nil
  | _, _, n + 1, .cons r t => .cons r (Brs.take n t)
theorem Brs.drop {H : Hp} : ∀ {xs : List V} {ts : List Tri} (n : Nat), Brs H xs ts → Brs H (xs.drop n) (ts.drop n)
  | _, _, 0, r => r
  | _, _, _ + 1, .nil => .nil
  | _, _, n + 1, .cons _ t => Brs.drop n t
/-! the attributes of a row, as __init__ stores them -/
theorem k1 : ¬ (("breakers" : Str) = "step") := by decide +kernel
theorem k2 : ¬ (("breakers" : Str) = "phase") := by decide +kernel
theorem k3 : ¬ (("step" : Str) = "phase") := by decide +kernel
def rowF (T : Addr) (st ph : Int) : List (Str × V) := putF "phase" (.int ph) (putF "step" (.int st) (putF "breakers" (.ref T) []))
theorem rowF_b (T : Addr) (st ph : Int) : (rowF T st ph).lookup ("breakers" : Str) = some (.ref T) := by
  unfold rowF
  rw [lookup_putF, if_neg k2, lookup_putF, if_neg k1, lookup_putF, if_pos rfl]
theorem rowF_s (T : Addr) (st ph : Int) : (rowF T st ph).lookup ("step" : Str) = some (.int st) := by
  unfold rowF
  rw [lookup_putF, if_neg k3, lookup_putF, if_pos rfl]
theorem rowF_p (T : Addr) (st ph : Int) : (rowF T st ph).lookup ("phase" : Str) = some (.int ph) := by
  unfold rowF
  rw [lookup_putF, if_pos rfl]
theorem rowF_no (T : Addr) (st ph : Int) {m : Str} (h1 : ¬ m = "phase") (h2 : ¬ m = "step") (h3 : ¬ m = "breakers") : (rowF T st ph).lookup m = none := by
  unfold rowF
  rw [lookup_putF, if_neg h1, lookup_putF, if_neg h2, lookup_putF, if_neg h3]
  all_goals rfl
theorem putF_len (f : Str) (v : V) (fs : List (Str × V)) {n : Nat} (h : fs.length ≤ n) : (putF f v fs).length ≤ n + 1 := Nat.le_trans (length_putF f v fs) (Nat.succ_le_succ h)
/-- a Row stands at p -/
structure RowAt (C : Addr) (H : Hp) (p T : Addr) (xs : List V) (ts : List Tri) (st ph : Int) : Prop where
  ob : ∃ dx, H p = some (.ins C dx (rowF T st ph))
  tp : H T = some (.tup xs)
  br : Brs H xs ts
  ok : ∀ t ∈ ts, OkT t
  ln : ts.length ≤ 12
  s0 : 1 ≤ st
  s1 : st ≤ 1000000000000000000000000000000
  p0 : 0 ≤ ph
  p1 : ph ≤ 1000000000000000000000000000000
theorem RowAt.nl {C : Addr} {H H' : Hp} {p T : Addr} {xs : List V} {ts : List Tri} {st ph : Int} (R : RowAt C H p T xs ts st ph) (k : NL H H') : RowAt C H' p T xs ts st ph := by
  obtain ⟨dx, h⟩ := R.ob
  exact ⟨⟨dx, k _ _ h fun _ z => nomatch z⟩, k _ _ R.tp fun _ z => (nomatch z), R.br.nl k, R.ok, R.ln, R.s0, R.s1, R.p0, R.p1⟩
/-- over enumerate(list) -/
theorem for_enum {K : PySem.W.Frag} {a : Addr} {xs : List V} {g : TG} {tb : TS} {D : Ends} {σ : L2.St} {H : Hp} (Pv : Nat → L2.St → Hp → Prop) (h0 : Pv 0 σ H) (hl : ∀ i σ H, i ≤ xs.length → Pv i σ H → SqL K H a xs)
    (hs : ∀ i x T σ H, xs[i]? = some x → Pv i σ H → H T = none → g (.ref T) σ (upd H T (.tup [.int (i : Nat), x])) fun σ2 H2 => tb { D with nx := Pv (i + 1), ct := Pv (i + 1), bk := D.nx } σ2 H2) (hd : ∀ σ H, Pv xs.length σ H → D.nx σ H) :
    ∃ W : Nat → Nat → L2.St → Hp → Prop, (∃ m, W 0 m σ H) ∧ ∀ i m σ H, W i m σ H →
      ((Ite K a).stop i H ∧ D.nx σ H) ∨ ((Ite K a).go i H ∧ ∃ N : L2.St → Hp → Prop, (∀ σ' H', N σ' H' → ∃ m', m' < m ∧ W (i + 1) m' σ' H') ∧ ∀ x H', (Ite K a).yld i H x H' → g x σ H' fun σ2 H2 => tb { D with nx := N, ct := N, bk := D.nx } σ2 H2) := by
  refine ⟨fun i m σ H => m = xs.length - i ∧ i ≤ xs.length ∧ Pv i σ H, ⟨xs.length, by simp, Nat.zero_le _, h0⟩, ?_⟩
  rintro i m σ H ⟨rfl, hi, p⟩
  have q := hl i σ H hi p
  by_cases hlt : i < xs.length
  · refine .inr ⟨⟨xs, xs[i], q, by simp [hlt]⟩, Pv (i + 1), fun σ' H' p' => ⟨xs.length - (i + 1), by omega, rfl, hlt, p'⟩, fun x H' y => ?_⟩
    obtain ⟨T, x', rfl, hT, rfl, hx⟩ := y
    exact hs i x' T σ H (hx xs q) p hT
  · have e : i = xs.length := by omega
    subst e
    exact .inl ⟨⟨xs, q, Nat.le_refl _⟩, hd σ H p⟩
theorem pe_callN0 {X : Cx} {CX : CXT} {k : Nat} {f : Addr} {fd : FuncData} {ps ks : List Str} {sp : Sp} {E : XK} {x : Str} {p pos : Pos} {kws : List Keyword} {tk : TA} {g : List Value → List Value → List Value} {gV : List V → List V → List V}
    (F : FnOk X.prog X.w X.K X.mg X.base CX k f fd ps sp) (hr : Room k X.A) (hg : Gl X x) (hm : X.mg x = some (.ref f)) (hk : PySem.W.keepIn X.K (.ref f) = true) (hb : KBn X.K fd ps 0 ks g gV) (hx : Passes CX X E) (hkw : PK X kws tk)
    (hall : (backToKw pos (keywordEach kws X.env)).all (·.1.isSome) = true := by rfl) (hks : (backToKw pos (keywordEach kws X.env)).filterMap (·.1) = ks := by rfl) (hdb : (x == ("__debug__" : Str)) = false := by decide)
    (hpl : ((backTo pos (starEach [] X.env)).any (·.1) || (backToKw pos (keywordEach kws X.env)).any (·.1.isNone)) = false := by rfl) :
    PE X (.Call (.Name x p) [] kws pos) (tCallN 0 ks.length sp gV E tNil tk) := by
  refine ⟨fun pins s σ H Q I h => ?_⟩
  refine wpAny_Call_Name_kw (ld_glob I hg hm ?_ hdb)
  refine PySem.W.callWith_KW0 (h₀ := X.base) I.ok.mod.kin hk hall ?_ hpl
  refine thn (hkw.run pos pins s σ H _ I h) fun ws s2 ⟨zs, H2, I2, rz, l1, l2, q2⟩ => ⟨I2.kIn, ?_⟩
  rw [hks]
  exact run_fnN F hr hb hx I2 .nil rz rfl l2 q2
theorem pe_gI {X : Cx} {x : Str} {i : Int} {t : Tok} {pos : Pos} (hm : X.mg x = some (.int i t)) (hg : Gl X x := by rfl) (hd : (x == ("__debug__" : Str)) = false := by decide) : PE X (.Name x pos) (tC (.int i)) := pe_glob hg hm ⟨t, rfl⟩ hd
/-! ### promises -/
def spIsBr : Sp := fun vs H Q _ => ∃ x t, vs = [x] ∧ BrAt H x t ∧ OkT t ∧ Q (.bl true) H
def spChk : Sp := fun vs H Q _ => ∃ a xs ts pt, vs = [.ref a, .str pt] ∧ H a = some (.lst xs) ∧ Brs H xs ts ∧ (∀ t ∈ ts, OkT t) ∧ ts.length ≤ 12 ∧ ∀ H', Same H H' → Q .non H'
def spStep : Sp := fun vs H Q _ => ∃ st : Int, vs = [.int st] ∧ 1 ≤ st ∧ st ≤ 1000000000000000000000000000000 ∧ Q .non H
def spInit (C : Addr) : Sp := fun vs H Q _ => ∃ p a st ph xs ts dx, vs = [.ref p, .ref a, .int st, .int ph] ∧ H p = some (.ins C dx []) ∧ H a = some (.lst xs) ∧ Brs H xs ts ∧ (∀ t ∈ ts, OkT t) ∧ ts.length ≤ 12 ∧
  (1 ≤ st ∧ st ≤ 1000000000000000000000000000000 ∧ 0 ≤ ph ∧ ph ≤ 1000000000000000000000000000000) ∧ ∀ T H', RowAt C H' p T xs ts st ph → Kp p H H' → Q .non H'
def spBl (C : Addr) : Sp := fun vs H Q _ => ∃ p T xs ts st ph, vs = [.ref p] ∧ RowAt C H p T xs ts st ph ∧ ∀ l H', H l = none → H' = upd H l (.lst xs) → Q (.ref l) H'
def spSt (C : Addr) : Sp := fun vs H Q _ => ∃ p T xs ts st ph, vs = [.ref p] ∧ RowAt C H p T xs ts st ph ∧ Q (.int st) H
def spPh (C : Addr) : Sp := fun vs H Q _ => ∃ p T xs ts st ph, vs = [.ref p] ∧ RowAt C H p T xs ts st ph ∧ Q (.int ph) H
def spLen (C : Addr) : Sp := fun vs H Q _ => ∃ p T xs ts st ph, vs = [.ref p] ∧ RowAt C H p T xs ts st ph ∧ Q (.int xs.length) H
def spGet (C : Addr) : Sp := fun vs H Q _ => ∃ p T xs ts st ph i x, vs = [.ref p, .int i] ∧ RowAt C H p T xs ts st ph ∧ 0 ≤ i ∧ atI xs i = some x ∧ i < xs.length ∧ Q x H
def spCon (C : Addr) : Sp := fun vs H Q _ => ∃ p T xs ts st ph x n, vs = [.ref p, x] ∧ RowAt C H p T xs ts st ph ∧ Kd H x n ∧ Q (.bl (isI x && (decide (ph ≤ toI x) && decide ((toI x - ph) % st = 0)))) H
def spRt (C : Addr) : Sp := fun vs H Q _ => ∃ p T xs ts st ph i, vs = [.ref p, .int i] ∧ RowAt C H p T xs ts st ph ∧ 0 ≤ i ∧ Int.natAbs i < 2 ^ 200 ∧ Q (.int (ph + i * st)) H
def spFr (C : Addr) : Sp := fun vs H Q _ => ∃ p T xs ts st ph i, vs = [.ref p, .int i] ∧ RowAt C H p T xs ts st ph ∧ 0 ≤ i ∧ Q (.int (stepsUp (i - ph) st)) H
structure Tx2 (K : PySem.W.Frag) (mg : Str → Option Value) (C aB aK aX bL bS bP bN bG bC : Addr) : Prop where
  list : mg "list" = none
  tuple : mg "tuple" = none
  len : mg "len" = none
  enumerate : mg "enumerate" = none
  cB : ∃ t, mg "MOST_BREAKERS" = some (.int 12 t)
  cC : ∃ t, mg "MOST_COUNT" = some (.int 1000000000000 t)
  cT : ∃ t, mg "MOST_TIME" = some (.int 1000000000000000000000000000000 t)
  cl : Cls K C
  nB : NoAttr K C "breakers"
  nS : NoAttr K C "step"
  nP : NoAttr K C "phase"
  dB : Dfn K mg "is_breaker" st_is_breaker aB ["value"]
  dK : Dfn K mg "check_breakers" st_check_breakers aK ["breakers", "part"]
  dKS : ∃ aU, Dfn K mg "check_step" st_check_step aU ["step"]
  dX : ∃ fd, Fun K "__init__" "Row.__init__" st_Row_init aX fd
  mL : Mth K C "breaker_list" "Row.breaker_list" st_Row_breaker_list bL ["self"]
  mS : Mth K C "step_length" "Row.step_length" st_Row_step_length bS ["self"]
  mP : Mth K C "phase_time" "Row.phase_time" st_Row_phase_time bP ["self"]
  mN : Mth K C "__len__" "Row.__len__" st_Row_len bN ["self"]
  mG : Mth K C "__getitem__" "Row.__getitem__" st_Row_getitem bG ["self", "at"]
  mC : Mth K C "__contains__" "Row.__contains__" st_Row_contains bC ["self", "x"]
section
variable {P : Program} {w : World} {K : PySem.W.Frag} {mg : Str → Option Value} {base : Heap} {aI aL aW aS C aB aK aX bL bS bP bN bG bC : Addr}
theorem sc_isbr : FnScope ["value", "failures", "wait", "successes"] ["value"] (defScope st_is_breaker) := ⟨rfl, rfl, rfl, by decide +kernel, rfl, by decide +kernel, by decide +kernel⟩
theorem ok_isbr (T : Tx0 K mg aI aL aW aS) (T2 : Tx2 K mg C aB aK aX bL bS bP bN bG bC) : Cal P w K mg base "is_breaker" 3 aB ["value"] spIsBr := T2.dB.cal fun fd F => by
  have G : Cal P w K mg base "is_within" 2 aW ["value", "least", "most"] spWithin := ok_within T
  obtain ⟨tC, cC⟩ := T2.cC
  obtain ⟨tT, cT⟩ := T2.cT
  have nd := sc_isbr.nd
  refine F.ok sc_isbr (fun vs H Q E h => ?_) (fun cdv A outer s H vs Q E hr h => ?_)
  · obtain ⟨x, t, rfl, _⟩ := h
    rfl
  · obtain ⟨x, t, rfl, ⟨a, rfl, ha⟩, ⟨h1, h2, h3, h4, h5, h6⟩, k⟩ := h
    refine ⟨_, pss_cons (ps_if (PW.pt (pw_or (pt_not (pt_val (pe_callB call_isi (by rfl) T.isinstance (by decide +kernel) (pa_cons (pv 0) (pa_cons (pe_bltn (by rfl) T2.tuple (by decide +kernel : bootBuiltins "tuple" = some (.type "tuple")) (v := .ty "tuple") rfl) pa_nil)))))
        (pw_or1 (pt_cmpR op_ne (pe_callB call_len_seq (by rfl) T2.len PySem.boot_len (pa_cons (pv 0) pa_nil)) pe_int (nomark _))))) (pss_one (ps_ret pe_bl)) pss_nil)
      (pss_cons (ps_asg (pv 0) (pg_tup rfl (pgs_cons (pg_name (i := 1) nd rfl (Or.inl rfl)) (pgs_cons (pg_name (i := 2) nd rfl (Or.inl rfl)) (pgs_cons (pg_name (i := 3) nd rfl (Or.inl rfl)) pgs_nil)))))
      (pss_one (ps_ret (pe_and (pe_c G hr rfl (pa_cons (pv 1) (pa_cons pe_int (pa_cons (pe_gI cC) pa_nil)))) (pe_and (pe_c G hr rfl (pa_cons (pv 2) (pa_cons pe_int (pa_cons (pe_gI cT) pa_nil)))) (pe_one (pe_c G hr rfl (pa_cons (pv 3) (pa_cons pe_int (pa_cons (pe_gI cC) pa_nil)))))))))), ?_⟩
    refine ⟨_, rfl, _, .ty "tuple", _, _, _, rfl, .ty "tuple", (Kd.tup ha).ty, (Kd.tup ha).kit "tuple" _ (.inr ⟨by decide, by decide, rfl⟩), _, rfl, iteF ?_⟩
    refine ⟨_, rfl, a, _, rfl, .inr (SqT.of ha), rfl, _, rfl, iteF ?_⟩
    refine ⟨_, rfl, a, _, rfl, SqT.of ha, rfl, _, _, rfl, _, _, rfl, _, _, rfl, rfl, ?_⟩
    refine ⟨_, rfl, _, _, _, _, rfl, .int _, _, rfl, ?_⟩
    have e1 : (decide ((1 : Int) ≤ t.1) && decide (t.1 ≤ 1000000000000)) = true := by rw [decide_eq_true h1, decide_eq_true h2]; rfl
    have e2 : (decide ((1 : Int) ≤ t.2.1) && decide (t.2.1 ≤ 1000000000000000000000000000000)) = true := by rw [decide_eq_true h3, decide_eq_true h4]; rfl
    have e3 : (decide ((1 : Int) ≤ t.2.2) && decide (t.2.2 ≤ 1000000000000)) = true := by rw [decide_eq_true h5, decide_eq_true h6]; rfl
    show if (decide ((1 : Int) ≤ t.1) && decide (t.1 ≤ 1000000000000)) = true then _ else _
    rw [e1]
    refine iteT ?_
    refine ⟨_, rfl, _, _, _, _, rfl, .int _, _, rfl, ?_⟩
    show if (decide ((1 : Int) ≤ t.2.1) && decide (t.2.1 ≤ 1000000000000000000000000000000)) = true then _ else _
    rw [e2]
    refine iteT ?_
    refine ⟨_, rfl, _, _, _, _, rfl, .int _, ?_⟩
    show Q (.bl (decide ((1 : Int) ≤ t.2.2) && decide (t.2.2 ≤ 1000000000000))) H
    rw [e3]
    exact k
theorem sc_chk : FnScope ["breakers", "part", "at", "breaker"] ["breakers", "part"] (defScope st_check_breakers) := ⟨rfl, rfl, rfl, by decide +kernel, rfl, by decide +kernel, by decide +kernel⟩
theorem ok_chk (T : Tx0 K mg aI aL aW aS) (T2 : Tx2 K mg C aB aK aX bL bS bP bN bG bC) : Cal P w K mg base "check_breakers" 4 aK ["breakers", "part"] spChk := T2.dK.cal fun fd F => by
  have G : Cal P w K mg base "is_breaker" 3 aB ["value"] spIsBr := ok_isbr T T2
  obtain ⟨tB, cB⟩ := T2.cB
  have nd := sc_chk.nd
  refine F.ok sc_chk (fun vs H Q E h => ?_) (fun cdv A outer s H vs Q E hr h => ?_)
  · obtain ⟨a, xs, ts, pt, rfl, _⟩ := h
    rfl
  · obtain ⟨a, xs, ts, pt, rfl, ha, hb, ho, hl, k⟩ := h
    refine ⟨_, pss_cons (ps_if (PW.pt (pw_or (pt_not (pt_val (pe_callB call_isi (by rfl) T.isinstance (by decide +kernel) (pa_cons (pv 0) (pa_cons (pe_bltn (by rfl) T2.list (by decide +kernel : bootBuiltins "list" = some (.type "list")) (v := .ty "list") rfl) pa_nil)))))
        (pw_or1 (pt_cmpR op_gt (pe_callB call_len_seq (by rfl) T2.len PySem.boot_len (pa_cons (pv 0) pa_nil)) (pe_gI cB) (nomark _))))) (pss_one ps_never) pss_nil)
      (pss_one (ps_for PassesOwn.never rfl (pi_enum (by rfl) T2.enumerate (pa_cons (pv 0) pa_nil)) (pg_tup rfl (pgs_cons (pg_name (i := 2) nd rfl (Or.inl rfl)) (pgs_cons (pg_name (i := 3) nd rfl (Or.inl rfl)) pgs_nil)))
        (pss_one (ps_if (pt_not (pt_val (pe_c G hr rfl (pa_cons (pv 3) pa_nil)))) (pss_one ps_never) pss_nil)))), ?_⟩
    refine ⟨_, rfl, _, .ty "list", _, _, _, rfl, .ty "list", (Kd.lst ha).ty, (Kd.lst ha).kit "list" _ (.inr ⟨by decide, by decide, rfl⟩), _, rfl, iteF ?_⟩
    refine ⟨_, rfl, a, _, rfl, .inl (SqL.of ha), _, _, rfl, rfl, _, rfl, ?_⟩
    have hn : ¬ ((12 : Int) < (xs.length : Nat)) := by rw [hb.len]; omega
    rw [decide_eq_false hn]
    refine iteF ?_
    refine ⟨_, rfl, a, xs, rfl, SqL.of ha, for_enum (K := K) (a := a) (xs := xs) (fun i σ H2 => ∃ u v : Option V, σ = [some (.ref a), some (.str pt), u, v] ∧ Same H H2) ⟨none, none, rfl, Same.refl H⟩ (fun i σ H2 _ ⟨_, _, _, s2⟩ => SqL.of (s2 _ _ ha)) ?_ ?_⟩
    · rintro i x T' σ H2 hx ⟨u, v, rfl, s2⟩ hT
      obtain ⟨t, ht, hbr⟩ := hb.get hx
      have s3 : Same H (upd H2 T' (.tup [.int (i : Nat), x])) := s2.trans (Same.upd hT)
      refine ⟨T', _, rfl, SqT.of upd_same, rfl, _, _, rfl, _, _, rfl, rfl, ?_⟩
      refine ⟨_, rfl, x, t, rfl, hbr.nl (NL.of s3), ho t (List.mem_of_getElem? ht), _, rfl, iteF ?_⟩
      exact ⟨_, _, rfl, s3⟩
    · rintro σ H2 ⟨u, v, rfl, s2⟩
      exact k H2 s2
theorem sc_kst : FnScope ["step"] ["step"] (defScope st_check_step) := ⟨rfl, rfl, rfl, by decide +kernel, rfl, by decide +kernel, by decide +kernel⟩
theorem ok_kst (T : Tx0 K mg aI aL aW aS) (T2 : Tx2 K mg C aB aK aX bL bS bP bN bG bC) {aU : Addr} (D : Dfn K mg "check_step" st_check_step aU ["step"]) : Cal P w K mg base "check_step" 3 aU ["step"] spStep := D.cal fun fd F => by
  have GW : Cal P w K mg base "is_within" 2 aW ["value", "least", "most"] spWithin := ok_within T
  obtain ⟨tT, cT⟩ := T2.cT
  refine F.ok sc_kst (fun vs H Q E h => ?_) (fun cdv A outer s H vs Q E hr h => ?_)
  · obtain ⟨st, rfl, _⟩ := h
    rfl
  · obtain ⟨st, rfl, b1, b2, k⟩ := h
    refine ⟨_, pss_one (ps_if (pt_not (pt_val (pe_c GW hr rfl (pa_cons (pv 0) (pa_cons pe_int (pa_cons (pe_gI cT) pa_nil)))))) (pss_one ps_never) pss_nil), ?_⟩
    have e1 : (decide ((1 : Int) ≤ st) && decide (st ≤ 1000000000000000000000000000000)) = true := by rw [decide_eq_true b1, decide_eq_true b2]; rfl
    refine ⟨_, rfl, _, _, _, _, rfl, .int _, _, rfl, ?_⟩
    show if (!(decide ((1 : Int) ≤ st) && decide (st ≤ 1000000000000000000000000000000))) = true then _ else _
    rw [e1]
    exact iteF k
theorem sc_init : FnScope ["self", "breakers", "step", "phase"] ["self", "breakers", "step", "phase"] (defScope st_Row_init) := ⟨rfl, rfl, rfl, by decide +kernel, rfl, by decide +kernel, by decide +kernel⟩
theorem ok_init (T : Tx0 K mg aI aL aW aS) (T2 : Tx2 K mg C aB aK aX bL bS bP bN bG bC) {fd : FuncData} (F : Fun K "__init__" "Row.__init__" st_Row_init aX fd) : FnOk P w K mg base CX0 5 aX fd ["self", "breakers", "step", "phase"] (spInit C) := by
  have G : Cal P w K mg base "check_breakers" 4 aK ["breakers", "part"] spChk := ok_chk T T2
  obtain ⟨aU, dKS⟩ := T2.dKS
  have GS : Cal P w K mg base "check_step" 3 aU ["step"] spStep := ok_kst T T2 dKS
  have GW : Cal P w K mg base "is_within" 2 aW ["value", "least", "most"] spWithin := ok_within T
  obtain ⟨tT, cT⟩ := T2.cT
  refine F.ok sc_init (fun vs H Q E h => ?_) (fun cdv A outer s H vs Q E hr h => ?_)
  · obtain ⟨p, a, st, ph, xs, ts, dx, rfl, _⟩ := h
    rfl
  · obtain ⟨p, a, st, ph, xs, ts, dx, rfl, hp, ha, hb, ho, hl, ⟨b1, b2, b3, b4⟩, k⟩ := h
    have hr2 : Room 2 _ := hr.mono (by decide)
    have hr3 : Room 3 _ := hr.mono (by decide)
    refine ⟨_, pss_cons (ps_expr (pe_c G hr rfl (pa_cons (pv 1) (pa_cons pe_str pa_nil))))
      (pss_cons (ps_expr (pe_c GS hr3 rfl (pa_cons (pv 2) pa_nil)))
      (pss_cons (ps_if (pt_not (pt_val (pe_c GW hr2 rfl (pa_cons (pv 3) (pa_cons pe_int (pa_cons (pe_gI cT) pa_nil)))))) (pss_one ps_never) pss_nil)
      (pss_cons (ps_fld (pv 0) (pe_callTy call_tuple_of (by rfl) T2.tuple (by decide +kernel) (pa_cons (pv 1) pa_nil)) rfl)
      (pss_cons (ps_fld (pv 0) (pv 2) rfl)
      (pss_one (ps_fld (pv 0) (pv 3) rfl)))))), ?_⟩
    refine ⟨_, rfl, a, xs, ts, _, rfl, ha, hb, ho, hl, fun H1 s1 => ?_⟩
    have e2 : (decide ((0 : Int) ≤ ph) && decide (ph ≤ 1000000000000000000000000000000)) = true := by rw [decide_eq_true b3, decide_eq_true b4]; rfl
    refine ⟨_, rfl, _, rfl, b1, b2, ?_⟩
    refine ⟨_, rfl, _, _, _, _, rfl, .int _, _, rfl, ?_⟩
    show if (!(decide ((0 : Int) ≤ ph) && decide (ph ≤ 1000000000000000000000000000000))) = true then _ else _
    rw [e2]
    refine iteF ?_
    have hp1 := s1 _ _ hp
    refine ⟨_, rfl, a, xs, rfl, .inl ⟨SqL.of (s1 _ _ ha), fun l hl' => ?_⟩⟩
    have npl : p ≠ l := ne_of_none hp1 hl'
    refine ⟨_, rfl, p, C, dx, [], rfl, (by rw [upd_ne npl]; exact hp1), T2.cl, T2.nB, (by show 0 < 1000; decide), ?_⟩
    refine ⟨_, rfl, _, rfl, p, C, dx, _, rfl, upd_same, T2.cl, T2.nS, Nat.lt_of_le_of_lt (putF_len _ _ [] (Nat.le_refl 0)) (by decide), ?_⟩
    refine ⟨_, rfl, _, rfl, p, C, dx, _, rfl, upd_same, T2.cl, T2.nP, Nat.lt_of_le_of_lt (putF_len _ _ _ (putF_len _ _ [] (Nat.le_refl 0))) (by decide), ?_⟩
    refine k l _ ⟨⟨dx, upd_same⟩, ?_, ?_, ho, hl, b1, b2, b3, b4⟩ ?_
    · rw [upd_ne npl.symm, upd_ne npl.symm, upd_ne npl.symm, upd_same]
    · refine L2.Paired.mapP hb fun x t ⟨b, e, h⟩ => ⟨b, e, ?_⟩
      have nbp : b ≠ p := ne_of h hp (by intro z; cases z)
      have h1 := s1 _ _ h
      rw [upd_ne nbp, upd_ne nbp, upd_ne nbp, upd_ne (ne_of_none h1 hl')]
      exact h1
    · intro b o n e
      have h1 := s1 _ _ e
      rw [upd_ne n, upd_ne n, upd_ne n, upd_ne (ne_of_none h1 hl')]
      exact h1
theorem sc_bl : FnScope ["self"] ["self"] (defScope st_Row_breaker_list) := ⟨rfl, rfl, rfl, by decide +kernel, rfl, by decide +kernel, by decide +kernel⟩
theorem ok_bl (T2 : Tx2 K mg C aB aK aX bL bS bP bN bG bC) : Met P w K mg base C "breaker_list" 1 bL ["self"] (spBl C) := T2.mL.met fun fd F => by
  refine F.ok sc_bl (fun vs H Q E h => ?_) (fun cdv A outer s H vs Q E hr h => ?_)
  · obtain ⟨p, T, xs, ts, st, ph, rfl, _⟩ := h
    rfl
  · obtain ⟨p, T, xs, ts, st, ph, rfl, R, k⟩ := h
    obtain ⟨dx, hp⟩ := R.ob
    refine ⟨_, pss_one (ps_ret (pe_callTy call_list_of (by rfl) T2.list (by decide +kernel) (pa_cons (pe_fld (pv 0) rfl) pa_nil))), ?_⟩
    refine ⟨_, rfl, p, C, dx, _, _, rfl, hp, T2.cl, T2.nB, rowF_b _ _ _, T, xs, rfl, .inr (SqT.of R.tp), fun l hl => k l _ hl rfl⟩
theorem sc_sl : FnScope ["self"] ["self"] (defScope st_Row_step_length) := ⟨rfl, rfl, rfl, by decide +kernel, rfl, by decide +kernel, by decide +kernel⟩
theorem ok_sl (T2 : Tx2 K mg C aB aK aX bL bS bP bN bG bC) : Met P w K mg base C "step_length" 1 bS ["self"] (spSt C) := T2.mS.met fun fd F => by
  refine F.ok sc_sl (fun vs H Q E h => ?_) (fun cdv A outer s H vs Q E hr h => ?_)
  · obtain ⟨p, T, xs, ts, st, ph, rfl, _⟩ := h
    rfl
  · obtain ⟨p, T, xs, ts, st, ph, rfl, R, k⟩ := h
    obtain ⟨dx, hp⟩ := R.ob
    exact ⟨_, pss_one (ps_ret (pe_fld (pv 0) rfl)), _, rfl, p, C, dx, _, _, rfl, hp, T2.cl, T2.nS, rowF_s _ _ _, k⟩
theorem sc_pt : FnScope ["self"] ["self"] (defScope st_Row_phase_time) := ⟨rfl, rfl, rfl, by decide +kernel, rfl, by decide +kernel, by decide +kernel⟩
theorem ok_pt (T2 : Tx2 K mg C aB aK aX bL bS bP bN bG bC) : Met P w K mg base C "phase_time" 1 bP ["self"] (spPh C) := T2.mP.met fun fd F => by
  refine F.ok sc_pt (fun vs H Q E h => ?_) (fun cdv A outer s H vs Q E hr h => ?_)
  · obtain ⟨p, T, xs, ts, st, ph, rfl, _⟩ := h
    rfl
  · obtain ⟨p, T, xs, ts, st, ph, rfl, R, k⟩ := h
    obtain ⟨dx, hp⟩ := R.ob
    exact ⟨_, pss_one (ps_ret (pe_fld (pv 0) rfl)), _, rfl, p, C, dx, _, _, rfl, hp, T2.cl, T2.nP, rowF_p _ _ _, k⟩
theorem sc_len : FnScope ["self"] ["self"] (defScope st_Row_len) := ⟨rfl, rfl, rfl, by decide +kernel, rfl, by decide +kernel, by decide +kernel⟩
theorem ok_len (T2 : Tx2 K mg C aB aK aX bL bS bP bN bG bC) : Met P w K mg base C "__len__" 1 bN ["self"] (spLen C) := T2.mN.met fun fd F => by
  refine F.ok sc_len (fun vs H Q E h => ?_) (fun cdv A outer s H vs Q E hr h => ?_)
  · obtain ⟨p, T, xs, ts, st, ph, rfl, _⟩ := h
    rfl
  · obtain ⟨p, T, xs, ts, st, ph, rfl, R, k⟩ := h
    obtain ⟨dx, hp⟩ := R.ob
    exact ⟨_, pss_one (ps_ret (pe_callB call_len_seq (by rfl) T2.len PySem.boot_len (pa_cons (pe_fld (pv 0) rfl) pa_nil))), _, rfl, p, C, dx, _, _, rfl, hp, T2.cl, T2.nB, rowF_b _ _ _, T, xs, rfl, .inr (SqT.of R.tp), k⟩
theorem sc_get : FnScope ["self", "at"] ["self", "at"] (defScope st_Row_getitem) := ⟨rfl, rfl, rfl, by decide +kernel, rfl, by decide +kernel, by decide +kernel⟩
theorem ok_get (T : Tx0 K mg aI aL aW aS) (T2 : Tx2 K mg C aB aK aX bL bS bP bN bG bC) : Met P w K mg base C "__getitem__" 3 bG ["self", "at"] (spGet C) := T2.mG.met fun fd F => by
  have GW : Cal P w K mg base "is_within" 2 aW ["value", "least", "most"] spWithin := ok_within T
  refine F.ok sc_get (fun vs H Q E h => ?_) (fun cdv A outer s H vs Q E hr h => ?_)
  · obtain ⟨p, T, xs, ts, st, ph, i, x, rfl, _⟩ := h
    rfl
  · obtain ⟨p, T, xs, ts, st, ph, i, x, rfl, R, i0, hx, i1, k⟩ := h
    obtain ⟨dx, hp⟩ := R.ob
    refine ⟨_, pss_cons (ps_if (pt_not (pt_val (pe_c GW hr rfl (pa_cons (pv 1) (pa_cons pe_int (pa_cons (pe_op op_sub (pe_callB call_len_seq (by rfl) T2.len PySem.boot_len (pa_cons (pe_fld (pv 0) rfl) pa_nil)) pe_int) pa_nil)))))) (pss_one ps_never) pss_nil)
      (pss_one (ps_ret (pe_ix ix_tup (pe_fld (pv 0) rfl) (pv 1) (fun _ _ => rfl)))), ?_⟩
    refine ⟨_, rfl, _, rfl, p, C, dx, _, _, rfl, hp, T2.cl, T2.nB, rowF_b _ _ _, T, xs, rfl, .inr (SqT.of R.tp), _, _, rfl, rfl, _, _, _, _, rfl, .int _, _, rfl, ?_⟩
    have e1 : (decide ((0 : Int) ≤ i) && decide (i ≤ (xs.length : Int) - 1)) = true := by rw [decide_eq_true i0, decide_eq_true (by omega)]; rfl
    show if (!(decide ((0 : Int) ≤ i) && decide (i ≤ (xs.length : Int) - 1))) = true then _ else _
    rw [e1]
    refine iteF ?_
    exact ⟨_, rfl, p, C, dx, _, _, rfl, hp, T2.cl, T2.nB, rowF_b _ _ _, _, rfl, T, xs, i, x, rfl, rfl, SqT.of R.tp, hx, k⟩
theorem sc_con : FnScope ["self", "x"] ["self", "x"] (defScope st_Row_contains) := ⟨rfl, rfl, rfl, by decide +kernel, rfl, by decide +kernel, by decide +kernel⟩
theorem ok_con (T : Tx0 K mg aI aL aW aS) (T2 : Tx2 K mg C aB aK aX bL bS bP bN bG bC) : Met P w K mg base C "__contains__" 3 bC ["self", "x"] (spCon C) := T2.mC.met fun fd F => by
  have GL : Cal P w K mg base "is_at_least" 2 aL ["value", "least"] spAtL := ok_atl T
  refine F.ok sc_con (fun vs H Q E h => ?_) (fun cdv A outer s H vs Q E hr h => ?_)
  · obtain ⟨p, T, xs, ts, st, ph, x, n, rfl, _⟩ := h
    rfl
  · obtain ⟨p, T, xs, ts, st, ph, x, n, rfl, R, hx, k⟩ := h
    obtain ⟨dx, hp⟩ := R.ob
    have s0 := R.s0
    refine ⟨_, pss_one (ps_ret (pe_and (pe_c GL hr rfl (pa_cons (pv 1) (pa_cons (pe_fld (pv 0) rfl) pa_nil))) (pe_one (pe_cmpR op_eq (pe_op op_mod (pe_op op_sub (pv 1) (pe_fld (pv 0) rfl)) (pe_fld (pv 0) rfl)) pe_int (nomark _))))), ?_⟩
    refine ⟨_, rfl, _, rfl, p, C, dx, _, _, rfl, hp, T2.cl, T2.nP, rowF_p _ _ _, x, n, _, rfl, hx, _, rfl, ?_⟩
    refine ite2 (fun c => ?_) (fun c => ?_)
    · cases x with
      | int i =>
        have c' : decide (ph ≤ i) = true := c
        have k' : Q (.bl (decide (ph ≤ i) && decide ((i - ph) % st = 0))) H := k
        rw [c', Bool.true_and] at k'
        refine ⟨_, rfl, _, rfl, p, C, dx, _, _, rfl, hp, T2.cl, T2.nP, rowF_p _ _ _, _, _, rfl, rfl, _, rfl, p, C, dx, _, _, rfl, hp, T2.cl, T2.nS, rowF_s _ _ _, _, _, rfl, rfl, by omega, rfl, ?_⟩
        have e : decide (V.int ((i - ph) % st) = V.int 0) = decide ((i - ph) % st = 0) := by rw [dec_int]; rfl
        rw [e]
        exact k'
      | _ => exact absurd (show false = true from c) Bool.false_ne_true
    · cases x with
      | int i =>
        have c' : decide (ph ≤ i) = false := by
          have c2 : ¬ (decide (ph ≤ i) = true) := c
          simpa using c2
        have k' : Q (.bl (decide (ph ≤ i) && decide ((i - ph) % st = 0))) H := k
        rw [c', Bool.false_and] at k'
        exact k'
      | _ => exact k
end
/-! ### rows made, added, compared -/
structure MkR (K : PySem.W.Frag) (mg : Str → Option Value) (C aX : Addr) : Prop where
  mkk : Mk K C aX
  g : mg "Row" = some (.ref C)
  ex : ∃ fd, FunD K "__init__" "Row.__init__" (defArgs st_Row_init) (defBody st_Row_init) (defScope st_Row_init) [] [("phase", .int 0)] aX fd
  cls : PySem.W.isClsIn K C = true
  ty : PySem.W.typeIn K (.ref C) = some (.type "type")
  oc : PySem.W.findIn K (.ref C) "__class__" = some (some (.builtin "object.__class__"))
  og : PySem.W.specialIn K (.builtin "object.__class__") "__get__" = some (some (.builtin "getset_descriptor.__get__"))
  ot : PySem.W.takesIn K (.builtin "object.__class__") = some true
  om : PySem.W.mroIn K C (.type "object") = some true
theorem MkR.kitT {K : PySem.W.Frag} {mg : Str → Option Value} {C aX : Addr} (M : MkR K mg C aX) {H : Hp} {v : V} {n : String} (h : Kd H v n) : PySem.W.kitOne K (.type n) (.ref C) = some false := by
  have e1 : ((PySem.W.clsIn K C).isSome && PySem.W.typeIn K (.ref C) == some (.type "type")) = true := by
    have h2 : (PySem.W.clsIn K C).isSome = true := M.cls
    rw [h2, M.ty] <;> rfl
  have e2 : PySem.W.subIn K (.type n) (.ref C) = some false := by
    cases h with
    | non => exact sub_ty (l := ["NoneType", "object"]) (by decide +kernel)
    | bl _ => exact sub_ty (l := ["bool", "int", "object"]) (by decide +kernel)
    | int _ => exact sub_ty (l := ["int", "object"]) (by decide +kernel)
    | str _ => exact sub_ty (l := ["str", "object"]) (by decide +kernel)
    | lst _ => exact sub_ty (l := ["list", "object"]) (by decide +kernel)
    | tup _ => exact sub_ty (l := ["tuple", "object"]) (by decide +kernel)
    | dK _ => exact sub_ty (l := ["dict", "object"]) (by decide +kernel)
  show (if (Value.type n == Value.ref C) = true then some true else PySem.W.kitCls K (.type n) (.ref C)) = some false
  rw [if_neg (by intro z; cases z)]
  show (if ((PySem.W.clsIn K C).isSome && PySem.W.typeIn K (.ref C) == some (.type "type")) = true then PySem.W.subIn K (.type n) (.ref C) else none) = some false
  rw [if_pos e1, e2]
theorem MkR.tyR {K : PySem.W.Frag} {mg : Str → Option Value} {C aX : Addr} (M : MkR K mg C aX) (cl : Cls K C) {H : Hp} {p dx : Addr} {fs : List (Str × V)} (h : H p = some (.ins C dx fs)) : TyX K H (.ref p) (.ref C) := .base (.ins h cl M.oc M.og M.ot M.om)
theorem MkR.fn {K : PySem.W.Frag} {mg : Str → Option Value} {C aX : Addr} (M : MkR K mg C aX) : ∃ fd, Fun K "__init__" "Row.__init__" st_Row_init aX fd ∧ FunD K "__init__" "Row.__init__" (defArgs st_Row_init) (defBody st_Row_init) (defScope st_Row_init) [] [("phase", .int 0)] aX fd := by
  obtain ⟨fd, F⟩ := M.ex
  refine ⟨fd, ?_, F⟩
  obtain ⟨oc, od, dV, kV, doc, pm, an, cdv, ct, osl, rfl, lk, hcd, hD, hK⟩ := F.ex
  rcases hD with ⟨_, rfl⟩ | ⟨e, _⟩
  · exact ⟨⟨oc, od, kV, doc, pm, an, cdv, ct, osl, rfl, lk, hcd⟩, F.kp⟩
  · exact absurd rfl e
theorem row_made {C : Addr} {H : Hp} {Q : Addr → Hp → Prop} {a : Addr} {st ph : Int} {xs : List V} {ts : List Tri} (ha : H a = some (.lst xs)) (hb : Brs H xs ts) (ho : ∀ t ∈ ts, OkT t) (hl : ts.length ≤ 12)
    (bd : 1 ≤ st ∧ st ≤ 1000000000000000000000000000000 ∧ 0 ≤ ph ∧ ph ≤ 1000000000000000000000000000000) (k : ∀ p T H', RowAt C H' p T xs ts st ph → Same H H' → H p = none → Q p H') :
    ∀ x dx, H x = none → H dx = none → dx ≠ x → spInit C [.ref x, .ref a, .int st, .int ph] (upd (upd H dx (.own x)) x (.ins C dx [])) (fun v H3 => v = .non ∧ Q x H3) E0 := by
  intro x dx hx hd hne
  have s0 : Same H (upd (upd H dx (.own x)) x (.ins C dx [])) := fun b o e => by
    rw [upd_ne (ne_of_none e hx), upd_ne (ne_of_none e hd)]
    exact e
  refine ⟨x, a, st, ph, xs, ts, dx, rfl, upd_same, s0 _ _ ha, hb.nl (NL.of s0), ho, hl, bd, fun T H' R kp => ⟨rfl, k x T H' R (fun b o e => kp b o (ne_of_none e hx) (s0 b o e)) hx⟩⟩
abbrev g3 {α : Type} (us ws : List α) : List α := us ++ ws
section
variable {X : Cx} {aI aL aW aS C aB aK aX bL bS bP bN bG bC : Addr}
theorem row_b1 {K : PySem.W.Frag} {mg : Str → Option Value} (M : MkR K mg C aX) : ∃ fd, Fun K "__init__" "Row.__init__" st_Row_init aX fd ∧ KBn K fd ["self", "breakers", "step", "phase"] 3 ["phase"] (fun us ws => us ++ ws) (fun us ws => us ++ ws) := by
  obtain ⟨fd, F, FD⟩ := M.fn
  obtain ⟨mv, h⟩ := FD.kbinds0 (ps := ["self", "breakers", "step", "phase"]) 3 ["phase"] [] (fun us _ ws => us ++ ws) (by simp) (by simp) (fun r1 _ r3 => r1.append r3) (fun D doc pm an cdv ct us mv ws h1 h2 h3 => by
    match us, h1, ws, h3, mv, h2 with
    | [_, _, _], _, [_], _, [], _ => rfl)
  exact ⟨fd, F, h⟩
theorem row_b3 {K : PySem.W.Frag} {mg : Str → Option Value} (M : MkR K mg C aX) : ∃ fd, Fun K "__init__" "Row.__init__" st_Row_init aX fd ∧ KBn K fd ["self", "breakers", "step", "phase"] 1 ["phase", "step", "breakers"] (fun us ws => us ++ ws.reverse) (fun us ws => us ++ ws.reverse) := by
  obtain ⟨fd, F, FD⟩ := M.fn
  have rv : ∀ {vs : List V} {us : List Value}, Vals vs us → Vals vs.reverse us.reverse := by
    intro vs us r
    induction r with
    | nil => exact .nil
    | cons h t ih =>
      rw [List.reverse_cons, List.reverse_cons]
      exact ih.append (.cons h .nil)
  obtain ⟨mv, h⟩ := FD.kbinds0 (ps := ["self", "breakers", "step", "phase"]) 1 ["phase", "step", "breakers"] [] (fun us _ ws => us ++ ws.reverse) (by simp) (by simp) (fun r1 _ r3 => r1.append (rv r3)) (fun D doc pm an cdv ct us mv ws h1 h2 h3 => by
    match us, h1, ws, h3, mv, h2 with
    | [_], _, [_, _, _], _, [], _ => rfl)
  exact ⟨fd, F, h⟩
theorem row_b2 {K : PySem.W.Frag} {mg : Str → Option Value} (M : MkR K mg C aX) : ∃ fd ds, Fun K "__init__" "Row.__init__" st_Row_init aX fd ∧ Vals [.int 0] ds ∧ Binds K fd ["self", "breakers", "step", "phase"] ds := by
  obtain ⟨fd, F, FD⟩ := M.fn
  obtain ⟨ds, h1, h2⟩ := FD.binds0 (ps := ["self", "breakers", "step", "phase"]) 3 (by simp) rfl (fun D doc pm an cdv ct us ks h1 h2 => by
    match us, h1, ks, h2 with
    | [_, _, _], _, [_], _ => exact ⟨_, _, _, _, _, _, rfl, rfl, rfl⟩)
  exact ⟨fd, ds, F, h1, h2⟩
/-- Row(e, s, phase=f) -/
theorem pe_row1 (T : Tx0 X.K X.mg aI aL aW aS) (T2 : Tx2 X.K X.mg C aB aK aX bL bS bP bN bG bC) (M : MkR X.K X.mg C aX) (hr : Room 6 X.A) {p pos : Pos} {e e2 : Expr} {kws : List Keyword} {t tk : TA} (hg : Gl X "Row") (ha : PA X [e, e2] t) (hkw : PK X kws tk)
    (hall : (backToKw pos (keywordEach kws X.env)).all (·.1.isSome) = true := by rfl) (hks : (backToKw pos (keywordEach kws X.env)).filterMap (·.1) = (["phase"] : List Str) := by rfl)
    (he : starEach (e :: [e2]) X.env = (false, eval e X.env) :: starEach [e2] X.env := by rfl) (hpl : ((backTo pos (starEach (e :: [e2]) X.env)).any (·.1) || (backToKw pos (keywordEach kws X.env)).any (·.1.isNone)) = false := by rfl) :
    PE X (.Call (.Name "Row" p) (e :: [e2]) kws pos) (tMakeK C 2 1 (spInit C) (fun us ws => us ++ ws) E0 t tk) := by
  obtain ⟨fd, F, b⟩ := row_b1 M
  exact pe_makeK M.mkk (ok_init T T2 F) hr hg M.g b pass0 ha hkw hall hks (by decide) he hpl
/-- Row(phase=.., step=.., breakers=..) -/
theorem pe_row3 (T : Tx0 X.K X.mg aI aL aW aS) (T2 : Tx2 X.K X.mg C aB aK aX bL bS bP bN bG bC) (M : MkR X.K X.mg C aX) (hr : Room 6 X.A) {p pos : Pos} {kws : List Keyword} {tk : TA} (hg : Gl X "Row") (hkw : PK X kws tk)
    (hall : (backToKw pos (keywordEach kws X.env)).all (·.1.isSome) = true := by rfl) (hks : (backToKw pos (keywordEach kws X.env)).filterMap (·.1) = (["phase", "step", "breakers"] : List Str) := by rfl)
    (hpl : ((backTo pos (starEach [] X.env)).any (·.1) || (backToKw pos (keywordEach kws X.env)).any (·.1.isNone)) = false := by rfl) :
    PE X (.Call (.Name "Row" p) [] kws pos) (tMakeK C 0 3 (spInit C) (fun us ws => us ++ ws.reverse) E0 tNil tk) := by
  obtain ⟨fd, F, b⟩ := row_b3 M
  exact pe_makeK0 M.mkk (ok_init T T2 F) hr hg M.g b pass0 hkw hall hks (by decide) hpl
/-- Row(e, s) -/
theorem pe_row2 (T : Tx0 X.K X.mg aI aL aW aS) (T2 : Tx2 X.K X.mg C aB aK aX bL bS bP bN bG bC) (M : MkR X.K X.mg C aX) (hr : Room 6 X.A) {p pos : Pos} {e e2 : Expr} {t : TA} (hg : Gl X "Row") (ha : PA X [e, e2] t)
    (he : starEach (e :: [e2]) X.env = (false, eval e X.env) :: starEach [e2] X.env := by rfl) (hpl : (backTo pos (starEach [e2] X.env)).any (·.1) = false := by rfl) :
    PE X (.Call (.Name "Row" p) (e :: [e2]) [] pos) (tMake C (spInit C) [.int 0] E0 t) := by
  obtain ⟨fd, ds, F, hv, b⟩ := row_b2 M
  exact pe_make M.mkk (ok_init T T2 F) hr hg M.g b hv pass0 ha (by decide) he hpl
end
/-! ### + and == of rows -/
abbrev RDat := List Tri × Int × Int
def spAdd (C : Addr) : Sp := fun vs H Q _ => ∃ p T xs ts st ph q U ys us, vs = [.ref p, .ref q] ∧ RowAt C H p T xs ts st ph ∧ RowAt C H q U ys us st ph ∧ ts.length + us.length ≤ 12 ∧ ∀ z W H', RowAt C H' z W (xs ++ ys) (ts ++ us) st ph → Same H H' → H z = none → Q (.ref z) H'
/-- what == is asked of -/
inductive EqOf (C : Addr) (H : Hp) (d : RDat) : V → Bool → Prop where
  | row {q U : Addr} {ys : List V} {us : List Tri} {st ph : Int} (R : RowAt C H q U ys us st ph) : EqOf C H d (.ref q) (decide (d = (us, st, ph)))
  | non : EqOf C H d .non false
  | lst {a : Addr} {xs : List V} (e : H a = some (.lst xs)) : EqOf C H d (.ref a) false
  | tup {a : Addr} {xs : List V} (e : H a = some (.tup xs)) : EqOf C H d (.ref a) false
theorem EqOf.nl {C : Addr} {H H' : Hp} {d : RDat} {v : V} {b : Bool} (h : EqOf C H d v b) (k : Same H H') : EqOf C H' d v b := by
  cases h with
  | row R => exact .row (R.nl (NL.of k))
  | non => exact .non
  | lst e => exact .lst (k _ _ e)
  | tup e => exact .tup (k _ _ e)
def spEqR (C : Addr) : Sp := fun vs H Q _ => ∃ p T xs ts st ph v b, vs = [.ref p, v] ∧ RowAt C H p T xs ts st ph ∧ EqOf C H (ts, st, ph) v b ∧ Q (.bl b) H
structure Tx3 (K : PySem.W.Frag) (mg : Str → Option Value) (C aR aF bA bE : Addr) : Prop where
  dR : Dfn K mg "request_time" st_request_time aR ["row", "number"]
  dF : Dfn K mg "first_request" st_first_request aF ["row", "time"]
  mA : Mth K C "__add__" "Row.__add__" st_Row_add bA ["self", "other"]
  mE : Mth K C "__eq__" "Row.__eq__" st_Row_eq bE ["self", "other"]
/-- breakers as data -/
def triD (t : Tri) : PyData := .tuple [.int t.1, .int t.2.1, .int t.2.2]
theorem Brs.dp {K : PySem.W.Frag} {H : Hp} : ∀ {xs : List V} {ts : List Tri}, Brs H xs ts → DpAll K H xs (ts.map triD)
  | _, _, .nil => .nil
  | _, _, .cons ⟨a, e, h⟩ t => by
    subst e
    exact .cons (.tup (SqT.of h) (.cons (.int _) (.cons (.int _) (.cons (.int _) .nil)))) (Brs.dp t)
theorem triD_eq (t u : Tri) : PyData.eqv (triD t) (triD u) = decide (t = u) := by
  obtain ⟨a, b, c⟩ := t
  obtain ⟨a', b', c'⟩ := u
  simp only [triD, PyData.eqv, PyData.eqvAll, Bool.and_true]
  rw [Bool.eq_iff_iff]
  simp [Prod.ext_iff]
theorem triDs_eq : ∀ ts us : List Tri, PyData.eqvAll (ts.map triD) (us.map triD) = decide (ts = us)
  | [], [] => by simp [PyData.eqvAll]
  | [], _ :: _ => by simp [PyData.eqvAll]
  | _ :: _, [] => by simp [PyData.eqvAll]
  | t :: ts, u :: us => by
    rw [List.map_cons, List.map_cons, PyData.eqvAll, triD_eq, triDs_eq ts us, Bool.eq_iff_iff]
    simp
theorem canAll : ∀ ts : List Tri, PyData.canLayAll0 (ts.map triD) = true
  | [] => by simp [PyData.canLayAll0]
  | t :: ts => by
    rw [List.map_cons, PyData.canLayAll0, canAll ts]
    simp [triD, PyData.canLay0, PyData.canLayAll0]
theorem depAll : ∀ ts : List Tri, PyData.depthAll (ts.map triD) ≤ 10
  | [] => by simp [PyData.depthAll]
  | t :: ts => by
    have := depAll ts
    rw [List.map_cons, PyData.depthAll]
    have h2 : (triD t).depth ≤ 10 := by simp [triD, PyData.depth, PyData.depthAll]
    omega
theorem shT (ts : List Tri) : SeqAt.shaped (.tuple (ts.map triD)) = true := by
  refine Bool.and_eq_true_iff.mpr ⟨?_, decide_eq_true ?_⟩
  · rw [PyData.canLay0]
    exact canAll ts
  · have := depAll ts
    rw [PyData.depth]
    omega

section
variable {P : Program} {w : World} {K : PySem.W.Frag} {mg : Str → Option Value} {base : Heap} {aI aL aW aS C aB aK aX bL bS bP bN bG bC aR aF bA bE : Addr}
theorem sc_rt : FnScope ["row", "number"] ["row", "number"] (defScope st_request_time) := ⟨rfl, rfl, rfl, by decide +kernel, rfl, by decide +kernel, by decide +kernel⟩
theorem wide200 {i j : Int} (h1 : i.natAbs < 2 ^ 200) (h2 : j.natAbs < 2 ^ 200) : CMulW i j := wide_mul h1 h2 (by decide) (by decide) (by decide)
theorem lt200 {i : Int} (h0 : 0 ≤ i) (h : i ≤ 1000000000000000000000000000000) : i.natAbs < 2 ^ 200 := Nat.lt_of_le_of_lt (show i.natAbs ≤ 1000000000000000000000000000000 by omega) (by decide)
theorem log200 {i : Int} (h0 : 1 ≤ i) (h : i ≤ 1000000000000000000000000000000) : i.natAbs.log2 < 9000 := (wide_div (by omega : 0 < i) (lt200 (by omega) h) (by decide) (by decide) (i := 0)).2
theorem fn_rt (T : Tx0 K mg aI aL aW aS) (T2 : Tx2 K mg C aB aK aX bL bS bP bN bG bC) (T3 : Tx3 K mg C aR aF bA bE) {fd : FuncData} (F : Fun K "request_time" "request_time" st_request_time aR fd) : FnOk P w K mg base CX0 3 aR fd ["row", "number"] (spRt C) := by
  have GL : Cal P w K mg base "is_at_least" 2 aL ["value", "least"] spAtL := ok_atl T
  refine F.ok sc_rt (fun vs H Q E h => ?_) (fun cdv A outer s H vs Q E hr h => ?_)
  · obtain ⟨p, T, xs, ts, st, ph, i, rfl, _⟩ := h
    rfl
  · obtain ⟨p, T, xs, ts, st, ph, i, rfl, R, i0, i1, k⟩ := h
    obtain ⟨dx, hp⟩ := R.ob
    have s0 := R.s0
    refine ⟨_, pss_cons (ps_if (pt_not (pt_val (pe_c GL hr rfl (pa_cons (pv 1) (pa_cons pe_int pa_nil))))) (pss_one ps_never) pss_nil)
      (pss_one (ps_ret (pe_op op_add (pe_fld (pv 0) rfl) (pe_op op_mulW (pv 1) (pe_fld (pv 0) rfl))))), ?_⟩
    refine ⟨_, rfl, _, _, _, rfl, .int _, _, rfl, ?_⟩
    show if (!(decide ((0 : Int) ≤ i))) = true then _ else _
    rw [decide_eq_true i0]
    refine iteF ?_
    exact ⟨_, rfl, p, C, dx, _, _, rfl, hp, T2.cl, T2.nP, rowF_p _ _ _, _, rfl, _, rfl, p, C, dx, _, _, rfl, hp, T2.cl, T2.nS, rowF_s _ _ _, _, _, rfl, rfl, wide200 i1 (lt200 (by omega) R.s1), _, _, rfl, rfl, k⟩
theorem sc_fr : FnScope ["row", "time"] ["row", "time"] (defScope st_first_request) := ⟨rfl, rfl, rfl, by decide +kernel, rfl, by decide +kernel, by decide +kernel⟩
theorem fn_fr (T : Tx0 K mg aI aL aW aS) (T2 : Tx2 K mg C aB aK aX bL bS bP bN bG bC) (T3 : Tx3 K mg C aR aF bA bE) {fd : FuncData} (F : Fun K "first_request" "first_request" st_first_request aF fd) : FnOk P w K mg base CX0 3 aF fd ["row", "time"] (spFr C) := by
  have GL : Cal P w K mg base "is_at_least" 2 aL ["value", "least"] spAtL := ok_atl T
  have GS : Cal P w K mg base "steps_to" 1 aS ["distance", "step"] spSteps := ok_steps T
  refine F.ok sc_fr (fun vs H Q E h => ?_) (fun cdv A outer s H vs Q E hr h => ?_)
  · obtain ⟨p, T, xs, ts, st, ph, i, rfl, _⟩ := h
    rfl
  · obtain ⟨p, T, xs, ts, st, ph, i, rfl, R, i0, k⟩ := h
    obtain ⟨dx, hp⟩ := R.ob
    have s0 := R.s0
    refine ⟨_, pss_cons (ps_if (pt_not (pt_val (pe_c GL hr rfl (pa_cons (pv 1) (pa_cons pe_int pa_nil))))) (pss_one ps_never) pss_nil)
      (pss_one (ps_ret (pe_c GS (hr.mono (by decide)) rfl (pa_cons (pe_op op_sub (pv 1) (pe_fld (pv 0) rfl)) (pa_cons (pe_fld (pv 0) rfl) pa_nil))))), ?_⟩
    refine ⟨_, rfl, _, _, _, rfl, .int _, _, rfl, ?_⟩
    show if (!(decide ((0 : Int) ≤ i))) = true then _ else _
    rw [decide_eq_true i0]
    refine iteF ?_
    exact ⟨_, rfl, _, rfl, p, C, dx, _, _, rfl, hp, T2.cl, T2.nP, rowF_p _ _ _, _, _, rfl, rfl, _, rfl, p, C, dx, _, _, rfl, hp, T2.cl, T2.nS, rowF_s _ _ _, _, _, rfl, by omega, log200 R.s0 R.s1, k⟩
theorem ok_rt (T : Tx0 K mg aI aL aW aS) (T2 : Tx2 K mg C aB aK aX bL bS bP bN bG bC) (T3 : Tx3 K mg C aR aF bA bE) : Cal P w K mg base "request_time" 3 aR ["row", "number"] (spRt C) := T3.dR.cal fun fd F => fn_rt T T2 T3 F
theorem ok_fr (T : Tx0 K mg aI aL aW aS) (T2 : Tx2 K mg C aB aK aX bL bS bP bN bG bC) (T3 : Tx3 K mg C aR aF bA bE) : Cal P w K mg base "first_request" 3 aF ["row", "time"] (spFr C) := T3.dF.cal fun fd F => fn_fr T T2 T3 F
theorem sc_add : FnScope ["self", "other"] ["self", "other"] (defScope st_Row_add) := ⟨rfl, rfl, rfl, by decide +kernel, rfl, by decide +kernel, by decide +kernel⟩
theorem ok_add (T : Tx0 K mg aI aL aW aS) (T2 : Tx2 K mg C aB aK aX bL bS bP bN bG bC) (M : MkR K mg C aX) (T3 : Tx3 K mg C aR aF bA bE) : Met P w K mg base C "__add__" 7 bA ["self", "other"] (spAdd C) := T3.mA.met fun fd F => by
  refine F.ok sc_add (fun vs H Q E h => ?_) (fun cdv A outer s H vs Q E hr h => ?_)
  · obtain ⟨p, T, xs, ts, st, ph, q, U, ys, us, rfl, _⟩ := h
    rfl
  · obtain ⟨p, T', xs, ts, st, ph, q, U, ys, us, rfl, R, R', hl, k⟩ := h
    obtain ⟨dx, hp⟩ := R.ob
    obtain ⟨dy, hq⟩ := R'.ob
    refine ⟨_, pss_cons (ps_if (PW.pt (pw_or (pt_not (pt_val (pe_callB call_isi (by rfl) T.isinstance (by decide +kernel) (pa_cons (pv 1) (pa_cons (pe_glob rfl M.g (v := .ref C) rfl) pa_nil)))))
        (pw_or (pt_cmpR op_ne (pe_fld (pv 1) rfl) (pe_fld (pv 0) rfl) (nomark _)) (pw_or1 (pt_cmpR op_ne (pe_fld (pv 1) rfl) (pe_fld (pv 0) rfl) (nomark _)))))) (pss_one ps_never) pss_nil)
      (pss_one (ps_ret (pe_row1 T T2 M hr rfl (pa_cons (pe_op op_cat (pe_callTy call_list_of (by rfl) T2.list (by decide +kernel) (pa_cons (pe_fld (pv 0) rfl) pa_nil)) (pe_callTy call_list_of (by rfl) T2.list (by decide +kernel) (pa_cons (pe_fld (pv 1) rfl) pa_nil))) (pa_cons (pe_fld (pv 0) rfl) pa_nil)) (pk_cons (pe_fld (pv 0) rfl) pk_nil)))), ?_⟩
    refine ⟨_, rfl, _, .ref C, _, _, _, rfl, .own C, M.tyR T2.cl hq, if_pos (beq_self_eq_true _), _, rfl, iteF ?_⟩
    refine ⟨_, rfl, q, C, dy, _, _, rfl, hq, T2.cl, T2.nS, rowF_s _ _ _, _, rfl, p, C, dx, _, _, rfl, hp, T2.cl, T2.nS, rowF_s _ _ _, rfl, _, rfl, iteNS rfl ?_⟩
    refine ⟨_, rfl, q, C, dy, _, _, rfl, hq, T2.cl, T2.nP, rowF_p _ _ _, _, rfl, p, C, dx, _, _, rfl, hp, T2.cl, T2.nP, rowF_p _ _ _, rfl, _, rfl, iteNS rfl ?_⟩
    refine ⟨_, rfl, p, C, dx, _, _, rfl, hp, T2.cl, T2.nB, rowF_b _ _ _, T', xs, rfl, .inr (SqT.of R.tp), fun l hl1 => ?_⟩
    have s1 : Same H (upd H l (.lst xs)) := Same.upd hl1
    refine ⟨_, rfl, q, C, dy, _, _, rfl, s1 _ _ hq, T2.cl, T2.nB, rowF_b _ _ _, U, ys, rfl, .inr (SqT.of (s1 _ _ R'.tp)), fun l2 hl2 => ?_⟩
    have s2 : Same H (upd (upd H l (.lst xs)) l2 (.lst ys)) := s1.trans (Same.upd hl2)
    have nl : l ≠ l2 := ne_of_none (upd_same : (upd H l (.lst xs)) l = some (.lst xs)) hl2
    have lx := R.br.len
    have ly := R'.br.len
    refine ⟨l, l2, _, _, rfl, rfl, (by rw [upd_ne nl, upd_same]), upd_same, (by rw [lx, ly]; exact Nat.le_trans hl (by decide)), fun l3 hl3 => ?_⟩
    have s3 : Same H (upd (upd (upd H l (.lst xs)) l2 (.lst ys)) l3 (.lst (xs ++ ys))) := s2.trans (Same.upd hl3)
    refine ⟨_, rfl, p, C, dx, _, _, rfl, s3 _ _ hp, T2.cl, T2.nS, rowF_s _ _ _, _, rfl, p, C, dx, _, _, rfl, s3 _ _ hp, T2.cl, T2.nP, rowF_p _ _ _, rfl, rfl, ?_⟩
    refine row_made (xs := xs ++ ys) (ts := ts ++ us) upd_same ((R.br.nl (NL.of s3)).app (R'.br.nl (NL.of s3))) (fun t ht => ?_) (by rw [List.length_append]; exact hl) ⟨R.s0, R.s1, R.p0, R.p1⟩ fun z W H' RR sz hz => k z W H' RR (s3.trans sz) (s3.free hz)
    rcases List.mem_append.mp ht with h | h
    · exact R.ok t h
    · exact R'.ok t h
theorem sc_eq : FnScope ["self", "other"] ["self", "other"] (defScope st_Row_eq) := ⟨rfl, rfl, rfl, by decide +kernel, rfl, by decide +kernel, by decide +kernel⟩
theorem ok_eq (T : Tx0 K mg aI aL aW aS) (T2 : Tx2 K mg C aB aK aX bL bS bP bN bG bC) (M : MkR K mg C aX) (T3 : Tx3 K mg C aR aF bA bE) : Met P w K mg base C "__eq__" 1 bE ["self", "other"] (spEqR C) := T3.mE.met fun fd F => by
  refine F.ok sc_eq (fun vs H Q E h => ?_) (fun cdv A outer s H vs Q E hr h => ?_)
  · obtain ⟨p, T, xs, ts, st, ph, v, b, rfl, _⟩ := h
    rfl
  · obtain ⟨p, T', xs, ts, st, ph, v, b, rfl, R, h, k⟩ := h
    obtain ⟨dx, hp⟩ := R.ob
    refine ⟨_, pss_one (ps_ret (pe_and (pe_callB call_isi (by rfl) T.isinstance (by decide +kernel) (pa_cons (pv 1) (pa_cons (pe_glob rfl M.g (v := .ref C) rfl) pa_nil)))
      (pe_and (pe_cmpR (op_eqD hr.units) (pe_fld (pv 0) rfl) (pe_fld (pv 1) rfl) (nomark _)) (pe_and (pe_cmpR op_eq (pe_fld (pv 0) rfl) (pe_fld (pv 1) rfl) (nomark _)) (pe_one (pe_cmpR op_eq (pe_fld (pv 0) rfl) (pe_fld (pv 1) rfl) (nomark _))))))), ?_⟩
    cases h with
    | non => exact ⟨_, rfl, _, .ref C, _, _, _, rfl, .own C, Kd.non.ty, M.kitT (H := H) .non, _, rfl, iteF k⟩
    | lst e => exact ⟨_, rfl, _, .ref C, _, _, _, rfl, .own C, (Kd.lst e).ty, M.kitT (.lst e), _, rfl, iteF k⟩
    | tup e => exact ⟨_, rfl, _, .ref C, _, _, _, rfl, .own C, (Kd.tup e).ty, M.kitT (.tup e), _, rfl, iteF k⟩
    | @row q U ys us st' ph' R' =>
      obtain ⟨dy, hq⟩ := R'.ob
      refine ⟨_, rfl, _, .ref C, _, _, _, rfl, .own C, M.tyR T2.cl hq, if_pos (beq_self_eq_true _), _, rfl, iteT ?_⟩
      refine ⟨_, rfl, p, C, dx, _, _, rfl, hp, T2.cl, T2.nB, rowF_b _ _ _, _, rfl, q, C, dy, _, _, rfl, hq, T2.cl, T2.nB, rowF_b _ _ _, .tuple (ts.map triD), .tuple (us.map triD), .tup (SqT.of R.tp) R.br.dp, .tup (SqT.of R'.tp) R'.br.dp, shT _, shT _, _, rfl, ?_⟩
      have e0 : PyData.eqv (.tuple (ts.map triD)) (.tuple (us.map triD)) = decide (ts = us) := by rw [PyData.eqv]; exact triDs_eq ts us
      rw [e0]
      have fin : ∀ c : Bool, decide ((ts, st, ph) = (us, st', ph')) = c → Q (.bl c) H := fun c e => by rw [← e]; exact k
      refine ite2 (fun c1 => ?_) (fun c1 => ?_)
      · have c1' : ts = us := of_decide_eq_true c1
        refine ⟨_, rfl, p, C, dx, _, _, rfl, hp, T2.cl, T2.nS, rowF_s _ _ _, _, rfl, q, C, dy, _, _, rfl, hq, T2.cl, T2.nS, rowF_s _ _ _, rfl, _, rfl, ?_⟩
        refine ite2 (fun c2 => ?_) (fun c2 => ?_)
        · have c2' : st = st' := V.int.inj (of_decide_eq_true c2)
          refine ⟨_, rfl, p, C, dx, _, _, rfl, hp, T2.cl, T2.nP, rowF_p _ _ _, _, rfl, q, C, dy, _, _, rfl, hq, T2.cl, T2.nP, rowF_p _ _ _, rfl, fin _ ?_⟩
          subst c1' c2'
          rw [Bool.eq_iff_iff]
          simp
        · refine fin false (decide_eq_false fun e => c2 (decide_eq_true ?_))
          have e' : st = st' := congrArg (fun z : RDat => z.2.1) e
          rw [e']
      · refine fin false (decide_eq_false fun e => c1 (decide_eq_true ?_))
        exact congrArg (fun z : RDat => z.1) e
end
/-! ### draws, and the breakers drawn -/
theorem draw_gen {P : Program} {w : World} {mg : Str → Option Value} {aO aN aE aC : Addr} {t : TA} {σ : L2.St} {H : Hp} {Q : VK} {a : Addr} {n : Nat} {ns : List Int} {hi : Int} {j : Nat} (σ0 : σ[j]? = some (some (.ref a))) (hs : Src H a n) (hn : n ≤ 999000) (ht : ∀ R : List V → Hp → Prop, R (ns.map V.int) H → t σ H R)
    (h0 : 0 < ns.length) (h1 : ns.length ≤ 1000) (hb : ∀ m ∈ ns, 0 < m ∧ m ≤ hi) (hh : hi.natAbs < 2 ^ 200) (k : ∀ (r : Int) H', 0 ≤ r → r < hi → (∃ m ∈ ns, r < m) → Src H' a (n + 2) → Kp a H H' → Q (.int r) H') :
    tCall spNext [] E0 (tCons (tVar j) (tCons (tCall spOne [] E0 (tCons (tVar j) (tCons (tLst t) tNil))) tNil)) σ H Q := by
  obtain ⟨ys, hy⟩ := hs.has
  refine ⟨_, σ0, _, σ0, ht _ ⟨(by rw [List.length_map]; exact Nat.le_trans h1 (by decide)), fun l hl => ?_⟩⟩
  have hal : a ≠ l := ne_of_none hy hl
  refine ⟨a, l, ns.map V.int, n, rfl, hal, upd_same, (by rw [List.length_map]; exact h0), (by rw [List.length_map]; omega), hs.same (Same.upd hl), by omega, fun v H1 hv hs1 k1 => ?_⟩
  obtain ⟨m, hm, rfl⟩ := List.mem_map.mp hv
  obtain ⟨m0, m1⟩ := hb m hm
  refine ⟨a, m, n + 1, rfl, m0, Nat.lt_of_le_of_lt (show m.natAbs ≤ hi.natAbs by omega) hh, hs1, by omega, fun r H2 r0 r1 hs2 k2 => ?_⟩
  exact k r H2 r0 (by omega) ⟨m, hm, r1⟩ hs2 ((Kp.of (Same.upd hl)).trans (k1.trans k2))
def OkW (W M : Int) (t : Tri) : Prop := 1 ≤ t.1 ∧ t.1 ≤ M ∧ 1 ≤ t.2.1 ∧ t.2.1 ≤ W ∧ 1 ≤ t.2.2 ∧ t.2.2 ≤ M
def spSpecs : Sp := fun vs H Q _ => ∃ (a : Addr) (mo W M : Int) (n : Nat), vs = [.ref a, .int mo, .int W, .int M] ∧ 0 ≤ mo ∧ mo ≤ 100 ∧ 3 ≤ W ∧ W ≤ 1000000000000000000000000000000 ∧ 2 ≤ M ∧ M ≤ 1000000000000 ∧ Src H a n ∧ n ≤ 900000 ∧
  ∀ l xs ts H', H' l = some (.lst xs) → Brs H' xs ts → (∀ t ∈ ts, OkW W M t) → (ts.length : Int) ≤ mo → Src H' a (n + 1000) → Kp a H H' → H l = none → Q (.ref l) H'
structure Tx4 (K : PySem.W.Frag) (mg : Str → Option Value) (aP : Addr) : Prop where
  range : mg "range" = none
  dP : Dfn K mg "_law_specs" st__law_specs aP ["_law_source", "_law_most", "_law_wide", "_law_many"]
section
variable {P : Program} {w : World} {K : PySem.W.Frag} {mg : Str → Option Value} {base : Heap} {aO aN aE aC aP : Addr}
theorem sc_specs : FnScope ["_law_source", "_law_most", "_law_wide", "_law_many", "_law_found", "_law_k", "_law_wait", "_law_fails"] ["_law_source", "_law_most", "_law_wide", "_law_many"] (defScope st__law_specs) := ⟨rfl, rfl, rfl, by decide +kernel, rfl, by decide +kernel, by decide +kernel⟩
theorem ok_specs (T : Tx1 K mg aO aN aE aC) (T4 : Tx4 K mg aP) : Cal P w K mg base "_law_specs" 3 aP ["_law_source", "_law_most", "_law_wide", "_law_many"] spSpecs := T4.dP.cal fun fd F => by
  have GN : Cal P w K mg base "_law_next" 1 aN ["_law_source", "_law_many"] spNext := ok_next T
  have GO : Cal P w K mg base "_law_one" 2 aE ["_law_source", "_law_options"] spOne := ok_one T
  have nd := sc_specs.nd
  refine F.ok sc_specs (fun vs H Q E h => ?_) (fun cdv A outer s H vs Q E hr h => ?_)
  · obtain ⟨a, mo, W, M, n, rfl, _⟩ := h
    rfl
  · obtain ⟨a, mo, W, M, n, rfl, m0, m1, w0, w1, f0, f1, hs, hn, k⟩ := h
    have hr1 : Room 1 _ := hr.mono (by decide)
    refine ⟨_, pss_cons (ps_set (i := 4) nd rfl (Or.inl rfl) (pe_lst pa_nil))
      (pss_cons (ps_for PassesOwn.never rfl (pi_range1 rfl T4.range (pa_cons (pe_c GN hr1 rfl (pa_cons (pv 0) (pa_cons (pe_op op_add (pv 1) pe_int) pa_nil))) pa_nil)) (pg_name (i := 5) nd rfl (Or.inl rfl))
        (pss_cons (ps_set (i := 6) nd rfl (Or.inl rfl) (pe_op op_add pe_int (pe_c GN hr1 rfl (pa_cons (pv 0) (pa_cons (pe_c GO hr rfl (pa_cons (pv 0) (pa_cons (pe_lst (pa_cons pe_int (pa_cons (pv 2) pa_nil))) pa_nil))) pa_nil)))))
        (pss_cons (ps_set (i := 7) nd rfl (Or.inl rfl) (pe_op op_add pe_int (pe_c GN hr1 rfl (pa_cons (pv 0) (pa_cons (pe_c GO hr rfl (pa_cons (pv 0) (pa_cons (pe_lst (pa_cons pe_int (pa_cons (pv 3) pa_nil))) pa_nil))) pa_nil)))))
        (pss_one (ps_expr (pe_bm PySem.F.plainAttrs_list PySem.F.slot_list_append PySem.F.type_list_append mt_append (pv 4) (pa_cons (pe_tup (pa_cons (pv 7) (pa_cons (pv 6) (pa_cons
          (pe_op op_add pe_int (pe_c GN hr1 rfl (pa_cons (pv 0) (pa_cons (pe_c GO hr rfl (pa_cons (pv 0) (pa_cons (pe_lst (pa_cons pe_int (pa_cons (pv 3) pa_nil))) pa_nil))) pa_nil)))) pa_nil)))) pa_nil)))))))
      (pss_one (ps_ret (pv 4)))), ?_⟩
    obtain ⟨ya, hya⟩ := hs.has
    refine ⟨by decide, fun l hl => ?_⟩
    have hal : a ≠ l := ne_of_none hya hl
    have s1 : Same H (upd H l (.lst [])) := Same.upd hl
    refine ⟨_, rfl, _, rfl, _, _, rfl, rfl, a, mo + 1, n, rfl, by omega, Nat.lt_of_le_of_lt (show (mo + 1).natAbs ≤ 101 by omega) (by decide), hs.same s1, by omega, fun r H1 r0 r1 hs1 k1 => ?_⟩
    refine ⟨r, rfl, by omega, by omega, for_range (lo := 0) (n := r.toNat) (fun i σ H2 => ∃ (xs : List V) (ts : List Tri) (v5 v6 v7 : Option V), σ = [some (.ref a), some (.int mo), some (.int W), some (.int M), some (.ref l), v5, v6, v7] ∧ H2 l = some (.lst xs) ∧ Brs H2 xs ts ∧ (∀ t ∈ ts, OkW W M t) ∧ ts.length = i ∧ Src H2 a (n + 1 + 6 * i) ∧ (∀ b o, b ≠ a → b ≠ l → H b = some o → H2 b = some o))
      ⟨[], [], none, none, none, rfl, k1 _ _ hal.symm upd_same, .nil, (fun t ht => by simp at ht), rfl, hs1, fun b o n1 n2 e => k1 b o n1 (s1 b o e)⟩ ?_ ?_⟩
    · rintro i σ H2 hi ⟨xs, ts, v5, v6, v7, rfl, hl2, hb2, ho2, hln, hs2, kk⟩
      have hi' : i < 101 := by omega
      -- wait
      refine draw_gen (P := P) (w := w) (mg := mg) (aO := aO) (aN := aN) (aE := aE) (aC := aC) (a := a) (n := n + 1 + 6 * i) (ns := [3, W]) (hi := W) rfl hs2 (by omega) (fun R h => ⟨_, rfl, h⟩) (by simp) (by simp) (fun m hm => ?_) (Nat.lt_of_le_of_lt (show W.natAbs ≤ 1000000000000000000000000000000 by omega) (by decide)) fun x H3 x0 x1 _ hs3 k3 => ⟨_, _, rfl, rfl, ?_⟩
      · simp only [List.mem_cons, List.mem_nil_iff, or_false] at hm
        rcases hm with rfl | rfl <;> omega
      refine draw_gen (P := P) (w := w) (mg := mg) (aO := aO) (aN := aN) (aE := aE) (aC := aC) (a := a) (n := n + 1 + 6 * i + 2) (ns := [2, M]) (hi := M) rfl hs3 (by omega) (fun R h => ⟨_, rfl, h⟩) (by simp) (by simp) (fun m hm => ?_) (Nat.lt_of_le_of_lt (show M.natAbs ≤ 1000000000000 by omega) (by decide)) fun y H4 y0 y1 _ hs4 k4 => ⟨_, _, rfl, rfl, ?_⟩
      · simp only [List.mem_cons, List.mem_nil_iff, or_false] at hm
        rcases hm with rfl | rfl <;> omega
      have h3 := k3 _ _ hal.symm hl2
      have h4 := k4 _ _ hal.symm h3
      refine ⟨_, rfl, .inl ⟨rfl, _, SqL.of h4⟩, _, rfl, _, rfl, ?_⟩
      refine draw_gen (P := P) (w := w) (mg := mg) (aO := aO) (aN := aN) (aE := aE) (aC := aC) (a := a) (n := n + 1 + 6 * i + 2 + 2) (ns := [2, M]) (hi := M) rfl hs4 (by omega) (fun R h => ⟨_, rfl, h⟩) (by simp) (by simp) (fun m hm => ?_) (Nat.lt_of_le_of_lt (show M.natAbs ≤ 1000000000000 by omega) (by decide)) fun z H5 z0 z1 _ hs5 k5 => ⟨_, _, rfl, rfl, ?_⟩
      · simp only [List.mem_cons, List.mem_nil_iff, or_false] at hm
        rcases hm with rfl | rfl <;> omega
      have h5 := k5 _ _ hal.symm h4
      refine ⟨(by show 3 ≤ sizeLine; decide), fun tp htp => ?_⟩
      have nlt : l ≠ tp := ne_of_none h5 htp
      obtain ⟨ya5, hya5⟩ := hs5.has
      have nat : a ≠ tp := ne_of_none hya5 htp
      have hlx : xs.length = i := by rw [hb2.len, hln]
      have st5 : Same H5 (upd H5 tp (.tup [.int (1 + y), .int (1 + x), .int (1 + z)])) := Same.upd htp
      refine ⟨l, xs, _, rfl, rfl, st5 _ _ h5, Nat.lt_of_le_of_lt (show xs.length ≤ 1000 by omega) (by decide), ?_⟩
      obtain ⟨ya2, hya2⟩ := hs2.has
      obtain ⟨ya3, hya3⟩ := hs3.has
      obtain ⟨ya4, hya4⟩ := hs4.has
      have n5 : NL H2 H5 := ((k3.nl hya2).trans (k4.nl hya3)).trans (k5.nl hya4)
      have nn : NL H2 (upd (upd H5 tp (.tup [.int (1 + y), .int (1 + x), .int (1 + z)])) l (.lst (xs ++ [.ref tp]))) := (n5.trans (NL.of st5)).trans (NL.upd (st5 _ _ h5))
      refine ⟨xs ++ [.ref tp], ts ++ [(1 + y, 1 + x, 1 + z)], _, _, _, rfl, upd_same, (hb2.nl nn).app (.cons ⟨tp, rfl, ?_⟩ .nil), fun t ht => ?_, by rw [List.length_append, hln]; rfl, ?_, fun b o n1 n2 e => ?_⟩
      · rw [upd_ne nlt.symm, upd_same]
        rfl
      · rcases List.mem_append.mp ht with ht | ht
        · exact ho2 t ht
        · have e : t = (1 + y, 1 + x, 1 + z) := by simpa using ht
          subst e
          refine ⟨?_, ?_, ?_, ?_, ?_, ?_⟩
          · show 1 ≤ 1 + y; omega
          · show 1 + y ≤ M; omega
          · show 1 ≤ 1 + x; omega
          · show 1 + x ≤ W; omega
          · show 1 ≤ 1 + z; omega
          · show 1 + z ≤ M; omega
      · obtain ⟨p, q, r', e, c⟩ := hs5
        refine Src.mono (n := n + 1 + 6 * i + 2 + 2 + 2) ⟨p, q, r', ?_, c⟩ (by omega)
        rw [upd_ne hal]
        exact st5 _ _ e
      · rw [upd_ne n2]
        exact st5 _ _ (k5 _ _ n1 (k4 _ _ n1 (k3 _ _ n1 (kk b o n1 n2 e))))
    · rintro σ H2 ⟨xs, ts, v5, v6, v7, rfl, hl2, hb2, ho2, hln, hs2, kk⟩
      exact ⟨_, rfl, k l xs ts H2 hl2 hb2 ho2 (by omega) (hs2.mono (by omega)) (fun b o n1 e => kk b o n1 (ne_of_none e hl) e) hl⟩
end
/-! ### times -/
theorem stepsUp_at {d s n : Int} (hs : 0 < s) (h1 : (n - 1) * s < d) (h2 : d ≤ n * s) : stepsUp d s = if n > 0 then n else 0 := by
  have e : -d / s = -n := by
    refine Int.le_antisymm ?_ ?_
    · have : -d / s < -n + 1 := (Int.ediv_lt_iff_lt_mul hs).mpr (by
        have e1 : (-n + 1) * s = -((n - 1) * s) := by rw [← Int.neg_mul]; congr 1; omega
        omega)
      omega
    · refine (Int.le_ediv_iff_mul_le hs).mpr ?_
      rw [Int.neg_mul]
      omega
  unfold stepsUp
  rw [e, Int.neg_neg]
theorem mul_pred (n s : Int) : (n - 1) * s = n * s - s := by rw [Int.sub_mul, Int.one_mul]
section
variable {X : Cx} {C : Addr} {k : Nat} {f : Addr} {ps : List Str} {sp : Sp}
theorem Met.op_in (c : Met X.prog X.w X.K X.mg X.base C "__contains__" k f ps sp) (hr : Room k X.A) : OpR X (compareOp .In) (rOwnIn C sp E0 _root_.id) := by
  obtain ⟨fd, F, b⟩ := c.ex
  exact op_own_in F hr c.me.at_ c.me.fn b pass0
theorem Met.op_notin (c : Met X.prog X.w X.K X.mg X.base C "__contains__" k f ps sp) (hr : Room k X.A) : OpR X (compareOp .NotIn) (rOwnIn C sp E0 Bool.not) := by
  obtain ⟨fd, F, b⟩ := c.ex
  exact op_own_notin F hr c.me.at_ c.me.fn b pass0
theorem Met.c_len (c : Met X.prog X.w X.K X.mg X.base C "__len__" k f ps sp) (hr : Room (k + 1) X.A) : CallR X (.builtin "len") (rOwnLen C sp E0) := by
  obtain ⟨fd, F, b⟩ := c.ex
  exact call_own_len F hr c.me.at_ c.me.fn b pass0
theorem Met.op_add (c : Met X.prog X.w X.K X.mg X.base C "__add__" k f ps sp) (hr : Room k X.A) (hc : PySem.W.selfFirst X.K C = true) : OpR X (binaryOp .Add) (rOwnAdd C sp E0) := by
  obtain ⟨fd, F, b⟩ := c.ex
  exact op_own_add F hr hc c.me.at_ c.me.fn b pass0
theorem Met.op_eq (c : Met X.prog X.w X.K X.mg X.base C "__eq__" k f ps sp) (hr : Room k X.A) : OpR X (compareOp .Eq) (rOwnEq C sp E0 _root_.id) := by
  obtain ⟨fd, F, b⟩ := c.ex
  exact op_own_eq F hr c.me.at_ c.me.fn b pass0
theorem Met.op_ne (c : Met X.prog X.w X.K X.mg X.base C "__eq__" k f ps sp) (hr : Room (k + 1) X.A) (hm : PySem.W.mroIn X.K C (.type "object") = some true) (hne : PySem.W.findIn X.K (.ref C) "__ne__" = some (some (.builtin "object.__ne__"))) : OpR X (compareOp .NotEq) (rOwnEq C sp E0 Bool.not) := by
  obtain ⟨fd, F, b⟩ := c.ex
  exact op_own_ne F hr hm hne c.me.at_ c.me.fn b pass0
theorem Met.p_ix {a b : Expr} {ta tb : TE} {pos : Pos} (c : Met X.prog X.w X.K X.mg X.base C "__getitem__" k f ps sp) (hr : Room (k + 1) X.A) (ha : PE X a ta) (hb' : PE X b tb) (hsl : ∀ o i, subscripted b true o i = runValue (.builtin "lifetime.subscript" ⟨[o, i], []⟩) := by exact fun _ _ => rfl) :
    PE X (.Subscript a b pos) (tOp (rOwnIx C sp E0) ta tb) := by
  obtain ⟨fd, F, bb⟩ := c.ex
  exact pe_own_ix F hr c.me.at_ c.fk c.me.fn bb pass0 ha hb' hsl
/-- f(b = .., a = ..) of a def f(a, b) -/
theorem pe_k2 {x a b : Str} {st : Stmt} {kws : List Keyword} {tk : TA} {p pos : Pos} (D : Dfn X.K X.mg x st f [a, b]) (h : ∀ fd, Fun X.K x x st f fd → FnOk X.prog X.w X.K X.mg X.base CX0 k f fd [a, b] sp)
    (hbind : ∀ (kV doc pm : Value) (an : Option Addr) (cdv ct : Value) (u v : Value), bindArgs (PySem.W.fnOf x x (defArgs st) (defBody st) (defScope st) .none kV doc pm an cdv ct) ⟨[], [(b, u), (a, v)]⟩ = pure [(a, v), (b, u)])
    (hr : Room k X.A) (hg : Gl X x) (hkw : PK X kws tk) (hall : (backToKw pos (keywordEach kws X.env)).all (·.1.isSome) = true := by rfl) (hks : (backToKw pos (keywordEach kws X.env)).filterMap (·.1) = [b, a] := by rfl) (hdb : (x == ("__debug__" : Str)) = false := by decide)
    (hpl : ((backTo pos (starEach [] X.env)).any (·.1) || (backToKw pos (keywordEach kws X.env)).any (·.1.isNone)) = false := by rfl) :
    PE X (.Call (.Name x p) [] kws pos) (tCallN 0 2 sp (fun us ws => us ++ ws.reverse) E0 tNil tk) := by
  obtain ⟨fd, F, _⟩ := D.ex
  have rv : ∀ {vs : List V} {us : List Value}, Vals vs us → Vals vs.reverse us.reverse := by
    intro vs us r
    induction r with
    | nil => exact .nil
    | cons h t ih =>
      rw [List.reverse_cons, List.reverse_cons]
      exact ih.append (.cons h .nil)
  have hb : KBn X.K fd [a, b] 0 [b, a] (fun us ws => us ++ ws.reverse) (fun us ws => us ++ ws.reverse) := by
    refine ⟨fun s us ws hX h1 h2 => ?_, fun r1 r2 => r1.append (rv r2)⟩
    obtain ⟨oc, od, kV, doc, pm, an, cdv, ct, osl, rfl, lk, hcd⟩ := F.ex
    match us, h1, ws, h2 with
    | [], _, [u, v], _ => exact .of_eq (hbind kV doc pm an cdv ct u v)
  exact pe_callN0 (h fd F) hr hg D.g F.kp hb pass0 hkw hall hks hdb hpl
end
def spTimes (C : Addr) : Sp := fun vs H Q _ => ∃ a p T xs ts st ph n, vs = [.ref a, .ref p, .int ph, .int st] ∧ Src H a n ∧ n ≤ 500000 ∧ RowAt C H p T xs ts st ph ∧ ∀ H', Src H' a (n + 100) → Kp a H H' → Q (.bl true) H'
structure Tx5 (K : PySem.W.Frag) (mg : Str → Option Value) (aT : Addr) : Prop where
  dT : Dfn K mg "_law_times_right" st__law_times_right aT ["_law_source", "_law_lane", "_law_shift", "_law_pace"]
section
variable {P : Program} {w : World} {K : PySem.W.Frag} {mg : Str → Option Value} {base : Heap} {aI aL aW aS C aB aK aX bL bS bP bN bG bC aR aF bA bE aO aN aE aC aP aT : Addr}
theorem sc_times : FnScope ["_law_source", "_law_lane", "_law_shift", "_law_pace", "_law_k", "_law_which", "_law_moment", "_law_before", "_law_due"] ["_law_source", "_law_lane", "_law_shift", "_law_pace"] (defScope st__law_times_right) := ⟨rfl, rfl, rfl, by decide +kernel, rfl, by decide +kernel, by decide +kernel⟩
theorem ok_times (T : Tx0 K mg aI aL aW aS) (T1 : Tx1 K mg aO aN aE aC) (T2 : Tx2 K mg C aB aK aX bL bS bP bN bG bC) (T3 : Tx3 K mg C aR aF bA bE) (T4 : Tx4 K mg aP) (T5 : Tx5 K mg aT) : Cal P w K mg base "_law_times_right" 4 aT ["_law_source", "_law_lane", "_law_shift", "_law_pace"] (spTimes C) := T5.dT.cal fun fd F => by
  have GN : Cal P w K mg base "_law_next" 1 aN ["_law_source", "_law_many"] spNext := ok_next T1
  have GO : Cal P w K mg base "_law_one" 2 aE ["_law_source", "_law_options"] spOne := ok_one T1
  have GR : Cal P w K mg base "request_time" 3 aR ["row", "number"] (spRt C) := ok_rt T T2 T3
  have GF : Cal P w K mg base "first_request" 3 aF ["row", "time"] (spFr C) := ok_fr T T2 T3
  have GC : Met P w K mg base C "__contains__" 3 bC ["self", "x"] (spCon C) := ok_con T T2
  have nd := sc_times.nd
  refine F.ok sc_times (fun vs H Q E h => ?_) (fun cdv A outer s H vs Q E hr h => ?_)
  · obtain ⟨a, p, T, xs, ts, st, ph, n, rfl, _⟩ := h
    rfl
  · obtain ⟨a, p, T', xs, ts, st, ph, n, rfl, hs, hn, R, k⟩ := h
    have hr1 : Room 1 _ := hr.mono (by decide)
    have hr2 : Room 2 _ := hr.mono (by decide)
    have s0 := R.s0
    have s1 := R.s1
    have p0 := R.p0
    have p1 := R.p1
    refine ⟨_, pss_cons (ps_for PassesOwn.never rfl (pi_range1 rfl T4.range (pa_cons pe_int pa_nil)) (pg_name (i := 4) nd rfl (Or.inl rfl))
        (pss_cons (ps_set (i := 5) nd rfl (Or.inl rfl) (pe_c GN hr1 rfl (pa_cons (pv 0) (pa_cons (pe_c GO hr2 rfl (pa_cons (pv 0) (pa_cons (pe_lst (pa_cons pe_int (pa_cons (pe_op op_pow pe_int pe_int) (pa_cons (pe_op op_pow pe_int pe_int) pa_nil)))) pa_nil))) pa_nil))))
        (pss_cons (ps_set (i := 6) nd rfl (Or.inl rfl) (pe_op op_add (pv 2) (pe_op op_mulW (pv 5) (pv 3))))
        (pss_cons (ps_if (PW.pt (pw_or (pt_cmpR op_ne (pe_c GR hr rfl (pa_cons (pv 1) (pa_cons (pv 5) pa_nil))) (pv 6) (nomark _))
            (pw_or1 (pt_cmpR op_ne (pe_k2 T3.dR (fun fd F => fn_rt T T2 T3 F) (fun _ _ _ _ _ _ _ _ => rfl) hr rfl (pk_cons (pv 5) (pk_cons (pv 1) pk_nil))) (pv 6) (nomark _))))) (pss_one (ps_ret pe_bl)) pss_nil)
        (pss_cons (ps_if (pt_cmpR (GC.op_notin hr) (pv 6) (pv 1) rfl) (pss_one (ps_ret pe_bl)) pss_nil)
        (pss_cons (ps_if (PW.pt (pw_or (pt_cmpR op_ne (pe_c GF hr rfl (pa_cons (pv 1) (pa_cons (pv 6) pa_nil))) (pv 5) (nomark _))
            (pw_or1 (pt_cmpR op_ne (pe_c GF hr rfl (pa_cons (pv 1) (pa_cons (pe_op op_add (pv 6) pe_int) pa_nil))) (pe_op op_add (pv 5) pe_int) (nomark _))))) (pss_one (ps_ret pe_bl)) pss_nil)
        (pss_cons (ps_set (i := 7) nd rfl (Or.inl rfl) (pe_op op_sub (pe_op op_sub (pv 6) pe_int) (pe_c GN hr1 rfl (pa_cons (pv 0) (pa_cons (pv 3) pa_nil)))))
        (pss_cons (ps_set (i := 8) nd rfl (Or.inl rfl) (pe_callB (call_max2 rfl) (by rfl) T.max (by decide +kernel) (pa_cons pe_int (pa_cons (pe_op op_sub (pv 5) (pe_callTy call_int1 (by rfl) T.int (by decide +kernel) (pa_cons (pe_cmpR op_eq (pv 7) (pe_op op_sub (pv 6) (pv 3)) (nomark _)) pa_nil))) pa_nil))))
        (pss_cons (ps_if (PW.pt (pw_and (pt_cmpR op_ge (pv 7) pe_int (nomark _)) (pw_and1 (pt_cmpR op_ne (pe_k2 T3.dF (fun fd F => fn_fr T T2 T3 F) (fun _ _ _ _ _ _ _ _ => rfl) hr rfl (pk_cons (pv 7) (pk_cons (pv 1) pk_nil))) (pv 8) (nomark _))))) (pss_one (ps_ret pe_bl)) pss_nil)
        (pss_cons (ps_if (pt_cmpR op_ne (pe_cmpR (GC.op_in hr) (pe_op op_add (pv 6) pe_int) (pv 1) rfl) (pe_cmpR op_eq (pv 3) pe_int (nomark _)) (nomark _)) (pss_one (ps_ret pe_bl)) pss_nil)
        (pss_one (ps_if (pt_cmpR op_ne (pe_cmpR (GC.op_in hr) (pe_op op_sub (pv 6) pe_int) (pv 1) rfl) (pe_and (pe_cmpR op_eq (pv 3) pe_int (nomark _)) (pe_one (pe_cmpR op_gt (pv 5) pe_int (nomark _)))) (nomark _)) (pss_one (ps_ret pe_bl)) pss_nil))))))))))))
      (pss_one (ps_ret pe_bl)), ?_⟩
    refine ⟨6, rfl, by decide, by decide, for_range (lo := 0) (n := 6) (fun i σ H2 => ∃ v4 v5 v6 v7 v8 : Option V, σ = [some (.ref a), some (.ref p), some (.int ph), some (.int st), v4, v5, v6, v7, v8] ∧ Src H2 a (n + 3 * i) ∧ Kp a H H2)
      ⟨none, none, none, none, none, rfl, hs, Kp.refl⟩ ?_ ?_⟩
    · rintro i σ H2 hi ⟨v4, v5, v6, v7, v8, rfl, hs2, k2⟩
      obtain ⟨ya, hya⟩ := hs.has
      obtain ⟨ya2, hya2⟩ := hs2.has
      refine draw_gen (P := P) (w := w) (mg := mg) (aO := aO) (aN := aN) (aE := aE) (aC := aC) (a := a) (n := n + 3 * i) (ns := [4, 10 ^ (6 : Int).toNat, 10 ^ (29 : Int).toNat]) (hi := 100000000000000000000000000000) rfl hs2 (by omega) (fun R h => ⟨_, _, rfl, rfl, ⟨by decide, by decide, by decide⟩, _, _, rfl, rfl, ⟨by decide, by decide, by decide⟩, h⟩) (by simp) (by simp) (fun m hm => ?_) (by decide) fun x H3 x0 x1 _ hs3 k3 => ?_
      · simp only [List.mem_cons, List.mem_nil_iff, or_false] at hm
        rcases hm with rfl | rfl | rfl <;> decide
      have R3 : RowAt C H3 p T' xs ts st ph := (R.nl (k2.nl hya)).nl (k3.nl hya2)
      have xl : x.natAbs < 2 ^ 200 := Nat.lt_of_le_of_lt (show x.natAbs ≤ 100000000000000000000000000000 by omega) (by decide)
      have sl : st.natAbs < 2 ^ 200 := lt200 (by omega) s1
      have hst : 0 < st := by omega
      have hm0 : 0 ≤ x * st := Int.mul_nonneg x0 (by omega)
      obtain ⟨dx, hp3⟩ := R3.ob
      refine ⟨_, rfl, _, rfl, _, rfl, _, _, rfl, rfl, wide200 xl sl, _, _, rfl, rfl, ?_⟩
      -- request_time
      refine ⟨_, rfl, _, rfl, p, T', xs, ts, st, ph, x, rfl, R3, x0, xl, _, rfl, rfl, _, rfl, iteNS rfl ?_⟩
      refine ⟨_, rfl, _, rfl, rfl, rfl, p, T', xs, ts, st, ph, x, rfl, R3, x0, xl, _, rfl, rfl, _, rfl, iteNS rfl ?_⟩
      -- moment in lane
      have hin : ∀ m : Int, 0 ≤ ph + x * st + m → (isI (V.int (ph + x * st + m)) && (decide (ph ≤ toI (V.int (ph + x * st + m))) && decide ((toI (V.int (ph + x * st + m)) - ph) % st = 0))) = (decide (ph ≤ ph + x * st + m) && decide (m % st = 0)) := fun m _ => by
        show (true && (decide (ph ≤ ph + x * st + m) && decide ((ph + x * st + m - ph) % st = 0))) = _
        have e : (ph + x * st + m - ph) % st = m % st := by
          have e1 : ph + x * st + m - ph = m + x * st := by omega
          rw [e1, Int.add_mul_emod_self_right]
        rw [e, Bool.true_and]
      refine ⟨_, rfl, _, rfl, p, dx, _, rfl, hp3, p, T', xs, ts, st, ph, _, "int", rfl, R3, .int _, _, rfl, _, rfl, ?_⟩
      have h0 := hin 0 (by omega)
      rw [Int.add_zero] at h0
      rw [h0]
      have e0 : (decide (ph ≤ ph + x * st) && decide ((0 : Int) % st = 0)) = true := by rw [decide_eq_true (by omega), decide_eq_true (Int.zero_emod _)]; rfl
      rw [e0]
      refine iteF ?_
      -- first_request
      have f1 : stepsUp (ph + x * st - ph) st = x := by
        rw [stepsUp_at (n := x) hst (by rw [mul_pred]; omega) (by omega)]
        split <;> omega
      have f2 : stepsUp (ph + x * st + 1 - ph) st = x + 1 := by
        rw [stepsUp_at (n := x + 1) hst (by rw [mul_pred, Int.add_mul]; omega) (by rw [Int.add_mul]; omega)]
        split <;> omega
      refine ⟨_, rfl, _, rfl, p, T', xs, ts, st, ph, _, rfl, R3, by omega, _, rfl, rfl, _, rfl, iteNS (by rw [f1]) ?_⟩
      refine ⟨_, rfl, _, rfl, _, _, rfl, rfl, p, T', xs, ts, st, ph, _, rfl, R3, by omega, _, rfl, _, _, rfl, rfl, rfl, _, rfl, iteNS (by rw [f2]) ?_⟩
      -- before
      refine ⟨_, rfl, _, _, rfl, rfl, _, rfl, _, rfl, a, st, _, rfl, hst, sl, hs3, by omega, fun r H4 r0 r1 hs4 k4 => ⟨_, _, rfl, rfl, ?_⟩⟩
      obtain ⟨ya3, hya3⟩ := hs3.has
      have R4 : RowAt C H4 p T' xs ts st ph := R3.nl (k4.nl hya3)
      obtain ⟨dx4, hp4⟩ := R4.ob
      refine ⟨_, rfl, _, rfl, _, rfl, _, rfl, _, _, rfl, rfl, rfl, .inr ⟨_, rfl, _, _, rfl, rfl, _, _, rfl, ?_⟩⟩
      refine ⟨_, rfl, _, _, rfl, rfl, _, rfl, ?_⟩
      have hdue : ph + x * st - 1 - r ≥ 0 → stepsUp (ph + x * st - 1 - r - ph) st = (if (x - (if decide (V.int (ph + x * st - 1 - r) = V.int (ph + x * st - st)) = true then 1 else 0)) > (0 : Int) then (x - (if decide (V.int (ph + x * st - 1 - r) = V.int (ph + x * st - st)) = true then 1 else 0)) else 0) := fun _ => by
        by_cases hc : r = st - 1
        · have ed : decide (V.int (ph + x * st - 1 - r) = V.int (ph + x * st - st)) = true := decide_eq_true (by rw [hc]; congr 1; omega)
          rw [ed, if_pos rfl]
          exact stepsUp_at (n := x - 1) hst (by rw [mul_pred, mul_pred]; omega) (by rw [mul_pred]; omega)
        · have ed : decide (V.int (ph + x * st - 1 - r) = V.int (ph + x * st - st)) = false := decide_eq_false fun z => hc (by have := V.int.inj z; omega)
          rw [ed, if_neg Bool.false_ne_true, Int.sub_zero]
          exact stepsUp_at (n := x) hst (by rw [mul_pred]; omega) (by omega)
      have rest : tSeq (tIfS (tTest (tOp rNe (tOp (rOwnIn C (spCon C) E0 _root_.id) (tOp (rI0 fun i j => .int (i + j)) (tVar 6) (tC (.int 1))) (tVar 1)) (tOp rEq (tVar 3) (tC (.int 1))))) (tSeq (tRet (tC (.bl false))) tNext) tNext)
          (tSeq (tIfS (tTest (tOp rNe (tOp (rOwnIn C (spCon C) E0 _root_.id) (tOp (rI0 fun i j => .int (i - j)) (tVar 6) (tC (.int 1))) (tVar 1)) (tAndV (tOp rEq (tVar 3) (tC (.int 1))) (tOp (rI0 fun i j => .bl (decide (j < i))) (tVar 5) (tC (.int 0)))))) (tSeq (tRet (tC (.bl false))) tNext) tNext) tNext)
          { nx := fun σ H2 => ∃ v4 v5 v6 v7 v8 : Option V, σ = [some (.ref a), some (.ref p), some (.int ph), some (.int st), v4, v5, v6, v7, v8] ∧ Src H2 a (n + 3 * (i + 1)) ∧ Kp a H H2, ct := fun σ H2 => ∃ v4 v5 v6 v7 v8 : Option V, σ = [some (.ref a), some (.ref p), some (.int ph), some (.int st), v4, v5, v6, v7, v8] ∧ Src H2 a (n + 3 * (i + 1)) ∧ Kp a H H2, rt := Q }
          [some (.ref a), some (.ref p), some (.int ph), some (.int st), some (.int (0 + (i : Int))), some (.int x), some (.int (ph + x * st)), some (.int (ph + x * st - 1 - r)), some (.int (if (x - (if decide (V.int (ph + x * st - 1 - r) = V.int (ph + x * st - st)) = true then 1 else 0)) > (0 : Int) then (x - (if decide (V.int (ph + x * st - 1 - r) = V.int (ph + x * st - st)) = true then 1 else 0)) else 0))] H4 := by
        refine ⟨_, rfl, _, _, rfl, rfl, _, rfl, p, dx4, _, rfl, hp4, p, T', xs, ts, st, ph, _, "int", rfl, R4, .int _, _, rfl, ?_⟩
        rw [hin 1 (by omega)]
        have ea : (decide (ph ≤ ph + x * st + 1) && decide ((1 : Int) % st = 0)) = decide (V.int st = V.int 1) := by
          rw [decide_eq_true (show ph ≤ ph + x * st + 1 by omega), Bool.true_and, Bool.eq_iff_iff, decide_eq_true_iff, decide_eq_true_iff]
          constructor
          · intro z
            by_cases h2 : st = 1
            · rw [h2]
            · rw [Int.emod_eq_of_lt (by decide) (by omega)] at z
              cases z
          · intro z
            rw [V.int.inj z]
            decide
        refine ⟨_, rfl, rfl, rfl, _, rfl, iteNS (by rw [ea]; rfl) ?_⟩
        have hm : (isI (V.int (ph + x * st - 1)) && (decide (ph ≤ toI (V.int (ph + x * st - 1))) && decide ((toI (V.int (ph + x * st - 1)) - ph) % st = 0))) = (decide (V.int st = V.int 1) && decide (0 < x)) := by
          show (true && (decide (ph ≤ ph + x * st - 1) && decide ((ph + x * st - 1 - ph) % st = 0))) = _
          have e1 : ph + x * st - 1 - ph = -1 + x * st := by omega
          rw [e1, Int.add_mul_emod_self_right, Bool.true_and, Bool.eq_iff_iff]
          simp only [Bool.and_eq_true, decide_eq_true_iff, V.int.injEq]
          constructor
          · rintro ⟨h1, h2⟩
            have e2 : st = 1 := by
              by_cases h3 : st = 1
              · exact h3
              · have : (-1 : Int) % st = st - 1 := by
                  have e3 : (-1 : Int) = (st - 1) + (-1) * st := by rw [Int.neg_mul, Int.one_mul]; omega
                  rw [e3, Int.add_mul_emod_self_right, Int.emod_eq_of_lt (by omega) (by omega)]
                omega
            refine ⟨e2, ?_⟩
            rw [e2] at h1
            omega
          · rintro ⟨h1, h2⟩
            rw [h1]
            exact ⟨by omega, by decide⟩
        refine ⟨_, rfl, _, _, rfl, rfl, _, rfl, p, dx4, _, rfl, hp4, p, T', xs, ts, st, ph, _, "int", rfl, R4, .int _, _, rfl, ?_⟩
        rw [hm]
        refine ⟨_, rfl, rfl, _, rfl, ?_⟩
        have fin : ∃ v4 v5 v6 v7 v8 : Option V, ([some (.ref a), some (.ref p), some (.int ph), some (.int st), some (.int (0 + (i : Int))), some (.int x), some (.int (ph + x * st)), some (.int (ph + x * st - 1 - r)), some (.int (if (x - (if decide (V.int (ph + x * st - 1 - r) = V.int (ph + x * st - st)) = true then 1 else 0)) > (0 : Int) then (x - (if decide (V.int (ph + x * st - 1 - r) = V.int (ph + x * st - st)) = true then 1 else 0)) else 0))] : L2.St) = [some (.ref a), some (.ref p), some (.int ph), some (.int st), v4, v5, v6, v7, v8] ∧ Src H4 a (n + 3 * (i + 1)) ∧ Kp a H H4 :=
          ⟨_, _, _, _, _, rfl, hs4.mono (by omega), (k2.trans k3).trans k4⟩
        cases hd : decide (V.int st = V.int 1) with
        | true =>
          refine iteT ⟨_, rfl, _, _, rfl, rfl, rfl, _, rfl, iteNS rfl fin⟩
        | false =>
          refine iteF ⟨rfl, _, rfl, iteNS rfl fin⟩
      refine ite2 (fun c => ?_) (fun c => rest)
      · have c' : (0 : Int) ≤ ph + x * st - 1 - r := of_decide_eq_true c
        refine ⟨_, rfl, _, rfl, rfl, rfl, p, T', xs, ts, st, ph, _, rfl, R4, c', _, rfl, rfl, _, rfl, iteNS (by rw [hdue c']) rest⟩
    · rintro σ H2 ⟨v4, v5, v6, v7, v8, rfl, hs2, k2⟩
      exact k H2 (hs2.mono (by omega)) k2
end
/-! ### other rows -/
/-- a row that is unlike d -/
def Un (C : Addr) (H : Hp) (d : RDat) (v : V) : Prop := ∃ q U ys us st ph, v = .ref q ∧ RowAt C H q U ys us st ph ∧ d ≠ (us, st, ph)
theorem Un.nl {C : Addr} {H H' : Hp} {d : RDat} {v : V} (k : NL H H') (h : Un C H d v) : Un C H' d v := by
  obtain ⟨q, U, ys, us, st, ph, e, R, n⟩ := h
  exact ⟨q, U, ys, us, st, ph, e, R.nl k, n⟩
theorem Un.eq {C : Addr} {H : Hp} {d : RDat} {v : V} (h : Un C H d v) : EqOf C H d v false := by
  obtain ⟨q, U, ys, us, st, ph, rfl, R, n⟩ := h
  have e := EqOf.row (d := d) R
  rw [decide_eq_false n] at e
  exact e
theorem EqOf.tyN {C : Addr} {H : Hp} {d : RDat} {v : V} {b : Bool} (h : EqOf C H d v b) : ∃ t, TyN H C v t := by
  cases h with
  | row R => obtain ⟨dx, h⟩ := R.ob; exact ⟨_, .ins h⟩
  | non => exact ⟨_, .non⟩
  | lst e => exact ⟨_, .lst e⟩
  | tup e => exact ⟨_, .tup e⟩
/-- one more, or one less where it is above 1 -/
def nudge (f : Int) : Int := f + 1 - 2 * (if decide (1 < f) = true then 1 else 0)
theorem nudge_ok {f M : Int} (h : 1 ≤ f) (h2 : f ≤ M) (hM : 2 ≤ M) : 1 ≤ nudge f ∧ nudge f ≤ M ∧ nudge f ≠ f := by
  unfold nudge
  by_cases c : 1 < f
  · rw [decide_eq_true c, if_pos rfl]; omega
  · rw [decide_eq_false c, if_neg Bool.false_ne_true]; omega
theorem cut_lo (xs : List V) (k : Nat) (h : k ≤ xs.length) : cutV xs none (some (k : Int)) = xs.take k := by
  unfold cutV
  rw [HT.sIx_nat, HT.sIx_none, List.drop_zero, Nat.sub_zero, Nat.min_eq_left h]
theorem cut_hi (xs : List V) (k : Nat) (h : k ≤ xs.length) : cutV xs (some (k : Int)) none = xs.drop k := by
  unfold cutV
  rw [HT.sIx_nat, HT.sIx_none, Nat.min_eq_left h, List.take_of_length_le (by rw [List.length_drop]; exact Nat.le_refl _)]
theorem ins_ne {ts : List Tri} {i : Nat} {t u : Tri} (h : ts[i]? = some t) (hn : u ≠ t) : ts ≠ ts.take i ++ [u] ++ ts.drop (i + 1) := by
  intro e
  have hi : i < ts.length := (List.getElem?_eq_some_iff.mp h).1
  have e2 : ts[i]? = (ts.take i ++ [u] ++ ts.drop (i + 1))[i]? := congrArg (fun l => l[i]?) e
  rw [h, List.append_assoc, List.getElem?_append_right (by rw [List.length_take]; omega), List.length_take, Nat.min_eq_left (by omega), Nat.sub_self] at e2
  exact hn (Option.some.inj e2).symm
theorem ne_row {C : Addr} {H : Hp} {z W : Addr} {xs : List V} {ts : List Tri} {st ph : Int} {v : V} {b : Bool} {Q : VK} (R : RowAt C H z W xs ts st ph) (h : EqOf C H (ts, st, ph) v b) (k : Q (.bl (!b)) H) : rOwnEq C (spEqR C) E0 Bool.not (.ref z) v H Q := by
  obtain ⟨dx, hz⟩ := R.ob
  obtain ⟨t, ty⟩ := h.tyN
  exact ⟨z, dx, _, t, rfl, hz, ty, z, W, xs, ts, st, ph, v, b, rfl, R, h, b, rfl, k⟩
theorem eq_row {C : Addr} {H : Hp} {z W : Addr} {xs : List V} {ts : List Tri} {st ph : Int} {v : V} {b : Bool} {Q : VK} (R : RowAt C H z W xs ts st ph) (h : EqOf C H (ts, st, ph) v b) (k : Q (.bl b) H) : rOwnEq C (spEqR C) E0 _root_.id (.ref z) v H Q := by
  obtain ⟨dx, hz⟩ := R.ob
  obtain ⟨t, ty⟩ := h.tyN
  exact ⟨z, dx, _, t, rfl, hz, ty, z, W, xs, ts, st, ph, v, b, rfl, R, h, b, rfl, k⟩
theorem cut_hi1 (xs : List V) (k : Nat) (h : k + 1 ≤ xs.length) : cutV xs (some ((k : Int) + 1)) none = xs.drop (k + 1) := by
  have e : (k : Int) + 1 = ((k + 1 : Nat) : Int) := by omega
  rw [e]
  exact cut_hi xs (k + 1) h
theorem tYes_of {σ : L2.St} {H : Hp} {A B : Hp → Prop} (h : A H) : tYes σ H (fun b H3 => if b = true then A H3 else B H3) := by
  show if true = true then A H else B H
  rw [if_pos rfl]
  exact h
theorem small2 {n : Nat} (h : n ≤ 10000) : n ≤ sizeLine := Nat.le_trans h (by decide)
theorem len6 {α : Type} {l : List α} {n : Nat} (h : l.length ≤ n) : l.length ≤ n := h
def rAppN : V → List V → Hp → VK → Prop := fun x vs H Q => ∃ l xs y, x = .ref l ∧ vs = [y] ∧ H l = some (.lst xs) ∧ xs.length < sizeLine ∧ ∀ H', H' = upd H l (.lst (xs ++ [y])) → Q .non H'
theorem mt_appN {X : Cx} : MtM X "list.append" rAppN := fun pins s σ H x vs v us Q I rx rv ⟨l, xs, y, e1, e2, h, hz, q⟩ => mt_append pins s σ H x vs v us Q I rx rv ⟨l, xs, y, e1, e2, h, hz, q _ rfl⟩
def spOthers (C : Addr) : Sp := fun vs H Q _ => ∃ p l T xs ys ts st ph, vs = [.ref p, .ref l, .int st, .int ph] ∧ RowAt C H p T xs ts st ph ∧ H l = some (.lst ys) ∧ Brs H ys ts ∧ ts.length ≤ 6 ∧ (∀ t ∈ ts, OkW 100000000000000000000 1000000000000 t) ∧ st ≤ 10000000000000000000000000000 ∧ ph ≤ 10000000000000000000000000000 ∧ ∀ H', Same H H' → Q (.bl true) H'
structure Tx6 (K : PySem.W.Frag) (mg : Str → Option Value) (C aU : Addr) : Prop where
  sf : PySem.W.selfFirst K C = true
  ne : PySem.W.findIn K (.ref C) "__ne__" = some (some (.builtin "object.__ne__"))
  dU : Dfn K mg "_law_others_right" st__law_others_right aU ["_law_lane", "_law_specs_here", "_law_pace", "_law_shift"]
section
variable {P : Program} {w : World} {K : PySem.W.Frag} {mg : Str → Option Value} {base : Heap} {aI aL aW aS C aB aK aX bL bS bP bN bG bC aR aF bA bE aO aN aE aC aP aT aU : Addr}
abbrev NO : List Str := ["_law_lane", "_law_specs_here", "_law_pace", "_law_shift", "_law_other", "_law_unlike", "_law_k", "_law_fails", "_law_wait", "_law_successes", "_law_less", "_law_one_here"]
theorem sc_others : FnScope NO ["_law_lane", "_law_specs_here", "_law_pace", "_law_shift"] (defScope st__law_others_right) := ⟨rfl, rfl, rfl, by decide +kernel, rfl, by decide +kernel, by decide +kernel⟩
theorem okT_of {t : Tri} (h : OkW 100000000000000000000 1000000000000 t) : OkT t := by
  obtain ⟨h1, h2, h3, h4, h5, h6⟩ := h
  exact ⟨h1, h2, h3, by omega, h5, h6⟩
theorem ok_others (T : Tx0 K mg aI aL aW aS) (T2 : Tx2 K mg C aB aK aX bL bS bP bN bG bC) (M : MkR K mg C aX) (T3 : Tx3 K mg C aR aF bA bE) (T6 : Tx6 K mg C aU) : Cal P w K mg base "_law_others_right" 8 aU ["_law_lane", "_law_specs_here", "_law_pace", "_law_shift"] (spOthers C) := T6.dU.cal fun fd F => by
  have GA : Met P w K mg base C "__add__" 7 bA ["self", "other"] (spAdd C) := ok_add T T2 M T3
  have GE : Met P w K mg base C "__eq__" 1 bE ["self", "other"] (spEqR C) := ok_eq T T2 M T3
  have nd := sc_others.nd
  refine F.ok sc_others (fun vs H Q E h => ?_) (fun cdv A outer s H vs Q E hr h => ?_)
  · obtain ⟨p, l, T, xs, ys, ts, st, ph, rfl, _⟩ := h
    rfl
  · obtain ⟨p, l, T', xs, ys, ts, st, ph, rfl, R, hl, hb, h6, hw, st1, ph1, k⟩ := h
    have hr6 : Room 6 _ := hr.mono (by decide)
    have hr2 : Room (1 + 1) _ := hr.mono (by decide)
    have hr1 : Room 1 _ := hr.mono (by decide)
    have s0 := R.s0
    have p0 := R.p0
    have hbl := hb.len
    refine ⟨_, pss_cons (ps_set (i := 4) nd rfl (Or.inl rfl) (pe_row1 T T2 M hr6 rfl (pa_cons (pe_revL (pv 1)) (pa_cons (pv 2) pa_nil)) (pk_cons (pv 3) pk_nil)))
      (pss_cons (ps_if (pt_cmpR (GE.op_ne hr2 M.om T6.ne) (pe_op (GA.op_add hr T6.sf) (pv 0) (pv 4)) (pe_row1 T T2 M hr6 rfl (pa_cons (pe_op op_cat (pv 1) (pe_revL (pv 1))) (pa_cons (pv 2) pa_nil)) (pk_cons (pv 3) pk_nil)) (nomark _)) (pss_one (ps_ret pe_bl)) pss_nil)
      (pss_cons (ps_set (i := 5) nd rfl (Or.inl rfl) (pe_lst (pa_cons (pe_row1 T T2 M hr6 rfl (pa_cons (pv 1) (pa_cons (pe_op op_add (pv 2) pe_int) pa_nil)) (pk_cons (pv 3) pk_nil)) (pa_cons (pe_row1 T T2 M hr6 rfl (pa_cons (pv 1) (pa_cons (pv 2) pa_nil)) (pk_cons (pe_op op_add (pv 3) pe_int) pk_nil)) pa_nil))))
      (pss_cons (ps_expr (pe_bm PySem.F.plainAttrs_list PySem.F.slot_list_append PySem.F.type_list_append mt_append (pv 5) (pa_cons (pe_row1 T T2 M hr6 rfl (pa_cons (pe_op op_cat (pv 1) (pe_lst (pa_cons (pe_tup (pa_cons pe_int (pa_cons pe_int (pa_cons pe_int pa_nil)))) pa_nil))) (pa_cons (pv 2) pa_nil)) (pk_cons (pv 3) pk_nil)) pa_nil)))
      (pss_cons (ps_for PassesOwn.never rfl (pi_enum (by rfl) T2.enumerate (pa_cons (pv 1) pa_nil)) (pg_tup rfl (pgs_cons (pg_name (i := 6) nd rfl (Or.inr rfl)) (pgs_cons (pg_tup rfl (pgs_cons (pg_name (i := 7) nd rfl (Or.inl rfl)) (pgs_cons (pg_name (i := 8) nd rfl (Or.inl rfl)) (pgs_cons (pg_name (i := 9) nd rfl (Or.inl rfl)) pgs_nil)))) pgs_nil)))
        (pss_cons (ps_set (i := 10) nd rfl (Or.inl rfl) (pe_lst (pa_cons (pe_tup (pa_cons (pe_op op_sub (pe_op op_add (pv 7) pe_int) (pe_op op_mul pe_int (pe_callTy call_int1 (by rfl) T.int (by decide +kernel) (pa_cons (pe_cmpR op_gt (pv 7) pe_int (nomark _)) pa_nil)))) (pa_cons (pv 8) (pa_cons (pv 9) pa_nil))))
          (pa_cons (pe_tup (pa_cons (pv 7) (pa_cons (pe_op op_sub (pe_op op_add (pv 8) pe_int) (pe_op op_mul pe_int (pe_callTy call_int1 (by rfl) T.int (by decide +kernel) (pa_cons (pe_cmpR op_gt (pv 8) pe_int (nomark _)) pa_nil)))) (pa_cons (pv 9) pa_nil)))) pa_nil))))
        (pss_cons (ps_expr (pe_bm PySem.F.plainAttrs_list PySem.F.slot_list_append PySem.F.type_list_append mt_appN (pv 10) (pa_cons (pe_tup (pa_cons (pv 7) (pa_cons (pv 8) (pa_cons (pe_op op_sub (pe_op op_add (pv 9) pe_int) (pe_op op_mul pe_int (pe_callTy call_int1 (by rfl) T.int (by decide +kernel) (pa_cons (pe_cmpR op_gt (pv 9) pe_int (nomark _)) pa_nil)))) pa_nil)))) pa_nil)))
        (pss_one (ps_expr (pe_bm PySem.F.plainAttrs_list PySem.F.slot_list_extend PySem.F.type_list_extend mt_extend (pv 5) (pa_cons (pe_lc (own := [("_law_one_here", 11)]) (g := gName 11) (tt := tYes) rfl nd (pi_list (pv 10)) (blkOk_by (own := [("_law_one_here", 11)]) (N := NO) (sc := defScope st__law_others_right) (by decide +kernel)) (fun _ _ _ _ _ => pg_name (i := 11) nd rfl (Or.inl rfl)) (fun _ _ _ _ _ => pts_nil)
          (fun _ _ _ _ _ => pe_row1 T T2 M hr6 rfl (pa_cons (pe_op op_cat (pe_op op_cat (pe_slice (r := rSlL K) sl_list (pv 1) po_none (po_some (pv 6))) (pe_lst (pa_cons (pv 11) pa_nil))) (pe_slice (r := rSlL K) sl_list (pv 1) (po_some (pe_op op_add (pv 6) pe_int)) po_none)) (pa_cons (pv 2) pa_nil)) (pk_cons (pv 3) pk_nil))) pa_nil)))))))
      (pss_cons (ps_if (pt_cmpR (op_neD hr.units) (pe_lc (own := [("_law_one_here", 11)]) (g := gName 11) rfl nd (pi_list (pe_op op_cat (pv 5) (pe_lst (pa_cons (pv 1) (pa_cons (pe_tup (pa_cons (pv 1) (pa_cons (pv 2) (pa_cons (pv 3) pa_nil)))) (pa_cons pe_non pa_nil)))))) (blkOk_by (own := [("_law_one_here", 11)]) (N := NO) (sc := defScope st__law_others_right) (by decide +kernel)) (fun _ _ _ _ _ => pg_name (i := 11) nd rfl (Or.inl rfl))
          (fun _ _ _ _ _ => pts_one (PW.pt (pw_or (pt_cmpR (GE.op_eq hr1) (pv 0) (pv 11) (nomark _)) (pw_or1 (pt_not (pt_cmpR (GE.op_ne hr2 M.om T6.ne) (pv 0) (pv 11) (nomark _))))))) (fun _ _ _ _ _ => pe_int)) (pe_lst pa_nil) (nomark _)) (pss_one (ps_ret pe_bl)) pss_nil)
      (pss_cons (ps_if (PW.pt (pw_or (pt_cmpR (GE.op_ne hr2 M.om T6.ne) (pv 0) (pe_row1 T T2 M hr6 rfl (pa_cons (pe_callTy call_list_of (by rfl) T2.list (by decide +kernel) (pa_cons (pv 1) pa_nil)) (pa_cons (pv 2) pa_nil)) (pk_cons (pv 3) pk_nil)) (nomark _))
          (pw_or1 (PW.pt (pw_and (pt_cmpR op_eq (pv 3) pe_int (nomark _)) (pw_and1 (pt_cmpR (GE.op_ne hr2 M.om T6.ne) (pe_row2 T T2 M hr6 rfl (pa_cons (pv 1) (pa_cons (pv 2) pa_nil))) (pv 0) (nomark _)))))))) (pss_one (ps_ret pe_bl)) pss_nil)
      (pss_one (ps_ret pe_bl)))))))), ?_⟩
    have hT : ∀ t ∈ ts, OkT t := fun t ht => okT_of (hw t ht)
    have bd : 1 ≤ st ∧ st ≤ 1000000000000000000000000000000 ∧ 0 ≤ ph ∧ ph ≤ 1000000000000000000000000000000 := ⟨R.s0, R.s1, R.p0, R.p1⟩
    have hrl : ys.reverse.length = ys.length := List.length_reverse
    -- other
    refine ⟨_, rfl, l, ys, rfl, SqL.of hl, fun l1 hl1 => ⟨_, rfl, _, rfl, rfl, rfl, ?_⟩⟩
    have c1 : Same H (upd H l1 (.lst ys.reverse)) := Same.upd hl1
    refine row_made (xs := ys.reverse) (ts := ts.reverse) upd_same ((hb.nl (NL.of c1)).rev) (fun t ht => hT t (List.mem_reverse.mp ht)) (by rw [List.length_reverse]; omega) bd fun q1 U1 H1 R1 c2 hq1 => ?_
    have d1 : Same H H1 := c1.trans c2
    obtain ⟨dp, hp1⟩ := (R.nl (NL.of d1)).ob
    obtain ⟨dq, hq1'⟩ := R1.ob
    -- lane + other
    refine ⟨_, rfl, _, rfl, p, dp, _, q1, dq, _, rfl, hp1, rfl, hq1', p, T', xs, ts, st, ph, q1, U1, ys.reverse, ts.reverse, rfl, R.nl (NL.of d1), R1, (by rw [List.length_reverse]; omega), fun z W H2 RZ c3 hz => ⟨⟨z, rfl⟩, ?_⟩⟩
    have d2 : Same H H2 := d1.trans c3
    refine ⟨_, rfl, _, rfl, l, ys, rfl, SqL.of (d2 _ _ hl), fun l2 hl2 => ⟨l, l2, ys, ys.reverse, rfl, rfl, Same.upd hl2 _ _ (d2 _ _ hl), upd_same, small2 (by rw [hrl]; omega), fun l3 hl3 => ⟨_, rfl, _, rfl, rfl, rfl, ?_⟩⟩⟩
    have c4 : Same H2 (upd (upd H2 l2 (.lst ys.reverse)) l3 (.lst (ys ++ ys.reverse))) := (Same.upd hl2).trans (Same.upd hl3)
    have b4 : Brs (upd (upd H2 l2 (.lst ys.reverse)) l3 (.lst (ys ++ ys.reverse))) ys ts := hb.nl (NL.of (d2.trans c4))
    refine row_made (xs := ys ++ ys.reverse) (ts := ts ++ ts.reverse) upd_same (b4.app b4.rev) (fun t ht => ?_) (by rw [List.length_append, List.length_reverse]; omega) bd fun q2 U2 H3 R2 c5 hq2 => ?_
    · rcases List.mem_append.mp ht with ht | ht
      · exact hT t ht
      · exact hT t (List.mem_reverse.mp ht)
    have d3 : Same H H3 := d2.trans (c4.trans c5)
    refine ne_row (RZ.nl (NL.of (c4.trans c5))) (.row R2) ⟨_, rfl, iteNS rfl ?_⟩
    -- unlike
    refine ⟨_, rfl, _, rfl, _, _, rfl, rfl, _, rfl, rfl, rfl, row_made (d3 _ _ hl) (hb.nl (NL.of d3)) hT R.ln ⟨by omega, by omega, R.p0, R.p1⟩ fun a1 A1 H4 RA c6 ha1 => ?_⟩
    have d4 : Same H H4 := d3.trans c6
    refine ⟨_, rfl, _, rfl, _, rfl, _, _, rfl, rfl, rfl, rfl, row_made (d4 _ _ hl) (hb.nl (NL.of d4)) hT R.ln ⟨R.s0, R.s1, by omega, by omega⟩ fun a2 A2 H5 RB c7 ha2 => ?_⟩
    have d5 : Same H H5 := d4.trans c7
    refine ⟨(by show 2 ≤ sizeLine; decide), fun u hu => ?_⟩
    have d6 : Same H (upd H5 u (.lst [.ref a1, .ref a2])) := d5.trans (Same.upd hu)
    have u1 : Un C (upd H5 u (.lst [.ref a1, .ref a2])) (ts, st, ph) (.ref a1) := ⟨a1, A1, _, _, _, _, rfl, RA.nl (NL.of (c7.trans (Same.upd hu))), fun e => by have := congrArg (fun z : RDat => z.2.1) e; simp at this; omega⟩
    have u2 : Un C (upd H5 u (.lst [.ref a1, .ref a2])) (ts, st, ph) (.ref a2) := ⟨a2, A2, _, _, _, _, rfl, RB.nl (NL.of (Same.upd hu)), fun e => by have := congrArg (fun z : RDat => z.2.2) e; simp at this; omega⟩
    -- unlike.append(..)
    refine ⟨_, rfl, .inl ⟨rfl, _, SqL.of upd_same⟩, _, rfl, (by show 3 ≤ sizeLine; decide), fun t1 ht1 => ⟨(by show 1 ≤ sizeLine; decide), fun l4 hl4 => ?_⟩⟩
    have c8 : Same (upd H5 u (.lst [.ref a1, .ref a2])) (upd (upd (upd H5 u (.lst [.ref a1, .ref a2])) t1 (.tup [.int 1, .int 1, .int 1])) l4 (.lst [.ref t1])) := (Same.upd ht1).trans (Same.upd hl4)
    refine ⟨l, l4, ys, [.ref t1], rfl, rfl, (d6.trans c8) _ _ hl, upd_same, small2 (by show ys.length + 1 ≤ 10000; omega), fun l5 hl5 => ⟨_, rfl, _, rfl, rfl, rfl, ?_⟩⟩
    have c9 : Same (upd H5 u (.lst [.ref a1, .ref a2])) (upd (upd (upd (upd H5 u (.lst [.ref a1, .ref a2])) t1 (.tup [.int 1, .int 1, .int 1])) l4 (.lst [.ref t1])) l5 (.lst (ys ++ [.ref t1]))) := c8.trans (Same.upd hl5)
    have tt1 : BrAt (upd (upd (upd (upd H5 u (.lst [.ref a1, .ref a2])) t1 (.tup [.int 1, .int 1, .int 1])) l4 (.lst [.ref t1])) l5 (.lst (ys ++ [.ref t1]))) (.ref t1) (1, 1, 1) := ⟨t1, rfl, Same.upd hl5 _ _ (Same.upd hl4 _ _ upd_same)⟩
    refine row_made (xs := ys ++ [.ref t1]) (ts := ts ++ [(1, 1, 1)]) upd_same ((hb.nl (NL.of (d6.trans c9))).app (.cons tt1 .nil)) (fun t ht => ?_) (by rw [List.length_append]; show ts.length + 1 ≤ 12; omega) bd fun a3 A3 H6 RC c10 ha3 => ?_
    · rcases List.mem_append.mp ht with ht | ht
      · exact hT t ht
      · have e : t = (1, 1, 1) := by simpa using ht
        subst e
        exact ⟨by decide, by decide, by decide, by decide, by decide, by decide⟩
    have c11 : Same (upd H5 u (.lst [.ref a1, .ref a2])) H6 := c9.trans c10
    have u3 : Un C H6 (ts, st, ph) (.ref a3) := ⟨a3, A3, _, _, _, _, rfl, RC, fun e => by have := congrArg (fun z : RDat => z.1.length) e; simp at this⟩
    have hu6 : H6 u = some (.lst [.ref a1, .ref a2]) := c11 _ _ upd_same
    refine ⟨u, _, _, rfl, rfl, hu6, small1000 (show 2 ≤ 1000 by decide), ?_⟩
    have n7 : NL H6 (upd H6 u (.lst [.ref a1, .ref a2, .ref a3])) := NL.upd hu6
    have hun : ∀ b o, H b = some o → b ≠ u := fun b o e => ne_of_none (d5 _ _ e) hu
    -- the loop
    refine ⟨_, rfl, l, ys, rfl, SqL.of ((Kp.upd : Kp u H6 _) _ _ (hun _ _ hl) ((d6.trans c11) _ _ hl)), for_enum (K := K) (a := l) (xs := ys) (fun i σ H2 => ∃ (vs : List V) (v6 v7 v8 v9 v10 : Option V), σ = [some (.ref p), some (.ref l), some (.int st), some (.int ph), some (.ref q1), some (.ref u), v6, v7, v8, v9, v10, none] ∧ H2 u = some (.lst vs) ∧ (∀ v ∈ vs, Un C H2 (ts, st, ph) v) ∧ vs.length = 3 + 3 * i ∧ Same H H2)
      ⟨[.ref a1, .ref a2, .ref a3], none, none, none, none, none, rfl, upd_same, fun v hv => ?_, rfl, fun b o e => (Kp.upd : Kp u H6 _) _ _ (hun _ _ e) ((d6.trans c11) _ _ e)⟩ (fun i σ H2 _ ⟨_, _, _, _, _, _, _, _, _, _, s2⟩ => SqL.of (s2 _ _ hl)) ?_ ?_⟩
    · simp only [List.mem_cons, List.mem_nil_iff, or_false] at hv
      rcases hv with rfl | rfl | rfl
      · exact (u1.nl (NL.of c11)).nl n7
      · exact (u2.nl (NL.of c11)).nl n7
      · exact u3.nl n7
    · rintro i x E' σ H2 hx ⟨vs, v6, v7, v8, v9, v10, rfl, hu2, hUn, hvl, s2⟩ hE
      obtain ⟨t, ht, t0, rfl, h0⟩ := hb.get hx
      have hi : i < ys.length := (List.getElem?_eq_some_iff.mp hx).1
      have e3 : Same H2 (upd H2 E' (.tup [.int (i : Nat), .ref t0])) := Same.upd hE
      refine ⟨E', _, rfl, SqT.of upd_same, rfl, _, _, rfl, _, _, rfl, t0, _, rfl, SqT.of (e3 _ _ (s2 _ _ h0)), rfl, _, _, rfl, _, _, rfl, _, _, rfl, rfl, rfl, ?_⟩
      obtain ⟨w1, w2, w3, w4, w5, w6⟩ := hw t (List.mem_of_getElem? ht)
      obtain ⟨n1, n2, n3⟩ := nudge_ok w1 w2 (by decide)
      obtain ⟨n4, n5, n6⟩ := nudge_ok w3 w4 (by decide)
      obtain ⟨n7', n8, n9⟩ := nudge_ok w5 w6 (by decide)
      -- less
      refine ⟨_, rfl, _, _, rfl, rfl, _, rfl, _, _, rfl, rfl, .inr ⟨_, rfl, _, _, rfl, rfl, .inl (by decide), _, _, rfl, rfl, _, rfl, _, rfl, (by show 3 ≤ sizeLine; decide), fun b1 hb1 => ?_⟩⟩
      refine ⟨_, rfl, _, rfl, _, _, rfl, rfl, _, rfl, _, _, rfl, rfl, .inr ⟨_, rfl, _, _, rfl, rfl, .inl (by decide), _, _, rfl, rfl, _, rfl, (by show 3 ≤ sizeLine; decide), fun b2 hb2 => ?_⟩⟩
      refine ⟨(by show 2 ≤ sizeLine; decide), fun le hle => ?_⟩
      refine ⟨_, rfl, .inl ⟨rfl, _, SqL.of upd_same⟩, _, rfl, _, rfl, _, rfl, _, _, rfl, rfl, _, rfl, _, _, rfl, rfl, .inr ⟨_, rfl, _, _, rfl, rfl, .inl (by decide), _, _, rfl, rfl, (by show 3 ≤ sizeLine; decide), fun b3 hb3 => ?_⟩⟩
      -- the three breakers that are unlike t, and the lists
      have m1 : Same H2 (upd (upd H2 E' (.tup [.int (i : Nat), .ref t0])) b1 (.tup [.int (nudge t.1), .int t.2.1, .int t.2.2])) := e3.trans (Same.upd hb1)
      have m2 := m1.trans (Same.upd (o := .tup [.int t.1, .int (nudge t.2.1), .int t.2.2]) hb2)
      have m3 := m2.trans (Same.upd (o := .lst [.ref b1, .ref b2]) hle)
      have g1 := (Same.upd (o := .lst [.ref b1, .ref b2]) hle) _ _ ((Same.upd (o := .tup [.int t.1, .int (nudge t.2.1), .int t.2.2]) hb2) _ _ (upd_same : (upd (upd H2 E' (.tup [.int (i : Nat), .ref t0])) b1 (.tup [.int (nudge t.1), .int t.2.1, .int t.2.2])) b1 = some (.tup [.int (nudge t.1), .int t.2.1, .int t.2.2])))
      have g2 := (Same.upd (o := .lst [.ref b1, .ref b2]) hle) _ _ (upd_same : (upd (upd (upd H2 E' (.tup [.int (i : Nat), .ref t0])) b1 (.tup [.int (nudge t.1), .int t.2.1, .int t.2.2])) b2 (.tup [.int t.1, .int (nudge t.2.1), .int t.2.2])) b2 = some (.tup [.int t.1, .int (nudge t.2.1), .int t.2.2]))
      have s3 := Same.upd (o := .tup [.int t.1, .int t.2.1, .int (nudge t.2.2)]) hb3
      have m4 := m3.trans s3
      refine ⟨le, _, _, rfl, rfl, s3 _ _ upd_same, small1000 (show 2 ≤ 1000 by decide), fun Hb eHb => ?_⟩
      have nle : ∀ b o, H2 b = some o → b ≠ le := fun b o e => ne_of_none ((m1.trans (Same.upd (o := .tup [.int t.1, .int (nudge t.2.1), .int t.2.2]) hb2)) _ _ e) hle
      have sb : Same H2 Hb := fun b o e => by
        rw [eHb, upd_ne (nle b o e)]
        exact m4 _ _ e
      have gn : ∀ b tp, b ≠ le → (upd (upd (upd (upd (upd H2 E' (.tup [.int (i : Nat), .ref t0])) b1 (.tup [.int (nudge t.1), .int t.2.1, .int t.2.2])) b2 (.tup [.int t.1, .int (nudge t.2.1), .int t.2.2])) le (.lst [.ref b1, .ref b2])) b3 (.tup [.int t.1, .int t.2.1, .int (nudge t.2.2)])) b = some (.tup tp) → Hb b = some (.tup tp) := fun b tp n e => by
        rw [eHb, upd_ne n]
        exact e
      have hlle := (upd_same : (upd (upd (upd (upd H2 E' (.tup [.int (i : Nat), .ref t0])) b1 (.tup [.int (nudge t.1), .int t.2.1, .int t.2.2])) b2 (.tup [.int t.1, .int (nudge t.2.1), .int t.2.2])) le (.lst [.ref b1, .ref b2])) le = some (.lst [.ref b1, .ref b2]))
      have x1 : BrAt Hb (.ref b1) (nudge t.1, t.2.1, t.2.2) := ⟨b1, rfl, gn b1 _ (ne_of g1 hlle (by intro z; cases z)) (s3 _ _ g1)⟩
      have x2 : BrAt Hb (.ref b2) (t.1, nudge t.2.1, t.2.2) := ⟨b2, rfl, gn b2 _ (ne_of g2 hlle (by intro z; cases z)) (s3 _ _ g2)⟩
      have x3 : BrAt Hb (.ref b3) (t.1, t.2.1, nudge t.2.2) := ⟨b3, rfl, gn b3 _ (ne_of_none hlle hb3).symm upd_same⟩
      have hlb : Hb le = some (.lst [.ref b1, .ref b2, .ref b3]) := by rw [eHb]; exact upd_same
      -- three breakers, each unlike t
      have three : ∀ (j : Nat) (y : V), ([.ref b1, .ref b2, .ref b3] : List V)[j]? = some y → ∃ v : Tri, BrAt Hb y v ∧ OkT v ∧ v ≠ t := by
        intro j y hy
        match j, hy with
        | 0, hy =>
          have e : V.ref b1 = y := Option.some.inj hy
          subst e
          exact ⟨_, x1, ⟨n1, n2, w3, by show t.2.1 ≤ _; omega, w5, w6⟩, fun z => n3 (congrArg (fun z : Tri => z.1) z)⟩
        | 1, hy =>
          have e : V.ref b2 = y := Option.some.inj hy
          subst e
          exact ⟨_, x2, ⟨w1, w2, n4, by show nudge t.2.1 ≤ _; omega, w5, w6⟩, fun z => n6 (congrArg (fun z : Tri => z.2.1) z)⟩
        | 2, hy =>
          have e : V.ref b3 = y := Option.some.inj hy
          subst e
          exact ⟨_, x3, ⟨w1, w2, w3, by show t.2.1 ≤ _; omega, n7', n8⟩, fun z => n9 (congrArg (fun z : Tri => z.2.2) z)⟩
        | j + 3, hy => simp at hy
      have uvs := sb _ _ hu2
      have hUb : ∀ v ∈ vs, Un C Hb (ts, st, ph) v := fun v hv => (hUn v hv).nl (NL.of sb)
      have slH : Same H Hb := s2.trans sb
      clear hb1 hb2 hle hb3 m1 m2 m3 m4 g1 g2 s3 nle gn hlle x1 x2 x3 eHb
      refine ⟨_, rfl, .inl ⟨rfl, _, SqL.of uvs⟩, _, rfl, le, rfl, ⟨_, SqL.of hlb⟩, fun D hD => ?_⟩
      have nD : ∀ b o, Hb b = some o → b ≠ D := fun b o e => ne_of_none e hD
      refine lc_list (K := K) (a := le) (xs := [.ref b1, .ref b2, .ref b3]) (fun j H3 => ∃ acc, H3 D = some (.lst acc) ∧ (∀ v ∈ acc, Un C H3 (ts, st, ph) v) ∧ acc.length = j ∧ Same Hb H3) ⟨[], upd_same, fun v hv => (by simp at hv), rfl, Same.upd hD⟩ (fun j H3 _ ⟨acc, _, _, _, s⟩ => SqL.of (s _ _ hlb)) ?_ ?_
      · rintro j y H3 hy ⟨acc, hacc, hau, haj, sj⟩
        obtain ⟨v, hv1, hv2, hv3⟩ := three j y hy
        have hl3 := sj _ _ (slH _ _ hl)
        refine ⟨rfl, tYes_of ?_⟩
        refine ⟨_, rfl, _, rfl, _, rfl, l, ys, rfl, SqL.of hl3, fun p1 hp1 => ?_⟩
        have q1' : Same H3 (upd H3 p1 (.lst (cutV ys none (some ((i : Nat) : Int))))) := Same.upd hp1
        refine ⟨_, rfl, (by show 1 ≤ sizeLine; decide), fun p2 hp2 => ?_⟩
        refine ⟨p1, p2, _, _, rfl, rfl, (Same.upd hp2) _ _ upd_same, upd_same, small2 (by rw [cut_lo _ _ (by omega), List.length_take]; show _ + 1 ≤ 10000; omega), fun p3 hp3 => ?_⟩
        have q3 := (q1'.trans (Same.upd (o := .lst [y]) hp2)).trans (Same.upd (o := .lst (cutV ys none (some ((i : Nat) : Int)) ++ [y])) hp3)
        refine ⟨_, rfl, _, rfl, _, _, rfl, rfl, _, rfl, l, ys, rfl, SqL.of (q3 _ _ hl3), fun p4 hp4 => ?_⟩
        refine ⟨p3, p4, _, _, rfl, rfl, (Same.upd hp4) _ _ upd_same, upd_same, small2 (by rw [cut_lo _ _ (by omega), cut_hi1 _ _ (by omega), List.length_append, List.length_take, List.length_drop]; show _ + 1 + _ ≤ 10000; omega), fun p5 hp5 => ?_⟩
        rw [cut_lo _ _ (by omega), cut_hi1 _ _ (by omega)] at *
        have q5 := (q3.trans (Same.upd (o := .lst (ys.drop (i + 1))) hp4)).trans (Same.upd (o := .lst (ys.take i ++ [y] ++ ys.drop (i + 1))) hp5)
        refine ⟨_, rfl, _, rfl, rfl, rfl, ?_⟩
        refine row_made (xs := ys.take i ++ [y] ++ ys.drop (i + 1)) (ts := ts.take i ++ [v] ++ ts.drop (i + 1)) upd_same ?_ (fun t' ht' => ?_) ?_ bd fun z W H4 RZ c4 hz => ?_
        · have hbq := hb.nl (NL.of (slH.trans (sj.trans q5)))
          exact ((hbq.take i).app (.cons (hv1.nl (NL.of (sj.trans q5))) .nil)).app (hbq.drop (i + 1))
        · rcases List.mem_append.mp ht' with ht' | ht'
          · rcases List.mem_append.mp ht' with ht' | ht'
            · exact hT t' (List.mem_of_mem_take ht')
            · have e : t' = v := by simpa using ht'
              subst e
              exact hv2
          · exact hT t' (List.mem_of_mem_drop ht')
        · rw [List.length_append, List.length_append, List.length_take, List.length_drop]
          show _ + 1 + _ ≤ 12
          omega
        · have sz := q5.trans c4
          have jl : j < 3 := (List.getElem?_eq_some_iff.mp hy).1
          refine ⟨acc, sz _ _ hacc, small1000 (by omega), acc ++ [.ref z], upd_same, fun v' hv' => ?_, by rw [List.length_append, haj]; rfl, fun b o e => ?_⟩
          · have nu : NL H4 (upd H4 D (.lst (acc ++ [.ref z]))) := NL.upd (sz _ _ hacc)
            rcases List.mem_append.mp hv' with hv' | hv'
            · exact ((hau v' hv').nl (NL.of sz)).nl nu
            · have e : v' = .ref z := by simpa using hv'
              subst e
              exact Un.nl (H := H4) nu ⟨z, W, _, _, _, _, rfl, RZ, fun e => ins_ne ht hv3 (congrArg (fun q : RDat => q.1) e)⟩
          · rw [upd_ne (nD b o e)]
            exact sz _ _ (sj b o e)
      · rintro H3 ⟨acc, hacc, hau, haj, sj⟩
        have hu3' := sj _ _ uvs
        have haj' : acc.length = 3 := haj
        refine ⟨u, D, vs, acc, rfl, rfl, hu3', hacc, small2 (by omega), ?_⟩
        have nu : NL H3 (upd H3 u (.lst (vs ++ acc))) := NL.upd hu3'
        refine ⟨vs ++ acc, _, _, _, _, _, rfl, upd_same, fun v hv => ?_, by rw [List.length_append]; omega, fun b o e => ?_⟩
        · rcases List.mem_append.mp hv with hv | hv
          · exact ((hUb v hv).nl (NL.of sj)).nl nu
          · exact (hau v hv).nl nu
        · rw [upd_ne (hun b o e)]
          exact sj _ _ (slH b o e)
    · rintro σ H2 ⟨vs, v6, v7, v8, v9, v10, rfl, hu2, hUn, hvl, s2⟩
      have R2' := R.nl (NL.of s2)
      -- the search for one that is alike
      refine ⟨_, rfl, _, rfl, _, rfl, _, rfl, _, rfl, (by show 3 ≤ sizeLine; decide), fun t2 ht2 => ⟨(by show 3 ≤ sizeLine; decide), fun l2 hl2 => ?_⟩⟩
      have r1 := (Same.upd (o := .tup [.ref l, .int st, .int ph]) ht2)
      have r2 := r1.trans (Same.upd (o := .lst [.ref l, .ref t2, .non]) hl2)
      refine ⟨u, l2, vs, _, rfl, rfl, r2 _ _ hu2, upd_same, small2 (by show vs.length + 3 ≤ 10000; omega), fun l3 hl3 => ?_⟩
      have r3 := r2.trans (Same.upd (o := .lst (vs ++ [.ref l, .ref t2, .non])) hl3)
      have all : ∀ v ∈ vs ++ [.ref l, .ref t2, .non], EqOf C (upd (upd (upd H2 t2 (.tup [.ref l, .int st, .int ph])) l2 (.lst [.ref l, .ref t2, .non])) l3 (.lst (vs ++ [.ref l, .ref t2, .non]))) (ts, st, ph) v false := fun v hv => by
        rcases List.mem_append.mp hv with hv | hv
        · exact ((hUn v hv).nl (NL.of r3)).eq
        · simp only [List.mem_cons, List.mem_nil_iff, or_false] at hv
          rcases hv with rfl | rfl | rfl
          · exact .lst (r3 _ _ (s2 _ _ hl))
          · exact .tup ((Same.upd hl3) _ _ ((Same.upd hl2) _ _ upd_same))
          · exact .non
      refine ⟨l3, rfl, ⟨_, SqL.of upd_same⟩, fun D hD => ?_⟩
      have r4 := r3.trans (Same.upd (o := .lst []) hD)
      refine lc_list (K := K) (a := l3) (xs := vs ++ [.ref l, .ref t2, .non]) (fun j H3 => H3 = upd (upd (upd (upd H2 t2 (.tup [.ref l, .int st, .int ph])) l2 (.lst [.ref l, .ref t2, .non])) l3 (.lst (vs ++ [.ref l, .ref t2, .non]))) D (.lst [])) rfl (fun j H3 _ e => ?_) ?_ ?_
      · rw [e]
        exact SqL.of ((Same.upd hD) _ _ upd_same)
      · rintro j y H3 hy rfl
        have ey := (all y (List.mem_of_getElem? hy)).nl (Same.upd (o := .lst []) hD)
        exact ⟨rfl, _, rfl, _, rfl, eq_row (R2'.nl (NL.of r4)) ey ⟨_, rfl, iteF ⟨_, rfl, _, rfl, ne_row (R2'.nl (NL.of r4)) ey ⟨_, rfl, iteF rfl⟩⟩⟩⟩
      · rintro H3 rfl
        refine ⟨(by show 0 ≤ sizeLine; decide), fun l4 hl4 => ?_⟩
        have r5 := r4.trans (Same.upd (o := .lst []) hl4)
        refine ⟨.list [], .list [], .lst (SqL.of ((Same.upd hl4) _ _ upd_same)) .nil, .lst (SqL.of upd_same) .nil, by decide +kernel, by decide +kernel, _, rfl, ?_⟩
        have e0 : PyData.eqv (.list []) (.list []) = true := by rw [PyData.eqv, PyData.eqvAll]
        rw [e0]
        refine iteF ?_
        -- lane and rows like it
        have sF := s2.trans r5
        refine ⟨_, rfl, _, rfl, l, ys, rfl, .inl (SqL.of (sF _ _ hl)), fun l6 hl6 => ⟨_, rfl, _, rfl, rfl, rfl, ?_⟩⟩
        have sG := sF.trans (Same.upd (o := .lst ys) hl6)
        refine row_made (xs := ys) (ts := ts) upd_same (hb.nl (NL.of sG)) hT R.ln bd fun z W H5 RZ c5 hz => ?_
        have sH := sG.trans c5
        refine ne_row (R.nl (NL.of sH)) (.row RZ) ⟨_, rfl, ?_⟩
        rw [decide_eq_true (rfl : ((ts, st, ph) : RDat) = (ts, st, ph))]
        refine iteF ?_
        refine ⟨_, rfl, rfl, _, rfl, ?_⟩
        have fin : ∀ H', Same H H' → Q (.bl true) H' := k
        refine ite2 (fun c => ?_) (fun c => ?_)
        · have c' : ph = 0 := V.int.inj (of_decide_eq_true c)
          subst c'
          refine ⟨_, rfl, _, rfl, row_made (xs := ys) (ts := ts) (sH _ _ hl) (hb.nl (NL.of sH)) hT R.ln bd fun z2 W2 H6 RZ2 c6 hz2 => ?_⟩
          refine ⟨_, rfl, ne_row RZ2 (.row (R.nl (NL.of (sH.trans c6)))) ⟨_, rfl, ?_⟩⟩
          rw [decide_eq_true (rfl : ((ts, st, 0) : RDat) = (ts, st, 0))]
          exact iteF (fin _ (sH.trans c6))
        · exact iteF (fin _ sH)
end
/-! ### the law -/
/-- what a turn has at hand -/
structure Pkg (C : Addr) (H : Hp) (s : Addr) (n : Nat) (l p T : Addr) (xs : List V) (ts : List Tri) (st ph : Int) : Prop where
  src : Src H s n
  li : H l = some (.lst xs)
  row : RowAt C H p T xs ts st ph
theorem Pkg.same {C : Addr} {H H' : Hp} {s : Addr} {n : Nat} {l p T : Addr} {xs : List V} {ts : List Tri} {st ph : Int} (P : Pkg C H s n l p T xs ts st ph) (k : Same H H') : Pkg C H' s n l p T xs ts st ph := ⟨P.src.same k, k _ _ P.li, P.row.nl (NL.of k)⟩
theorem Pkg.kp {C : Addr} {H H' : Hp} {s : Addr} {n m : Nat} {l p T : Addr} {xs : List V} {ts : List Tri} {st ph : Int} (P : Pkg C H s n l p T xs ts st ph) (k : Kp s H H') (hs : Src H' s m) (n : l ≠ s) : Pkg C H' s m l p T xs ts st ph := by
  obtain ⟨ys, hy⟩ := P.src.has
  exact ⟨hs, k _ _ n P.li, P.row.nl (k.nl hy)⟩
theorem eqL (ts : List Tri) : PyData.eqv (.list (ts.map triD)) (.list (ts.map triD)) = true := by
  rw [PyData.eqv, triDs_eq]
  simp
theorem shL (ts : List Tri) : SeqAt.shaped (.list (ts.map triD)) = true := by
  refine Bool.and_eq_true_iff.mpr ⟨?_, decide_eq_true ?_⟩
  · rw [PyData.canLay0]
    exact canAll ts
  · have := depAll ts
    rw [PyData.depth]
    omega
theorem shT3 (ts : List Tri) (x y : Int) : SeqAt.shaped (.tuple [.list (ts.map triD), .int x, .int y]) = true := by
  refine Bool.and_eq_true_iff.mpr ⟨?_, decide_eq_true ?_⟩
  · simp [PyData.canLay0, PyData.canLayAll0, canAll]
  · have := depAll ts
    simp only [PyData.depth, PyData.depthAll]
    omega
theorem eqT3 (ts : List Tri) (x y : Int) : PyData.eqv (.tuple [.list (ts.map triD), .int x, .int y]) (.tuple [.list (ts.map triD), .int x, .int y]) = true := SeqAt.eqv_refl _ (Bool.and_eq_true_iff.mp (shT3 ts x y)).1
theorem Met.p_m0 {X : Cx} {C : Addr} {k : Nat} {f : Addr} {ps : List Str} {sp : Sp} {m : Str} {o : Expr} {ta : TE} {apos pos : Pos} {pl : Sem Bool} (c : Met X.prog X.w X.K X.mg X.base C m k f ps sp) (cl : Cls X.K C) (hr : Room k X.A) (he : PE X o ta)
    (ht : eval (.Call (.Attribute o m apos) [] [] pos) X.env = (do
      let ov ← eval o X.env
      standAt apos.atName
      let (f, first) ← holding [ov] (getMethod ov m pl)
      callWith pos f first (backTo pos (starEach [] X.env)) (backToKw pos (keywordEach [] X.env))) := by rfl) :
    PE X (.Call (.Attribute o m apos) [] [] pos) (tMeth C m sp [] E0 ta tNil) := by
  obtain ⟨fd, F, b⟩ := c.ex
  exact pe_meth0 he cl c.me F hr b .nil pass0 ht
def spLaw (K : PySem.W.Frag) : Sp := fun vs H Q _ => ∃ (a : Addr) (ns : List Int), vs = [.ref a] ∧ SqL K H a (ns.map V.int) ∧ ns.length ≤ 63 ∧ ∀ H', Q (.bl true) H'
abbrev NLaw : List Str := ["_law_script", "_law_cell", "_law_source", "_law_pace", "_law_shift", "_law_specs_here", "_law_handed", "_law_lane", "_law_k", "_law_odd"]
section
variable {P : Program} {w : World} {K : PySem.W.Frag} {mg : Str → Option Value} {base : Heap} {aI aL aW aS C aB aK aX bL bS bP bN bG bC aR aF bA bE aO aN aE aC aP aT aU aLaw : Addr}
theorem sc_law : FnScope NLaw ["_law_script"] (defScope st_law) := ⟨rfl, rfl, rfl, by decide +kernel, rfl, by decide +kernel, by decide +kernel⟩
theorem ok_law {fd : FuncData} (F : Fun K "law" "law" st_law aLaw fd) (T : Tx0 K mg aI aL aW aS) (T1 : Tx1 K mg aO aN aE aC) (T2 : Tx2 K mg C aB aK aX bL bS bP bN bG bC) (M : MkR K mg C aX) (T3 : Tx3 K mg C aR aF bA bE) (T4 : Tx4 K mg aP) (T5 : Tx5 K mg aT) (T6 : Tx6 K mg C aU) : FnOk P w K mg base CX0 9 aLaw fd ["_law_script"] (spLaw K) := by
  have GO : Cal P w K mg base "_law_source_of" 1 aO ["_law_cell"] spSrcOf := ok_srcof T1
  have GN : Cal P w K mg base "_law_next" 1 aN ["_law_source", "_law_many"] spNext := ok_next T1
  have G1 : Cal P w K mg base "_law_one" 2 aE ["_law_source", "_law_options"] spOne := ok_one T1
  have GC : Cal P w K mg base "_law_cell_at" 1 aC ["_law_script", "_law_k"] (spCell K) := ok_cellat T1
  have GP : Cal P w K mg base "_law_specs" 3 aP ["_law_source", "_law_most", "_law_wide", "_law_many"] spSpecs := ok_specs T1 T4
  have GT : Cal P w K mg base "_law_times_right" 4 aT ["_law_source", "_law_lane", "_law_shift", "_law_pace"] (spTimes C) := ok_times T T1 T2 T3 T4 T5
  have GU : Cal P w K mg base "_law_others_right" 8 aU ["_law_lane", "_law_specs_here", "_law_pace", "_law_shift"] (spOthers C) := ok_others T T2 M T3 T6
  have ML : Met P w K mg base C "breaker_list" 1 bL ["self"] (spBl C) := ok_bl T2
  have MS : Met P w K mg base C "step_length" 1 bS ["self"] (spSt C) := ok_sl T2
  have MP : Met P w K mg base C "phase_time" 1 bP ["self"] (spPh C) := ok_pt T2
  have MN : Met P w K mg base C "__len__" 1 bN ["self"] (spLen C) := ok_len T2
  have MG : Met P w K mg base C "__getitem__" 3 bG ["self", "at"] (spGet C) := ok_get T T2
  have MC : Met P w K mg base C "__contains__" 3 bC ["self", "x"] (spCon C) := ok_con T T2
  have ME : Met P w K mg base C "__eq__" 1 bE ["self", "other"] (spEqR C) := ok_eq T T2 M T3
  have nd := sc_law.nd
  refine F.ok sc_law (fun vs H Q E h => ?_) (fun cdv A outer s H vs Q E hr h => ?_)
  · obtain ⟨a, ns, rfl, _⟩ := h
    rfl
  · obtain ⟨a, ns, rfl, hS, hlen, k⟩ := h
    have hr1 : Room 1 _ := hr.mono (by decide)
    have hr2 : Room (1 + 1) _ := hr.mono (by decide)
    have hr3 : Room 3 _ := hr.mono (by decide)
    have hr4 : Room (3 + 1) _ := hr.mono (by decide)
    have hr6 : Room 6 _ := hr.mono (by decide)
    refine ⟨_, pss_cons (ps_for PassesOwn.never rfl (pi_list (pe_op op_cat (pe_lst (pa_cons (pe_c GC hr1 rfl (pa_cons (pv 0) (pa_cons pe_int pa_nil))) pa_nil)) (pe_slice (r := rSlL K) sl_list (pv 0) (po_some pe_int) (po_some pe_int)))) (pg_name (i := 1) nd rfl (Or.inl rfl))
        (pss_cons (ps_set (i := 2) nd rfl (Or.inl rfl) (pe_c GO hr1 rfl (pa_cons (pv 1) pa_nil)))
        (pss_cons (ps_set (i := 3) nd rfl (Or.inl rfl) (pe_op op_add pe_int (pe_c GN hr1 rfl (pa_cons (pv 2) (pa_cons (pe_c G1 hr2 rfl (pa_cons (pv 2) (pa_cons (pe_lst (pa_cons pe_int (pa_cons pe_int (pa_cons (pe_op op_pow pe_int pe_int) pa_nil)))) pa_nil))) pa_nil)))))
        (pss_cons (ps_set (i := 4) nd rfl (Or.inl rfl) (pe_c GN hr1 rfl (pa_cons (pv 2) (pa_cons (pe_c G1 hr2 rfl (pa_cons (pv 2) (pa_cons (pe_lst (pa_cons pe_int (pa_cons pe_int (pa_cons (pe_op op_pow pe_int pe_int) pa_nil)))) pa_nil))) pa_nil))))
        (pss_cons (ps_set (i := 5) nd rfl (Or.inl rfl) (pe_c GP hr3 rfl (pa_cons (pv 2) (pa_cons pe_int (pa_cons (pe_op op_pow pe_int pe_int) (pa_cons (pe_op op_pow pe_int pe_int) pa_nil))))))
        (pss_cons (ps_set (i := 6) nd rfl (Or.inl rfl) (pe_callTy call_list_of (by rfl) T2.list (by decide +kernel) (pa_cons (pv 5) pa_nil)))
        (pss_cons (ps_set (i := 7) nd rfl (Or.inr rfl) (pe_row1 T T2 M hr6 rfl (pa_cons (pv 6) (pa_cons (pv 3) pa_nil)) (pk_cons (pv 4) pk_nil)))
        (pss_cons (ps_expr (pe_bm PySem.F.plainAttrs_list PySem.F.slot_list_append PySem.F.type_list_append mt_appN (pv 6) (pa_cons (pe_tup (pa_cons pe_int (pa_cons pe_int (pa_cons pe_int pa_nil)))) pa_nil)))
        (pss_cons (ps_expr (pe_bm PySem.F.plainAttrs_list PySem.F.slot_list_append PySem.F.type_list_append mt_appN (ML.p_m0 T2.cl hr1 (pv 7)) (pa_cons pe_non pa_nil)))
        (pss_cons (ps_if (pt_cmpR (op_neD hr.units) (pe_tup (pa_cons (ML.p_m0 T2.cl hr1 (pv 7)) (pa_cons (MS.p_m0 T2.cl hr1 (pv 7)) (pa_cons (MP.p_m0 T2.cl hr1 (pv 7)) pa_nil)))) (pe_tup (pa_cons (pv 5) (pa_cons (pv 3) (pa_cons (pv 4) pa_nil)))) (nomark _)) (pss_one (ps_ret pe_bl)) pss_nil)
        (pss_cons (ps_if (PW.pt (pw_or (pt_cmpR op_ne (pe_callB (MN.c_len hr2) (by rfl) T1.len PySem.boot_len (pa_cons (pv 7) pa_nil)) (pe_callB call_len_seq (by rfl) T1.len PySem.boot_len (pa_cons (pv 5) pa_nil)) (nomark _))
            (pw_or1 (pt_cmpR (op_neD hr.units) (pe_lc (own := [("_law_k", 8)]) (g := gName 8) (tt := tYes) rfl nd (pi_range1 rfl T4.range (pa_cons (pe_callB call_len_seq (by rfl) T1.len PySem.boot_len (pa_cons (pv 5) pa_nil)) pa_nil)) (blkOk_by (own := [("_law_k", 8)]) (N := NLaw) (sc := defScope st_law) (by decide +kernel)) (fun _ _ _ _ _ => pg_name (i := 8) nd rfl (Or.inl rfl)) (fun _ _ _ _ _ => pts_nil) (fun _ _ _ _ _ => MG.p_ix hr4 (pv 7) (pv 8))) (pv 5) (nomark _))))) (pss_one (ps_ret pe_bl)) pss_nil)
        (pss_cons (ps_if (pt_cmpR (ME.op_ne hr2 M.om T6.ne) (pe_row3 T T2 M hr6 rfl (pk_cons (pv 4) (pk_cons (pv 3) (pk_cons (pv 5) pk_nil)))) (pv 7) (nomark _)) (pss_one (ps_ret pe_bl)) pss_nil)
        (pss_cons (ps_if (pt_not (pt_val (pe_c GT hr4 rfl (pa_cons (pv 2) (pa_cons (pv 7) (pa_cons (pv 4) (pa_cons (pv 3) pa_nil))))))) (pss_one (ps_ret pe_bl)) pss_nil)
        (pss_cons (ps_if (pt_cmpR (op_neD hr.units) (pe_lc (own := [("_law_odd", 9)]) (g := gName 9) rfl nd (pi_list (pe_lst (pa_cons pe_non (pa_cons (pe_un un_neg pe_int) (pa_cons pe_bl (pa_cons pe_str (pa_cons (pe_op op_sub pe_int (pv 3)) (pa_cons (pe_lst (pa_cons (pv 4) pa_nil)) (pa_cons (pe_tup (pa_cons (pv 4) pa_nil)) (pa_cons pe_dnewK pa_nil)))))))))) (blkOk_by (own := [("_law_odd", 9)]) (N := NLaw) (sc := defScope st_law) (by decide +kernel)) (fun _ _ _ _ _ => pg_name (i := 9) nd rfl (Or.inl rfl))
            (fun _ _ _ _ _ => pts_one (pt_cmpR (MC.op_in hr3) (pv 9) (pv 7) rfl)) (fun _ _ _ _ _ => pe_int)) (pe_lst pa_nil) (nomark _)) (pss_one (ps_ret pe_bl)) pss_nil)
        (pss_one (ps_if (pt_not (pt_val (pe_c GU hr rfl (pa_cons (pv 7) (pa_cons (pv 5) (pa_cons (pv 3) (pa_cons (pv 4) pa_nil))))))) (pss_one (ps_ret pe_bl)) pss_nil))))))))))))))))
      (pss_one (ps_ret pe_bl)), ?_⟩
    -- [cell_at(script, 0)] + script[1:6]
    refine ⟨_, rfl, a, ns, 0, rfl, hS, Int.le_refl _, fun z => ⟨(by show 1 ≤ sizeLine; decide), fun l1 hl1 => ?_⟩⟩
    have z1 : Same H (upd H l1 (.lst [.int z])) := Same.upd hl1
    refine ⟨_, rfl, 1, rfl, 6, rfl, a, ns.map V.int, rfl, z1.seq hS, fun l2 hl2 => ?_⟩
    have z2 := z1.trans (Same.upd (o := .lst (cutV (ns.map V.int) (some 1) (some 6))) hl2)
    refine ⟨l1, l2, _, _, rfl, rfl, (Same.upd hl2) _ _ upd_same, upd_same, small2 (by have := cutV_length (ns.map V.int) (some 1) (some 6); rw [List.length_map] at this; show 1 + _ ≤ 10000; omega), fun l3 hl3 => ?_⟩
    have items : ∀ v ∈ [V.int z] ++ cutV (ns.map V.int) (some 1) (some 6), ∃ c, v = .int c := fun v hv => by
      rcases List.mem_append.mp hv with hv | hv
      · exact ⟨z, by simpa using hv⟩
      · obtain ⟨c, _, e⟩ := List.mem_map.mp (List.mem_of_mem_drop (List.mem_of_mem_take hv))
        exact ⟨c, e.symm⟩
    refine ⟨l3, rfl, ⟨_, SqL.of upd_same⟩, ?_⟩
    refine for_list (K := K) (a := l3) (xs := [V.int z] ++ cutV (ns.map V.int) (some 1) (some 6)) (fun i σ H2 => ∃ v1 v2 v3 v4 v5 v6 v7 : Option V, σ = [some (.ref a), v1, v2, v3, v4, v5, v6, v7, none, none] ∧ H2 l3 = some (.lst ([V.int z] ++ cutV (ns.map V.int) (some 1) (some 6))))
      ⟨none, none, none, none, none, none, none, rfl, upd_same⟩ (fun i σ H2 _ ⟨_, _, _, _, _, _, _, _, e⟩ => SqL.of e) ?_ ?_
    · rintro i v σ H0 hi ⟨v1, v2, v3, v4, v5, v6, v7, rfl, hL⟩
      obtain ⟨c, rfl⟩ := items v (List.mem_of_getElem? hi)
      -- the source
      refine ⟨_, rfl, c, rfl, fun s H1 hs0 y1 src1 => ?_⟩
      have nls : l3 ≠ s := ne_of_none hL hs0
      have hL1 := y1 _ _ hL
      -- pace
      refine draw_gen (P := P) (w := w) (mg := mg) (aO := aO) (aN := aN) (aE := aE) (aC := aC) (a := s) (n := 0) (ns := [1, 4, 10 ^ (28 : Int).toNat]) (hi := 10000000000000000000000000000) rfl src1 (by decide) (fun R h => ⟨_, _, rfl, rfl, ⟨by decide, by decide, by decide⟩, h⟩) (by simp) (by simp) (fun m hm => ?_) (by decide) fun pc H2 pc0 pc1 _ src2 k2 => ⟨_, _, rfl, rfl, ?_⟩
      · simp only [List.mem_cons, List.mem_nil_iff, or_false] at hm
        rcases hm with rfl | rfl | rfl <;> decide
      -- shift
      refine draw_gen (P := P) (w := w) (mg := mg) (aO := aO) (aN := aN) (aE := aE) (aC := aC) (a := s) (n := 2) (ns := [1, 9, 10 ^ (28 : Int).toNat]) (hi := 10000000000000000000000000000) rfl src2 (by decide) (fun R h => ⟨_, _, rfl, rfl, ⟨by decide, by decide, by decide⟩, h⟩) (by simp) (by simp) (fun m hm => ?_) (by decide) fun sh H3 sh0 sh1 _ src3 k3 => ?_
      · simp only [List.mem_cons, List.mem_nil_iff, or_false] at hm
        rcases hm with rfl | rfl | rfl <;> decide
      -- specs
      refine ⟨_, rfl, _, _, rfl, rfl, ⟨by decide, by decide, by decide⟩, _, _, rfl, rfl, ⟨by decide, by decide, by decide⟩, s, 6, _, _, 4, rfl, by decide, by decide, by decide, by decide, by decide, by decide, src3, by decide, fun l xs ts H4 hl4 hb4 ho4 hn4 src4 k4 hln => ?_⟩
      have eW : (10 : Int) ^ (20 : Int).toNat = 100000000000000000000 := by decide
      have eM : (10 : Int) ^ (12 : Int).toNat = 1000000000000 := by decide
      rw [eW, eM] at ho4
      have h6 : ts.length ≤ 6 := by omega
      have hL2 := k2 _ _ nls hL1
      have hL3 := k3 _ _ nls hL2
      have hL4 := k4 _ _ nls hL3
      have nL : l3 ≠ l := ne_of_none hL3 hln
      have nsl : l ≠ s := by
        obtain ⟨ya, hya⟩ := src3.has
        exact (ne_of_none hya hln).symm
      have hxl := hb4.len
      -- handed
      refine ⟨_, rfl, l, xs, rfl, .inl (SqL.of hl4), fun lh hlh => ?_⟩
      have y5 : Same H4 (upd H4 lh (.lst xs)) := Same.upd hlh
      -- lane
      refine ⟨_, rfl, _, rfl, _, rfl, rfl, rfl, row_made (xs := xs) (ts := ts) upd_same (hb4.nl (NL.of y5)) (fun t ht => okT_of (ho4 t ht)) (by omega) ⟨by omega, by omega, by omega, by omega⟩ fun p Tp H5 R5 y6 hp5 => ?_⟩
      have y56 := y5.trans y6
      refine ⟨_, rfl, .inl ⟨rfl, _, SqL.of (y6 _ _ upd_same)⟩, (by show 3 ≤ sizeLine; decide), fun t1 ht1 => ⟨lh, xs, _, rfl, rfl, (Same.upd ht1) _ _ (y6 _ _ upd_same), small1000 (by omega), fun H6 eH6 => ?_⟩⟩
      have nlh : ∀ b o, H4 b = some o → b ≠ lh := fun b o e => ne_of_none e hlh
      have y7 : Same H4 H6 := fun b o e => by
        rw [eH6, upd_ne (nlh b o e)]
        exact (Same.upd ht1) _ _ (y56 _ _ e)
      have nl7 : NL H5 H6 := by
        rw [eH6]
        exact (NL.of (Same.upd ht1)).trans (NL.upd ((Same.upd ht1) _ _ (y6 _ _ upd_same)))
      have K6 : Pkg C H6 s 1004 l p Tp xs ts (1 + pc) sh := ⟨src4.same y7, y7 _ _ hl4, R5.nl nl7⟩
      have hL6 := y7 _ _ hL4
      -- lane.breaker_list().append(None)
      obtain ⟨dp, hp6⟩ := K6.row.ob
      refine ⟨_, rfl, p, dp, _, rfl, hp6, rowF_no _ _ _ (by decide +kernel) (by decide +kernel) (by decide +kernel), p, Tp, xs, ts, _, _, rfl, K6.row, fun q H7 hq eH7 => ?_⟩
      subst eH7
      refine ⟨.inl ⟨rfl, _, SqL.of upd_same⟩, q, xs, .non, rfl, rfl, upd_same, small1000 (by omega), fun H8 eH8 => ?_⟩
      have y8 : Same H6 H8 := fun b o e => by
        have nb := ne_of_none e hq
        rw [eH8, upd_ne nb, upd_ne nb]
        exact e
      have K8 := K6.same y8
      have hL8 := y8 _ _ hL6
      clear eH6 eH8 y7 nl7 hlh ht1 y5 y6 y56 R5 hp6 hq
      -- the parts
      obtain ⟨dp, hp8⟩ := K8.row.ob
      refine ⟨_, rfl, p, dp, _, rfl, hp8, rowF_no _ _ _ (by decide +kernel) (by decide +kernel) (by decide +kernel), p, Tp, xs, ts, _, _, rfl, K8.row, fun q9 H9 hq9 eH9 => ?_⟩
      have y9 : Same H8 H9 := by rw [eH9]; exact Same.upd hq9
      have hq9' : H9 q9 = some (.lst xs) := by rw [eH9]; exact upd_same
      have K9 := K8.same y9
      obtain ⟨dp, hp9⟩ := K9.row.ob
      refine ⟨_, rfl, p, dp, _, rfl, hp9, rowF_no _ _ _ (by decide +kernel) (by decide +kernel) (by decide +kernel), p, Tp, xs, ts, _, _, rfl, K9.row, ?_⟩
      refine ⟨_, rfl, p, dp, _, rfl, hp9, rowF_no _ _ _ (by decide +kernel) (by decide +kernel) (by decide +kernel), p, Tp, xs, ts, _, _, rfl, K9.row, ?_⟩
      refine ⟨(by show 3 ≤ sizeLine; decide), fun ta hta => ?_⟩
      have y10 : Same H9 (upd H9 ta (.tup [.ref q9, .int (1 + pc), .int sh])) := Same.upd hta
      refine ⟨_, rfl, _, rfl, _, rfl, (by show 3 ≤ sizeLine; decide), fun tb htb => ?_⟩
      have y11 := y10.trans (Same.upd (o := .tup [.ref l, .int (1 + pc), .int sh]) htb)
      have K11 := K9.same y11
      have b11 : Brs (upd (upd H9 ta (.tup [.ref q9, .int (1 + pc), .int sh])) tb (.tup [.ref l, .int (1 + pc), .int sh])) xs ts := K11.row.br
      refine ⟨.tuple [.list (ts.map triD), .int (1 + pc), .int sh], .tuple [.list (ts.map triD), .int (1 + pc), .int sh], .tup (SqT.of ((Same.upd htb) _ _ upd_same)) (.cons (.lst (SqL.of (y11 _ _ hq9')) b11.dp) (.cons (.int _) (.cons (.int _) .nil))),
        .tup (SqT.of upd_same) (.cons (.lst (SqL.of K11.li) b11.dp) (.cons (.int _) (.cons (.int _) .nil))), shT3 _ _ _, shT3 _ _ _, _, rfl, ?_⟩
      rw [eqT3]
      refine iteF ?_
      have hL11 := y11 _ _ (y9 _ _ hL8)
      generalize upd (upd H9 ta (.tup [.ref q9, .int (1 + pc), .int sh])) tb (.tup [.ref l, .int (1 + pc), .int sh]) = H12 at K11 hL11 b11
      -- len and items
      obtain ⟨dp, hp12⟩ := K11.row.ob
      refine ⟨_, rfl, p, dp, _, rfl, hp12, p, Tp, xs, ts, _, _, rfl, K11.row, _, rfl, by omega, by omega, _, rfl, l, xs, rfl, .inl (SqL.of K11.li), rfl, _, rfl, iteNS rfl ?_⟩
      refine ⟨_, rfl, l, xs, rfl, .inl (SqL.of K11.li), _, rfl, by omega, by omega, fun D hD => ?_⟩
      refine lc_range (lo := 0) (n := ((xs.length : Nat) : Int).toNat) (fun j H3 => H3 D = some (.lst (xs.take j)) ∧ Same H12 H3) ⟨upd_same, Same.upd hD⟩ ?_ ?_
      · rintro j H13 hj ⟨hD13, y13⟩
        have hj' : j < xs.length := by omega
        obtain ⟨dp, hp13⟩ := (K11.same y13).row.ob
        refine ⟨rfl, tYes_of ?_⟩
        refine ⟨_, rfl, _, rfl, p, dp, _, rfl, hp13, p, Tp, xs, ts, _, _, _, xs[j], rfl, (K11.same y13).row, by omega, ?_, by omega, ?_⟩
        · have e0 : (0 : Int) + (j : Int) = ((j : Nat) : Int) := by omega
          rw [e0]
          exact atI_nat (List.getElem?_eq_getElem hj')
        · refine ⟨_, hD13, small1000 (by rw [List.length_take]; omega), ?_, fun b o e => ?_⟩
          · rw [upd_same, List.take_add_one, List.getElem?_eq_getElem hj']
            rfl
          · rw [upd_ne (ne_of_none e hD)]
            exact y13 _ _ e
      · rintro H13 ⟨hD13, y13⟩
        have K13 := K11.same y13
        have hL13 := y13 _ _ hL11
        have b13 : Brs H13 xs ts := K13.row.br
        rw [List.take_of_length_le (by omega)] at hD13
        refine ⟨_, rfl, .list (ts.map triD), .list (ts.map triD), .lst (SqL.of hD13) b13.dp, .lst (SqL.of K13.li) b13.dp, shL _, shL _, _, rfl, ?_⟩
        rw [eqL]
        refine iteF ?_
        -- the same row by keywords
        refine ⟨_, rfl, _, rfl, _, rfl, rfl, rfl, row_made (xs := xs) (ts := ts) K13.li b13 K13.row.ok K13.row.ln ⟨K13.row.s0, K13.row.s1, K13.row.p0, K13.row.p1⟩ fun p2 T2' H14 R14 y14 hp14 => ?_⟩
        have K14 := K13.same y14
        have hL14 := y14 _ _ hL13
        refine ⟨_, rfl, ne_row R14 (.row K14.row) ⟨_, rfl, ?_⟩⟩
        rw [decide_eq_true (rfl : ((ts, 1 + pc, sh) : RDat) = (ts, 1 + pc, sh))]
        refine iteF ?_
        -- times_right
        refine ⟨_, rfl, _, rfl, _, rfl, _, rfl, s, p, Tp, xs, ts, _, _, _, rfl, K14.src, by decide, K14.row, fun H15 src15 k15 => ⟨_, rfl, iteF ?_⟩⟩
        have K15 := K14.kp k15 src15 nsl
        have hL15 := k15 _ _ nls hL14
        -- odd things
        refine ⟨_, rfl, _, rfl, _, _, rfl, rfl, _, rfl, (by show 1 ≤ sizeLine; decide), fun q1 hq1 => ⟨_, rfl, (by show 1 ≤ sizeLine; decide), fun q2 hq2 d hd => ⟨(by show 8 ≤ sizeLine; decide), fun q3 hq3 => ?_⟩⟩⟩
        have a1 := Same.upd (o := .lst [.int sh]) hq1
        have a2 := Same.upd (o := .tup [.int sh]) hq2
        have a3 := Same.upd (o := .dK []) hd
        have a4 := Same.upd (o := .lst [.non, .int (-1), .bl true, .str "0", .int (0 - (1 + pc)), .ref q1, .ref q2, .ref d]) hq3
        have a14 := ((a1.trans a2).trans a3).trans a4
        have K16 := K15.same a14
        have hL16 := a14 _ _ hL15
        have e1 := a4 _ _ (a3 _ _ (a2 _ _ (upd_same : (upd H15 q1 (.lst [.int sh])) q1 = some (.lst [.int sh]))))
        have e2 := a4 _ _ (a3 _ _ (upd_same : (upd (upd H15 q1 (.lst [.int sh])) q2 (.tup [.int sh])) q2 = some (.tup [.int sh])))
        have e3 := a4 _ _ (upd_same : (upd (upd (upd H15 q1 (.lst [.int sh])) q2 (.tup [.int sh])) d (.dK [])) d = some (.dK []))
        refine ⟨q3, rfl, ⟨_, SqL.of upd_same⟩, fun D hD => ?_⟩
        have all : ∀ x ∈ ([.non, .int (-1), .bl true, .str "0", .int (0 - (1 + pc)), .ref q1, .ref q2, .ref d] : List V), (∃ n, Kd (upd (upd (upd (upd H15 q1 (.lst [.int sh])) q2 (.tup [.int sh])) d (.dK [])) q3 (.lst [.non, .int (-1), .bl true, .str "0", .int (0 - (1 + pc)), .ref q1, .ref q2, .ref d])) x n) ∧
            (isI x && (decide (sh ≤ toI x) && decide ((toI x - sh) % (1 + pc) = 0))) = false := fun x hx => by
          simp only [List.mem_cons, List.mem_nil_iff, or_false] at hx
          rcases hx with rfl | rfl | rfl | rfl | rfl | rfl | rfl | rfl
          · exact ⟨⟨_, .non⟩, rfl⟩
          · refine ⟨⟨_, .int _⟩, ?_⟩
            have e : decide (sh ≤ toI (V.int (-1))) = false := decide_eq_false (show ¬ sh ≤ -1 by omega)
            rw [e, Bool.false_and, Bool.and_false]
          · exact ⟨⟨_, .bl _⟩, rfl⟩
          · exact ⟨⟨_, .str _⟩, rfl⟩
          · refine ⟨⟨_, .int _⟩, ?_⟩
            have e : decide (sh ≤ toI (V.int (0 - (1 + pc)))) = false := decide_eq_false (show ¬ sh ≤ 0 - (1 + pc) by omega)
            rw [e, Bool.false_and, Bool.and_false]
          · exact ⟨⟨_, .lst e1⟩, rfl⟩
          · exact ⟨⟨_, .tup e2⟩, rfl⟩
          · exact ⟨⟨_, .dK e3⟩, rfl⟩
        have hq3' := (upd_same : (upd (upd (upd (upd H15 q1 (.lst [.int sh])) q2 (.tup [.int sh])) d (.dK [])) q3 (.lst [.non, .int (-1), .bl true, .str "0", .int (0 - (1 + pc)), .ref q1, .ref q2, .ref d])) q3 = some (.lst [.non, .int (-1), .bl true, .str "0", .int (0 - (1 + pc)), .ref q1, .ref q2, .ref d]))
        clear a1 a2 a3 a4 a14 e1 e2 e3 hq3 hd hq2 hq1
        generalize upd (upd (upd (upd H15 q1 (.lst [.int sh])) q2 (.tup [.int sh])) d (.dK [])) q3 (.lst [.non, .int (-1), .bl true, .str "0", .int (0 - (1 + pc)), .ref q1, .ref q2, .ref d]) = H16 at *
        refine lc_list (K := K) (a := q3) (xs := [.non, .int (-1), .bl true, .str "0", .int (0 - (1 + pc)), .ref q1, .ref q2, .ref d]) (fun j H3 => H3 = upd H16 D (.lst [])) rfl (fun j H3 _ e => by rw [e]; exact SqL.of ((Same.upd hD) _ _ hq3')) ?_ ?_
        · rintro j x H17 hx rfl
          obtain ⟨⟨n, hk⟩, hf⟩ := all x (List.mem_of_getElem? hx)
          have K17 := K16.same (Same.upd (o := .lst []) hD)
          obtain ⟨dp, hp17⟩ := K17.row.ob
          refine ⟨rfl, _, rfl, _, rfl, p, dp, _, rfl, hp17, p, Tp, xs, ts, _, _, x, n, rfl, K17.row, hk.same (fun b o _ e => (Same.upd hD) _ _ e), _, rfl, _, rfl, ?_⟩
          rw [hf]
          exact iteF rfl
        · rintro H17 rfl
          refine ⟨(by show 0 ≤ sizeLine; decide), fun l4 hl4' => ?_⟩
          have y17 := (Same.upd (o := .lst []) hD).trans (Same.upd (o := .lst []) hl4')
          refine ⟨.list [], .list [], .lst (SqL.of ((Same.upd hl4') _ _ upd_same)) .nil, .lst (SqL.of upd_same) .nil, by decide +kernel, by decide +kernel, _, rfl, ?_⟩
          have e0 : PyData.eqv (.list []) (.list []) = true := by rw [PyData.eqv, PyData.eqvAll]
          rw [e0]
          refine iteF ?_
          have K18 := K16.same y17
          refine ⟨_, rfl, _, rfl, _, rfl, _, rfl, p, l, Tp, xs, xs, ts, _, _, rfl, K18.row, K18.li, K18.row.br, h6, ho4, by omega, by omega, fun H19 y19 => ⟨_, rfl, iteF ?_⟩⟩
          exact ⟨_, _, _, _, _, _, _, rfl, y19 _ _ (y17 _ _ hL16)⟩
    · rintro σ H2 ⟨v1, v2, v3, v4, v5, v6, v7, rfl, hL⟩
      exact k H2
end
/-! ### the end -/
theorem bn_I (kV doc pm : Value) (an : Option Addr) (cdv ct : Value) (us : List Value) (hl : us.length = (["value"] : List Str).length) : bindArgs (PySem.W.fnOf "is_integer" "is_integer" (defArgs st_is_integer) (defBody st_is_integer) (defScope st_is_integer) .none kV doc pm an cdv ct) ⟨us, []⟩ = pure ((["value"] : List Str).zip us) :=
  match us, hl with | [_], _ => rfl
theorem bn_L (kV doc pm : Value) (an : Option Addr) (cdv ct : Value) (us : List Value) (hl : us.length = (["value", "least"] : List Str).length) : bindArgs (PySem.W.fnOf "is_at_least" "is_at_least" (defArgs st_is_at_least) (defBody st_is_at_least) (defScope st_is_at_least) .none kV doc pm an cdv ct) ⟨us, []⟩ = pure ((["value", "least"] : List Str).zip us) :=
  match us, hl with | [_, _], _ => rfl
theorem bn_W (kV doc pm : Value) (an : Option Addr) (cdv ct : Value) (us : List Value) (hl : us.length = (["value", "least", "most"] : List Str).length) : bindArgs (PySem.W.fnOf "is_within" "is_within" (defArgs st_is_within) (defBody st_is_within) (defScope st_is_within) .none kV doc pm an cdv ct) ⟨us, []⟩ = pure ((["value", "least", "most"] : List Str).zip us) :=
  match us, hl with | [_, _, _], _ => rfl
theorem bn_S (kV doc pm : Value) (an : Option Addr) (cdv ct : Value) (us : List Value) (hl : us.length = (["distance", "step"] : List Str).length) : bindArgs (PySem.W.fnOf "steps_to" "steps_to" (defArgs st_steps_to) (defBody st_steps_to) (defScope st_steps_to) .none kV doc pm an cdv ct) ⟨us, []⟩ = pure ((["distance", "step"] : List Str).zip us) :=
  match us, hl with | [_, _], _ => rfl
theorem bn_B (kV doc pm : Value) (an : Option Addr) (cdv ct : Value) (us : List Value) (hl : us.length = (["value"] : List Str).length) : bindArgs (PySem.W.fnOf "is_breaker" "is_breaker" (defArgs st_is_breaker) (defBody st_is_breaker) (defScope st_is_breaker) .none kV doc pm an cdv ct) ⟨us, []⟩ = pure ((["value"] : List Str).zip us) :=
  match us, hl with | [_], _ => rfl
theorem bn_K (kV doc pm : Value) (an : Option Addr) (cdv ct : Value) (us : List Value) (hl : us.length = (["breakers", "part"] : List Str).length) : bindArgs (PySem.W.fnOf "check_breakers" "check_breakers" (defArgs st_check_breakers) (defBody st_check_breakers) (defScope st_check_breakers) .none kV doc pm an cdv ct) ⟨us, []⟩ = pure ((["breakers", "part"] : List Str).zip us) :=
  match us, hl with | [_, _], _ => rfl
theorem bn_KS (kV doc pm : Value) (an : Option Addr) (cdv ct : Value) (us : List Value) (hl : us.length = (["step"] : List Str).length) : bindArgs (PySem.W.fnOf "check_step" "check_step" (defArgs st_check_step) (defBody st_check_step) (defScope st_check_step) .none kV doc pm an cdv ct) ⟨us, []⟩ = pure ((["step"] : List Str).zip us) :=
  match us, hl with | [_], _ => rfl
theorem bn_R (kV doc pm : Value) (an : Option Addr) (cdv ct : Value) (us : List Value) (hl : us.length = (["row", "number"] : List Str).length) : bindArgs (PySem.W.fnOf "request_time" "request_time" (defArgs st_request_time) (defBody st_request_time) (defScope st_request_time) .none kV doc pm an cdv ct) ⟨us, []⟩ = pure ((["row", "number"] : List Str).zip us) :=
  match us, hl with | [_, _], _ => rfl
theorem bn_F (kV doc pm : Value) (an : Option Addr) (cdv ct : Value) (us : List Value) (hl : us.length = (["row", "time"] : List Str).length) : bindArgs (PySem.W.fnOf "first_request" "first_request" (defArgs st_first_request) (defBody st_first_request) (defScope st_first_request) .none kV doc pm an cdv ct) ⟨us, []⟩ = pure ((["row", "time"] : List Str).zip us) :=
  match us, hl with | [_, _], _ => rfl
theorem bn_O (kV doc pm : Value) (an : Option Addr) (cdv ct : Value) (us : List Value) (hl : us.length = (["_law_cell"] : List Str).length) : bindArgs (PySem.W.fnOf "_law_source_of" "_law_source_of" (defArgs st__law_source_of) (defBody st__law_source_of) (defScope st__law_source_of) .none kV doc pm an cdv ct) ⟨us, []⟩ = pure ((["_law_cell"] : List Str).zip us) :=
  match us, hl with | [_], _ => rfl
theorem bn_N (kV doc pm : Value) (an : Option Addr) (cdv ct : Value) (us : List Value) (hl : us.length = (["_law_source", "_law_many"] : List Str).length) : bindArgs (PySem.W.fnOf "_law_next" "_law_next" (defArgs st__law_next) (defBody st__law_next) (defScope st__law_next) .none kV doc pm an cdv ct) ⟨us, []⟩ = pure ((["_law_source", "_law_many"] : List Str).zip us) :=
  match us, hl with | [_, _], _ => rfl
theorem bn_E (kV doc pm : Value) (an : Option Addr) (cdv ct : Value) (us : List Value) (hl : us.length = (["_law_source", "_law_options"] : List Str).length) : bindArgs (PySem.W.fnOf "_law_one" "_law_one" (defArgs st__law_one) (defBody st__law_one) (defScope st__law_one) .none kV doc pm an cdv ct) ⟨us, []⟩ = pure ((["_law_source", "_law_options"] : List Str).zip us) :=
  match us, hl with | [_, _], _ => rfl
theorem bn_C (kV doc pm : Value) (an : Option Addr) (cdv ct : Value) (us : List Value) (hl : us.length = (["_law_script", "_law_k"] : List Str).length) : bindArgs (PySem.W.fnOf "_law_cell_at" "_law_cell_at" (defArgs st__law_cell_at) (defBody st__law_cell_at) (defScope st__law_cell_at) .none kV doc pm an cdv ct) ⟨us, []⟩ = pure ((["_law_script", "_law_k"] : List Str).zip us) :=
  match us, hl with | [_, _], _ => rfl
theorem bn_P (kV doc pm : Value) (an : Option Addr) (cdv ct : Value) (us : List Value) (hl : us.length = (["_law_source", "_law_most", "_law_wide", "_law_many"] : List Str).length) : bindArgs (PySem.W.fnOf "_law_specs" "_law_specs" (defArgs st__law_specs) (defBody st__law_specs) (defScope st__law_specs) .none kV doc pm an cdv ct) ⟨us, []⟩ = pure ((["_law_source", "_law_most", "_law_wide", "_law_many"] : List Str).zip us) :=
  match us, hl with | [_, _, _, _], _ => rfl
theorem bn_T (kV doc pm : Value) (an : Option Addr) (cdv ct : Value) (us : List Value) (hl : us.length = (["_law_source", "_law_lane", "_law_shift", "_law_pace"] : List Str).length) : bindArgs (PySem.W.fnOf "_law_times_right" "_law_times_right" (defArgs st__law_times_right) (defBody st__law_times_right) (defScope st__law_times_right) .none kV doc pm an cdv ct) ⟨us, []⟩ = pure ((["_law_source", "_law_lane", "_law_shift", "_law_pace"] : List Str).zip us) :=
  match us, hl with | [_, _, _, _], _ => rfl
theorem bn_U (kV doc pm : Value) (an : Option Addr) (cdv ct : Value) (us : List Value) (hl : us.length = (["_law_lane", "_law_specs_here", "_law_pace", "_law_shift"] : List Str).length) : bindArgs (PySem.W.fnOf "_law_others_right" "_law_others_right" (defArgs st__law_others_right) (defBody st__law_others_right) (defScope st__law_others_right) .none kV doc pm an cdv ct) ⟨us, []⟩ = pure ((["_law_lane", "_law_specs_here", "_law_pace", "_law_shift"] : List Str).zip us) :=
  match us, hl with | [_, _, _, _], _ => rfl
theorem bn_mL (kV doc pm : Value) (an : Option Addr) (cdv ct : Value) (us : List Value) (hl : us.length = (["self"] : List Str).length) : bindArgs (PySem.W.fnOf "breaker_list" "Row.breaker_list" (defArgs st_Row_breaker_list) (defBody st_Row_breaker_list) (defScope st_Row_breaker_list) .none kV doc pm an cdv ct) ⟨us, []⟩ = pure ((["self"] : List Str).zip us) :=
  match us, hl with | [_], _ => rfl
theorem bn_mS (kV doc pm : Value) (an : Option Addr) (cdv ct : Value) (us : List Value) (hl : us.length = (["self"] : List Str).length) : bindArgs (PySem.W.fnOf "step_length" "Row.step_length" (defArgs st_Row_step_length) (defBody st_Row_step_length) (defScope st_Row_step_length) .none kV doc pm an cdv ct) ⟨us, []⟩ = pure ((["self"] : List Str).zip us) :=
  match us, hl with | [_], _ => rfl
theorem bn_mP (kV doc pm : Value) (an : Option Addr) (cdv ct : Value) (us : List Value) (hl : us.length = (["self"] : List Str).length) : bindArgs (PySem.W.fnOf "phase_time" "Row.phase_time" (defArgs st_Row_phase_time) (defBody st_Row_phase_time) (defScope st_Row_phase_time) .none kV doc pm an cdv ct) ⟨us, []⟩ = pure ((["self"] : List Str).zip us) :=
  match us, hl with | [_], _ => rfl
theorem bn_mN (kV doc pm : Value) (an : Option Addr) (cdv ct : Value) (us : List Value) (hl : us.length = (["self"] : List Str).length) : bindArgs (PySem.W.fnOf "__len__" "Row.__len__" (defArgs st_Row_len) (defBody st_Row_len) (defScope st_Row_len) .none kV doc pm an cdv ct) ⟨us, []⟩ = pure ((["self"] : List Str).zip us) :=
  match us, hl with | [_], _ => rfl
theorem bn_mG (kV doc pm : Value) (an : Option Addr) (cdv ct : Value) (us : List Value) (hl : us.length = (["self", "at"] : List Str).length) : bindArgs (PySem.W.fnOf "__getitem__" "Row.__getitem__" (defArgs st_Row_getitem) (defBody st_Row_getitem) (defScope st_Row_getitem) .none kV doc pm an cdv ct) ⟨us, []⟩ = pure ((["self", "at"] : List Str).zip us) :=
  match us, hl with | [_, _], _ => rfl
theorem bn_mC (kV doc pm : Value) (an : Option Addr) (cdv ct : Value) (us : List Value) (hl : us.length = (["self", "x"] : List Str).length) : bindArgs (PySem.W.fnOf "__contains__" "Row.__contains__" (defArgs st_Row_contains) (defBody st_Row_contains) (defScope st_Row_contains) .none kV doc pm an cdv ct) ⟨us, []⟩ = pure ((["self", "x"] : List Str).zip us) :=
  match us, hl with | [_, _], _ => rfl
theorem bn_mA (kV doc pm : Value) (an : Option Addr) (cdv ct : Value) (us : List Value) (hl : us.length = (["self", "other"] : List Str).length) : bindArgs (PySem.W.fnOf "__add__" "Row.__add__" (defArgs st_Row_add) (defBody st_Row_add) (defScope st_Row_add) .none kV doc pm an cdv ct) ⟨us, []⟩ = pure ((["self", "other"] : List Str).zip us) :=
  match us, hl with | [_, _], _ => rfl
theorem bn_mE (kV doc pm : Value) (an : Option Addr) (cdv ct : Value) (us : List Value) (hl : us.length = (["self", "other"] : List Str).length) : bindArgs (PySem.W.fnOf "__eq__" "Row.__eq__" (defArgs st_Row_eq) (defBody st_Row_eq) (defScope st_Row_eq) .none kV doc pm an cdv ct) ⟨us, []⟩ = pure ((["self", "other"] : List Str).zip us) :=
  match us, hl with | [_, _], _ => rfl
theorem mk_dfn {K : PySem.W.Frag} {h : Heap} {mg : Str → Option Value} {x : Str} {st : Stmt} {f : Addr} {ps : List Str} {oc : Value} {od an : Option Addr} {sl : Array (Option Value)} {kV dc pm cd ct : Value} (X : K.In h) (G : h.Ns mainGlobals mg) (a : PySem.W.nsIn K mainGlobals x = some (some (.ref f)))
    (l : K.lookup f = some ⟨oc, od, .func (PySem.W.fnOf x x (defArgs st) (defBody st) (defScope st) .none kV dc pm an cd ct), sl⟩) (c : PySem.W.codeIn K cd x = true) (k : PySem.W.keepIn K (.ref f) = true)
    (hb : ∀ (kV doc pm : Value) (an : Option Addr) (cdv ct : Value) (us : List Value), us.length = ps.length → bindArgs (PySem.W.fnOf x x (defArgs st) (defBody st) (defScope st) .none kV doc pm an cdv ct) ⟨us, []⟩ = pure (ps.zip us)) : Dfn K mg x st f ps :=
  ⟨⟨_, fun_mk l c k, (fun_mk l c k).binds hb⟩, PySem.W.mg_of X G a⟩
theorem mk_mth {K : PySem.W.Frag} {C : Addr} {x q : Str} {st : Stmt} {f : Addr} {ps : List Str} {oc : Value} {od an : Option Addr} {sl : Array (Option Value)} {kV dc pm cd ct : Value} (a : PySem.W.findIn K (.ref C) x = some (some (.ref f))) (i : PySem.W.isFn K (.ref f) = true) (fk : PySem.W.fnIn K f = true)
    (l : K.lookup f = some ⟨oc, od, .func (PySem.W.fnOf x q (defArgs st) (defBody st) (defScope st) .none kV dc pm an cd ct), sl⟩) (c : PySem.W.codeIn K cd q = true) (k : PySem.W.keepIn K (.ref f) = true)
    (hb : ∀ (kV doc pm : Value) (an : Option Addr) (cdv ct : Value) (us : List Value), us.length = ps.length → bindArgs (PySem.W.fnOf x q (defArgs st) (defBody st) (defScope st) .none kV doc pm an cdv ct) ⟨us, []⟩ = pure (ps.zip us)) : Mth K C x q st f ps :=
  ⟨⟨_, fun_mk l c k, (fun_mk l c k).binds hb⟩, a, i, fk⟩
set_option maxHeartbeats 16000000 in
theorem all_mk {P : Program} {w : World} {K : PySem.W.Frag} {h : Heap} {mg : Str → Option Value} {lv : List (Str × PySem.W.WData)} {fa C aX aLaw aD fI fL fW fS fB fK fKS fR fF fO fN fE fC fP fT fU fmL fmS fmP fmN fmG fmC fmA fmE : Addr} {tB tZ : Tok} {odI anI odL anL odW anW odS anS odB anB odK anK odKS anKS odR anR odF anF odO anO odN anN odE anE odC anC odP anP odT anT odU anU odmL anmL odmS anmS odmP anmP odmN anmN odmG anmG odmC anmC odmA anmA odmE anmE odY anY odZ anZ : Option Addr} {slI slL slW slS slB slK slKS slR slF slO slN slE slC slP slT slU slmL slmS slmP slmN slmG slmC slmA slmE slY slZ : Array (Option Value)} {ocI kVI dcI pmI cdI ctI ocL kVL dcL pmL cdL ctL ocW kVW dcW pmW cdW ctW ocS kVS dcS pmS cdS ctS ocB kVB dcB pmB cdB ctB ocK kVK dcK pmK cdK ctK ocKS kVKS dcKS pmKS cdKS ctKS ocR kVR dcR pmR cdR ctR ocF kVF dcF pmF cdF ctF ocO kVO dcO pmO cdO ctO ocN kVN dcN pmN cdN ctN ocE kVE dcE pmE cdE ctE ocC kVC dcC pmC cdC ctC ocP kVP dcP pmP cdP ctP ocT kVT dcT pmT cdT ctT ocU kVU dcU pmU cdU ctU ocmL kVmL dcmL pmmL cdmL ctmL ocmS kVmS dcmS pmmS cdmS ctmS ocmP kVmP dcmP pmmP cdmP ctmP ocmN kVmN dcmN pmmN cdmN ctmN ocmG kVmG dcmG pmmG cdmG ctmG ocmC kVmC dcmC pmmC cdmC ctmC ocmA kVmA dcmA pmmA cdmA ctmA ocmE kVmE dcmE pmmE cdmE ctmE ocY kVY dcY pmY cdY ctY ocZ dcZ pmZ cdZ ctZ : Value}
    (X : K.In h) (G : h.Ns mainGlobals mg) (L : PySem.W.LooseAre lv mg h) (hC : (("MOST_COUNT" : Str), PySem.W.WData.int 1000000000000) ∈ lv) (hT : (("MOST_TIME" : Str), PySem.W.WData.int 1000000000000000000000000000000) ∈ lv) (hfa : mg "law" = some (.ref fa))
    (aCls : PySem.W.nsIn K mainGlobals "Row" = some (some (.ref C)))
    (aI : PySem.W.nsIn K mainGlobals "is_integer" = some (some (.ref fI)))
    (lI : K.lookup fI = some ⟨ocI, odI, .func (PySem.W.fnOf "is_integer" "is_integer" (defArgs st_is_integer) (defBody st_is_integer) (defScope st_is_integer) .none kVI dcI pmI anI cdI ctI), slI⟩)
    (cI : PySem.W.codeIn K cdI "is_integer" = true)
    (kI : PySem.W.keepIn K (.ref fI) = true)
    (aL : PySem.W.nsIn K mainGlobals "is_at_least" = some (some (.ref fL)))
    (lL : K.lookup fL = some ⟨ocL, odL, .func (PySem.W.fnOf "is_at_least" "is_at_least" (defArgs st_is_at_least) (defBody st_is_at_least) (defScope st_is_at_least) .none kVL dcL pmL anL cdL ctL), slL⟩)
    (cL : PySem.W.codeIn K cdL "is_at_least" = true)
    (kL : PySem.W.keepIn K (.ref fL) = true)
    (aW : PySem.W.nsIn K mainGlobals "is_within" = some (some (.ref fW)))
    (lW : K.lookup fW = some ⟨ocW, odW, .func (PySem.W.fnOf "is_within" "is_within" (defArgs st_is_within) (defBody st_is_within) (defScope st_is_within) .none kVW dcW pmW anW cdW ctW), slW⟩)
    (cW : PySem.W.codeIn K cdW "is_within" = true)
    (kW : PySem.W.keepIn K (.ref fW) = true)
    (aS : PySem.W.nsIn K mainGlobals "steps_to" = some (some (.ref fS)))
    (lS : K.lookup fS = some ⟨ocS, odS, .func (PySem.W.fnOf "steps_to" "steps_to" (defArgs st_steps_to) (defBody st_steps_to) (defScope st_steps_to) .none kVS dcS pmS anS cdS ctS), slS⟩)
    (cS : PySem.W.codeIn K cdS "steps_to" = true)
    (kS : PySem.W.keepIn K (.ref fS) = true)
    (aB : PySem.W.nsIn K mainGlobals "is_breaker" = some (some (.ref fB)))
    (lB : K.lookup fB = some ⟨ocB, odB, .func (PySem.W.fnOf "is_breaker" "is_breaker" (defArgs st_is_breaker) (defBody st_is_breaker) (defScope st_is_breaker) .none kVB dcB pmB anB cdB ctB), slB⟩)
    (cB : PySem.W.codeIn K cdB "is_breaker" = true)
    (kB : PySem.W.keepIn K (.ref fB) = true)
    (aK : PySem.W.nsIn K mainGlobals "check_breakers" = some (some (.ref fK)))
    (lK : K.lookup fK = some ⟨ocK, odK, .func (PySem.W.fnOf "check_breakers" "check_breakers" (defArgs st_check_breakers) (defBody st_check_breakers) (defScope st_check_breakers) .none kVK dcK pmK anK cdK ctK), slK⟩)
    (cK : PySem.W.codeIn K cdK "check_breakers" = true)
    (kK : PySem.W.keepIn K (.ref fK) = true)
    (aKS : PySem.W.nsIn K mainGlobals "check_step" = some (some (.ref fKS)))
    (lKS : K.lookup fKS = some ⟨ocKS, odKS, .func (PySem.W.fnOf "check_step" "check_step" (defArgs st_check_step) (defBody st_check_step) (defScope st_check_step) .none kVKS dcKS pmKS anKS cdKS ctKS), slKS⟩)
    (cKS : PySem.W.codeIn K cdKS "check_step" = true)
    (kKS : PySem.W.keepIn K (.ref fKS) = true)
    (aR : PySem.W.nsIn K mainGlobals "request_time" = some (some (.ref fR)))
    (lR : K.lookup fR = some ⟨ocR, odR, .func (PySem.W.fnOf "request_time" "request_time" (defArgs st_request_time) (defBody st_request_time) (defScope st_request_time) .none kVR dcR pmR anR cdR ctR), slR⟩)
    (cR : PySem.W.codeIn K cdR "request_time" = true)
    (kR : PySem.W.keepIn K (.ref fR) = true)
    (aF : PySem.W.nsIn K mainGlobals "first_request" = some (some (.ref fF)))
    (lF : K.lookup fF = some ⟨ocF, odF, .func (PySem.W.fnOf "first_request" "first_request" (defArgs st_first_request) (defBody st_first_request) (defScope st_first_request) .none kVF dcF pmF anF cdF ctF), slF⟩)
    (cF : PySem.W.codeIn K cdF "first_request" = true)
    (kF : PySem.W.keepIn K (.ref fF) = true)
    (aO : PySem.W.nsIn K mainGlobals "_law_source_of" = some (some (.ref fO)))
    (lO : K.lookup fO = some ⟨ocO, odO, .func (PySem.W.fnOf "_law_source_of" "_law_source_of" (defArgs st__law_source_of) (defBody st__law_source_of) (defScope st__law_source_of) .none kVO dcO pmO anO cdO ctO), slO⟩)
    (cO : PySem.W.codeIn K cdO "_law_source_of" = true)
    (kO : PySem.W.keepIn K (.ref fO) = true)
    (aN : PySem.W.nsIn K mainGlobals "_law_next" = some (some (.ref fN)))
    (lN : K.lookup fN = some ⟨ocN, odN, .func (PySem.W.fnOf "_law_next" "_law_next" (defArgs st__law_next) (defBody st__law_next) (defScope st__law_next) .none kVN dcN pmN anN cdN ctN), slN⟩)
    (cN : PySem.W.codeIn K cdN "_law_next" = true)
    (kN : PySem.W.keepIn K (.ref fN) = true)
    (aE : PySem.W.nsIn K mainGlobals "_law_one" = some (some (.ref fE)))
    (lE : K.lookup fE = some ⟨ocE, odE, .func (PySem.W.fnOf "_law_one" "_law_one" (defArgs st__law_one) (defBody st__law_one) (defScope st__law_one) .none kVE dcE pmE anE cdE ctE), slE⟩)
    (cE : PySem.W.codeIn K cdE "_law_one" = true)
    (kE : PySem.W.keepIn K (.ref fE) = true)
    (aC : PySem.W.nsIn K mainGlobals "_law_cell_at" = some (some (.ref fC)))
    (lC : K.lookup fC = some ⟨ocC, odC, .func (PySem.W.fnOf "_law_cell_at" "_law_cell_at" (defArgs st__law_cell_at) (defBody st__law_cell_at) (defScope st__law_cell_at) .none kVC dcC pmC anC cdC ctC), slC⟩)
    (cC : PySem.W.codeIn K cdC "_law_cell_at" = true)
    (kC : PySem.W.keepIn K (.ref fC) = true)
    (aP : PySem.W.nsIn K mainGlobals "_law_specs" = some (some (.ref fP)))
    (lP : K.lookup fP = some ⟨ocP, odP, .func (PySem.W.fnOf "_law_specs" "_law_specs" (defArgs st__law_specs) (defBody st__law_specs) (defScope st__law_specs) .none kVP dcP pmP anP cdP ctP), slP⟩)
    (cP : PySem.W.codeIn K cdP "_law_specs" = true)
    (kP : PySem.W.keepIn K (.ref fP) = true)
    (aT : PySem.W.nsIn K mainGlobals "_law_times_right" = some (some (.ref fT)))
    (lT : K.lookup fT = some ⟨ocT, odT, .func (PySem.W.fnOf "_law_times_right" "_law_times_right" (defArgs st__law_times_right) (defBody st__law_times_right) (defScope st__law_times_right) .none kVT dcT pmT anT cdT ctT), slT⟩)
    (cT : PySem.W.codeIn K cdT "_law_times_right" = true)
    (kT : PySem.W.keepIn K (.ref fT) = true)
    (aU : PySem.W.nsIn K mainGlobals "_law_others_right" = some (some (.ref fU)))
    (lU : K.lookup fU = some ⟨ocU, odU, .func (PySem.W.fnOf "_law_others_right" "_law_others_right" (defArgs st__law_others_right) (defBody st__law_others_right) (defScope st__law_others_right) .none kVU dcU pmU anU cdU ctU), slU⟩)
    (cU : PySem.W.codeIn K cdU "_law_others_right" = true)
    (kU : PySem.W.keepIn K (.ref fU) = true)
    (amL : PySem.W.findIn K (.ref C) "breaker_list" = some (some (.ref fmL)))
    (imL : PySem.W.isFn K (.ref fmL) = true)
    (nmL : PySem.W.fnIn K fmL = true)
    (lmL : K.lookup fmL = some ⟨ocmL, odmL, .func (PySem.W.fnOf "breaker_list" "Row.breaker_list" (defArgs st_Row_breaker_list) (defBody st_Row_breaker_list) (defScope st_Row_breaker_list) .none kVmL dcmL pmmL anmL cdmL ctmL), slmL⟩)
    (cmL : PySem.W.codeIn K cdmL "Row.breaker_list" = true)
    (kmL : PySem.W.keepIn K (.ref fmL) = true)
    (amS : PySem.W.findIn K (.ref C) "step_length" = some (some (.ref fmS)))
    (imS : PySem.W.isFn K (.ref fmS) = true)
    (nmS : PySem.W.fnIn K fmS = true)
    (lmS : K.lookup fmS = some ⟨ocmS, odmS, .func (PySem.W.fnOf "step_length" "Row.step_length" (defArgs st_Row_step_length) (defBody st_Row_step_length) (defScope st_Row_step_length) .none kVmS dcmS pmmS anmS cdmS ctmS), slmS⟩)
    (cmS : PySem.W.codeIn K cdmS "Row.step_length" = true)
    (kmS : PySem.W.keepIn K (.ref fmS) = true)
    (amP : PySem.W.findIn K (.ref C) "phase_time" = some (some (.ref fmP)))
    (imP : PySem.W.isFn K (.ref fmP) = true)
    (nmP : PySem.W.fnIn K fmP = true)
    (lmP : K.lookup fmP = some ⟨ocmP, odmP, .func (PySem.W.fnOf "phase_time" "Row.phase_time" (defArgs st_Row_phase_time) (defBody st_Row_phase_time) (defScope st_Row_phase_time) .none kVmP dcmP pmmP anmP cdmP ctmP), slmP⟩)
    (cmP : PySem.W.codeIn K cdmP "Row.phase_time" = true)
    (kmP : PySem.W.keepIn K (.ref fmP) = true)
    (amN : PySem.W.findIn K (.ref C) "__len__" = some (some (.ref fmN)))
    (imN : PySem.W.isFn K (.ref fmN) = true)
    (nmN : PySem.W.fnIn K fmN = true)
    (lmN : K.lookup fmN = some ⟨ocmN, odmN, .func (PySem.W.fnOf "__len__" "Row.__len__" (defArgs st_Row_len) (defBody st_Row_len) (defScope st_Row_len) .none kVmN dcmN pmmN anmN cdmN ctmN), slmN⟩)
    (cmN : PySem.W.codeIn K cdmN "Row.__len__" = true)
    (kmN : PySem.W.keepIn K (.ref fmN) = true)
    (amG : PySem.W.findIn K (.ref C) "__getitem__" = some (some (.ref fmG)))
    (imG : PySem.W.isFn K (.ref fmG) = true)
    (nmG : PySem.W.fnIn K fmG = true)
    (lmG : K.lookup fmG = some ⟨ocmG, odmG, .func (PySem.W.fnOf "__getitem__" "Row.__getitem__" (defArgs st_Row_getitem) (defBody st_Row_getitem) (defScope st_Row_getitem) .none kVmG dcmG pmmG anmG cdmG ctmG), slmG⟩)
    (cmG : PySem.W.codeIn K cdmG "Row.__getitem__" = true)
    (kmG : PySem.W.keepIn K (.ref fmG) = true)
    (amC : PySem.W.findIn K (.ref C) "__contains__" = some (some (.ref fmC)))
    (imC : PySem.W.isFn K (.ref fmC) = true)
    (nmC : PySem.W.fnIn K fmC = true)
    (lmC : K.lookup fmC = some ⟨ocmC, odmC, .func (PySem.W.fnOf "__contains__" "Row.__contains__" (defArgs st_Row_contains) (defBody st_Row_contains) (defScope st_Row_contains) .none kVmC dcmC pmmC anmC cdmC ctmC), slmC⟩)
    (cmC : PySem.W.codeIn K cdmC "Row.__contains__" = true)
    (kmC : PySem.W.keepIn K (.ref fmC) = true)
    (amA : PySem.W.findIn K (.ref C) "__add__" = some (some (.ref fmA)))
    (imA : PySem.W.isFn K (.ref fmA) = true)
    (nmA : PySem.W.fnIn K fmA = true)
    (lmA : K.lookup fmA = some ⟨ocmA, odmA, .func (PySem.W.fnOf "__add__" "Row.__add__" (defArgs st_Row_add) (defBody st_Row_add) (defScope st_Row_add) .none kVmA dcmA pmmA anmA cdmA ctmA), slmA⟩)
    (cmA : PySem.W.codeIn K cdmA "Row.__add__" = true)
    (kmA : PySem.W.keepIn K (.ref fmA) = true)
    (amE : PySem.W.findIn K (.ref C) "__eq__" = some (some (.ref fmE)))
    (imE : PySem.W.isFn K (.ref fmE) = true)
    (nmE : PySem.W.fnIn K fmE = true)
    (lmE : K.lookup fmE = some ⟨ocmE, odmE, .func (PySem.W.fnOf "__eq__" "Row.__eq__" (defArgs st_Row_eq) (defBody st_Row_eq) (defScope st_Row_eq) .none kVmE dcmE pmmE anmE cdmE ctmE), slmE⟩)
    (cmE : PySem.W.codeIn K cdmE "Row.__eq__" = true)
    (kmE : PySem.W.keepIn K (.ref fmE) = true)
    (aZ : PySem.W.findIn K (.ref C) "__init__" = some (some (.ref aX)))
    (iZ : PySem.W.isFn K (.ref aX) = true)
    (lZ : K.lookup aX = some ⟨ocZ, odZ, .func (PySem.W.fnOf "__init__" "Row.__init__" (defArgs st_Row_init) (defBody st_Row_init) (defScope st_Row_init) .none (.ref aD) dcZ pmZ anZ cdZ ctZ), slZ⟩)
    (cZ : PySem.W.codeIn K cdZ "Row.__init__" = true)
    (kZ : PySem.W.keepIn K (.ref aX) = true)
    (dZ : PySem.W.nsIn K aD "phase" = some (some (.int 0 tZ)))
    (aY : PySem.W.nsIn K mainGlobals "law" = some (some (.ref aLaw)))
    (lY : K.lookup aLaw = some ⟨ocY, odY, .func (PySem.W.fnOf "law" "law" (defArgs st_law) (defBody st_law) (defScope st_law) .none kVY dcY pmY anY cdY ctY), slY⟩)
    (cY : PySem.W.codeIn K cdY "law" = true)
    (kY : PySem.W.keepIn K (.ref aLaw) = true)
    (g1 : PySem.W.plainGet K C Str.empty = true)
    (g2 : PySem.W.hasDictIn K C = true)
    (g3 : PySem.W.plainOver K C = true)
    (g4 : PySem.W.findIn K (.ref C) "__setattr__" = some (some (.builtin "object.__setattr__")))
    (g5 : PySem.W.makesIn K C = true)
    (g6 : PySem.W.keepIn K (.ref C) = true)
    (g7 : PySem.W.findIn K (.ref C) "breakers" = some none)
    (g8 : PySem.W.findIn K (.ref C) "step" = some none)
    (g9 : PySem.W.findIn K (.ref C) "phase" = some none)
    (g10 : PySem.W.isClsIn K C = true)
    (g11 : PySem.W.typeIn K (.ref C) = some (.type "type"))
    (g12 : PySem.W.findIn K (.ref C) "__class__" = some (some (.builtin "object.__class__")))
    (g13 : PySem.W.specialIn K (.builtin "object.__class__") "__get__" = some (some (.builtin "getset_descriptor.__get__")))
    (g14 : PySem.W.takesIn K (.builtin "object.__class__") = some true)
    (g15 : PySem.W.mroIn K C (.type "object") = some true)
    (g16 : PySem.W.selfFirst K C = true)
    (g17 : PySem.W.findIn K (.ref C) "__ne__" = some (some (.builtin "object.__ne__")))
    (gB : PySem.W.nsIn K mainGlobals "MOST_BREAKERS" = some (some (.int 12 tB)))
    (z_isinstance : PySem.W.nsIn K mainGlobals "isinstance" = some none)
    (z_int : PySem.W.nsIn K mainGlobals "int" = some none)
    (z_bool : PySem.W.nsIn K mainGlobals "bool" = some none)
    (z_max : PySem.W.nsIn K mainGlobals "max" = some none)
    (z_len : PySem.W.nsIn K mainGlobals "len" = some none)
    (z_list : PySem.W.nsIn K mainGlobals "list" = some none)
    (z_tuple : PySem.W.nsIn K mainGlobals "tuple" = some none)
    (z_enumerate : PySem.W.nsIn K mainGlobals "enumerate" = some none)
    (z_range : PySem.W.nsIn K mainGlobals "range" = some none) :
    ∃ fd : FuncData, (∀ (s : Shared) (v : Value), BindsTo s fd ⟨[v], []⟩ [("_law_script", v)]) ∧ ∀ base : Heap, K.In base → base.Ns mainGlobals mg → FnOk P w K mg base CX0 9 fa fd ["_law_script"] (spLaw K) := by
  have e := hfa.symm.trans (PySem.W.mg_of X G aY)
  cases e
  obtain ⟨vC, hvC, rC⟩ := L.val _ hC
  obtain ⟨vT, hvT, rT⟩ := L.val _ hT
  obtain ⟨tC, rfl, -⟩ := PySem.W.readsW_int_inv rC
  obtain ⟨tT, rfl, -⟩ := PySem.W.readsW_int_inv rT
  have T0 : Tx0 K mg fI fL fW fS := ⟨PySem.W.mg_none_of X G z_isinstance, PySem.W.mg_none_of X G z_int, PySem.W.mg_none_of X G z_bool, PySem.W.mg_none_of X G z_max, mk_dfn X G aI lI cI kI bn_I, mk_dfn X G aL lL cL kL bn_L, mk_dfn X G aW lW cW kW bn_W, mk_dfn X G aS lS cS kS bn_S⟩
  have T1 : Tx1 K mg fO fN fE fC := ⟨PySem.W.mg_none_of X G z_int, PySem.W.mg_none_of X G z_len, mk_dfn X G aO lO cO kO bn_O, mk_dfn X G aN lN cN kN bn_N, mk_dfn X G aE lE cE kE bn_E, mk_dfn X G aC lC cC kC bn_C⟩
  have FZ : FunD K "__init__" "Row.__init__" (defArgs st_Row_init) (defBody st_Row_init) (defScope st_Row_init) [] [("phase", .int 0)] aX (PySem.W.fnOf "__init__" "Row.__init__" (defArgs st_Row_init) (defBody st_Row_init) (defScope st_Row_init) .none (.ref aD) dcZ pmZ anZ cdZ ctZ) :=
    ⟨⟨ocZ, odZ, .none, .ref aD, dcZ, pmZ, anZ, cdZ, ctZ, slZ, rfl, lZ, cZ, .inl ⟨rfl, rfl⟩, .inr ⟨aD, rfl, fun q hq => by rw [List.mem_singleton.mp hq]; exact ⟨_, dZ, _, rfl⟩⟩⟩, kZ⟩
  have T2 : Tx2 K mg C fB fK aX fmL fmS fmP fmN fmG fmC := ⟨PySem.W.mg_none_of X G z_list, PySem.W.mg_none_of X G z_tuple, PySem.W.mg_none_of X G z_len, PySem.W.mg_none_of X G z_enumerate, ⟨_, PySem.W.mg_of X G gB⟩, ⟨_, hvC⟩, ⟨_, hvT⟩, ⟨g1, g2, g3, g4⟩, g7, g8, g9, mk_dfn X G aB lB cB kB bn_B, mk_dfn X G aK lK cK kK bn_K, ⟨_, mk_dfn X G aKS lKS cKS kKS bn_KS⟩, ⟨_, fun_mk lZ cZ kZ⟩, mk_mth amL imL nmL lmL cmL kmL bn_mL, mk_mth amS imS nmS lmS cmS kmS bn_mS, mk_mth amP imP nmP lmP cmP kmP bn_mP, mk_mth amN imN nmN lmN cmN kmN bn_mN, mk_mth amG imG nmG lmG cmG kmG bn_mG, mk_mth amC imC nmC lmC cmC kmC bn_mC⟩
  have M : MkR K mg C aX := ⟨⟨g5, aZ, iZ, g6⟩, PySem.W.mg_of X G aCls, ⟨_, FZ⟩, g10, g11, g12, g13, g14, g15⟩
  have T3 : Tx3 K mg C fR fF fmA fmE := ⟨mk_dfn X G aR lR cR kR bn_R, mk_dfn X G aF lF cF kF bn_F, mk_mth amA imA nmA lmA cmA kmA bn_mA, mk_mth amE imE nmE lmE cmE kmE bn_mE⟩
  have T4 : Tx4 K mg fP := ⟨PySem.W.mg_none_of X G z_range, mk_dfn X G aP lP cP kP bn_P⟩
  have T5 : Tx5 K mg fT := ⟨mk_dfn X G aT lT cT kT bn_T⟩
  have T6 : Tx6 K mg C fU := ⟨g16, g17, mk_dfn X G aU lU cU kU bn_U⟩
  exact ⟨_, fun s v => .of_eq rfl, fun base _ _ => ok_law (fun_mk lY cY kY) T0 T1 T2 M T3 T4 T5 T6⟩
/-- as the hand layer's end, with what the loose names hold -/
theorem walk_loose {l : PySem.W.OpenLaw} {q p : Program} {lv : List (Str × PySem.W.WData)} {loose : List Str} {YP : World → Heap → Prop} {d : DefRec} {K : Params → PySem.W.Frag} (hn : l.most = some 63) (hd : d.params.defaults = []) (hY : ∀ (w : World) (h : Heap), YP w h → (K w.params).In h)
    (F : ∀ (w : World) (mg : Str → Option Value) (fa : Addr) (h : Heap), (K w.params).In h → h.Ns mainGlobals mg → PySem.W.LooseAre lv mg h → mg d.name = some (.ref fa) → ∃ fd : FuncData, (∀ (s : Shared) (u : Value), BindsTo s fd ⟨[u], []⟩ [("_law_script", u)]) ∧ ∀ base : Heap, (K w.params).In base → base.Ns mainGlobals mg → FnOk l.prog w (K w.params) mg base CX0 9 fa fd ["_law_script"] (spLaw (K w.params))) :
    PySem.W.WalkO q loose (PySem.W.XL p lv) YP l.row.toRowW d [] (fun f vs => PySem.call f vs) := Att.attach_call hn hd fun w _ s₁ mg mb fa _ _ _ _ a vs ns G Y _ _ _ hmg hobj hints hlen hg => by
  obtain ⟨fd, hb, hF⟩ := F w mg fa s₁.heap (hY w s₁.heap Y) G.T.g G.X.2 hmg
  exact law_call (hY w s₁.heap Y) G.T.g G.T.b G.T.builtins G.T.nolimit hg hobj hints (Nat.le_trans hlen (by decide)) ⟨rfl, by decide, by decide⟩ hF hb (fun H _ hS => ⟨a, ns, rfl, hS, hlen, fun _ => rfl⟩) fun _ _ _ z => z

end Toy
open PySem PySem.W PyProof.Rows
set_option maxRecDepth 100000 in
set_option maxHeartbeats 0 in
theorem PySem.Challenge.cw_breakerrow_k03_requests_and_parts_of_row_holds : PySem.Challenge.rw_breakerrow_k03_requests_and_parts_of_row.Holds := by
  w_on; o_law; k_head; (case hw => w_witness2)
  k_fill
  refine Toy.walk_loose (l := PySem.Challenge.rw_breakerrow_k03_requests_and_parts_of_row) rfl rfl (fun w h Y => PySem.W.kIn_of Y) ?F
  intro w mg fa h KX G LL hmg
  refine' Toy.all_mk KX G LL (by first | exact .head _ | exact .tail _ (.head _)) (by first | exact .head _ | exact .tail _ (.head _)) hmg ?aCls ?aI ?lI ?cI ?kI ?aL ?lL ?cL ?kL ?aW ?lW ?cW ?kW ?aS ?lS ?cS ?kS ?aB ?lB ?cB ?kB ?aK ?lK ?cK ?kK ?aKS ?lKS ?cKS ?kKS ?aR ?lR ?cR ?kR ?aF ?lF ?cF ?kF ?aO ?lO ?cO ?kO ?aN ?lN ?cN ?kN ?aE ?lE ?cE ?kE ?aC ?lC ?cC ?kC ?aP ?lP ?cP ?kP ?aT ?lT ?cT ?kT ?aU ?lU ?cU ?kU ?amL ?imL ?nmL ?lmL ?cmL ?kmL ?amS ?imS ?nmS ?lmS ?cmS ?kmS ?amP ?imP ?nmP ?lmP ?cmP ?kmP ?amN ?imN ?nmN ?lmN ?cmN ?kmN ?amG ?imG ?nmG ?lmG ?cmG ?kmG ?amC ?imC ?nmC ?lmC ?cmC ?kmC ?amA ?imA ?nmA ?lmA ?cmA ?kmA ?amE ?imE ?nmE ?lmE ?cmE ?kmE ?aZ ?iZ ?lZ ?cZ ?kZ ?dZ ?aY ?lY ?cY ?kY ?g1 ?g2 ?g3 ?g4 ?g5 ?g6 ?g7 ?g8 ?g9 ?g10 ?g11 ?g12 ?g13 ?g14 ?g15 ?g16 ?g17 ?gB ?z_isinstance ?z_int ?z_bool ?z_max ?z_len ?z_list ?z_tuple ?z_enumerate ?z_range
  (case aCls => k_is)
  (case aI => k_is)
  (case lI => k_is)
  (case cI => k_is)
  (case kI => k_is)
  (case aL => k_is)
  (case lL => k_is)
  (case cL => k_is)
  (case kL => k_is)
  (case aW => k_is)
  (case lW => k_is)
  (case cW => k_is)
  (case kW => k_is)
  (case aS => k_is)
  (case lS => k_is)
  (case cS => k_is)
  (case kS => k_is)
  (case aB => k_is)
  (case lB => k_is)
  (case cB => k_is)
  (case kB => k_is)
  (case aK => k_is)
  (case lK => k_is)
  (case cK => k_is)
  (case kK => k_is)
  (case aKS => k_is)
  (case lKS => k_is)
  (case cKS => k_is)
  (case kKS => k_is)
  (case aR => k_is)
  (case lR => k_is)
  (case cR => k_is)
  (case kR => k_is)
  (case aF => k_is)
  (case lF => k_is)
  (case cF => k_is)
  (case kF => k_is)
  (case aO => k_is)
  (case lO => k_is)
  (case cO => k_is)
  (case kO => k_is)
  (case aN => k_is)
  (case lN => k_is)
  (case cN => k_is)
  (case kN => k_is)
  (case aE => k_is)
  (case lE => k_is)
  (case cE => k_is)
  (case kE => k_is)
  (case aC => k_is)
  (case lC => k_is)
  (case cC => k_is)
  (case kC => k_is)
  (case aP => k_is)
  (case lP => k_is)
  (case cP => k_is)
  (case kP => k_is)
  (case aT => k_is)
  (case lT => k_is)
  (case cT => k_is)
  (case kT => k_is)
  (case aU => k_is)
  (case lU => k_is)
  (case cU => k_is)
  (case kU => k_is)
  (case amL => k_is)
  (case imL => k_is)
  (case nmL => k_is)
  (case lmL => k_is)
  (case cmL => k_is)
  (case kmL => k_is)
  (case amS => k_is)
  (case imS => k_is)
  (case nmS => k_is)
  (case lmS => k_is)
  (case cmS => k_is)
  (case kmS => k_is)
  (case amP => k_is)
  (case imP => k_is)
  (case nmP => k_is)
  (case lmP => k_is)
  (case cmP => k_is)
  (case kmP => k_is)
  (case amN => k_is)
  (case imN => k_is)
  (case nmN => k_is)
  (case lmN => k_is)
  (case cmN => k_is)
  (case kmN => k_is)
  (case amG => k_is)
  (case imG => k_is)
  (case nmG => k_is)
  (case lmG => k_is)
  (case cmG => k_is)
  (case kmG => k_is)
  (case amC => k_is)
  (case imC => k_is)
  (case nmC => k_is)
  (case lmC => k_is)
  (case cmC => k_is)
  (case kmC => k_is)
  (case amA => k_is)
  (case imA => k_is)
  (case nmA => k_is)
  (case lmA => k_is)
  (case cmA => k_is)
  (case kmA => k_is)
  (case amE => k_is)
  (case imE => k_is)
  (case nmE => k_is)
  (case lmE => k_is)
  (case cmE => k_is)
  (case kmE => k_is)
  (case aZ => k_is)
  (case iZ => k_is)
  (case lZ => k_is)
  (case cZ => k_is)
  (case kZ => k_is)
  (case dZ => k_is)
  (case aY => k_is)
  (case lY => k_is)
  (case cY => k_is)
  (case kY => k_is)
  (case g1 => k_is)
  (case g2 => k_is)
  (case g3 => k_is)
  (case g4 => k_is)
  (case g5 => k_is)
  (case g6 => k_is)
  (case g7 => k_is)
  (case g8 => k_is)
  (case g9 => k_is)
  (case g10 => k_is)
  (case g11 => k_is)
  (case g12 => k_is)
  (case g13 => k_is)
  (case g14 => k_is)
  (case g15 => k_is)
  (case g16 => k_is)
  (case g17 => k_is)
  (case gB => k_is)
  (case z_isinstance => k_is)
  (case z_int => k_is)
  (case z_bool => k_is)
  (case z_max => k_is)
  (case z_len => k_is)
  (case z_list => k_is)
  (case z_tuple => k_is)
  (case z_enumerate => k_is)
  (case z_range => k_is)
