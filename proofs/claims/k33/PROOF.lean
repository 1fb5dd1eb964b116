import PyProof.Rows.All
import Wide.All
import OpenK.AllK
import Wide.FinOn
import HandS.ForMost
import HandS.IsInst
import HandS.Wide
import HandS.Style
import HandS.Defaults
import HandS.MakeKwOnly
import HandS.Zip
import HandS.SortRule
import HandS.TupAny
import HandS.Lambda
import KE.GoesEnum
import HandS.Flow
import HandS.Codes
import HandS.WideBits
import HandS.OwnEq
import HandS.TryOnly
import HandS.TupLe
import HandS.SetFor
import KE.DataMinMax
import PyProof.Rows.CallKwBuiltin
import PySem.Challenge.RW_breakerrow_k33_windows_of_delays
set_option Elab.async false
set_option linter.all false
set_option maxRecDepth 100000
set_option maxHeartbeats 4000000
namespace Own
open PySem PySem.Spec PyProof.Rows L2
open Builtin

section
variable {X : Cx} {CX : CXT} {k : Nat} {f C : Addr} {fd : FuncData} {ps : List Str} {sp : Sp} {E : XK}

theorem rr {p : Addr} : L2.RelV (.ref p) (.ref p) := rfl
/-- a promise used under any frame below the body -/
theorem run_at {A : Around} {pins : List (Addr × Obj)} {σ : L2.St} {H : Hp} {s : Shared} {Q : VK} {us : List Value} {vs : List V} (F : FnOk X.prog X.w X.K X.mg X.base CX k f fd ps sp) (hr : Room k A) (hA : A.frames = X.A.frames)
    (hb : Binds X.K fd ps []) (hx : Passes CX X E) (I : Inv X pins σ H s) (r : Vals vs us) (h : sp vs H Q E) : wpAny (model X.prog X.w) A (call (.ref f) us) (EP X pins σ Q) X.xe s := by
  have hl : us.length = ps.length := by rw [← r.length]; exact F.len _ _ _ _ h
  have e0 : Env0 X.prog X.w X.K X.mg X.base A X.stack s H := by
    have e := I.env0
    exact ⟨by rw [hA]; exact e.frames, e.mod, e.bs, e.bsz, e.funs, e.frf, e.hok, e.bare⟩
  have hB : BindsTo s fd ⟨us, []⟩ (ps.zip us) := by
    have := hb s us I.kIn (by rw [List.append_nil]; exact hl)
    rwa [List.append_nil] at this
  refine wpAny_call (codeAny_mono (F.run A X.stack s H ⟨us, []⟩ us vs Q E hr e0 hB r h) fun r s' hq => ?_)
  cases r with
  | error e => exact hx pins σ H s e s' I hq
  | ok fl =>
    cases fl with
    | ret u => exact I.after hq
    | next => exact False.elim hq
    | brk => exact False.elim hq
    | cont => exact False.elim hq

theorem inst_of {pins : List (Addr × Obj)} {σ : L2.St} {H : Hp} {s : Shared} {p dx : Addr} {fs : List (Str × V)} (I : Inv X pins σ H s) (e : H p = some (.ins C dx fs)) : ∃ od, PySem.W.InstAt s.heap p (PySem.W.instObj C dx) C od := by
  obtain ⟨mA, O, _⟩ := ins_get I.hok e
  obtain ⟨od, J, _⟩ := O.look
  exact ⟨_, J⟩

/-- a bool is wanted of the method -/
def BlQ (Q : VK) (g : Bool → Bool) : VK := fun v H' => ∃ b, v = .bl b ∧ Q (.bl (g b)) H'
def rOwnIn (C : Addr) (sp : Sp) (E : XK) (g : Bool → Bool) : R2 := fun x y H Q => ∃ p dx fs, y = .ref p ∧ H p = some (.ins C dx fs) ∧ sp [.ref p, x] H (BlQ Q g) E
theorem op_own_in (F : FnOk X.prog X.w X.K X.mg X.base CX k f fd ps sp) (hr : Room k X.A) (hs : PySem.W.findIn X.K (.ref C) "__contains__" = some (some (.ref f))) (hf : PySem.W.isFn X.K (.ref f) = true) (hb : Binds X.K fd ps []) (hx : Passes CX X E) :
    OpR X (compareOp .In) (rOwnIn C sp E id) := by
  intro pins s σ H x y v u Q I rx ry h
  obtain ⟨p, dx, fs, rfl, hp, q⟩ := h
  cases ry
  obtain ⟨od, J⟩ := inst_of I hp
  obtain ⟨m, hF⟩ := I.fr
  refine PySem.W.in_K hF I.ok.mod.kin J hs hf (thn (run_at F hr rfl hb hx I (.cons rr (.cons rx .nil)) q) fun r s' hh => ?_)
  obtain ⟨z, H', I', rz, b, ez, q'⟩ := hh
  subst ez
  cases rz
  exact wpAny_truthy_bool ⟨.bl b, H', I', rfl, q'⟩
theorem op_own_notin (F : FnOk X.prog X.w X.K X.mg X.base CX k f fd ps sp) (hr : Room k X.A) (hs : PySem.W.findIn X.K (.ref C) "__contains__" = some (some (.ref f))) (hf : PySem.W.isFn X.K (.ref f) = true) (hb : Binds X.K fd ps []) (hx : Passes CX X E) :
    OpR X (compareOp .NotIn) (rOwnIn C sp E not) := by
  intro pins s σ H x y v u Q I rx ry h
  obtain ⟨p, dx, fs, rfl, hp, q⟩ := h
  cases ry
  obtain ⟨od, J⟩ := inst_of I hp
  obtain ⟨m, hF⟩ := I.fr
  refine PySem.W.notIn_K hF I.ok.mod.kin J hs hf (thn (run_at F hr rfl hb hx I (.cons rr (.cons rx .nil)) q) fun r s' hh => ?_)
  obtain ⟨z, H', I', rz, b, ez, q'⟩ := hh
  subst ez
  cases rz
  exact wpAny_truthy_bool ⟨.bl (!b), H', I', rfl, q'⟩
/-- len(o) -/
def rOwnLen (C : Addr) (sp : Sp) (E : XK) : List V → Hp → VK → Prop := fun xs H Q => ∃ p dx fs, xs = [.ref p] ∧ H p = some (.ins C dx fs) ∧ sp [.ref p] H (fun v H' => ∃ n : Int, v = .int n ∧ 0 ≤ n ∧ n < 2 ^ 63 ∧ Q (.int n) H') E
theorem call_own_len (F : FnOk X.prog X.w X.K X.mg X.base CX k f fd ps sp) (hr : Room (k + 1) X.A) (hs : PySem.W.findIn X.K (.ref C) "__len__" = some (some (.ref f))) (hf : PySem.W.isFn X.K (.ref f) = true) (hb : Binds X.K fd ps []) (hx : Passes CX X E) :
    CallR X (.builtin "len") (rOwnLen C sp E) := by
  intro pins s σ H xs us Q I r h
  obtain ⟨p, dx, fs, rfl, hp, q⟩ := h
  obtain ⟨u, rfl, ru⟩ := vals1 r
  cases ru
  obtain ⟨od, J⟩ := inst_of I hp
  obtain ⟨m, hF⟩ := I.fr
  refine PySem.W.len_K hF I.ok.mod.kin J hs hf (thn (run_at F hr.in1 rfl hb hx I (.cons rr .nil) q) fun r s' hh => ?_)
  obtain ⟨z, H', I', rz, n, ez, h0, h1, q'⟩ := hh
  subst ez
  obtain ⟨t, rfl⟩ := rz
  exact ⟨⟨h0, h1⟩, ⟨.int n, H', I'.tok _, ⟨_, rfl⟩, q'⟩⟩
/-- o + p, both of the class -/
def rOwnAdd (C : Addr) (sp : Sp) (E : XK) : R2 := fun x y H Q => ∃ p dx fs q dy gs, x = .ref p ∧ H p = some (.ins C dx fs) ∧ y = .ref q ∧ H q = some (.ins C dy gs) ∧ sp [.ref p, .ref q] H (fun v H' => (∃ a, v = .ref a) ∧ Q v H') E
theorem op_own_add (F : FnOk X.prog X.w X.K X.mg X.base CX k f fd ps sp) (hr : Room k X.A) (hc : PySem.W.selfFirst X.K C = true) (hs : PySem.W.findIn X.K (.ref C) "__add__" = some (some (.ref f))) (hf : PySem.W.isFn X.K (.ref f) = true) (hb : Binds X.K fd ps []) (hx : Passes CX X E) :
    OpR X (binaryOp .Add) (rOwnAdd C sp E) := by
  intro pins s σ H x y v u Q I rx ry h
  obtain ⟨p, dx, fs, q, dy, gs, rfl, hp, rfl, hq, hh⟩ := h
  cases rx
  cases ry
  obtain ⟨od, J⟩ := inst_of I hp
  obtain ⟨od', J'⟩ := inst_of I hq
  obtain ⟨m, hF⟩ := I.fr
  refine PySem.W.binop_K hF I.ok.mod.kin J J'.type hc hs hf (thn (run_at F hr rfl hb hx I (.cons rr (.cons rr .nil)) hh) fun r s' hh => ?_)
  obtain ⟨z, H', I', rz, ⟨a, ez⟩, q'⟩ := hh
  subst ez
  cases rz
  exact ⟨.ref a, H', I', rfl, q'⟩
/-- o[i] -/
def rOwnIx (C : Addr) (sp : Sp) (E : XK) : R2 := fun x y H Q => ∃ p dx fs, x = .ref p ∧ H p = some (.ins C dx fs) ∧ sp [.ref p, y] H Q E
theorem pe_own_ix {a b : Expr} {ta tb : TE} {pos : Pos} (F : FnOk X.prog X.w X.K X.mg X.base CX k f fd ps sp) (hr : Room (k + 1) X.A) (hs : PySem.W.findIn X.K (.ref C) "__getitem__" = some (some (.ref f))) (hfn : PySem.W.fnIn X.K f = true) (hf : PySem.W.isFn X.K (.ref f) = true)
    (hb : Binds X.K fd ps []) (hx : Passes CX X E) (ha : PE X a ta) (hb' : PE X b tb) (hsl : ∀ o i, subscripted b true o i = runValue (.builtin "lifetime.subscript" ⟨[o, i], []⟩) := by exact fun _ _ => rfl) :
    PE X (.Subscript a b pos) (tOp (rOwnIx C sp E) ta tb) := by
  refine ⟨fun pins s σ H Q I h => ?_⟩
  refine Subscript_ (binT ha hb' I h fun v u s2 x y H2 I2 rx ry q => ?_)
  obtain ⟨p, dx, fs, rfl, hp, q⟩ := q
  cases rx
  obtain ⟨od, J⟩ := inst_of I2 hp
  obtain ⟨m, hF⟩ := I2.fr
  exact PySem.W.sub_K hF I2.ok.mod.kin J hs hfn hf (run_at F hr.in1 rfl hb hx I2 (.cons rr (.cons ry .nil)) q) (hsl _ _)

/-! ### own == and the != that comes with it -/
theorem sub_ty {K : PySem.W.Frag} {C : Addr} {T : String} {l : List String} (e : fastBuiltinMro T = some (l.map Value.type)) : PySem.W.subIn K (.type T) (.ref C) = some false := by
  show (fastBuiltinMro T).map (·.contains (.ref C)) = some false
  rw [e]
  have : ∀ l : List String, (l.map Value.type).contains (Value.ref C) = false := by
    intro l
    induction l with
    | nil => rfl
    | cons a r ih =>
      rw [List.map_cons, List.contains_cons, ih]
      rfl
  rw [Option.map_some, this]
/-- a value's type, not one below the class C -/
inductive TyN (H : Hp) (C : Addr) : V → Value → Prop where
  | non : TyN H C .non (.type "NoneType")
  | bl (x : Bool) : TyN H C (.bl x) (.type "bool")
  | int (i : Int) : TyN H C (.int i) (.type "int")
  | str (x : Str) : TyN H C (.str x) (.type "str")
  | lst {a : Addr} {xs : List V} (e : H a = some (.lst xs)) : TyN H C (.ref a) (.type "list")
  | tup {a : Addr} {xs : List V} (e : H a = some (.tup xs)) : TyN H C (.ref a) (.type "tuple")
  | ins {a dx : Addr} {fs : List (Str × V)} (e : H a = some (.ins C dx fs)) : TyN H C (.ref a) (.ref C)
theorem TyN.notFirst {K : PySem.W.Frag} {H : Hp} {x : V} {t : Value} (h : TyN H C x t) : PySem.W.notFirst K C t = true := by
  cases h with
  | non => exact Bool.or_eq_true_iff.mpr (.inr (beq_iff_eq.mpr (sub_ty (l := ["NoneType", "object"]) (by decide +kernel))))
  | bl _ => exact Bool.or_eq_true_iff.mpr (.inr (beq_iff_eq.mpr (sub_ty (l := ["bool", "int", "object"]) (by decide +kernel))))
  | int _ => exact Bool.or_eq_true_iff.mpr (.inr (beq_iff_eq.mpr (sub_ty (l := ["int", "object"]) (by decide +kernel))))
  | str _ => exact Bool.or_eq_true_iff.mpr (.inr (beq_iff_eq.mpr (sub_ty (l := ["str", "object"]) (by decide +kernel))))
  | lst _ => exact Bool.or_eq_true_iff.mpr (.inr (beq_iff_eq.mpr (sub_ty (l := ["list", "object"]) (by decide +kernel))))
  | tup _ => exact Bool.or_eq_true_iff.mpr (.inr (beq_iff_eq.mpr (sub_ty (l := ["tuple", "object"]) (by decide +kernel))))
  | ins _ => exact Bool.or_eq_true_iff.mpr (.inl (by simp))
theorem looks_obj {M : Model} {h : Heap} {a : Addr} {o : Obj} (e : h.get? a = some o) : PySem.W.Looks M h (typeOf (.ref a)) o.cls := fun A Q E s kp q => PySem.wpAny_typeOf_ref (kp _ _ e) q
theorem TyN.looks {M : Model} {pins : List (Addr × Obj)} {σ : L2.St} {H : Hp} {s : Shared} {x : V} {u t : Value} (I : Inv X pins σ H s) (r : RelV x u) (h : TyN H C x t) : PySem.W.Looks M s.heap (typeOf u) t := by
  cases h with
  | non => cases r; exact PySem.W.Looks.of_pure rfl
  | bl _ => cases r; exact PySem.W.Looks.of_pure rfl
  | int _ => obtain ⟨_, rfl⟩ := r; exact PySem.W.Looks.of_pure rfl
  | str _ => obtain ⟨_, rfl⟩ := r; exact PySem.W.Looks.of_pure rfl
  | @lst a xs e =>
    cases r
    obtain ⟨_, _, n, _, h1⟩ := (show ObjOk X.prog X.w H s.heap a (.lst xs) from I.hok a _ e)
    exact looks_obj h1
  | @tup a xs e =>
    cases r
    obtain ⟨_, _, _, o, h1, h2, _⟩ := (show ObjOk X.prog X.w H s.heap a (.tup xs) from I.hok a _ e)
    have := looks_obj (M := M) h1
    rw [h2] at this
    exact this
  | ins e =>
    cases r
    obtain ⟨od, J⟩ := inst_of I e
    exact J.type
def rOwnEq (C : Addr) (sp : Sp) (E : XK) (g : Bool → Bool) : R2 := fun x y H Q => ∃ p dx fs t, x = .ref p ∧ H p = some (.ins C dx fs) ∧ TyN H C y t ∧ sp [.ref p, y] H (BlQ Q g) E
theorem op_own_eq (F : FnOk X.prog X.w X.K X.mg X.base CX k f fd ps sp) (hr : Room k X.A) (hs : PySem.W.findIn X.K (.ref C) "__eq__" = some (some (.ref f))) (hf : PySem.W.isFn X.K (.ref f) = true) (hb : Binds X.K fd ps []) (hx : Passes CX X E) :
    OpR X (compareOp .Eq) (rOwnEq C sp E id) := by
  intro pins s σ H x y v u Q I rx ry h
  obtain ⟨p, dx, fs, t, rfl, hp, ty, q⟩ := h
  cases rx
  obtain ⟨od, J⟩ := inst_of I hp
  obtain ⟨m, hF⟩ := I.fr
  show wpAny (model X.prog X.w) X.A (richCompare .Eq (.ref p) u) (EP X pins σ Q) X.xe s
  refine PySem.W.cmp_K (op := .Eq) hr.units0 hF I.ok.mod.kin J (ty.looks I ry) ty.notFirst hs hf (thn (run_at F hr rfl hb hx I (.cons rr (.cons ry .nil)) q) fun r s' hh => ?_)
  obtain ⟨z, H', I', rz, b, ez, q'⟩ := hh
  subst ez
  cases rz
  exact ⟨.bl b, H', I', rfl, q'⟩
section
variable {prog : Program} {w : World} {A : Around} {E' : Value → Shared → Prop} {s : Shared} {K : PySem.W.Frag} {x : Addr} {ox : Obj} {od : Option Obj} {b : Value}
theorem objNe_entry (hX : K.In s.heap) (I : PySem.W.InstAt s.heap x ox C od) (hs : PySem.W.findIn K (.ref C) "__eq__" = some (some (.ref f))) (hf : PySem.W.isFn K (.ref f) = true) (hu : A.units < cLine) {Q : Fin → Shared → Prop}
    (hcall : wpAny (model prog w) A (call (.ref f) [.ref x, b]) (fun v s' => ∃ k, v = .bool k ∧ Q (.done (.ret (.bool (!k)))) s') E' s) :
    wpAny (model prog w) A (Builtin.«object.__ne__» ⟨[.ref x, b], []⟩) Q E' s := by
  unfold Builtin.«object.__ne__»
  repeat (first
    | with_reducible refine wpAny_cRoomFor hu ?_
    | (refine wpAny_bind (m := callSpecialIfBound? (.ref x) (Str.ofString "__eq__") [b])
        (PySem.W.ifBound_K hX I hs hf (wpAny_mono hcall (fun r s' hr => by
          obtain ⟨k, rfl, hq⟩ := hr
          repeat (first | exact hq | exact wpAny_pure hq | exact wpAny_truthy_bool hq | (refine wpAny_bind (m := truthy (.bool _)) (wpAny_truthy_bool ?_)) | wp_step)) fun _ _ e => e)))
    | wp_step)
theorem call_objNe (hX : K.In s.heap) (I : PySem.W.InstAt s.heap x ox C od) (hm : PySem.W.mroIn K C (.type "object") = some true) (hs : PySem.W.findIn K (.ref C) "__eq__" = some (some (.ref f))) (hf : PySem.W.isFn K (.ref f) = true) (hu : A.units + 1 < cLine) {Q : Value → Shared → Prop}
    (hcall : wpAny (model prog w) A.in1 (call (.ref f) [.ref x, b]) (fun v s' => ∃ k, v = .bool k ∧ Q (.bool (!k)) s') E' s) :
    wpAny (model prog w) A (call (.builtin "object.__ne__") [.ref x, b]) Q E' s :=
  wpAny_call (codeAny_call_builtin PySem.F.cmp_object.ne.plain PySem.F.cmpEntry_ne (PySem.W.check_slot PySem.F.cmpKind_ne PySem.F.cmpSplit_ne (I.type.andThen (PySem.W.looks_mroIn hX hm)) (PySem.F.cmpArgs_ne _ _)
    (objNe_entry (A := A.in1) hX I hs hf hu (wpAny_mono hcall (fun v s' hv => by
      obtain ⟨k, e, hq⟩ := hv
      exact ⟨k, e, hq⟩) fun _ _ e => e))))
theorem ifBound_objNe {M : Model} {args : List Value} {Q : Option Value → Shared → Prop} (hX : K.In s.heap) (I : PySem.W.InstAt s.heap x ox C od) (hs : PySem.W.findIn K (.ref C) "__ne__" = some (some (.builtin "object.__ne__")))
    (h : wpAny M A (call (.builtin "object.__ne__") (.ref x :: args)) (fun v => Q (some v)) E' s) : wpAny M A (callSpecialIfBound? (.ref x) "__ne__" args) Q E' s := by
  simp only [callSpecialIfBound?, bindSpecialIfBound?]
  refine wpAny_holding (wpAny_bind (wpAny_bind (wpAny_bind (I.type.here ((PySem.W.looks_findIn hX hs).here ?_)))))
  refine wpAny_bind (wpAny_askSetting (wpAny_ite ?_))
  have fin : wpAny M A (call (.builtin "object.__ne__") ([.ref x] ++ args) >>= fun v => pure (some v)) Q E' s := wpAny_bind (wpAny_mono h (fun v s' h' => wpAny_pure h') fun _ _ h' => h')
  split
  · exact wpAny_bind (wpAny_of_eq (PySem.F.cmp_object.ne.bind _) (wpAny_pure (by exact fin)))
  · exact wpAny_tryCatch (wpAny_bind (wpAny_of_eq (PySem.F.cmp_object.ne.bind _) (wpAny_pure (by exact fin))))
theorem rc_ne {tb : Value} {Q : Value → Shared → Prop} (hu : A.units + 1 < cLine) (hX : K.In s.heap) (I : PySem.W.InstAt s.heap x ox C od) (hb : PySem.W.Looks (model prog w) s.heap (typeOf b) tb) (hn : PySem.W.notFirst K C tb = true)
    (hm : PySem.W.mroIn K C (.type "object") = some true) (hne : PySem.W.findIn K (.ref C) "__ne__" = some (some (.builtin "object.__ne__"))) (hs : PySem.W.findIn K (.ref C) "__eq__" = some (some (.ref f))) (hf : PySem.W.isFn K (.ref f) = true)
    (hcall : wpAny (model prog w) A.in1 (call (.ref f) [.ref x, b]) (fun v s' => ∃ k, v = .bool k ∧ Q (.bool (!k)) s') E' s) : wpAny (model prog w) A (richCompare .NotEq (.ref x) b) Q E' s := by
  have one : wpAny (model prog w) A (tryCompare (.ref x) "__ne__" b) (fun r s' => ∃ v, r = some v ∧ Q v s') E' s := by
    unfold tryCompare
    refine wpAny_bind (ifBound_objNe hX I hne (call_objNe hX I hm hs hf hu (wpAny_mono hcall (fun v s' hv => ?_) fun _ _ e => e)))
    obtain ⟨k, rfl, hq⟩ := hv
    exact ⟨k, rfl, wpAny_pure ⟨_, rfl, hq⟩⟩
  unfold richCompare
  simp only [oneThing_ref, cmpInfo_NotEq]
  refine wpAny_holding (wpAny_bind (wpAny_cRoomFor (Nat.lt_of_succ_lt hu) ?_))
  refine wpAny_bind (I.type.here (wpAny_bind (hb.here ?_)))
  split
  · rename_i q
    have e : PySem.W.subIn K tb (.ref C) = some false := by
      rcases Bool.or_eq_true_iff.mp hn with e | e
      · rw [beq_iff_eq.mp e] at q; simp at q
      · exact beq_iff_eq.mp e
    refine wpAny_bind ((PySem.W.looks_subIn hX e).here ?_)
    simp only [Bool.false_eq_true, if_false]
    refine wpAny_bind (wpAny_mono one (fun r s' z => ?_) fun _ _ e => e)
    obtain ⟨v, rfl, hq⟩ := z
    exact wpAny_pure hq
  · refine wpAny_bind (wpAny_pure ?_)
    simp only [Bool.false_eq_true, if_false]
    refine wpAny_bind (wpAny_mono one (fun r s' z => ?_) fun _ _ e => e)
    obtain ⟨v, rfl, hq⟩ := z
    exact wpAny_pure hq
end
theorem op_own_ne (F : FnOk X.prog X.w X.K X.mg X.base CX k f fd ps sp) (hr : Room (k + 1) X.A) (hm : PySem.W.mroIn X.K C (.type "object") = some true) (hne : PySem.W.findIn X.K (.ref C) "__ne__" = some (some (.builtin "object.__ne__")))
    (hs : PySem.W.findIn X.K (.ref C) "__eq__" = some (some (.ref f))) (hf : PySem.W.isFn X.K (.ref f) = true) (hb : Binds X.K fd ps []) (hx : Passes CX X E) :
    OpR X (compareOp .NotEq) (rOwnEq C sp E not) := by
  intro pins s σ H x y v u Q I rx ry h
  obtain ⟨p, dx, fs, t, rfl, hp, ty, q⟩ := h
  cases rx
  obtain ⟨od, J⟩ := inst_of I hp
  show wpAny (model X.prog X.w) X.A (richCompare .NotEq (.ref p) u) (EP X pins σ Q) X.xe s
  refine rc_ne (hu_of hr) I.kIn J (ty.looks I ry) ty.notFirst hm hne hs hf (thn (run_at F hr.in1 rfl hb hx I (.cons rr (.cons ry .nil)) q) fun r s' hh => ?_)
  obtain ⟨z, H', I', rz, b, ez, q'⟩ := hh
  subst ez
  cases rz
  exact ⟨b, rfl, .bl (!b), H', I', rfl, q'⟩
end
end Own

namespace Toy
open PySem L2 Own
/-! ### the text by places -/
def top (i : Nat) : Stmt := PySem.Challenge.pw_breakerrow_k33_windows_of_delays.main.body.getD i (.Pass ⟨0, 0, 0, 0⟩)
abbrev st__wall : Stmt := top 0
abbrev st_InvalidRow_init : Stmt := inClass (top 3) 0
abbrev st_InvalidTime_init : Stmt := inClass (top 4) 0
abbrev st_InvalidOutages_init : Stmt := inClass (top 5) 0
abbrev st_InvalidIndex_init : Stmt := inClass (top 6) 0
abbrev st_InvalidBound_init : Stmt := inClass (top 7) 0
abbrev st_is_integer : Stmt := top 9
abbrev st_is_at_least : Stmt := top 10
abbrev st_is_within : Stmt := top 11
abbrev st_steps_to : Stmt := top 12
abbrev st_common_divisor : Stmt := top 13
abbrev st_Row_init : Stmt := inClass (top 18) 0
abbrev st_Row_breaker_list : Stmt := inClass (top 18) 1
abbrev st_Row_step_length : Stmt := inClass (top 18) 2
abbrev st_Row_phase_time : Stmt := inClass (top 18) 3
abbrev st_Row_len : Stmt := inClass (top 18) 4
abbrev st_Row_getitem : Stmt := inClass (top 18) 5
abbrev st_Row_iter : Stmt := inClass (top 18) 6
abbrev st_Row_contains : Stmt := inClass (top 18) 7
abbrev st_Row_add : Stmt := inClass (top 18) 8
abbrev st_Row_eq : Stmt := inClass (top 18) 9
abbrev st_is_breaker : Stmt := top 19
abbrev st_check_breakers : Stmt := top 20
abbrev st_check_step : Stmt := top 21
abbrev st_request_time : Stmt := top 22
abbrev st_first_request : Stmt := top 23
abbrev st_last_time : Stmt := top 25
abbrev st_times_before : Stmt := top 26
abbrev st_part_of : Stmt := top 27
abbrev st_window_of : Stmt := top 28
abbrev st_thinned_run : Stmt := top 29
abbrev st_window_runs : Stmt := top 30
abbrev st_thinned_runs : Stmt := top 31
abbrev st_divided_runs : Stmt := top 32
abbrev st_time_from : Stmt := top 33
abbrev st_joined : Stmt := top 34
abbrev st_normal_form : Stmt := top 35
abbrev st_with_plain_step : Stmt := top 36
abbrev st_closed_states : Stmt := top 38
abbrev st_Spell_init : Stmt := inClass (top 40) 0
abbrev st_spells_of : Stmt := top 41
abbrev st_spell_from : Stmt := top 42
abbrev st_passed_runs : Stmt := top 43
abbrev st_recovery : Stmt := top 44
abbrev st_states_behind : Stmt := top 45
abbrev st_check_outages : Stmt := top 48
abbrev st_is_outage : Stmt := top 49
abbrev st_Delays_init : Stmt := inClass (top 51) 0
abbrev st_Delays_getitem : Stmt := inClass (top 51) 1
abbrev st_Delays_iter : Stmt := inClass (top 51) 2
abbrev st_teeth_of : Stmt := top 52
abbrev st_delay_of : Stmt := top 53
abbrev st_reached_ends : Stmt := top 54
abbrev st_check_first : Stmt := top 55
abbrev st_check_last : Stmt := top 56
abbrev st_check_most : Stmt := top 57
abbrev st_tops : Stmt := top 58
abbrev st_greatest_delay : Stmt := top 59
abbrev st_first_above : Stmt := top 60
abbrev st_total_before : Stmt := top 61
abbrev st_total_delay : Stmt := top 62
abbrev st_mean_delay : Stmt := top 63
abbrev st_within_before : Stmt := top 64
abbrev st_count_within : Stmt := top 65
abbrev st_settled : Stmt := top 66
abbrev st__law_mixed : Stmt := top 68
abbrev st__law_well : Stmt := top 69
abbrev st__law_draw : Stmt := top 70
abbrev st__law_one : Stmt := top 71
abbrev st__law_row : Stmt := top 72
abbrev st__law_downs : Stmt := top 73
abbrev st__law_made : Stmt := top 74
abbrev st__law_begin : Stmt := top 75
abbrev st__law_window_right : Stmt := top 76
abbrev st__law_right : Stmt := top 77
abbrev st_law : Stmt := top 78
/-- a def of the top -/
structure Dfn (K : PySem.W.Frag) (mg : Str → Option Value) (x : Str) (st : Stmt) (f : Addr) (ps : List Str) : Prop where
  ex : ∃ fd, Fun K x x st f fd ∧ Binds K fd ps []
  g : mg x = some (.ref f)
structure Mth (K : PySem.W.Frag) (C : Addr) (m q : Str) (st : Stmt) (f : Addr) (ps : List Str) : Prop where
  ex : ∃ fd, Fun K m q st f fd ∧ Binds K fd ps []
  at_ : PySem.W.findIn K (.ref C) m = some (some (.ref f))
  fn : PySem.W.isFn K (.ref f) = true
  fk : PySem.W.fnIn K f = true
/-- a def that is called by its name, with its promise -/
structure Cal (P : Program) (w : World) (K : PySem.W.Frag) (mg : Str → Option Value) (base : Heap) (x : Str) (k : Nat) (f : Addr) (ps : List Str) (sp : Sp) : Prop where
  ex : ∃ fd, FnOk P w K mg base CX0 k f fd ps sp ∧ Binds K fd ps []
  g : mg x = some (.ref f)
  kp : PySem.W.keepIn K (.ref f) = true
theorem Dfn.cal {P : Program} {w : World} {K : PySem.W.Frag} {mg : Str → Option Value} {base : Heap} {x : Str} {st : Stmt} {f : Addr} {ps : List Str} {k : Nat} {sp : Sp} (D : Dfn K mg x st f ps) (h : ∀ fd, Fun K x x st f fd → FnOk P w K mg base CX0 k f fd ps sp) : Cal P w K mg base x k f ps sp := by
  obtain ⟨fd, F, b⟩ := D.ex
  exact ⟨⟨fd, h fd F, b⟩, D.g, F.kp⟩
theorem pe_c {X : Cx} {x : Str} {k : Nat} {f : Addr} {ps : List Str} {sp : Sp} {t : TA} {e : Expr} {es : List Expr} {p pos : Pos} (c : Cal X.prog X.w X.K X.mg X.base x k f ps sp) (hr : Room k X.A) (hg : Gl X x)
    (ha : PA X (e :: es) t) (hdb : (x == ("__debug__" : Str)) = false := by decide) (he : starEach (e :: es) X.env = (false, eval e X.env) :: starEach es X.env := by rfl) (hpl : (backTo pos (starEach es X.env)).any (·.1) = false := by rfl) :
    PE X (.Call (.Name x p) (e :: es) [] pos) (tCall sp [] E0 t) := by
  obtain ⟨fd, F, b⟩ := c.ex
  exact pe_call F hr hg c.g c.kp b .nil pass0 ha hdb he hpl
/-- a method with its promise -/
structure Met (P : Program) (w : World) (K : PySem.W.Frag) (mg : Str → Option Value) (base : Heap) (C : Addr) (m : Str) (k : Nat) (f : Addr) (ps : List Str) (sp : Sp) : Prop where
  ex : ∃ fd, FnOk P w K mg base CX0 k f fd ps sp ∧ Binds K fd ps []
  me : Meth K C m f
  fk : PySem.W.fnIn K f = true
theorem Mth.met {P : Program} {w : World} {K : PySem.W.Frag} {mg : Str → Option Value} {base : Heap} {C : Addr} {m q : Str} {st : Stmt} {f : Addr} {ps : List Str} {k : Nat} {sp : Sp} (D : Mth K C m q st f ps) (h : ∀ fd, Fun K m q st f fd → FnOk P w K mg base CX0 k f fd ps sp) : Met P w K mg base C m k f ps sp := by
  obtain ⟨fd, F, b⟩ := D.ex
  exact ⟨⟨fd, h fd F, b⟩, ⟨D.at_, D.fn, F.kp⟩, D.fk⟩

/-! ### values of plain kinds -/
inductive Kd (H : Hp) : V → String → Prop where
  | non : Kd H .non "NoneType"
  | bl (b : Bool) : Kd H (.bl b) "bool"
  | int (i : Int) : Kd H (.int i) "int"
  | str (x : Str) : Kd H (.str x) "str"
  | lst {a : Addr} {xs : List V} (e : H a = some (.lst xs)) : Kd H (.ref a) "list"
  | tup {a : Addr} {xs : List V} (e : H a = some (.tup xs)) : Kd H (.ref a) "tuple"
  | dK {a : Addr} {xs : List (Key × V)} (e : H a = some (.dK xs)) : Kd H (.ref a) "dict"
theorem Kd.ty {K : PySem.W.Frag} {H : Hp} {v : V} {n : String} (h : Kd H v n) : TyX K H v (.type n) := by
  cases h with
  | non => exact .base .non
  | bl b => exact .base (.bl b)
  | int i => exact .base (.int i)
  | str x => exact .base (.str x)
  | lst e => exact .base (.lst e)
  | tup e => exact .base (.tup e)
  | dK e => exact .base (.dK e)
def isI : V → Bool
  | .int _ => true
  | _ => false
def toI : V → Int
  | .int i => i
  | _ => 0
theorem Kd.kit {K : PySem.W.Frag} {H : Hp} {v : V} {n : String} (h : Kd H v n) (c : String) (b : Bool) (hc : c = "int" ∧ b = (n == "int" || n == "bool") ∨ c ≠ "int" ∧ c ∈ ["bool", "list", "tuple"] ∧ b = (n == c)) : PySem.W.kitOne K (.type n) (.type c) = some b := by
  rcases hc with ⟨rfl, rfl⟩ | ⟨_, hc, rfl⟩
  · cases h <;> exact kit_ty (by decide +kernel)
  · simp only [List.mem_cons, List.mem_nil_iff, or_false] at hc
    rcases hc with rfl | rfl | rfl <;> cases h <;> exact kit_ty (by decide +kernel)
theorem Kd.same {H H' : Hp} {v : V} {n : String} (h : Kd H v n) (s : ∀ b o, v = .ref b → H b = some o → H' b = some o) : Kd H' v n := by
  cases h with
  | non => exact .non
  | bl b => exact .bl b
  | int i => exact .int i
  | str x => exact .str x
  | lst e => exact .lst (s _ _ rfl e)
  | tup e => exact .tup (s _ _ rfl e)
  | dK e => exact .dK (s _ _ rfl e)
/-- all but what stands at a is kept -/
def Kp (a : Addr) (H H' : Hp) : Prop := ∀ b o, b ≠ a → H b = some o → H' b = some o
theorem Kp.refl {a : Addr} {H : Hp} : Kp a H H := fun _ _ _ h => h
theorem Kp.trans {a : Addr} {H H1 H2 : Hp} (h : Kp a H H1) (h' : Kp a H1 H2) : Kp a H H2 := fun b o n e => h' b o n (h b o n e)
theorem Kp.of {a : Addr} {H H' : Hp} (s : Same H H') : Kp a H H' := fun b o _ e => s b o e
theorem Kp.upd {a : Addr} {H : Hp} {o : HO} : Kp a H (upd H a o) := fun b _ n e => by rw [upd_ne n]; exact e
theorem Same.upd {H : Hp} {p : Addr} {o : HO} (h : H p = none) : Same H (L2.upd H p o) := fun b u e => by rw [upd_ne (ne_of_none e h)]; exact e
theorem Kp.free {a b : Addr} {H H' : Hp} {o : HO} (k : Kp a H H') (ha : H a = some o) (h : H' b = none) (n : b ≠ a) : H b = none := by
  cases q : H b with
  | none => rfl
  | some u => rw [k b u n q] at h; cases h

/-! ### the promises of the small defs -/
def spIsInt : Sp := fun vs H Q _ => ∃ v n, vs = [v] ∧ Kd H v n ∧ Q (.bl (isI v)) H
def spAtL : Sp := fun vs H Q _ => ∃ v n l, vs = [v, .int l] ∧ Kd H v n ∧ Q (.bl (isI v && decide (l ≤ toI v))) H
def spWithin : Sp := fun vs H Q _ => ∃ v n l m, vs = [v, .int l, .int m] ∧ Kd H v n ∧ Q (.bl (isI v && (decide (l ≤ toI v) && decide (toI v ≤ m)))) H
/-- how many steps -/
def stepsUp (d s : Int) : Int := if -(-d / s) > 0 then -(-d / s) else 0
def spSteps : Sp := fun vs H Q _ => ∃ d s, vs = [.int d, .int s] ∧ 0 < s ∧ s.natAbs.log2 < 9000 ∧ Q (.int (stepsUp d s)) H

/-- what is no list is kept -/
def NL (H H' : Hp) : Prop := ∀ b o, H b = some o → (∀ xs, o ≠ .lst xs) → H' b = some o
theorem NL.refl {H : Hp} : NL H H := fun _ _ h _ => h
theorem NL.trans {H H1 H2 : Hp} (a : NL H H1) (b : NL H1 H2) : NL H H2 := fun c o h n => b c o (a c o h n) n
theorem NL.of {H H' : Hp} (s : Same H H') : NL H H' := fun b o e _ => s b o e
theorem Kp.nl {a : Addr} {H H' : Hp} {xs : List V} (k : Kp a H H') (h : H a = some (.lst xs)) : NL H H' := fun b o e n => k b o (fun z => by subst z; rw [h] at e; exact n xs (Option.some.inj e).symm) e
theorem NL.upd {H : Hp} {p : Addr} {xs : List V} {o : HO} (h : H p = some (.lst xs)) : NL H (L2.upd H p o) := Kp.nl Kp.upd h
theorem pe_gI {X : Cx} {x : Str} {i : Int} {t : Tok} {pos : Pos} (hm : X.mg x = some (.int i t)) (hg : Gl X x := by rfl) (hd : (x == ("__debug__" : Str)) = false := by decide) : PE X (.Name x pos) (tC (.int i)) := pe_glob hg hm ⟨t, rfl⟩ hd
@[irreducible] def PB (n : Nat) : Int := 2 ^ n
theorem PB_succ (n : Nat) : PB (n + 1) = PB n + PB n := by
  unfold PB
  rw [Int.pow_succ]
  omega
theorem PB_pos (n : Nat) : 1 ≤ PB n := by
  unfold PB
  have : (0 : Int) < 2 ^ n := Int.pow_pos (by decide)
  omega
theorem PB_le {n m : Nat} (h : n ≤ m) : PB n ≤ PB m := by
  induction m with
  | zero => rw [Nat.le_zero.mp h]; exact Int.le_refl _
  | succ m ih =>
    by_cases e : n = m + 1
    · rw [e]; exact Int.le_refl _
    · have h1 := ih (by omega)
      have h2 := PB_succ m
      have h3 := PB_pos m
      omega
theorem PB_abs {i : Int} {n : Nat} (h0 : 0 ≤ i) (h : i ≤ PB n) : i.natAbs < 2 ^ (n + 1) := by
  unfold PB at h
  have e : (2 : Nat) ^ (n + 1) = 2 ^ n * 2 := Nat.pow_succ 2 n
  have e2 : ((2 ^ n : Nat) : Int) = 2 ^ n := by rw [Int.natCast_pow]; rfl
  rw [← e2] at h
  have : 0 < 2 ^ n := Nat.pow_pos (by decide)
  rw [e]
  generalize 2 ^ n = w at *
  omega
theorem PB_of {i : Int} {n : Nat} (h : i.natAbs < 2 ^ n) : i ≤ PB n := by
  unfold PB
  have e2 : ((2 ^ n : Nat) : Int) = 2 ^ n := by rw [Int.natCast_pow]; rfl
  rw [← e2]
  generalize 2 ^ n = w at *
  omega
def BB : Int := PB 5000
theorem BB0 : 0 ≤ BB := by
  have := PB_pos 5000
  unfold BB
  omega
theorem bb_lt {i : Int} (h0 : 0 ≤ i) (h : i ≤ BB + BB) : i.natAbs < 2 ^ 5002 := PB_abs h0 (by rw [PB_succ]; exact h)
theorem mulBB {i j : Int} (i0 : 0 ≤ i) (i1 : i ≤ BB + BB) (j0 : 0 ≤ j) (j1 : j ≤ BB + BB) : CMulW i j := wide_mul (bb_lt i0 i1) (bb_lt j0 j1) (by decide) (by decide) (by decide)
theorem BB1 : 1 ≤ BB := PB_pos 5000
theorem divBB {j : Int} (j0 : 1 ≤ j) (j1 : j ≤ BB) : j.natAbs.log2 < 9000 := (wide_div (i := 0) (by omega : 0 < j) (bb_lt (by omega) (by have := BB0; omega)) (by decide) (by decide)).2
theorem small2 {n : Nat} (h : n ≤ 100000) : n ≤ sizeLine := Nat.le_trans h (by decide)
theorem small1 {n : Nat} (h : n ≤ 100000) : n < sizeLine := Nat.lt_of_le_of_lt h (by decide)
theorem tYes_of {σ : L2.St} {H : Hp} {A B : Hp → Prop} (h : A H) : tYes σ H (fun b H3 => if b = true then A H3 else B H3) := by
  show if true = true then A H else B H
  rw [if_pos rfl]
  exact h
theorem cut_init (xs : List V) : cutV xs none (some (-1)) = xs.take (xs.length - 1) := by
  show (xs.drop 0).take ((if (-1 : Int) < 0 then ((-1 : Int) + (xs.length : Int)).toNat else min (-1 : Int).toNat xs.length) - 0) = _
  rw [if_pos (by decide), List.drop_zero]
  congr 1
  omega
theorem cut_last (xs : List V) : cutV xs (some (-1)) none = xs.drop (xs.length - 1) := by
  show (xs.drop (if (-1 : Int) < 0 then ((-1 : Int) + (xs.length : Int)).toNat else min (-1 : Int).toNat xs.length)).take (xs.length - (if (-1 : Int) < 0 then ((-1 : Int) + (xs.length : Int)).toNat else min (-1 : Int).toNat xs.length)) = _
  rw [if_pos (by decide)]
  have e : ((-1 : Int) + (xs.length : Int)).toNat = xs.length - 1 := by omega
  rw [e]
  refine List.take_of_length_le ?_
  rw [List.length_drop]
  exact Nat.le_refl _
theorem none_of {H H' : Hp} {l : Addr} (s : Same H H') (h : H' l = none) : H l = none := by
  cases q : H l with
  | none => rfl
  | some o => rw [s _ _ q] at h; cases h
theorem for_enum {K : PySem.W.Frag} {a : Addr} {xs : List V} {g : TG} {tb : TS} {D : Ends} {σ : L2.St} {H : Hp} (Pv : Nat → L2.St → Hp → Prop) (h0 : Pv 0 σ H) (hl : ∀ i σ H, i ≤ xs.length → Pv i σ H → SqL K H a xs)
    (hs : ∀ i x T σ H, xs[i]? = some x → Pv i σ H → H T = none → g (.ref T) σ (upd H T (.tup [.int (i : Nat), x])) fun σ2 H2 => tb { D with nx := Pv (i + 1), ct := Pv (i + 1), bk := D.nx } σ2 H2) (hd : ∀ σ H, Pv xs.length σ H → D.nx σ H) :
    ∃ W : Nat → Nat → L2.St → Hp → Prop, (∃ m, W 0 m σ H) ∧ ∀ i m σ H, W i m σ H →
      ((Ite K a).stop i H ∧ D.nx σ H) ∨ ((Ite K a).go i H ∧ ∃ N : L2.St → Hp → Prop, (∀ σ' H', N σ' H' → ∃ m', m' < m ∧ W (i + 1) m' σ' H') ∧ ∀ x H', (Ite K a).yld i H x H' → g x σ H' fun σ2 H2 => tb { D with nx := N, ct := N, bk := D.nx } σ2 H2) := by
  refine ⟨fun i m σ H => m = xs.length - i ∧ i ≤ xs.length ∧ Pv i σ H, ⟨xs.length, by simp, Nat.zero_le _, h0⟩, ?_⟩
  rintro i m σ H ⟨rfl, hi, p⟩
  have q := hl i σ H hi p
  by_cases hlt : i < xs.length
  · refine .inr ⟨⟨xs, xs[i], q, by simp [hlt]⟩, Pv (i + 1), fun σ' H' p' => ⟨xs.length - (i + 1), by omega, rfl, hlt, p'⟩, fun x H' y => ?_⟩
    obtain ⟨T, x', rfl, hT, rfl, hx⟩ := y
    exact hs i x' T σ H (hx xs q) p hT
  · have e : i = xs.length := by omega
    subst e
    exact .inl ⟨⟨xs, q, Nat.le_refl _⟩, hd σ H p⟩
theorem pe_callN0 {X : Cx} {CX : CXT} {k : Nat} {f : Addr} {fd : FuncData} {ps ks : List Str} {sp : Sp} {E : XK} {x : Str} {p pos : Pos} {kws : List Keyword} {tk : TA} {g : List Value → List Value → List Value} {gV : List V → List V → List V}
    (F : FnOk X.prog X.w X.K X.mg X.base CX k f fd ps sp) (hr : Room k X.A) (hg : Gl X x) (hm : X.mg x = some (.ref f)) (hk : PySem.W.keepIn X.K (.ref f) = true) (hb : KBn X.K fd ps 0 ks g gV) (hx : Passes CX X E) (hkw : PK X kws tk)
    (hall : (backToKw pos (keywordEach kws X.env)).all (·.1.isSome) = true := by rfl) (hks : (backToKw pos (keywordEach kws X.env)).filterMap (·.1) = ks := by rfl) (hdb : (x == ("__debug__" : Str)) = false := by decide)
    (hpl : ((backTo pos (starEach [] X.env)).any (·.1) || (backToKw pos (keywordEach kws X.env)).any (·.1.isNone)) = false := by rfl) :
    PE X (.Call (.Name x p) [] kws pos) (tCallN 0 ks.length sp gV E tNil tk) := by
  refine ⟨fun pins s σ H Q I h => ?_⟩
  refine wpAny_Call_Name_kw (ld_glob I hg hm ?_ hdb)
  refine PySem.W.callWith_KW0 (h₀ := X.base) I.ok.mod.kin hk hall ?_ hpl
  refine thn (hkw.run pos pins s σ H _ I h) fun ws s2 ⟨zs, H2, I2, rz, l1, l2, q2⟩ => ⟨I2.kIn, ?_⟩
  rw [hks]
  exact run_fnN F hr hb hx I2 .nil rz rfl l2 q2
section
variable {X : Cx} {C : Addr} {k : Nat} {f : Addr} {ps : List Str} {sp : Sp}
theorem Met.op_in (c : Met X.prog X.w X.K X.mg X.base C "__contains__" k f ps sp) (hr : Room k X.A) : OpR X (compareOp .In) (rOwnIn C sp E0 _root_.id) := by
  obtain ⟨fd, F, b⟩ := c.ex
  exact op_own_in F hr c.me.at_ c.me.fn b pass0
theorem Met.op_notin (c : Met X.prog X.w X.K X.mg X.base C "__contains__" k f ps sp) (hr : Room k X.A) : OpR X (compareOp .NotIn) (rOwnIn C sp E0 Bool.not) := by
  obtain ⟨fd, F, b⟩ := c.ex
  exact op_own_notin F hr c.me.at_ c.me.fn b pass0
theorem Met.c_len (c : Met X.prog X.w X.K X.mg X.base C "__len__" k f ps sp) (hr : Room (k + 1) X.A) : CallR X (.builtin "len") (rOwnLen C sp E0) := by
  obtain ⟨fd, F, b⟩ := c.ex
  exact call_own_len F hr c.me.at_ c.me.fn b pass0
theorem Met.op_add (c : Met X.prog X.w X.K X.mg X.base C "__add__" k f ps sp) (hr : Room k X.A) (hc : PySem.W.selfFirst X.K C = true) : OpR X (binaryOp .Add) (rOwnAdd C sp E0) := by
  obtain ⟨fd, F, b⟩ := c.ex
  exact op_own_add F hr hc c.me.at_ c.me.fn b pass0
theorem Met.op_eq (c : Met X.prog X.w X.K X.mg X.base C "__eq__" k f ps sp) (hr : Room k X.A) : OpR X (compareOp .Eq) (rOwnEq C sp E0 _root_.id) := by
  obtain ⟨fd, F, b⟩ := c.ex
  exact op_own_eq F hr c.me.at_ c.me.fn b pass0
theorem Met.op_ne (c : Met X.prog X.w X.K X.mg X.base C "__eq__" k f ps sp) (hr : Room (k + 1) X.A) (hm : PySem.W.mroIn X.K C (.type "object") = some true) (hne : PySem.W.findIn X.K (.ref C) "__ne__" = some (some (.builtin "object.__ne__"))) : OpR X (compareOp .NotEq) (rOwnEq C sp E0 Bool.not) := by
  obtain ⟨fd, F, b⟩ := c.ex
  exact op_own_ne F hr hm hne c.me.at_ c.me.fn b pass0
theorem Met.p_ix {a b : Expr} {ta tb : TE} {pos : Pos} (c : Met X.prog X.w X.K X.mg X.base C "__getitem__" k f ps sp) (hr : Room (k + 1) X.A) (ha : PE X a ta) (hb' : PE X b tb) (hsl : ∀ o i, subscripted b true o i = runValue (.builtin "lifetime.subscript" ⟨[o, i], []⟩) := by exact fun _ _ => rfl) :
    PE X (.Subscript a b pos) (tOp (rOwnIx C sp E0) ta tb) := by
  obtain ⟨fd, F, bb⟩ := c.ex
  exact pe_own_ix F hr c.me.at_ c.fk c.me.fn bb pass0 ha hb' hsl
end
theorem Met.p_m0 {X : Cx} {C : Addr} {k : Nat} {f : Addr} {ps : List Str} {sp : Sp} {m : Str} {o : Expr} {ta : TE} {apos pos : Pos} {pl : Sem Bool} (c : Met X.prog X.w X.K X.mg X.base C m k f ps sp) (cl : Cls X.K C) (hr : Room k X.A) (he : PE X o ta)
    (ht : eval (.Call (.Attribute o m apos) [] [] pos) X.env = (do
      let ov ← eval o X.env
      standAt apos.atName
      let (f, first) ← holding [ov] (getMethod ov m pl)
      callWith pos f first (backTo pos (starEach [] X.env)) (backToKw pos (keywordEach [] X.env))) := by rfl) :
    PE X (.Call (.Attribute o m apos) [] [] pos) (tMeth C m sp [] E0 ta tNil) := by
  obtain ⟨fd, F, b⟩ := c.ex
  exact pe_meth0 he cl c.me F hr b .nil pass0 ht
/-! ### a class of the text -/
structure CF (K : PySem.W.Frag) (C : Addr) : Prop where
  cl : Cls K C
  cls : PySem.W.isClsIn K C = true
  ty : PySem.W.typeIn K (.ref C) = some (.type "type")
  oc : PySem.W.findIn K (.ref C) "__class__" = some (some (.builtin "object.__class__"))
  og : PySem.W.specialIn K (.builtin "object.__class__") "__get__" = some (some (.builtin "getset_descriptor.__get__"))
  ot : PySem.W.takesIn K (.builtin "object.__class__") = some true
  om : PySem.W.mroIn K C (.type "object") = some true
  sf : PySem.W.selfFirst K C = true
  ne : PySem.W.findIn K (.ref C) "__ne__" = some (some (.builtin "object.__ne__"))
theorem CF.kitT {K : PySem.W.Frag} {C : Addr} (M : CF K C) {H : Hp} {v : V} {n : String} (h : Kd H v n) : PySem.W.kitOne K (.type n) (.ref C) = some false := by
  have e1 : ((PySem.W.clsIn K C).isSome && PySem.W.typeIn K (.ref C) == some (.type "type")) = true := by
    have h2 : (PySem.W.clsIn K C).isSome = true := M.cls
    rw [h2, M.ty] <;> rfl
  have e2 : PySem.W.subIn K (.type n) (.ref C) = some false := by
    cases h with
    | non => exact sub_ty (l := ["NoneType", "object"]) (by decide +kernel)
    | bl _ => exact sub_ty (l := ["bool", "int", "object"]) (by decide +kernel)
    | int _ => exact sub_ty (l := ["int", "object"]) (by decide +kernel)
    | str _ => exact sub_ty (l := ["str", "object"]) (by decide +kernel)
    | lst _ => exact sub_ty (l := ["list", "object"]) (by decide +kernel)
    | tup _ => exact sub_ty (l := ["tuple", "object"]) (by decide +kernel)
    | dK _ => exact sub_ty (l := ["dict", "object"]) (by decide +kernel)
  show (if (Value.type n == Value.ref C) = true then some true else PySem.W.kitCls K (.type n) (.ref C)) = some false
  rw [if_neg (by intro z; cases z)]
  show (if ((PySem.W.clsIn K C).isSome && PySem.W.typeIn K (.ref C) == some (.type "type")) = true then PySem.W.subIn K (.type n) (.ref C) else none) = some false
  rw [if_pos e1, e2]
theorem CF.tyR {K : PySem.W.Frag} {C : Addr} (M : CF K C) {H : Hp} {p dx : Addr} {fs : List (Str × V)} (h : H p = some (.ins C dx fs)) : TyX K H (.ref p) (.ref C) := .base (.ins h M.cl M.oc M.og M.ot M.om)
theorem vals_rev {vs : List V} {us : List Value} (r : Vals vs us) : Vals vs.reverse us.reverse := by
  induction r with
  | nil => exact .nil
  | cons h t ih =>
    rw [List.reverse_cons, List.reverse_cons]
    exact ih.append (.cons h .nil)
/-- f(c = .., b = .., a = ..) of a def f(a, b, c) -/
theorem pe_kr {X : Cx} {k : Nat} {f : Addr} {sp : Sp} {x : Str} {ps : List Str} {st : Stmt} {kws : List Keyword} {tk : TA} {p pos : Pos} (D : Dfn X.K X.mg x st f ps) (h : ∀ fd, Fun X.K x x st f fd → FnOk X.prog X.w X.K X.mg X.base CX0 k f fd ps sp)
    (hbind : ∀ (kV doc pm : Value) (an : Option Addr) (cdv ct : Value) (us : List Value), us.length = ps.reverse.length → bindArgs (PySem.W.fnOf x x (defArgs st) (defBody st) (defScope st) .none kV doc pm an cdv ct) ⟨[], ps.reverse.zip us⟩ = pure (ps.zip us.reverse))
    (hr : Room k X.A) (hg : Gl X x) (hkw : PK X kws tk) (hall : (backToKw pos (keywordEach kws X.env)).all (·.1.isSome) = true := by rfl) (hks : (backToKw pos (keywordEach kws X.env)).filterMap (·.1) = ps.reverse := by rfl) (hdb : (x == ("__debug__" : Str)) = false := by decide)
    (hpl : ((backTo pos (starEach [] X.env)).any (·.1) || (backToKw pos (keywordEach kws X.env)).any (·.1.isNone)) = false := by rfl) :
    PE X (.Call (.Name x p) [] kws pos) (tCallN 0 ps.reverse.length sp (fun us ws => us ++ ws.reverse) E0 tNil tk) := by
  obtain ⟨fd, F, _⟩ := D.ex
  have hb : KBn X.K fd ps 0 ps.reverse (fun us ws => us ++ ws.reverse) (fun us ws => us ++ ws.reverse) := by
    refine ⟨fun s us ws hX h1 h2 => ?_, fun r1 r2 => r1.append (vals_rev r2)⟩
    obtain ⟨oc, od, kV, doc, pm, an, cdv, ct, osl, rfl, lk, hcd⟩ := F.ex
    match us, h1 with
    | [], _ => exact .of_eq (hbind kV doc pm an cdv ct ws h2)
  exact pe_callN0 (h fd F) hr hg D.g F.kp hb pass0 hkw hall hks hdb hpl
/-- where the defs and classes of the text stand -/
structure LA where
  f__wall : Addr
  f_is_integer : Addr
  f_is_at_least : Addr
  f_is_within : Addr
  f_steps_to : Addr
  f_common_divisor : Addr
  f_is_breaker : Addr
  f_check_breakers : Addr
  f_check_step : Addr
  f_request_time : Addr
  f_first_request : Addr
  f_last_time : Addr
  f_times_before : Addr
  f_part_of : Addr
  f_window_of : Addr
  f_thinned_run : Addr
  f_window_runs : Addr
  f_thinned_runs : Addr
  f_divided_runs : Addr
  f_time_from : Addr
  f_joined : Addr
  f_normal_form : Addr
  f_with_plain_step : Addr
  f_closed_states : Addr
  f_spells_of : Addr
  f_spell_from : Addr
  f_passed_runs : Addr
  f_recovery : Addr
  f_states_behind : Addr
  f_check_outages : Addr
  f_is_outage : Addr
  f_teeth_of : Addr
  f_delay_of : Addr
  f_reached_ends : Addr
  f_check_first : Addr
  f_check_last : Addr
  f_check_most : Addr
  f_tops : Addr
  f_greatest_delay : Addr
  f_first_above : Addr
  f_total_before : Addr
  f_total_delay : Addr
  f_mean_delay : Addr
  f_within_before : Addr
  f_count_within : Addr
  f_settled : Addr
  f__law_mixed : Addr
  f__law_well : Addr
  f__law_draw : Addr
  f__law_one : Addr
  f__law_row : Addr
  f__law_downs : Addr
  f__law_made : Addr
  f__law_begin : Addr
  f__law_window_right : Addr
  f__law_right : Addr
  c_Row : Addr
  i_Row : Addr
  m_Row_breaker_list : Addr
  m_Row_step_length : Addr
  m_Row_phase_time : Addr
  m_Row_len : Addr
  m_Row_getitem : Addr
  m_Row_contains : Addr
  m_Row_add : Addr
  m_Row_eq : Addr
  c_Spell : Addr
  i_Spell : Addr
  c_Delays : Addr
  i_Delays : Addr
  m_Delays_getitem : Addr
/-- what the text says of them -/
structure LX (K : PySem.W.Frag) (mg : Str → Option Value) (L : LA) : Prop where
  b_bool : mg "bool" = none
  b_divmod : mg "divmod" = none
  b_enumerate : mg "enumerate" = none
  b_int : mg "int" = none
  b_isinstance : mg "isinstance" = none
  b_len : mg "len" = none
  b_list : mg "list" = none
  b_max : mg "max" = none
  b_min : mg "min" = none
  b_range : mg "range" = none
  b_sum : mg "sum" = none
  b_tuple : mg "tuple" = none
  b_zip : mg "zip" = none
  n_MOST_BREAKERS : ∃ t, mg "MOST_BREAKERS" = some (.int 12 t)
  n_MOST_COUNT : ∃ t, mg "MOST_COUNT" = some (.int 1000000000000 t)
  n_MOST_TIME : ∃ t, mg "MOST_TIME" = some (.int 1000000000000000000000000000000 t)
  n_MOST_OUTAGES : ∃ t, mg "MOST_OUTAGES" = some (.int 50 t)
  d__wall : Dfn K mg "_wall" st__wall L.f__wall ["k"]
  d_is_integer : Dfn K mg "is_integer" st_is_integer L.f_is_integer ["value"]
  d_is_at_least : Dfn K mg "is_at_least" st_is_at_least L.f_is_at_least ["value", "least"]
  d_is_within : Dfn K mg "is_within" st_is_within L.f_is_within ["value", "least", "most"]
  d_steps_to : Dfn K mg "steps_to" st_steps_to L.f_steps_to ["distance", "step"]
  d_common_divisor : Dfn K mg "common_divisor" st_common_divisor L.f_common_divisor ["one", "other"]
  d_is_breaker : Dfn K mg "is_breaker" st_is_breaker L.f_is_breaker ["value"]
  d_check_breakers : Dfn K mg "check_breakers" st_check_breakers L.f_check_breakers ["breakers", "part"]
  d_check_step : Dfn K mg "check_step" st_check_step L.f_check_step ["step"]
  d_request_time : Dfn K mg "request_time" st_request_time L.f_request_time ["row", "number"]
  d_first_request : Dfn K mg "first_request" st_first_request L.f_first_request ["row", "time"]
  d_last_time : Dfn K mg "last_time" st_last_time L.f_last_time ["train"]
  d_times_before : Dfn K mg "times_before" st_times_before L.f_times_before ["train", "time"]
  d_part_of : Dfn K mg "part_of" st_part_of L.f_part_of ["train", "low", "high"]
  d_window_of : Dfn K mg "window_of" st_window_of L.f_window_of ["train", "first", "after"]
  d_thinned_run : Dfn K mg "thinned_run" st_thinned_run L.f_thinned_run ["train", "wait", "time"]
  d_window_runs : Dfn K mg "window_runs" st_window_runs L.f_window_runs ["trains", "first", "after"]
  d_thinned_runs : Dfn K mg "thinned_runs" st_thinned_runs L.f_thinned_runs ["trains", "wait", "time"]
  d_divided_runs : Dfn K mg "divided_runs" st_divided_runs L.f_divided_runs ["trains", "count"]
  d_time_from : Dfn K mg "time_from" st_time_from L.f_time_from ["trains", "time"]
  d_joined : Dfn K mg "joined" st_joined L.f_joined ["train", "following"]
  d_normal_form : Dfn K mg "normal_form" st_normal_form L.f_normal_form ["trains"]
  d_with_plain_step : Dfn K mg "with_plain_step" st_with_plain_step L.f_with_plain_step ["train"]
  d_closed_states : Dfn K mg "closed_states" st_closed_states L.f_closed_states ["number"]
  d_spells_of : Dfn K mg "spells_of" st_spells_of L.f_spells_of ["row", "outages"]
  d_spell_from : Dfn K mg "spell_from" st_spell_from L.f_spell_from ["row", "first", "begun", "outages", "at"]
  d_passed_runs : Dfn K mg "passed_runs" st_passed_runs L.f_passed_runs ["runs", "breaker", "state"]
  d_recovery : Dfn K mg "recovery" st_recovery L.f_recovery ["runs", "outages", "at"]
  d_states_behind : Dfn K mg "states_behind" st_states_behind L.f_states_behind ["row", "spell", "time"]
  d_check_outages : Dfn K mg "check_outages" st_check_outages L.f_check_outages ["outages"]
  d_is_outage : Dfn K mg "is_outage" st_is_outage L.f_is_outage ["value"]
  d_teeth_of : Dfn K mg "teeth_of" st_teeth_of L.f_teeth_of ["runs", "begin"]
  d_delay_of : Dfn K mg "delay_of" st_delay_of L.f_delay_of ["teeth", "end"]
  d_reached_ends : Dfn K mg "reached_ends" st_reached_ends L.f_reached_ends ["tooth", "after"]
  d_check_first : Dfn K mg "check_first" st_check_first L.f_check_first ["delays", "first"]
  d_check_last : Dfn K mg "check_last" st_check_last L.f_check_last ["first", "last"]
  d_check_most : Dfn K mg "check_most" st_check_most L.f_check_most ["most"]
  d_tops : Dfn K mg "tops" st_tops L.f_tops ["delays", "first"]
  d_greatest_delay : Dfn K mg "greatest_delay" st_greatest_delay L.f_greatest_delay ["delays", "first", "last"]
  d_first_above : Dfn K mg "first_above" st_first_above L.f_first_above ["delays", "most", "first"]
  d_total_before : Dfn K mg "total_before" st_total_before L.f_total_before ["delays", "after"]
  d_total_delay : Dfn K mg "total_delay" st_total_delay L.f_total_delay ["delays", "first", "last"]
  d_mean_delay : Dfn K mg "mean_delay" st_mean_delay L.f_mean_delay ["delays", "first", "last"]
  d_within_before : Dfn K mg "within_before" st_within_before L.f_within_before ["delays", "most", "after"]
  d_count_within : Dfn K mg "count_within" st_count_within L.f_count_within ["delays", "most", "first", "last"]
  d_settled : Dfn K mg "settled" st_settled L.f_settled ["delays"]
  d__law_mixed : Dfn K mg "_law_mixed" st__law_mixed L.f__law_mixed ["_law_cell", "_law_k"]
  d__law_well : Dfn K mg "_law_well" st__law_well L.f__law_well ["_law_cell"]
  d__law_draw : Dfn K mg "_law_draw" st__law_draw L.f__law_draw ["_law_well_here", "_law_many"]
  d__law_one : Dfn K mg "_law_one" st__law_one L.f__law_one ["_law_well_here", "_law_some"]
  d__law_row : Dfn K mg "_law_row" st__law_row L.f__law_row ["_law_well_here"]
  d__law_downs : Dfn K mg "_law_downs" st__law_downs L.f__law_downs ["_law_well_here", "_law_most"]
  d__law_made : Dfn K mg "_law_made" st__law_made L.f__law_made ["_law_line"]
  d__law_begin : Dfn K mg "_law_begin" st__law_begin L.f__law_begin ["_law_well_here", "_law_downs_here"]
  d__law_window_right : Dfn K mg "_law_window_right" st__law_window_right L.f__law_window_right ["_law_told", "_law_rows", "_law_most"]
  d__law_right : Dfn K mg "_law_right" st__law_right L.f__law_right ["_law_well_here"]
  gc_Row : mg "Row" = some (.ref L.c_Row)
  cf_Row : CF K L.c_Row
  mk_Row : Mk K L.c_Row L.i_Row
  nf_Row_breakers : NoAttr K L.c_Row "breakers"
  nf_Row_step : NoAttr K L.c_Row "step"
  nf_Row_phase : NoAttr K L.c_Row "phase"
  in_Row : ∃ fd, FunD K "__init__" "Row.__init__" (defArgs st_Row_init) (defBody st_Row_init) (defScope st_Row_init) [] [("phase", .int 0)] L.i_Row fd
  mm_Row_breaker_list : Mth K L.c_Row "breaker_list" "Row.breaker_list" st_Row_breaker_list L.m_Row_breaker_list ["self"]
  mm_Row_step_length : Mth K L.c_Row "step_length" "Row.step_length" st_Row_step_length L.m_Row_step_length ["self"]
  mm_Row_phase_time : Mth K L.c_Row "phase_time" "Row.phase_time" st_Row_phase_time L.m_Row_phase_time ["self"]
  mm_Row_len : Mth K L.c_Row "__len__" "Row.__len__" st_Row_len L.m_Row_len ["self"]
  mm_Row_getitem : Mth K L.c_Row "__getitem__" "Row.__getitem__" st_Row_getitem L.m_Row_getitem ["self", "at"]
  mm_Row_contains : Mth K L.c_Row "__contains__" "Row.__contains__" st_Row_contains L.m_Row_contains ["self", "x"]
  mm_Row_add : Mth K L.c_Row "__add__" "Row.__add__" st_Row_add L.m_Row_add ["self", "other"]
  mm_Row_eq : Mth K L.c_Row "__eq__" "Row.__eq__" st_Row_eq L.m_Row_eq ["self", "other"]
  gc_Spell : mg "Spell" = some (.ref L.c_Spell)
  cf_Spell : CF K L.c_Spell
  mk_Spell : Mk K L.c_Spell L.i_Spell
  nf_Spell_first : NoAttr K L.c_Spell "first"
  nf_Spell_recovered : NoAttr K L.c_Spell "recovered"
  nf_Spell_begun : NoAttr K L.c_Spell "begun"
  nf_Spell_runs : NoAttr K L.c_Spell "runs"
  nf_Spell_opened : NoAttr K L.c_Spell "opened"
  in_Spell : ∃ fd, Fun K "__init__" "Spell.__init__" st_Spell_init L.i_Spell fd ∧ Binds K fd ["self", "first", "recovered", "begun", "runs", "opened"] []
  gc_Delays : mg "Delays" = some (.ref L.c_Delays)
  cf_Delays : CF K L.c_Delays
  mk_Delays : Mk K L.c_Delays L.i_Delays
  nf_Delays_begin : NoAttr K L.c_Delays "begin"
  nf_Delays_runs : NoAttr K L.c_Delays "runs"
  nf_Delays_teeth : NoAttr K L.c_Delays "teeth"
  in_Delays : ∃ fd, Fun K "__init__" "Delays.__init__" st_Delays_init L.i_Delays fd ∧ Binds K fd ["self", "row", "outages", "begin"] []
  mm_Delays_getitem : Mth K L.c_Delays "__getitem__" "Delays.__getitem__" st_Delays_getitem L.m_Delays_getitem ["self", "at"]

/-- a comprehension over zip of two lists -/
theorem lc_zip {K : PySem.W.Frag} {a b : Addr} {xs ys : List V} {g : TG} {tt : TT} {te : TE} {vs : List Nat} {σ : L2.St} {H1 : Hp} {D : Addr} {Qd : Hp → Prop} (hlen : ys.length ≤ xs.length) (Pv : Nat → Hp → Prop) (h0 : Pv 0 (upd H1 D (.lst []))) (hl : ∀ i H, Pv i H → SqL K H a xs ∧ SqL K H b ys)
    (hs : ∀ (i : Nat) (x y : V) (T : Addr) (H : Hp), xs[i]? = some x → ys[i]? = some y → Pv i H → H T = none → g (.ref T) (wipe σ vs) (upd H T (.tup [x, y])) fun σ2 H2 => wipe σ2 vs = wipe σ vs ∧ tt σ2 H2 fun b H3 =>
      if b = true then te σ2 H3 fun y H4 => ∃ acc, H4 D = some (.lst acc) ∧ acc.length < sizeLine ∧ Pv (i + 1) (upd H4 D (.lst (acc ++ [y]))) else Pv (i + 1) H3) (hd : ∀ H, Pv ys.length H → Qd H) :
    ∃ W : Nat → Nat → Hp → Prop, (∃ m, W 0 m (upd H1 D (.lst []))) ∧ ∀ i m H, W i m H → ((Itz K a b).stop i H ∧ Qd H) ∨ ((Itz K a b).go i H ∧ ∃ Nx : Hp → Prop, (∀ H', Nx H' → ∃ m', m' < m ∧ W (i + 1) m' H') ∧ ∀ x H', (Itz K a b).yld i H x H' → g x (wipe σ vs) H' fun σ2 H2 => wipe σ2 vs = wipe σ vs ∧ tt σ2 H2 fun b H3 =>
        if b = true then te σ2 H3 fun y H4 => ∃ acc, H4 D = some (.lst acc) ∧ acc.length < sizeLine ∧ Nx (upd H4 D (.lst (acc ++ [y]))) else Nx H3) := by
  refine ⟨fun i m H => m = ys.length - i ∧ i ≤ ys.length ∧ Pv i H, ⟨ys.length, by omega, Nat.zero_le _, h0⟩, ?_⟩
  rintro i m H ⟨rfl, hi, p⟩
  obtain ⟨qx, qy⟩ := hl i H p
  by_cases hlt : i < ys.length
  · have hx : xs[i]? = some xs[i] := List.getElem?_eq_getElem (by omega)
    have hy : ys[i]? = some ys[i] := List.getElem?_eq_getElem hlt
    refine .inr ⟨⟨xs, ys, _, _, qx, qy, hx, hy⟩, Pv (i + 1), fun H' p' => ⟨ys.length - (i + 1), by omega, rfl, hlt, p'⟩, fun v H' y => ?_⟩
    obtain ⟨T, x', y', rfl, hT, rfl, f1, f2⟩ := y
    exact hs i x' y' T H (f1 xs qx) (f2 ys qy) p hT
  · have e : i = ys.length := by omega
    subst e
    exact .inl ⟨⟨xs, ys, qx, qy, .inr (Nat.le_refl _)⟩, hd H p⟩
/-- an attribute inside a comprehension -/
theorem pe_fldK {X : Cx} {K : PySem.W.Frag} {e : Expr} {f : Str} {pos : Pos} {ta : TE} (hK : X.K = K) (he : PE X e ta) (hb : attributeBase e f X.env (eval e X.env) = eval e X.env) : PE X (.Attribute e f pos) (tFld K ta f) := by
  subst hK
  exact pe_fld he hb
theorem putF_len (f : Str) (v : V) (fs : List (Str × V)) {n : Nat} (h : fs.length ≤ n) : (putF f v fs).length ≤ n + 1 := Nat.le_trans (length_putF f v fs) (Nat.succ_le_succ h)
def spRup : Sp := fun vs H Q _ => ∃ v u : Int, vs = [.int v, .int u] ∧ 0 < u ∧ u.natAbs.log2 < 9000 ∧ CMulW (stepsUp v u) u ∧ Q (.int (stepsUp v u * u)) H
/-! ### the small defs -/
section
variable {P : Program} {w : World} {K : PySem.W.Frag} {mg : Str → Option Value} {base : Heap} {L : LA}
abbrev N_isinteger : List Str := ["value"]
theorem sc_isinteger : FnScope N_isinteger ["value"] (defScope st_is_integer) := ⟨rfl, rfl, rfl, by decide +kernel, rfl, by decide +kernel, by decide +kernel⟩
theorem fn_isinteger (T : LX K mg L) {fd : FuncData} (F : Fun K "is_integer" "is_integer" st_is_integer L.f_is_integer fd) : FnOk P w K mg base CX0 1 L.f_is_integer fd ["value"] (spIsInt) := by
  have nd := sc_isinteger.nd
  refine F.ok sc_isinteger (fun vs H Q E h => ?_) (fun cdv A outer S H vs Q E hr h => ?_)
  · obtain ⟨v, n, rfl, _⟩ := h
    rfl
  · obtain ⟨v, n, rfl, hv, k⟩ := h
    refine ⟨_, (pss_one (ps_ret (pe_and (pe_callB call_isi (by rfl) T.b_isinstance (by decide +kernel) (pa_cons (pv 0) (pa_cons (pe_bltn (by rfl) T.b_int (by decide +kernel : bootBuiltins "int" = some (.type "int")) (v := .ty "int") rfl) pa_nil))) (pe_one (pe_not (pe_callB call_isi (by rfl) T.b_isinstance (by decide +kernel) (pa_cons (pv 0) (pa_cons (pe_bltn (by rfl) T.b_bool (by decide +kernel : bootBuiltins "bool" = some (.type "bool")) (v := .ty "bool") rfl) pa_nil)))))))), ?_⟩
    refine ⟨_, rfl, v, .ty "int", _, _, _, rfl, .ty "int", hv.ty, hv.kit "int" _ (.inl ⟨rfl, rfl⟩), _, rfl, ?_⟩
    refine ite2 (fun c => ?_) (fun c => ?_)
    · refine ⟨_, rfl, v, .ty "bool", _, _, _, rfl, .ty "bool", hv.ty, hv.kit "bool" _ (.inr ⟨by decide, by decide, rfl⟩), _, rfl, ?_⟩
      cases hv <;> first | exact k | (exact absurd c (by decide))
    · cases hv <;> first | exact k | (exact absurd (by decide) c)
theorem ok_isinteger (T : LX K mg L) : Cal P w K mg base "is_integer" 1 L.f_is_integer ["value"] (spIsInt) := T.d_is_integer.cal fun fd F => fn_isinteger T F
abbrev N_isatleast : List Str := ["value", "least"]
theorem sc_isatleast : FnScope N_isatleast ["value", "least"] (defScope st_is_at_least) := ⟨rfl, rfl, rfl, by decide +kernel, rfl, by decide +kernel, by decide +kernel⟩
theorem fn_isatleast (T : LX K mg L) {fd : FuncData} (F : Fun K "is_at_least" "is_at_least" st_is_at_least L.f_is_at_least fd) : FnOk P w K mg base CX0 2 L.f_is_at_least fd ["value", "least"] (spAtL) := by
  have G_isinteger := ok_isinteger (P := P) (w := w) (base := base) T
  have nd := sc_isatleast.nd
  refine F.ok sc_isatleast (fun vs H Q E h => ?_) (fun cdv A outer S H vs Q E hr h => ?_)
  · obtain ⟨v, n, l, rfl, _⟩ := h
    rfl
  · obtain ⟨v, n, l, rfl, hv, k⟩ := h
    refine ⟨_, (pss_one (ps_ret (pe_and (pe_c G_isinteger (hr.mono (by decide)) rfl (pa_cons (pv 0) pa_nil)) (pe_one (pe_cmpR op_ge (pv 0) (pv 1) (nomark _)))))), ?_⟩
    refine ⟨_, rfl, v, n, rfl, hv, _, rfl, ?_⟩
    cases v with
    | int i => exact iteT ⟨_, rfl, _, rfl, _, _, rfl, rfl, k⟩
    | _ => exact iteF k
theorem ok_isatleast (T : LX K mg L) : Cal P w K mg base "is_at_least" 2 L.f_is_at_least ["value", "least"] (spAtL) := T.d_is_at_least.cal fun fd F => fn_isatleast T F
abbrev N_iswithin : List Str := ["value", "least", "most"]
theorem sc_iswithin : FnScope N_iswithin ["value", "least", "most"] (defScope st_is_within) := ⟨rfl, rfl, rfl, by decide +kernel, rfl, by decide +kernel, by decide +kernel⟩
theorem fn_iswithin (T : LX K mg L) {fd : FuncData} (F : Fun K "is_within" "is_within" st_is_within L.f_is_within fd) : FnOk P w K mg base CX0 2 L.f_is_within fd ["value", "least", "most"] (spWithin) := by
  have G_isinteger := ok_isinteger (P := P) (w := w) (base := base) T
  have nd := sc_iswithin.nd
  refine F.ok sc_iswithin (fun vs H Q E h => ?_) (fun cdv A outer S H vs Q E hr h => ?_)
  · obtain ⟨v, n, l, m, rfl, _⟩ := h
    rfl
  · obtain ⟨v, n, l, m, rfl, hv, k⟩ := h
    refine ⟨_, (pss_one (ps_ret (pe_and (pe_c G_isinteger (hr.mono (by decide)) rfl (pa_cons (pv 0) pa_nil)) (pe_one (pe_chain op_le op_le (pv 1) (pv 0) (pv 2)))))), ?_⟩
    refine ⟨_, rfl, v, n, rfl, hv, _, rfl, ?_⟩
    cases v with
    | int i =>
      refine iteT ⟨_, rfl, _, rfl, _, _, rfl, rfl, _, rfl, ?_⟩
      refine ite2 (fun c => ?_) (fun c => ?_)
      · refine ⟨_, rfl, _, _, rfl, rfl, ?_⟩
        have c' : decide (l ≤ i) = true := c
        have k' : Q (.bl (decide (l ≤ i) && decide (i ≤ m))) H := k
        rw [c', Bool.true_and] at k'
        exact k'
      · have c' : decide (l ≤ i) = false := by simpa using c
        have k' : Q (.bl (decide (l ≤ i) && decide (i ≤ m))) H := k
        rw [c', Bool.false_and] at k'
        exact k'
    | _ => exact iteF k
theorem ok_iswithin (T : LX K mg L) : Cal P w K mg base "is_within" 2 L.f_is_within ["value", "least", "most"] (spWithin) := T.d_is_within.cal fun fd F => fn_iswithin T F
abbrev N_stepsto : List Str := ["distance", "step"]
theorem sc_stepsto : FnScope N_stepsto ["distance", "step"] (defScope st_steps_to) := ⟨rfl, rfl, rfl, by decide +kernel, rfl, by decide +kernel, by decide +kernel⟩
theorem fn_stepsto (T : LX K mg L) {fd : FuncData} (F : Fun K "steps_to" "steps_to" st_steps_to L.f_steps_to fd) : FnOk P w K mg base CX0 1 L.f_steps_to fd ["distance", "step"] (spSteps) := by
  have nd := sc_stepsto.nd
  refine F.ok sc_stepsto (fun vs H Q E h => ?_) (fun cdv A outer S H vs Q E hr h => ?_)
  · obtain ⟨d, st, rfl, _⟩ := h
    rfl
  · obtain ⟨d, st, rfl, h0, h1, k⟩ := h
    refine ⟨_, (pss_one (ps_ret (pe_callB (call_max2 rfl) (by rfl) T.b_max (by decide +kernel) (pa_cons pe_int (pa_cons (pe_un un_neg (pe_op op_fdivW (pe_un un_neg (pv 0)) (pv 1))) pa_nil))))), ?_⟩
    exact ⟨_, rfl, _, rfl, _, rfl, _, _, rfl, rfl, ⟨h0, h1⟩, _, rfl, _, _, rfl, k⟩
theorem ok_stepsto (T : LX K mg L) : Cal P w K mg base "steps_to" 1 L.f_steps_to ["distance", "step"] (spSteps) := T.d_steps_to.cal fun fd F => fn_stepsto T F
end
/-! ### trains as data -/
abbrev Trn := Int × Int × Option Int
def OkTr (t : Trn) : Prop := 0 ≤ t.1 ∧ 1 ≤ t.2.1 ∧ ∀ c, t.2.2 = some c → 1 ≤ c
/-- all times of the first are before the second -/
def Lt (t u : Trn) : Prop := ∃ c, t.2.2 = some c ∧ t.1 + (c - 1) * t.2.1 < u.1
def Srt (ts : List Trn) : Prop := (∀ t ∈ ts, OkTr t) ∧ ts.Pairwise Lt
def minO (n : Int) : Option Int → Int
  | none => n
  | some c => if c < n then c else n
/-- how many times of a train are before x -/
def nbT (t : Trn) (x : Int) : Int := minO (stepsUp (x - t.1) t.2.1) t.2.2
def NB : List Trn → Int → Int
  | [], _ => 0
  | t :: ts, x => nbT t x + NB ts x
def At : List Trn → Int → Option Int
  | [], _ => none
  | t :: ts, i => match t.2.2 with
    | none => some (t.1 + i * t.2.1)
    | some c => if i < c then some (t.1 + i * t.2.1) else At ts (i - c)
def addO (c : Int) : Option Int → Option Int
  | none => none
  | some n => some (c + n)
def Tot : List Trn → Option Int
  | [] => some 0
  | t :: ts => match t.2.2 with
    | none => none
    | some c => addO c (Tot ts)
/-- d / s, rounded up -/
def cl (d s : Int) : Int := -(-d / s)
theorem stepsUp_cl (d s : Int) : stepsUp d s = if cl d s > 0 then cl d s else 0 := rfl
theorem cl_sub (d s c : Int) (hs : 0 < s) : cl (d - c * s) s = cl d s - c := by
  unfold cl
  have e : -(d - c * s) = -d + c * s := by omega
  rw [e, Int.add_mul_ediv_right _ _ (show s ≠ 0 by omega)]
  omega
theorem cl_le {d s n : Int} (hs : 0 < s) : cl d s ≤ n ↔ d ≤ n * s := by
  unfold cl
  have h : -n ≤ -d / s ↔ -n * s ≤ -d := Int.le_ediv_iff_mul_le hs
  rw [Int.neg_mul] at h
  omega
theorem cl_gt {d s n : Int} (hs : 0 < s) : n < cl d s ↔ n * s < d := by
  have h := cl_le (d := d) (s := s) (n := n) hs
  omega
def subO (k : Option Int) (c : Int) : Option Int := match k with
  | none => none
  | some n => some (n - c)
/-- a train is its first c times, and the others -/
theorem nbT_split {s p c : Int} {k : Option Int} (hp : 0 < p) (hc : 0 ≤ c) (hk : ∀ n, k = some n → c ≤ n) (x : Int) : nbT (s, p, k) x = nbT (s, p, some c) x + nbT (s + c * p, p, subO k c) x := by
  have e : x - (s + c * p) = x - s - c * p := by omega
  show minO (stepsUp (x - s) p) k = minO (stepsUp (x - s) p) (some c) + minO (stepsUp (x - (s + c * p)) p) (subO k c)
  rw [e, stepsUp_cl, stepsUp_cl, cl_sub _ _ _ hp]
  cases k with
  | none =>
    show (if cl (x - s) p > 0 then cl (x - s) p else 0) = (if c < (if cl (x - s) p > 0 then cl (x - s) p else 0) then c else (if cl (x - s) p > 0 then cl (x - s) p else 0)) + (if cl (x - s) p - c > 0 then cl (x - s) p - c else 0)
    split <;> split <;> split <;> omega
  | some n =>
    have := hk n rfl
    show (if n < (if cl (x - s) p > 0 then cl (x - s) p else 0) then n else (if cl (x - s) p > 0 then cl (x - s) p else 0)) = (if c < (if cl (x - s) p > 0 then cl (x - s) p else 0) then c else (if cl (x - s) p > 0 then cl (x - s) p else 0)) + (if n - c < (if cl (x - s) p - c > 0 then cl (x - s) p - c else 0) then n - c else (if cl (x - s) p - c > 0 then cl (x - s) p - c else 0))
    split <;> split <;> split <;> split <;> (try split) <;> omega
/-- the step of a single time is nothing -/
theorem nbT_one {s p q : Int} (hp : 0 < p) (hq : 0 < q) (x : Int) : nbT (s, p, some 1) x = nbT (s, q, some 1) x := by
  have one : ∀ p : Int, 0 < p → nbT (s, p, some 1) x = if s < x then 1 else 0 := fun p hp => by
    show (if (1 : Int) < (if cl (x - s) p > 0 then cl (x - s) p else 0) then (1 : Int) else (if cl (x - s) p > 0 then cl (x - s) p else 0)) = _
    have h0 : 0 < cl (x - s) p ↔ 0 * p < x - s := cl_gt hp
    rw [Int.zero_mul] at h0
    split <;> split <;> split <;> omega
  rw [one p hp, one q hq]
theorem NB_app : ∀ (ts us : List Trn) (x : Int), NB (ts ++ us) x = NB ts x + NB us x
  | [], us, x => by show NB us x = 0 + NB us x; omega
  | t :: ts, us, x => by
    show nbT t x + NB (ts ++ us) x = nbT t x + NB ts x + NB us x
    rw [NB_app ts us x]
    omega
theorem addO_addO (a b : Int) (k : Option Int) : addO a (addO b k) = addO (a + b) k := by
  cases k with
  | none => rfl
  | some n => show some (a + (b + n)) = some (a + b + n); rw [Int.add_assoc]
theorem nbT_nn {t : Trn} (h : OkTr t) (x : Int) : 0 ≤ nbT t x := by
  obtain ⟨s, p, k⟩ := t
  show 0 ≤ minO (stepsUp (x - s) p) k
  rw [stepsUp_cl]
  cases k with
  | none => show 0 ≤ if cl (x - s) p > 0 then cl (x - s) p else 0; split <;> omega
  | some c =>
    have := h.2.2 c rfl
    show 0 ≤ if c < (if cl (x - s) p > 0 then cl (x - s) p else 0) then c else (if cl (x - s) p > 0 then cl (x - s) p else 0)
    split <;> (try split) <;> omega
theorem nbT_zero {t : Trn} (h : OkTr t) {x : Int} (hx : x ≤ t.1) : nbT t x = 0 := by
  obtain ⟨s, p, k⟩ := t
  have hp : 0 < p := by
    have h2 : 1 ≤ p := h.2.1
    omega
  have h1 : cl (x - s) p ≤ 0 := (cl_le hp).mpr (by
    have h2 : x ≤ s := hx
    omega)
  show minO (stepsUp (x - s) p) k = 0
  rw [stepsUp_cl, if_neg (by omega)]
  cases k with
  | none => rfl
  | some c =>
    have := h.2.2 c rfl
    show (if c < 0 then c else 0) = 0
    rw [if_neg (by omega)]
theorem nbT_all {t : Trn} (h : OkTr t) {x c : Int} (hc : t.2.2 = some c) (hx : t.1 + (c - 1) * t.2.1 < x) : nbT t x = c := by
  obtain ⟨s, p, k⟩ := t
  have hp : 0 < p := by
    have h2 : 1 ≤ p := h.2.1
    omega
  have h0 : k = some c := hc
  subst h0
  have h1 : c - 1 < cl (x - s) p := (cl_gt hp).mpr (by
    have h2 : s + (c - 1) * p < x := hx
    omega)
  have := h.2.2 c rfl
  show (if c < stepsUp (x - s) p then c else stepsUp (x - s) p) = c
  rw [stepsUp_cl]
  split <;> (try split at *) <;> omega
theorem NB_nn {ts : List Trn} (h : ∀ t ∈ ts, OkTr t) (x : Int) : 0 ≤ NB ts x := by
  induction ts with
  | nil => exact Int.le_refl _
  | cons t ts ih =>
    have h1 := nbT_nn (h t (List.mem_cons_self ..)) x
    have h2 := ih fun u hu => h u (List.mem_cons_of_mem _ hu)
    show 0 ≤ nbT t x + NB ts x
    omega
theorem NB_zero {ts : List Trn} (h : ∀ t ∈ ts, OkTr t) {x : Int} (hx : ∀ t ∈ ts, x ≤ t.1) : NB ts x = 0 := by
  induction ts with
  | nil => rfl
  | cons t ts ih =>
    show nbT t x + NB ts x = 0
    rw [nbT_zero (h t (List.mem_cons_self ..)) (hx t (List.mem_cons_self ..)), ih (fun u hu => h u (List.mem_cons_of_mem _ hu)) fun u hu => hx u (List.mem_cons_of_mem _ hu)]
    rfl
theorem Srt.tail {t : Trn} {ts : List Trn} (h : Srt (t :: ts)) : Srt ts := ⟨fun u hu => h.1 u (List.mem_cons_of_mem _ hu), (List.pairwise_cons.mp h.2).2⟩
theorem Srt.head {t : Trn} {ts : List Trn} (h : Srt (t :: ts)) : OkTr t := h.1 t (List.mem_cons_self ..)
theorem Srt.lt {t : Trn} {ts : List Trn} (h : Srt (t :: ts)) : ∀ u ∈ ts, Lt t u := (List.pairwise_cons.mp h.2).1
theorem lt_start {t u : Trn} (h : OkTr t) (l : Lt t u) : t.1 < u.1 := by
  obtain ⟨c, e, q⟩ := l
  have hc := h.2.2 c e
  have : 0 ≤ (c - 1) * t.2.1 := Int.mul_nonneg (by omega) (by have := h.2.1; omega)
  omega
/-! what is before x, and which time is the i-th -/
theorem nbT_le {t : Trn} {x c : Int} (e : t.2.2 = some c) : nbT t x ≤ c := by
  unfold nbT
  rw [e]
  show (if c < stepsUp (x - t.1) t.2.1 then c else stepsUp (x - t.1) t.2.1) ≤ c
  split <;> omega
/-- the times before x are those with an index below nbT -/
theorem nbT_lt {t : Trn} (h : OkTr t) {x i : Int} (i0 : 0 ≤ i) (hi : ∀ c, t.2.2 = some c → i < c) : i < nbT t x ↔ t.1 + i * t.2.1 < x := by
  obtain ⟨s, p, k⟩ := t
  have hp : 0 < p := by
    have h2 : 1 ≤ p := h.2.1
    omega
  have h1 : i < cl (x - s) p ↔ i * p < x - s := cl_gt hp
  have e : (s + i * p < x) ↔ i * p < x - s := by omega
  show i < minO (stepsUp (x - s) p) k ↔ s + i * p < x
  rw [stepsUp_cl, e, ← h1]
  cases k with
  | none =>
    show i < (if cl (x - s) p > 0 then cl (x - s) p else 0) ↔ _
    split <;> omega
  | some c =>
    have := hi c rfl
    show i < (if c < (if cl (x - s) p > 0 then cl (x - s) p else 0) then c else (if cl (x - s) p > 0 then cl (x - s) p else 0)) ↔ _
    split <;> (try split) <;> (try split at *) <;> omega
theorem At_lt : ∀ {ts : List Trn}, Srt ts → ∀ {i y : Int}, 0 ≤ i → At ts i = some y → ∀ x, i < NB ts x ↔ y < x
  | [], _, i, y, _, e, _ => by cases e
  | t :: ts, h, i, y, i0, e, x => by
    have ht := h.head
    have hs := h.tail
    have nn := NB_nn hs.1 x
    cases hk : t.2.2 with
    | none =>
      have e' : At (t :: ts) i = some (t.1 + i * t.2.1) := by
        show (match t.2.2 with | none => some (t.1 + i * t.2.1) | some c => if i < c then some (t.1 + i * t.2.1) else At ts (i - c)) = _
        rw [hk]
      rw [e'] at e
      have ey := Option.some.inj e
      subst ey
      have nt : ts = [] := by
        cases ts with
        | nil => rfl
        | cons u us =>
          obtain ⟨c, hc, _⟩ := h.lt u (List.mem_cons_self ..)
          rw [hk] at hc
          cases hc
      subst nt
      have := nbT_lt ht (x := x) i0 (fun c hc => by rw [hk] at hc; cases hc)
      show i < nbT t x + 0 ↔ _
      rw [Int.add_zero]
      exact this
    | some c =>
      have e' : At (t :: ts) i = if i < c then some (t.1 + i * t.2.1) else At ts (i - c) := by
        show (match t.2.2 with | none => some (t.1 + i * t.2.1) | some c => if i < c then some (t.1 + i * t.2.1) else At ts (i - c)) = _
        rw [hk]
      rw [e'] at e
      show i < nbT t x + NB ts x ↔ y < x
      by_cases hi : i < c
      · rw [if_pos hi] at e
        have ey := Option.some.inj e
        have h1 := nbT_lt ht (x := x) i0 (fun c' hc => by rw [hk] at hc; cases hc; exact hi)
        by_cases hl : t.1 + (c - 1) * t.2.1 < x
        · have h2 := nbT_all ht hk hl
          omega
        · have h3 : NB ts x = 0 := NB_zero hs.1 fun u hu => by
            obtain ⟨c', hc, q⟩ := h.lt u hu
            rw [hk] at hc
            cases hc
            omega
          omega
      · rw [if_neg hi] at e
        have ih := At_lt hs (i := i - c) (by omega) e x
        have h2 := nbT_le (x := x) hk
        by_cases hl : t.1 + (c - 1) * t.2.1 < x
        · have h3 := nbT_all ht hk hl
          omega
        · have h3 : NB ts x = 0 := NB_zero hs.1 fun u hu => by
            obtain ⟨c', hc, q⟩ := h.lt u hu
            rw [hk] at hc
            cases hc
            omega
          omega
theorem tot_nn : ∀ {ts : List Trn}, (∀ t ∈ ts, OkTr t) → ∀ n, Tot ts = some n → 0 ≤ n
  | [], _, n, e => by cases e; exact Int.le_refl _
  | t :: ts, h, n, e => by
    cases hk : t.2.2 with
    | none =>
      have e2 : Tot (t :: ts) = none := by
        show (match t.2.2 with | none => none | some c => addO c (Tot ts)) = _
        rw [hk]
      rw [e2] at e
      cases e
    | some c =>
      have e2 : Tot (t :: ts) = addO c (Tot ts) := by
        show (match t.2.2 with | none => none | some c => addO c (Tot ts)) = _
        rw [hk]
      rw [e2] at e
      cases ht : Tot ts with
      | none => rw [ht] at e; cases e
      | some m =>
        rw [ht] at e
        have z' : c + m = n := Option.some.inj e
        have := tot_nn (fun u hu => h u (List.mem_cons_of_mem _ hu)) m ht
        have := (h t (List.mem_cons_self ..)).2.2 c hk
        omega
theorem At_none : ∀ {ts : List Trn}, (∀ t ∈ ts, OkTr t) → ∀ {i : Int}, 0 ≤ i → (At ts i = none ↔ ∃ n, Tot ts = some n ∧ n ≤ i)
  | [], _, i, i0 => ⟨fun _ => ⟨0, rfl, i0⟩, fun _ => rfl⟩
  | t :: ts, h, i, i0 => by
    cases hk : t.2.2 with
    | none =>
      have e' : At (t :: ts) i = some (t.1 + i * t.2.1) := by
        show (match t.2.2 with | none => some (t.1 + i * t.2.1) | some c => if i < c then some (t.1 + i * t.2.1) else At ts (i - c)) = _
        rw [hk]
      have e2 : Tot (t :: ts) = none := by
        show (match t.2.2 with | none => none | some c => addO c (Tot ts)) = _
        rw [hk]
      rw [e', e2]
      exact ⟨fun z => (by cases z), fun ⟨n, z, _⟩ => (by cases z)⟩
    | some c =>
      have e' : At (t :: ts) i = if i < c then some (t.1 + i * t.2.1) else At ts (i - c) := by
        show (match t.2.2 with | none => some (t.1 + i * t.2.1) | some c => if i < c then some (t.1 + i * t.2.1) else At ts (i - c)) = _
        rw [hk]
      have e2 : Tot (t :: ts) = addO c (Tot ts) := by
        show (match t.2.2 with | none => none | some c => addO c (Tot ts)) = _
        rw [hk]
      have tn : ∀ n, Tot ts = some n → 0 ≤ n := tot_nn fun u hu => h u (List.mem_cons_of_mem _ hu)
      rw [e', e2]
      by_cases hi : i < c
      · rw [if_pos hi]
        refine ⟨fun z => (by cases z), fun ⟨n, z, hn⟩ => ?_⟩
        cases ht : Tot ts with
        | none => rw [ht] at z; cases z
        | some m =>
          rw [ht] at z
          have := tn m ht
          have z' : c + m = n := Option.some.inj z
          omega
      · rw [if_neg hi]
        have ih := At_none (ts := ts) (fun u hu => h u (List.mem_cons_of_mem _ hu)) (i := i - c) (by omega)
        rw [ih]
        constructor
        · rintro ⟨n, e, hn⟩
          exact ⟨c + n, by rw [e]; rfl, by omega⟩
        · rintro ⟨n, e, hn⟩
          cases ht : Tot ts with
          | none => rw [ht] at e; cases e
          | some m =>
            rw [ht] at e
            have z' : c + m = n := Option.some.inj e
            exact ⟨m, rfl, by omega⟩
theorem NB_tot : ∀ {ts : List Trn}, (∀ t ∈ ts, OkTr t) → ∀ {n : Int}, Tot ts = some n → ∀ x, NB ts x ≤ n
  | [], _, n, e, x => by cases e; exact Int.le_refl _
  | t :: ts, h, n, e, x => by
    cases hk : t.2.2 with
    | none =>
      have e2 : Tot (t :: ts) = none := by
        show (match t.2.2 with | none => none | some c => addO c (Tot ts)) = _
        rw [hk]
      rw [e2] at e
      cases e
    | some c =>
      have e2 : Tot (t :: ts) = addO c (Tot ts) := by
        show (match t.2.2 with | none => none | some c => addO c (Tot ts)) = _
        rw [hk]
      rw [e2] at e
      cases ht : Tot ts with
      | none => rw [ht] at e; cases e
      | some m =>
        rw [ht] at e
        have z' : c + m = n := Option.some.inj e
        have h1 := nbT_le (x := x) hk
        have h2 := NB_tot (fun u hu => h u (List.mem_cons_of_mem _ hu)) ht x
        show nbT t x + NB ts x ≤ n
        omega
theorem nbT_step {t : Trn} (h : OkTr t) (x : Int) : nbT t (x + 1) ≤ nbT t x + 1 := by
  obtain ⟨s, p, k⟩ := t
  have hp : 1 ≤ p := h.2.1
  have h1 : cl (x + 1 - s) p ≤ cl (x - s) p + 1 := by
    refine (cl_le (by omega)).mpr ?_
    have h2 : x - s ≤ cl (x - s) p * p := (cl_le (by omega)).mp (Int.le_refl _)
    rw [Int.add_mul, Int.one_mul]
    omega
  show minO (stepsUp (x + 1 - s) p) k ≤ minO (stepsUp (x - s) p) k + 1
  rw [stepsUp_cl, stepsUp_cl]
  cases k with
  | none =>
    show (if cl (x + 1 - s) p > 0 then cl (x + 1 - s) p else 0) ≤ (if cl (x - s) p > 0 then cl (x - s) p else 0) + 1
    split <;> split <;> omega
  | some c =>
    show (if c < (if cl (x + 1 - s) p > 0 then cl (x + 1 - s) p else 0) then c else (if cl (x + 1 - s) p > 0 then cl (x + 1 - s) p else 0)) ≤ (if c < (if cl (x - s) p > 0 then cl (x - s) p else 0) then c else (if cl (x - s) p > 0 then cl (x - s) p else 0)) + 1
    repeat' split
    all_goals omega
theorem NB_step : ∀ {ts : List Trn}, Srt ts → ∀ x, NB ts (x + 1) ≤ NB ts x + 1
  | [], _, x => by show (0 : Int) ≤ 0 + 1; omega
  | t :: ts, h, x => by
    have ht := h.head
    have hs := h.tail
    have st := nbT_step ht x
    show nbT t (x + 1) + NB ts (x + 1) ≤ nbT t x + NB ts x + 1
    cases hk : t.2.2 with
    | none =>
      have nt : ts = [] := by
        cases ts with
        | nil => rfl
        | cons u us =>
          obtain ⟨c, hc, _⟩ := h.lt u (List.mem_cons_self ..)
          rw [hk] at hc
          cases hc
      subst nt
      show nbT t (x + 1) + 0 ≤ nbT t x + 0 + 1
      omega
    | some c =>
      by_cases hl : t.1 + (c - 1) * t.2.1 < x
      · have h1 := nbT_all ht hk hl
        have h2 := nbT_all ht hk (show t.1 + (c - 1) * t.2.1 < x + 1 by omega)
        have h3 := NB_step hs x
        omega
      · have z : ∀ y, y ≤ x + 1 → NB ts y = 0 := fun y hy => NB_zero hs.1 fun u hu => by
          obtain ⟨c', hc, q⟩ := h.lt u hu
          rw [hk] at hc
          cases hc
          omega
        have h1 := z x (by omega)
        have h2 := z (x + 1) (Int.le_refl _)
        omega
/-- the i-th time is told by what is before x -/
theorem At_iff {ts : List Trn} (h : Srt ts) {i y : Int} (i0 : 0 ≤ i) : At ts i = some y ↔ NB ts y = i ∧ NB ts (y + 1) = i + 1 := by
  have one : ∀ {z}, At ts i = some z → NB ts z = i ∧ NB ts (z + 1) = i + 1 := fun {z} e => by
    have h1 := At_lt h i0 e z
    have h2 := At_lt h i0 e (z + 1)
    have h3 := NB_step h z
    omega
  refine ⟨one, fun ⟨e1, e2⟩ => ?_⟩
  cases q : At ts i with
  | none =>
    obtain ⟨n, e3, e4⟩ := (At_none h.1 i0).mp q
    have := NB_tot h.1 e3 (y + 1)
    omega
  | some w =>
    have h3 := At_lt h i0 q y
    have h4 := At_lt h i0 q (y + 1)
    congr 1
    omega
/-- trains with the same counts have the same times -/
theorem At_same {ts us : List Trn} (h : Srt ts) (h' : Srt us) (e : ∀ x, NB ts x = NB us x) {i : Int} (i0 : 0 ≤ i) : At ts i = At us i := by
  cases q : At ts i with
  | some y =>
    obtain ⟨e1, e2⟩ := (At_iff h i0).mp q
    exact ((At_iff h' i0).mpr ⟨by rw [← e]; exact e1, by rw [← e]; exact e2⟩).symm
  | none =>
    cases q2 : At us i with
    | none => rfl
    | some y =>
      obtain ⟨e1, e2⟩ := (At_iff h' i0).mp q2
      rw [(At_iff h i0).mpr ⟨by rw [e]; exact e1, by rw [e]; exact e2⟩] at q
      cases q
/-! ### the normal form as data -/
def partL (t : Trn) (low : Int) (high : Option Int) : List Trn := match high with
  | none => [(t.1 + low * t.2.1, t.2.1, none)]
  | some h => if low = h then [] else [(t.1 + low * t.2.1, t.2.1, some (h - low))]
def joinS (t f : Trn) (c : Int) : Int := if c = 1 then f.1 - t.1 else t.2.1
def joinC (t f : Trn) (c : Int) : List Trn :=
  if t.1 + c * joinS t f c = f.1 then
    if f.2.1 = joinS t f c then [(t.1, joinS t f c, addO c f.2.2)]
    else (t.1, joinS t f c, some (c + 1)) :: partL f 1 f.2.2
  else [t, f]
def joinL (t f : Trn) : List Trn := match t.2.2 with
  | none => [f]
  | some c => joinC t f c
def plainT (t : Trn) : Trn := if t.2.2 = some 1 then (t.1, 1, some 1) else t
def nfG (cl : List Trn) : Option Trn → List Trn → List Trn
  | h, [] => cl ++ (h.map plainT).toList
  | none, f :: r => nfG cl (some f) r
  | some t, f :: r => nfG (cl ++ (joinL t f).dropLast) (joinL t f).getLast? r
def nfs (ts : List Trn) : List Trn := nfG [] none ts
theorem nbT_none_zero {s p : Int} (hp : 0 < p) (x : Int) : nbT (s, p, some 0) x = 0 := by
  show (if (0 : Int) < stepsUp (x - s) p then 0 else stepsUp (x - s) p) = 0
  rw [stepsUp_cl]
  repeat' split
  all_goals omega
theorem nbT_part {f : Trn} (h : OkTr f) (x : Int) : nbT f x = nbT (f.1, f.2.1, some 1) x + NB (partL f 1 f.2.2) x := by
  obtain ⟨s, p, k⟩ := f
  have hp : 1 ≤ p := h.2.1
  have e := nbT_split (s := s) (p := p) (c := 1) (k := k) (by omega) (by decide) (fun n hn => h.2.2 n hn) x
  rw [e]
  cases k with
  | none => show _ = _ + (nbT (s + 1 * p, p, none) x + 0); rw [Int.add_zero]; rfl
  | some d =>
    show _ = _ + NB (if 1 = d then [] else [(s + 1 * p, p, some (d - 1))]) x
    by_cases c : 1 = d
    · subst c
      rw [if_pos rfl]
      have := nbT_none_zero (s := s + 1 * p) (p := p) (by omega) x
      show _ + nbT (s + 1 * p, p, some (1 - 1)) x = _ + 0
      rw [show (1 : Int) - 1 = 0 by rfl, this]
    · rw [if_neg c]
      show _ = _ + (nbT (s + 1 * p, p, some (d - 1)) x + 0)
      rw [Int.add_zero]
      rfl
structure Joined (t f : Trn) (g : List Trn) : Prop where
  ok : ∀ u ∈ g, OkTr u
  pw : g.Pairwise Lt
  nb : ∀ x, NB g x = nbT t x + nbT f x
  lo : ∀ u ∈ g, t.1 ≤ u.1
  hi : ∀ r, Lt f r → ∀ u ∈ g, Lt u r
  ne : g ≠ []
theorem joinL_ok {t f : Trn} (ht : OkTr t) (hf : OkTr f) (hl : Lt t f) : Joined t f (joinL t f) := by
  obtain ⟨c, hc, hlt⟩ := hl
  have c1 := ht.2.2 c hc
  have p1 := ht.2.1
  have q1 := hf.2.1
  have start : t.1 < f.1 := lt_start ht ⟨c, hc, hlt⟩
  have ej : joinL t f = joinC t f c := by unfold joinL; rw [hc]
  rw [ej]
  have ps : 1 ≤ joinS t f c := by
    unfold joinS
    by_cases e : c = 1
    · rw [if_pos e]; omega
    · rw [if_neg e]; exact p1
  have et : ∀ x, nbT t x = nbT (t.1, joinS t f c, some c) x := fun x => by
    have e0 : t = (t.1, t.2.1, some c) := by rw [← hc]
    unfold joinS
    by_cases e : c = 1
    · subst e
      rw [if_pos rfl]
      have h1 := nbT_one (s := t.1) (p := t.2.1) (q := f.1 - t.1) (by omega) (by omega) x
      rw [← h1, ← e0]
    · rw [if_neg e, ← e0]
  have fl : ∀ {d}, f.2.2 = some d → f.1 ≤ f.1 + (d - 1) * f.2.1 := fun {d} hd => by
    have := hf.2.2 d hd
    have : 0 ≤ (d - 1) * f.2.1 := Int.mul_nonneg (by omega) (by omega)
    omega
  unfold joinC
  by_cases j1 : t.1 + c * joinS t f c = f.1
  · rw [if_pos j1]
    by_cases j2 : f.2.1 = joinS t f c
    · rw [if_pos j2]
      refine ⟨fun u hu => ?_, List.pairwise_singleton _ _, fun x => ?_, fun u hu => ?_, fun r hr u hu => ?_, by simp⟩
      · have e : u = _ := List.mem_singleton.mp hu
        subst e
        refine ⟨ht.1, ps, fun n hn => ?_⟩
        have hn : addO c f.2.2 = some n := hn
        cases hk : f.2.2 with
        | none => rw [hk] at hn; cases hn
        | some d =>
          rw [hk] at hn
          have := hf.2.2 d hk
          have z : c + d = n := Option.some.inj hn
          omega
      · show nbT (t.1, joinS t f c, addO c f.2.2) x + 0 = _
        rw [Int.add_zero, nbT_split (c := c) (by omega) (by omega) (fun n hn => ?_) x, et x, j1]
        · have e3 : subO (addO c f.2.2) c = f.2.2 := by
            cases f.2.2 with
            | none => rfl
            | some d => show some (c + d - c) = some d; congr 1; omega
          rw [e3, ← j2]
        · cases hk : f.2.2 with
          | none => rw [hk] at hn; cases hn
          | some d =>
            rw [hk] at hn
            have := hf.2.2 d hk
            have z : c + d = n := Option.some.inj hn
            omega
      · have e : u = _ := List.mem_singleton.mp hu
        subst e
        exact Int.le_refl _
      · have e : u = _ := List.mem_singleton.mp hu
        subst e
        obtain ⟨d, hd, hr⟩ := hr
        refine ⟨c + d, by show addO c f.2.2 = _; rw [hd]; rfl, ?_⟩
        show t.1 + (c + d - 1) * joinS t f c < r.1
        rw [show c + d - 1 = c + (d - 1) by omega, Int.add_mul, ← j2]
        rw [← j2] at j1
        omega
    · rw [if_neg j2]
      have hp := nbT_part hf
      have hpt : ∀ u ∈ partL f 1 f.2.2, OkTr u ∧ f.1 < u.1 ∧ ∀ r, Lt f r → Lt u r := fun u hu => by
        unfold partL at hu
        have h0 := hf.1
        cases hk : f.2.2 with
        | none =>
          rw [hk] at hu
          have e : u = _ := List.mem_singleton.mp hu
          subst e
          refine ⟨⟨by show 0 ≤ f.1 + 1 * f.2.1; omega, q1, fun n hn => by cases hn⟩, by show f.1 < f.1 + 1 * f.2.1; omega, fun r ⟨d, hd, _⟩ => ?_⟩
          rw [hk] at hd
          cases hd
        | some d =>
          rw [hk] at hu
          have hu : u ∈ (if 1 = d then [] else [(f.1 + 1 * f.2.1, f.2.1, some (d - 1))] : List Trn) := hu
          have d1 := hf.2.2 d hk
          by_cases z : 1 = d
          · rw [if_pos z] at hu; simp at hu
          · rw [if_neg z] at hu
            have e : u = _ := List.mem_singleton.mp hu
            subst e
            refine ⟨⟨by show 0 ≤ f.1 + 1 * f.2.1; omega, q1, fun n hn => by have z : d - 1 = n := Option.some.inj hn; omega⟩, by show f.1 < f.1 + 1 * f.2.1; omega, fun r ⟨d', hd, hr⟩ => ?_⟩
            rw [hk] at hd
            cases hd
            refine ⟨d - 1, rfl, ?_⟩
            show f.1 + 1 * f.2.1 + (d - 1 - 1) * f.2.1 < r.1
            rw [show d - 1 - 1 = (d - 1) + -1 by omega, Int.add_mul]
            omega
      refine ⟨fun u hu => ?_, List.pairwise_cons.mpr ⟨fun u hu => ?_, ?_⟩, fun x => ?_, fun u hu => ?_, fun r hr u hu => ?_, by simp⟩
      · rcases List.mem_cons.mp hu with rfl | hu
        · exact ⟨ht.1, ps, fun n hn => by have z : c + 1 = n := Option.some.inj hn; omega⟩
        · exact (hpt u hu).1
      · refine ⟨c + 1, rfl, ?_⟩
        show t.1 + (c + 1 - 1) * joinS t f c < u.1
        rw [Int.add_sub_cancel]
        have := (hpt u hu).2.1
        omega
      · unfold partL
        cases f.2.2 with
        | none => exact List.pairwise_singleton _ _
        | some d =>
          show ((if 1 = d then [] else [(f.1 + 1 * f.2.1, f.2.1, some (d - 1))] : List Trn)).Pairwise Lt
          by_cases z : 1 = d
          · rw [if_pos z]; exact List.Pairwise.nil
          · rw [if_neg z]; exact List.pairwise_singleton _ _
      · show nbT (t.1, joinS t f c, some (c + 1)) x + NB (partL f 1 f.2.2) x = _
        rw [hp x, et x, nbT_split (c := c) (k := some (c + 1)) (by omega) (by omega) (fun n hn => by have z : c + 1 = n := Option.some.inj hn; omega) x, j1]
        have e3 : subO (some (c + 1)) c = some 1 := by show some (c + 1 - c) = some 1; congr 1; omega
        rw [e3, nbT_one (s := f.1) (p := joinS t f c) (q := f.2.1) (by omega) (by omega) x]
        omega
      · rcases List.mem_cons.mp hu with rfl | hu
        · exact Int.le_refl _
        · have := (hpt u hu).2.1
          omega
      · rcases List.mem_cons.mp hu with rfl | hu
        · obtain ⟨d, hd, hr⟩ := hr
          refine ⟨c + 1, rfl, ?_⟩
          show t.1 + (c + 1 - 1) * joinS t f c < r.1
          rw [Int.add_sub_cancel]
          have := fl hd
          omega
        · exact (hpt u hu).2.2 r hr
  · rw [if_neg j1]
    refine ⟨fun u hu => ?_, ?_, fun x => ?_, fun u hu => ?_, fun r hr u hu => ?_, by simp⟩
    · simp only [List.mem_cons, List.mem_nil_iff, or_false] at hu
      rcases hu with rfl | rfl
      · exact ht
      · exact hf
    · exact List.pairwise_cons.mpr ⟨fun u hu => by rw [List.mem_singleton.mp hu]; exact ⟨c, hc, hlt⟩, List.pairwise_singleton _ _⟩
    · show nbT t x + (nbT f x + 0) = _
      omega
    · simp only [List.mem_cons, List.mem_nil_iff, or_false] at hu
      rcases hu with rfl | rfl <;> omega
    · simp only [List.mem_cons, List.mem_nil_iff, or_false] at hu
      rcases hu with rfl | rfl
      · obtain ⟨d, hd, hr⟩ := hr
        have := fl hd
        exact ⟨c, hc, by omega⟩
      · exact hr
theorem plainT_ok {t : Trn} (h : OkTr t) : OkTr (plainT t) ∧ (plainT t).1 = t.1 ∧ (∀ x, nbT (plainT t) x = nbT t x) ∧ (∀ r, Lt t r → Lt (plainT t) r) := by
  unfold plainT
  by_cases c : t.2.2 = some 1
  · rw [if_pos c]
    obtain ⟨s, p, k⟩ := t
    have hp : 1 ≤ p := h.2.1
    have e : k = some 1 := c
    subst e
    refine ⟨⟨h.1, Int.le_refl _, fun n hn => by cases hn; exact Int.le_refl _⟩, rfl, fun x => nbT_one (by decide) (by omega) x, fun r ⟨d, hd, hr⟩ => ?_⟩
    cases hd
    refine ⟨1, rfl, ?_⟩
    show s + (1 - 1) * 1 < r.1
    have hr : s + (1 - 1) * p < r.1 := hr
    simp at hr ⊢
    exact hr
  · rw [if_neg c]
    exact ⟨h, rfl, fun _ => rfl, fun _ z => z⟩
theorem lt_of_start {a t b : Trn} (h : Lt a t) (l : t.1 ≤ b.1) : Lt a b := by
  obtain ⟨c, e, q⟩ := h
  exact ⟨c, e, by omega⟩
theorem nfG_ok : ∀ (r cl : List Trn) (h : Option Trn), Srt (cl ++ h.toList ++ r) → Srt (nfG cl h r) ∧ ∀ x, NB (nfG cl h r) x = NB (cl ++ h.toList ++ r) x
  | [], cl, none, hs => by
    rw [List.append_nil] at hs ⊢
    exact ⟨hs, fun _ => rfl⟩
  | [], cl, some t, hs => by
    rw [List.append_nil] at hs ⊢
    show Srt (cl ++ [plainT t]) ∧ ∀ x, NB (cl ++ [plainT t]) x = NB (cl ++ [t]) x
    have hs : Srt (cl ++ [t]) := hs
    obtain ⟨a1, a2, a3⟩ := List.pairwise_append.mp hs.2
    obtain ⟨q1, q2, q3, q4⟩ := plainT_ok (hs.1 t (List.mem_append_right _ (List.mem_singleton.mpr rfl)))
    refine ⟨⟨fun u hu => ?_, List.pairwise_append.mpr ⟨a1, List.pairwise_singleton _ _, fun u hu v hv => ?_⟩⟩, fun x => ?_⟩
    · rcases List.mem_append.mp hu with hu | hu
      · exact hs.1 u (List.mem_append_left _ hu)
      · rw [List.mem_singleton.mp hu]; exact q1
    · rw [List.mem_singleton.mp hv]
      exact lt_of_start (a3 u hu t (List.mem_singleton.mpr rfl)) (by rw [q2]; exact Int.le_refl _)
    · rw [NB_app, NB_app]
      show _ + (nbT (plainT t) x + 0) = _ + (nbT t x + 0)
      rw [q3]
  | f :: r, cl, none, hs => by
    have e : cl ++ (none : Option Trn).toList ++ f :: r = cl ++ (some f).toList ++ r := by simp
    rw [e] at hs ⊢
    exact nfG_ok r cl (some f) hs
  | f :: r, cl, some t, hs => by
    have e0 : cl ++ (some t).toList ++ f :: r = cl ++ (t :: f :: r) := by simp
    rw [e0] at hs ⊢
    obtain ⟨a1, a2, a3⟩ := List.pairwise_append.mp hs.2
    obtain ⟨b1, b2⟩ := List.pairwise_cons.mp a2
    obtain ⟨c1, c2⟩ := List.pairwise_cons.mp b2
    have ht : OkTr t := hs.1 t (by simp)
    have hf : OkTr f := hs.1 f (by simp)
    have J := joinL_ok ht hf (b1 f (List.mem_cons_self ..))
    have eg : (joinL t f).dropLast ++ ((joinL t f).getLast?).toList = joinL t f := by
      rw [List.getLast?_eq_some_getLast J.ne]
      exact List.dropLast_concat_getLast J.ne
    have e1 : cl ++ (joinL t f).dropLast ++ ((joinL t f).getLast?).toList ++ r = cl ++ (joinL t f ++ r) := by
      rw [List.append_assoc cl, eg, List.append_assoc]
    have hs' : Srt (cl ++ (joinL t f ++ r)) := by
      refine ⟨fun u hu => ?_, List.pairwise_append.mpr ⟨a1, List.pairwise_append.mpr ⟨J.pw, c2, fun u hu v hv => J.hi v (c1 v hv) u hu⟩, fun u hu v hv => ?_⟩⟩
      · rcases List.mem_append.mp hu with hu | hu
        · exact hs.1 u (List.mem_append_left _ hu)
        · rcases List.mem_append.mp hu with hu | hu
          · exact J.ok u hu
          · exact hs.1 u (List.mem_append_right _ (List.mem_cons_of_mem _ (List.mem_cons_of_mem _ hu)))
      · have l := a3 u hu t (List.mem_cons_self ..)
        rcases List.mem_append.mp hv with hv | hv
        · exact lt_of_start l (J.lo v hv)
        · exact a3 u hu v (List.mem_cons_of_mem _ (List.mem_cons_of_mem _ hv))
    rw [← e1] at hs'
    obtain ⟨k1, k2⟩ := nfG_ok r _ _ hs'
    refine ⟨k1, fun x => ?_⟩
    show NB (nfG (cl ++ (joinL t f).dropLast) (joinL t f).getLast? r) x = _
    rw [k2 x, e1, NB_app, NB_app, NB_app, J.nb]
    show _ = NB cl x + (nbT t x + (nbT f x + NB r x))
    omega
theorem nfs_srt {ts : List Trn} (h : Srt ts) : Srt (nfs ts) := (nfG_ok ts [] none (by simpa using h)).1
theorem nfs_nb {ts : List Trn} (h : Srt ts) (x : Int) : NB (nfs ts) x = NB ts x :=
  (nfG_ok ts [] none (by simpa using h)).2 x
theorem nfs_at {ts : List Trn} (h : Srt ts) {i : Int} (i0 : 0 ≤ i) : At (nfs ts) i = At ts i := At_same (nfs_srt h) h (nfs_nb h) i0
theorem tot_of_at {ts us : List Trn} (h : ∀ t ∈ ts, OkTr t) (h' : ∀ t ∈ us, OkTr t) (e : ∀ i, 0 ≤ i → At ts i = At us i) : Tot ts = Tot us := by
  cases q : Tot ts with
  | some n =>
    have n0 := tot_nn h n q
    have := (At_none h n0).mpr ⟨n, q, Int.le_refl _⟩
    rw [e n n0] at this
    obtain ⟨m, e1, e2⟩ := (At_none h' n0).mp this
    have m0 := tot_nn h' m e1
    have := (At_none h' m0).mpr ⟨m, e1, Int.le_refl _⟩
    rw [← e m m0] at this
    obtain ⟨k, e3, e4⟩ := (At_none h m0).mp this
    rw [q] at e3
    cases e3
    rw [e1]
    congr 1
    omega
  | none =>
    cases q2 : Tot us with
    | none => rfl
    | some m =>
      have m0 := tot_nn h' m q2
      have := (At_none h' m0).mpr ⟨m, q2, Int.le_refl _⟩
      rw [← e m m0] at this
      obtain ⟨k, e3, e4⟩ := (At_none h m0).mp this
      rw [q] at e3
      cases e3
theorem nfs_tot {ts : List Trn} (h : Srt ts) : Tot (nfs ts) = Tot ts := tot_of_at (nfs_srt h).1 h.1 fun i i0 => nfs_at h i0
/-! ### trains of the program, with the text as a whole -/
/-! ### trains in the heap -/
def cV : Option Int → V
  | none => .non
  | some c => .int c
def TrV (t : Trn) : List V := [.int t.1, .int t.2.1, cV t.2.2]
def TrAt (H : Hp) (x : V) (t : Trn) : Prop := ∃ a, x = .ref a ∧ H a = some (.tup (TrV t))
abbrev Trs (H : Hp) (xs : List V) (ts : List Trn) : Prop := Paired (TrAt H) xs ts
theorem TrAt.nl {H H' : Hp} (k : NL H H') {x : V} {t : Trn} (h : TrAt H x t) : TrAt H' x t := by
  obtain ⟨a, e, h⟩ := h
  exact ⟨a, e, k _ _ h fun _ z => nomatch z⟩
theorem TrAt.same {H H' : Hp} (k : Same H H') {x : V} {t : Trn} (h : TrAt H x t) : TrAt H' x t := h.nl (NL.of k)
theorem Trs.nl {H H' : Hp} (k : NL H H') {xs : List V} {ts : List Trn} (h : Trs H xs ts) : Trs H' xs ts := L2.Paired.mapP h fun _ _ z => z.nl k
theorem Trs.same {H H' : Hp} (k : Same H H') {xs : List V} {ts : List Trn} (h : Trs H xs ts) : Trs H' xs ts := Trs.nl (NL.of k) h
theorem Trs.len {H : Hp} : ∀ {xs : List V} {ts : List Trn}, Trs H xs ts → xs.length = ts.length
  | _, _, .nil => rfl
  | _, _, .cons _ t => congrArg Nat.succ (Trs.len t)
theorem Trs.get {H : Hp} : ∀ {xs : List V} {ts : List Trn} {i : Nat} {x : V}, Trs H xs ts → xs[i]? = some x → ∃ t, ts[i]? = some t ∧ TrAt H x t
  | _, _, _, _, .nil, e => by simp at e
  | _, _, 0, _, .cons r _, e => by simp at e; subst e; exact ⟨_, rfl, r⟩
  | _, _, i + 1, x, .cons _ t, e => by
    obtain ⟨u, h1, h2⟩ := Trs.get (i := i) (x := x) t (by simpa using e)
    exact ⟨u, by simpa using h1, h2⟩
theorem Trs.app {H : Hp} : ∀ {xs ys : List V} {ts us : List Trn}, Trs H xs ts → Trs H ys us → Trs H (xs ++ ys) (ts ++ us)
  | _, _, _, _, .nil, s => s
  | _, _, _, _, .cons r t, s => .cons r (Trs.app t s)
theorem Trs.take {H : Hp} : ∀ {xs : List V} {ts : List Trn} (n : Nat), Trs H xs ts → Trs H (xs.take n) (ts.take n)
  | _, _, 0, _ => .nil
  | _, _, _ + 1, .nil => .nil
  | _, _, n + 1, .cons r t => .cons r (Trs.take n t)
theorem Trs.drop {H : Hp} : ∀ {xs : List V} {ts : List Trn} (n : Nat), Trs H xs ts → Trs H (xs.drop n) (ts.drop n)
  | _, _, 0, r => r
  | _, _, _ + 1, .nil => .nil
  | _, _, n + 1, .cons _ t => Trs.drop n t
theorem Trs.one {H : Hp} {x : V} {t : Trn} (h : TrAt H x t) : Trs H [x] [t] := .cons h .nil
/-! bounds -/
structure BT (n : Nat) (t : Trn) : Prop where
  s : t.1 ≤ PB n
  p : t.2.1 ≤ PB n
  c : ∀ c, t.2.2 = some c → t.1 + (c - 1) * t.2.1 ≤ PB n
theorem BT.le {n m : Nat} {t : Trn} (b : BT n t) (h : n ≤ m) : BT m t := by
  have := PB_le h
  exact ⟨by have := b.s; omega, by have := b.p; omega, fun c e => by have := b.c c e; omega⟩
theorem BT.cnt {n : Nat} {t : Trn} (b : BT n t) (h : OkTr t) {c : Int} (e : t.2.2 = some c) : c ≤ PB n + 1 := by
  have h1 := b.c c e
  have c1 := h.2.2 c e
  have p1 := h.2.1
  have s0 := h.1
  have : (c - 1) * 1 ≤ (c - 1) * t.2.1 := Int.mul_le_mul_of_nonneg_left p1 (by omega)
  omega
theorem Kd.cV (H : Hp) (k : Option Int) : ∃ n, Kd H (cV k) n := by
  cases k with
  | none => exact ⟨_, .non⟩
  | some c => exact ⟨_, .int c⟩
/-- the built-ins -/
structure Bi (mg : Str → Option Value) : Prop where
  isinstance : mg "isinstance" = none
  int : mg "int" = none
  bool : mg "bool" = none
  max : mg "max" = none
  min : mg "min" = none
  len : mg "len" = none
  list : mg "list" = none
  tuple : mg "tuple" = none
  enumerate : mg "enumerate" = none
  sum : mg "sum" = none
  range : mg "range" = none
/-! promises -/
def lastV (t : Trn) : V := match t.2.2 with
  | none => .non
  | some c => .int (t.1 + (c - 1) * t.2.1)
def spIsTr : Sp := fun vs H Q _ => ∃ x t, vs = [x] ∧ TrAt H x t ∧ OkTr t ∧ Q (.bl true) H
def spLast : Sp := fun vs H Q _ => ∃ x t, vs = [x] ∧ TrAt H x t ∧ OkTr t ∧ BT 5000 t ∧ Q (lastV t) H
def spTb : Sp := fun vs H Q _ => ∃ x t z, vs = [x, .int z] ∧ TrAt H x t ∧ OkTr t ∧ BT 5000 t ∧ Q (.int (nbT t z)) H
def spPart : Sp := fun vs H Q _ => ∃ x t low high, vs = [x, .int low, cV high] ∧ TrAt H x t ∧ CMulW low t.2.1 ∧ ∀ l zs H', H' l = some (.lst zs) → Trs H' zs (partL t low high) → Same H H' → H l = none → Q (.ref l) H'
def spJoin : Sp := fun vs H Q _ => ∃ x t y f c, vs = [x, y] ∧ TrAt H x t ∧ TrAt H y f ∧ OkTr t ∧ OkTr f ∧ BT 5000 t ∧ BT 5000 f ∧ t.2.2 = some c ∧ Lt t f ∧ ∀ l zs H', H' l = some (.lst zs) → Trs H' zs (joinL t f) → Same H H' → H l = none → Q (.ref l) H'
def spPlain : Sp := fun vs H Q _ => ∃ x t, vs = [x] ∧ TrAt H x t ∧ ∀ p, H p = none → Q (.ref p) (upd H p (.tup (TrV (plainT t))))
theorem cV_non {k : Option Int} : (cV k = .non) = (k = none) := by cases k <;> simp [cV]
section
variable {P : Program} {w : World} {K : PySem.W.Frag} {mg : Str → Option Value} {base : Heap} {L : LA}
abbrev N_lasttime : List Str := ["train", "start", "step", "count"]
theorem sc_lasttime : FnScope N_lasttime ["train"] (defScope st_last_time) := ⟨rfl, rfl, rfl, by decide +kernel, rfl, by decide +kernel, by decide +kernel⟩
theorem fn_lasttime (T : LX K mg L) {fd : FuncData} (F : Fun K "last_time" "last_time" st_last_time L.f_last_time fd) : FnOk P w K mg base CX0 1 L.f_last_time fd ["train"] (spLast) := by
  have nd := sc_lasttime.nd
  refine F.ok sc_lasttime (fun vs H Q E h => ?_) (fun cdv A outer S H vs Q E hr h => ?_)
  · obtain ⟨x, t, rfl, _⟩ := h
    rfl
  · obtain ⟨x, t, rfl, ⟨a, rfl, ha⟩, hok, hb, k⟩ := h
    refine ⟨_, (pss_cons (ps_asg (pv 0) (pg_tup rfl (pgs_cons (pg_name (i := 1) nd rfl (Or.inl rfl)) (pgs_cons (pg_name (i := 2) nd rfl (Or.inl rfl)) (pgs_cons (pg_name (i := 3) nd rfl (Or.inl rfl)) pgs_nil)))))
       (pss_cons (ps_if (pt_cmp (pc_isN (pv 3))) (pss_one (ps_ret pe_non)) pss_nil)
       (pss_one (ps_ret (pe_op op_add (pv 1) (pe_op op_mulW (pe_op op_sub (pv 3) pe_int) (pv 2))))))), ?_⟩
    refine ⟨_, rfl, a, _, rfl, SqT.of ha, rfl, _, _, rfl, _, _, rfl, _, _, rfl, rfl, ?_⟩
    cases hk : t.2.2 with
    | none =>
      have e : lastV t = .non := by unfold lastV; rw [hk]
      rw [e] at k
      exact ⟨_, rfl, _, rfl, iteT k⟩
    | some c =>
      have e : lastV t = .int (t.1 + (c - 1) * t.2.1) := by unfold lastV; rw [hk]
      rw [e] at k
      have c1 := hok.2.2 c hk
      have c2 : c ≤ BB + 1 := hb.cnt hok hk
      have b1 := BB1
      have p1 := hok.2.1
      have p2 : t.2.1 ≤ BB := hb.p
      exact ⟨_, rfl, _, rfl, iteF ⟨_, rfl, _, rfl, _, _, rfl, rfl, _, rfl, _, _, rfl, rfl, mulBB (by omega) (by omega) (by omega) (by omega), _, _, rfl, rfl, k⟩⟩
theorem ok_lasttime (T : LX K mg L) : Cal P w K mg base "last_time" 1 L.f_last_time ["train"] (spLast) := T.d_last_time.cal fun fd F => fn_lasttime T F
abbrev N_timesbefore : List Str := ["train", "time", "start", "step", "count", "reached"]
theorem sc_timesbefore : FnScope N_timesbefore ["train", "time"] (defScope st_times_before) := ⟨rfl, rfl, rfl, by decide +kernel, rfl, by decide +kernel, by decide +kernel⟩
theorem fn_timesbefore (T : LX K mg L) {fd : FuncData} (F : Fun K "times_before" "times_before" st_times_before L.f_times_before fd) : FnOk P w K mg base CX0 2 L.f_times_before fd ["train", "time"] (spTb) := by
  have G_stepsto := ok_stepsto (P := P) (w := w) (base := base) T
  have nd := sc_timesbefore.nd
  refine F.ok sc_timesbefore (fun vs H Q E h => ?_) (fun cdv A outer S H vs Q E hr h => ?_)
  · obtain ⟨x, t, z, rfl, _⟩ := h
    rfl
  · obtain ⟨x, t, z, rfl, ⟨a, rfl, ha⟩, hok, hb, k⟩ := h
    refine ⟨_, (pss_cons (ps_asg (pv 0) (pg_tup rfl (pgs_cons (pg_name (i := 2) nd rfl (Or.inl rfl)) (pgs_cons (pg_name (i := 3) nd rfl (Or.inl rfl)) (pgs_cons (pg_name (i := 4) nd rfl (Or.inl rfl)) pgs_nil)))))
       (pss_cons (ps_set (i := 5) nd rfl (Or.inl rfl) (pe_c G_stepsto (hr.mono (by decide)) rfl (pa_cons (pe_op op_sub (pv 1) (pv 2)) (pa_cons (pv 3) pa_nil))))
       (pss_cons (ps_if (pt_cmp (pc_isN (pv 4))) (pss_one (ps_ret (pv 5))) pss_nil)
       (pss_one (ps_ret (pe_callB (call_min2 rfl) (by rfl) T.b_min (by decide +kernel) (pa_cons (pv 5) (pa_cons (pv 4) pa_nil)))))))), ?_⟩
    have p1 := hok.2.1
    refine ⟨_, rfl, a, _, rfl, SqT.of ha, rfl, _, _, rfl, _, _, rfl, _, _, rfl, rfl, ?_⟩
    refine ⟨_, rfl, _, rfl, _, _, rfl, rfl, _, rfl, _, _, rfl, by omega, divBB p1 hb.p, ?_⟩
    cases hk : t.2.2 with
    | none =>
      have e : nbT t z = stepsUp (z - t.1) t.2.1 := by unfold nbT; rw [hk]; rfl
      rw [e] at k
      exact ⟨_, rfl, _, rfl, iteT ⟨_, rfl, k⟩⟩
    | some c =>
      have e : nbT t z = if c < stepsUp (z - t.1) t.2.1 then c else stepsUp (z - t.1) t.2.1 := by unfold nbT; rw [hk]; rfl
      rw [e] at k
      exact ⟨_, rfl, _, rfl, iteF ⟨_, rfl, _, rfl, _, _, rfl, k⟩⟩
theorem ok_timesbefore (T : LX K mg L) : Cal P w K mg base "times_before" 2 L.f_times_before ["train", "time"] (spTb) := T.d_times_before.cal fun fd F => fn_timesbefore T F
abbrev N_partof : List Str := ["train", "low", "high", "start"]
theorem sc_partof : FnScope N_partof ["train", "low", "high"] (defScope st_part_of) := ⟨rfl, rfl, rfl, by decide +kernel, rfl, by decide +kernel, by decide +kernel⟩
theorem fn_partof (T : LX K mg L) {fd : FuncData} (F : Fun K "part_of" "part_of" st_part_of L.f_part_of fd) : FnOk P w K mg base CX0 1 L.f_part_of fd ["train", "low", "high"] (spPart) := by
  have nd := sc_partof.nd
  refine F.ok sc_partof (fun vs H Q E h => ?_) (fun cdv A outer S H vs Q E hr h => ?_)
  · obtain ⟨x, t, low, high, rfl, _⟩ := h
    rfl
  · obtain ⟨x, t, low, high, rfl, ⟨a, rfl, ha⟩, hm, k⟩ := h
    refine ⟨_, (pss_cons (ps_set (i := 3) nd rfl (Or.inl rfl) (pe_op op_add (pe_ix (r := rIxT K) ix_tup (pv 0) pe_int (fun _ _ => rfl)) (pe_op op_mulW (pv 1) (pe_ix (r := rIxT K) ix_tup (pv 0) pe_int (fun _ _ => rfl)))))
       (pss_cons (ps_if (pt_cmp (pc_isN (pv 2))) (pss_one (ps_ret (pe_lst (pa_cons (pe_tup (pa_cons (pv 3) (pa_cons (pe_ix (r := rIxT K) ix_tup (pv 0) pe_int (fun _ _ => rfl)) (pa_cons pe_non pa_nil)))) pa_nil)))) pss_nil)
       (pss_cons (ps_if (pt_cmpR op_eq (pv 1) (pv 2) (nomark _)) (pss_one (ps_ret (pe_lst pa_nil))) pss_nil)
       (pss_one (ps_ret (pe_lst (pa_cons (pe_tup (pa_cons (pv 3) (pa_cons (pe_ix (r := rIxT K) ix_tup (pv 0) pe_int (fun _ _ => rfl)) (pa_cons (pe_op op_sub (pv 2) (pv 1)) pa_nil)))) pa_nil))))))), ?_⟩
    refine ⟨_, rfl, a, _, 0, .int t.1, rfl, rfl, SqT.of ha, rfl, _, rfl, _, rfl, a, _, 1, .int t.2.1, rfl, rfl, SqT.of ha, rfl, _, _, rfl, rfl, hm, _, _, rfl, rfl, ?_⟩
    cases high with
    | none =>
      refine ⟨_, rfl, _, rfl, iteT ⟨_, rfl, _, rfl, a, _, 1, .int t.2.1, rfl, rfl, SqT.of ha, rfl, (by show 3 ≤ sizeLine; decide), fun e he => ⟨(by show 1 ≤ sizeLine; decide), fun l hl => ?_⟩⟩⟩
      exact k l [.ref e] _ upd_same (Trs.one ⟨e, rfl, (Same.upd hl) _ _ upd_same⟩) ((Same.upd he).trans (Same.upd hl)) (by
        cases q : H l with
        | none => rfl
        | some o => rw [(Same.upd he) _ _ q] at hl; cases hl)
    | some h =>
      refine ⟨_, rfl, _, rfl, iteF ⟨_, rfl, _, rfl, rfl, _, rfl, ?_⟩⟩
      refine ite2 (fun c => ?_) (fun c => ?_)
      · have c' : low = h := V.int.inj (of_decide_eq_true c)
        refine ⟨(by show 0 ≤ sizeLine; decide), fun l hl => k l [] _ upd_same ?_ (Same.upd hl) hl⟩
        show Trs _ [] (if low = h then [] else _)
        rw [if_pos c']
        exact .nil
      · have c' : ¬ low = h := fun e => c (decide_eq_true (congrArg V.int e))
        refine ⟨_, rfl, _, rfl, a, _, 1, .int t.2.1, rfl, rfl, SqT.of ha, rfl, _, rfl, _, rfl, _, _, rfl, rfl, (by show 3 ≤ sizeLine; decide), fun e he => ⟨(by show 1 ≤ sizeLine; decide), fun l hl => ?_⟩⟩
        refine k l [.ref e] _ upd_same ?_ ((Same.upd he).trans (Same.upd hl)) (by
          cases q : H l with
          | none => rfl
          | some o => rw [(Same.upd he) _ _ q] at hl; cases hl)
        show Trs _ [.ref e] (if low = h then [] else _)
        rw [if_neg c']
        exact Trs.one ⟨e, rfl, (Same.upd hl) _ _ upd_same⟩
theorem ok_partof (T : LX K mg L) : Cal P w K mg base "part_of" 1 L.f_part_of ["train", "low", "high"] (spPart) := T.d_part_of.cal fun fd F => fn_partof T F
end
/-! ### the normal form is one -/
def NF0 : List Trn → Prop
  | [] => True
  | [_] => True
  | t :: u :: r => (∃ c, t.2.2 = some c ∧ 2 ≤ c ∧ u.1 ≠ t.1 + c * t.2.1) ∧ NF0 (u :: r)
structure NF (ts : List Trn) : Prop where
  go : NF0 ts
  last : ∀ t, ts.getLast? = some t → t.2.2 = some 1 → t.2.1 = 1
theorem NF0.tail {t : Trn} {r : List Trn} (h : NF0 (t :: r)) : NF0 r := by
  cases r with
  | nil => exact True.intro
  | cons u r => exact h.2
theorem nf0_app : ∀ (xs ys zs : List Trn) (u v : Trn), v.1 = u.1 → NF0 (xs ++ u :: ys) → NF0 (v :: zs) → NF0 (xs ++ v :: zs)
  | [], _, _, _, _, _, _, h => h
  | [t], ys, zs, u, v, e, h1, h2 => by
    have h1 : NF0 (t :: u :: ys) := h1
    show NF0 (t :: v :: zs)
    obtain ⟨⟨c, e1, e2, e3⟩, _⟩ := h1
    exact ⟨⟨c, e1, e2, by rw [e]; exact e3⟩, h2⟩
  | t :: t' :: xs, ys, zs, u, v, e, h1, h2 => by
    have h1 : NF0 (t :: t' :: (xs ++ u :: ys)) := h1
    show NF0 (t :: t' :: (xs ++ v :: zs))
    exact ⟨h1.1, nf0_app (t' :: xs) ys zs u v e h1.2 h2⟩
theorem joinL_head {t f : Trn} {c : Int} (hc : t.2.2 = some c) (c1 : 1 ≤ c) : ∃ v zs, joinL t f = v :: zs ∧ v.1 = t.1 ∧ NF0 (v :: zs) ∧ (zs = [] ∨ ∃ u, zs = [u]) := by
  have ej : joinL t f = joinC t f c := by unfold joinL; rw [hc]
  rw [ej]
  unfold joinC
  by_cases j1 : t.1 + c * joinS t f c = f.1
  · rw [if_pos j1]
    by_cases j2 : f.2.1 = joinS t f c
    · rw [if_pos j2]
      exact ⟨_, [], rfl, rfl, True.intro, .inl rfl⟩
    · rw [if_neg j2]
      refine ⟨_, _, rfl, rfl, ?_, ?_⟩
      · unfold partL
        have key : ∀ k : Option Int, NF0 [(t.1, joinS t f c, some (c + 1)), (f.1 + 1 * f.2.1, f.2.1, k)] := fun k => by
          refine ⟨⟨c + 1, rfl, by omega, ?_⟩, True.intro⟩
          show f.1 + 1 * f.2.1 ≠ t.1 + (c + 1) * joinS t f c
          rw [Int.add_mul, Int.one_mul]
          omega
        cases f.2.2 with
        | none => exact key _
        | some d =>
          show NF0 (_ :: (if 1 = d then [] else [(f.1 + 1 * f.2.1, f.2.1, some (d - 1))] : List Trn))
          by_cases z : 1 = d
          · rw [if_pos z]; exact True.intro
          · rw [if_neg z]; exact key _
      · unfold partL
        cases f.2.2 with
        | none => exact .inr ⟨_, rfl⟩
        | some d =>
          by_cases z : 1 = d
          · exact .inl (if_pos z)
          · exact .inr ⟨_, if_neg z⟩
  · rw [if_neg j1]
    refine ⟨t, [f], rfl, rfl, ⟨⟨c, hc, ?_, ?_⟩, True.intro⟩, .inr ⟨_, rfl⟩⟩
    · by_cases e : c = 1
      · subst e
        refine absurd ?_ j1
        unfold joinS
        rw [if_pos rfl, Int.one_mul]
        omega
      · omega
    · by_cases e : c = 1
      · subst e
        refine absurd ?_ j1
        unfold joinS
        rw [if_pos rfl, Int.one_mul]
        omega
      · unfold joinS at j1
        rw [if_neg e] at j1
        exact fun z => j1 z.symm
theorem joinL_split {t f : Trn} {c : Int} (hc : t.2.2 = some c) (c1 : 1 ≤ c) : (joinL t f).dropLast ++ ((joinL t f).getLast?).toList = joinL t f ∧ ((joinL t f).getLast?).isSome = true := by
  obtain ⟨v, zs, e, _⟩ := joinL_head (f := f) hc c1
  have ne : joinL t f ≠ [] := by rw [e]; simp
  rw [List.getLast?_eq_some_getLast ne]
  exact ⟨List.dropLast_concat_getLast ne, rfl⟩
theorem plainT_start (t : Trn) : (plainT t).1 = t.1 := by unfold plainT; split <;> rfl
theorem plainT_one (t : Trn) (h : (plainT t).2.2 = some 1) : (plainT t).2.1 = 1 := by
  unfold plainT at *
  split at h
  · rw [if_pos (by assumption)]
  · rename_i q
    exact absurd h q
/-- the walk keeps the form -/
theorem nfG_nf : ∀ (r cl : List Trn) (h : Option Trn), Srt (cl ++ h.toList ++ r) → NF0 (cl ++ h.toList) → (h = none → cl = []) → NF (nfG cl h r)
  | [], cl, none, _, _, hn => by
    rw [hn rfl]
    exact ⟨True.intro, fun t e => by cases e⟩
  | [], cl, some t, _, hf, _ => by
    refine ⟨?_, fun u e o => ?_⟩
    · show NF0 (cl ++ [plainT t])
      exact nf0_app cl [] [] t (plainT t) (plainT_start t) hf True.intro
    · have e : (cl ++ [plainT t]).getLast? = some u := e
      rw [List.getLast?_append] at e
      have e : plainT t = u := by simpa using e
      subst e
      exact plainT_one t o
  | f :: r, cl, none, hs, hf, hn => by
    have e : cl ++ (none : Option Trn).toList ++ f :: r = cl ++ (some f).toList ++ r := by simp
    rw [e] at hs
    refine nfG_nf r cl (some f) hs ?_ (fun z => by cases z)
    rw [hn rfl]
    exact True.intro
  | f :: r, cl, some t, hs, hf, _ => by
    have e0 : cl ++ (some t).toList ++ f :: r = cl ++ (t :: f :: r) := by simp
    rw [e0] at hs
    obtain ⟨a1, a2, a3⟩ := List.pairwise_append.mp hs.2
    obtain ⟨b1, b2⟩ := List.pairwise_cons.mp a2
    obtain ⟨c1, c2⟩ := List.pairwise_cons.mp b2
    have ht : OkTr t := hs.1 t (by simp)
    have hfo : OkTr f := hs.1 f (by simp)
    have hl := b1 f (List.mem_cons_self ..)
    have J := joinL_ok ht hfo hl
    obtain ⟨c, hc, _⟩ := hl
    have k1 := ht.2.2 c hc
    obtain ⟨eg, es⟩ := joinL_split (f := f) hc k1
    have e1 : cl ++ (joinL t f).dropLast ++ ((joinL t f).getLast?).toList ++ r = cl ++ (joinL t f ++ r) := by
      rw [List.append_assoc cl, eg, List.append_assoc]
    have e2 : cl ++ (joinL t f).dropLast ++ ((joinL t f).getLast?).toList = cl ++ joinL t f := by
      rw [List.append_assoc cl, eg]
    show NF (nfG (cl ++ (joinL t f).dropLast) (joinL t f).getLast? r)
    refine nfG_nf r _ _ ?_ ?_ (fun z => by rw [z] at es; cases es)
    · rw [e1]
      refine ⟨fun u hu => ?_, List.pairwise_append.mpr ⟨a1, List.pairwise_append.mpr ⟨J.pw, c2, fun u hu v hv => J.hi v (c1 v hv) u hu⟩, fun u hu v hv => ?_⟩⟩
      · rcases List.mem_append.mp hu with hu | hu
        · exact hs.1 u (List.mem_append_left _ hu)
        · rcases List.mem_append.mp hu with hu | hu
          · exact J.ok u hu
          · exact hs.1 u (List.mem_append_right _ (List.mem_cons_of_mem _ (List.mem_cons_of_mem _ hu)))
      · have l := a3 u hu t (List.mem_cons_self ..)
        rcases List.mem_append.mp hv with hv | hv
        · exact lt_of_start l (J.lo v hv)
        · exact a3 u hu v (List.mem_cons_of_mem _ (List.mem_cons_of_mem _ hv))
    · rw [e2]
      obtain ⟨v, zs, ev, es', ez, _⟩ := joinL_head (f := f) hc k1
      rw [ev]
      exact nf0_app cl [] zs t v es' hf ez
theorem nfs_nf {ts : List Trn} (h : Srt ts) : NF (nfs ts) := nfG_nf ts [] none (by simpa using h) True.intro fun _ => rfl
theorem At_none_t {t : Trn} {r : List Trn} (e : t.2.2 = none) (i : Int) : At (t :: r) i = some (t.1 + i * t.2.1) := by
  show (match t.2.2 with | none => some (t.1 + i * t.2.1) | some c => if i < c then some (t.1 + i * t.2.1) else At r (i - c)) = _
  rw [e]
theorem At_some_t {t : Trn} {r : List Trn} {c : Int} (e : t.2.2 = some c) (i : Int) : At (t :: r) i = if i < c then some (t.1 + i * t.2.1) else At r (i - c) := by
  show (match t.2.2 with | none => some (t.1 + i * t.2.1) | some c => if i < c then some (t.1 + i * t.2.1) else At r (i - c)) = _
  rw [e]
theorem At_lo {t : Trn} {r : List Trn} {i : Int} (h : ∀ c, t.2.2 = some c → i < c) : At (t :: r) i = some (t.1 + i * t.2.1) := by
  cases e : t.2.2 with
  | none => exact At_none_t e i
  | some c => rw [At_some_t e, if_pos (h c e)]
theorem At_head {t : Trn} {r : List Trn} (h : OkTr t) : At (t :: r) 0 = some t.1 := by
  rw [At_lo fun c e => by have := h.2.2 c e; omega, Int.zero_mul, Int.add_zero]
theorem nf_cut {t : Trn} {r : List Trn} (h : Srt (t :: r)) (n : NF0 (t :: r)) {c : Int} (e : t.2.2 = some c) (y : Int) (ha : At (t :: r) c = some y) : y ≠ t.1 + c * t.2.1 := by
  rw [At_some_t e, if_neg (Int.lt_irrefl c), Int.sub_self] at ha
  cases r with
  | nil => cases ha
  | cons u r =>
    rw [At_head h.tail.head] at ha
    cases ha
    obtain ⟨⟨c', e1, _, e3⟩, _⟩ := n
    rw [e] at e1
    cases e1
    exact e3
theorem nf_two {t u : Trn} {r : List Trn} (n : NF0 (t :: u :: r)) (e : t.2.2 = some 1) : False := by
  obtain ⟨⟨c, e1, e2, _⟩, _⟩ := n
  rw [e] at e1
  cases e1
  exact absurd e2 (by decide)
theorem nf_lone {t u : Trn} {r s : List Trn} (h : Srt (t :: r)) (h' : Srt (u :: s)) (n : NF (t :: r)) (n' : NF (u :: s)) (e : ∀ i, 0 ≤ i → At (t :: r) i = At (u :: s) i) (o : t.2.2 = some 1) : t :: r = u :: s := by
  have h0 : some t.1 = some u.1 := by rw [← At_head (r := r) h.head, ← At_head (r := s) h'.head]; exact e 0 (Int.le_refl _)
  have r0 : r = [] := by
    cases r with
    | nil => rfl
    | cons v r => exact (nf_two n.go o).elim
  subst r0
  have h1 : At (u :: s) 1 = none := by
    rw [← e 1 (by decide), At_some_t o]
    rfl
  cases ek : u.2.2 with
  | none => rw [At_none_t ek] at h1; cases h1
  | some c =>
    rw [At_some_t ek] at h1
    have c1 := h'.head.2.2 c ek
    by_cases q : 1 < c
    · rw [if_pos q] at h1; cases h1
    · have c2 : c = 1 := by omega
      subst c2
      have s0 : s = [] := by
        cases s with
        | nil => rfl
        | cons v s => exact (nf_two n'.go ek).elim
      subst s0
      have p1 := n.last t rfl o
      have p2 := n'.last u rfl ek
      have : t = u := by
        obtain ⟨a, b, k⟩ := t
        obtain ⟨a', b', k'⟩ := u
        have e1 : a = a' := Option.some.inj h0
        have e2 : b = 1 := p1
        have e3 : b' = 1 := p2
        have e4 : k = some 1 := o
        have e5 : k' = some 1 := ek
        rw [e1, e2, e3, e4, e5]
      rw [this]
theorem nf_unique : ∀ {ts us : List Trn}, Srt ts → Srt us → NF ts → NF us → (∀ i, 0 ≤ i → At ts i = At us i) → ts = us
  | [], [], _, _, _, _, _ => rfl
  | [], u :: s, _, h', _, _, e => by
    have := e 0 (Int.le_refl _)
    rw [At_head h'.head] at this
    cases this
  | t :: r, [], h, _, _, _, e => by
    have := e 0 (Int.le_refl _)
    rw [At_head h.head] at this
    cases this
  | t :: r, u :: s, h, h', n, n', e => by
    by_cases o : t.2.2 = some 1
    · exact nf_lone h h' n n' e o
    by_cases o' : u.2.2 = some 1
    · exact (nf_lone h' h n' n (fun i i0 => (e i i0).symm) o').symm
    have h0 : some t.1 = some u.1 := by rw [← At_head (r := r) h.head, ← At_head (r := s) h'.head]; exact e 0 (Int.le_refl _)
    have h0 := Option.some.inj h0
    have g1 : ∀ {t : Trn}, OkTr t → t.2.2 ≠ some 1 → ∀ c, t.2.2 = some c → 1 < c := fun {t} q w c z => by
      have := q.2.2 c z
      by_cases z2 : c = 1
      · subst z2; exact absurd z w
      · omega
    have h1 := e 1 (by decide)
    rw [At_lo (g1 h.head o), At_lo (g1 h'.head o')] at h1
    have hp : t.2.1 = u.2.1 := by have := Option.some.inj h1; omega
    cases ek : t.2.2 with
    | none =>
      cases ek' : u.2.2 with
      | none =>
        have r0 : r = [] := by
          cases r with
          | nil => rfl
          | cons v r =>
            obtain ⟨c, z, _⟩ := h.lt v (List.mem_cons_self ..)
            rw [ek] at z; cases z
        have s0 : s = [] := by
          cases s with
          | nil => rfl
          | cons v s =>
            obtain ⟨c, z, _⟩ := h'.lt v (List.mem_cons_self ..)
            rw [ek'] at z; cases z
        subst r0 s0
        have : t = u := by
          obtain ⟨a, b, k⟩ := t
          obtain ⟨a', b', k'⟩ := u
          have e1 : a = a' := h0
          have e2 : b = b' := hp
          have e4 : k = none := ek
          have e5 : k' = none := ek'
          rw [e1, e2, e4, e5]
        rw [this]
      | some c' =>
        have c1 := h'.head.2.2 c' ek'
        have q := e c' (by omega)
        rw [At_none_t ek] at q
        have := nf_cut h' n'.go ek' _ q.symm
        rw [h0, hp] at this
        exact absurd rfl this
    | some c =>
      have c1 := h.head.2.2 c ek
      have big : ∀ d, u.2.2 = some d → d ≤ c := fun d z => by
        by_cases w : d ≤ c
        · exact w
        · have q := e c (by omega)
          rw [At_lo (t := u) (fun k zk => by rw [z] at zk; cases zk; omega)] at q
          have := nf_cut h n.go ek _ q
          rw [h0, hp] at this
          exact absurd rfl this
      cases ek' : u.2.2 with
      | none =>
        have q := e c (by omega)
        rw [At_none_t ek'] at q
        have := nf_cut h n.go ek _ q
        rw [h0, hp] at this
        exact absurd rfl this
      | some c' =>
        have d1 := big c' ek'
        have c1' := h'.head.2.2 c' ek'
        have d2 : c' = c := by
          by_cases w : c ≤ c'
          · omega
          · have q := e c' (by omega)
            rw [At_lo (t := t) (fun k zk => by rw [ek] at zk; cases zk; omega)] at q
            have := nf_cut h' n'.go ek' _ q.symm
            rw [h0, hp] at this
            exact absurd rfl this
        subst d2
        have tail : ∀ {t : Trn} {r : List Trn}, NF (t :: r) → NF r := fun {t r} q => ⟨q.go.tail, fun v z => q.last v (by
          cases r with
          | nil => cases z
          | cons w r => rw [List.getLast?_cons_cons]; exact z)⟩
        have rs := nf_unique h.tail h'.tail (tail n) (tail n') (fun i i0 => by
          have q := e (c' + i) (by omega)
          rw [At_some_t ek, At_some_t ek', if_neg (by omega), if_neg (by omega), show c' + i - c' = i by omega] at q
          exact q)
        subst rs
        have : t = u := by
          obtain ⟨a, b, k⟩ := t
          obtain ⟨a', b', k'⟩ := u
          have e1 : a = a' := h0
          have e2 : b = b' := hp
          have e4 : k = some c' := ek
          have e5 : k' = some c' := ek'
          rw [e1, e2, e4, e5]
        rw [this]
theorem nfs_iff {ts us : List Trn} (h : Srt ts) (h' : Srt us) : nfs ts = nfs us ↔ ∀ x, NB ts x = NB us x := by
  refine ⟨fun e x => by rw [← nfs_nb h, ← nfs_nb h', e], fun e => ?_⟩
  refine nf_unique (nfs_srt h) (nfs_srt h') (nfs_nf h) (nfs_nf h') fun i i0 => ?_
  rw [nfs_at h i0, nfs_at h' i0]
  exact At_same h h' e i0
theorem nfs_of_nf {ts : List Trn} (h : Srt ts) (n : NF ts) : nfs ts = ts := nf_unique (nfs_srt h) h (nfs_nf h) n fun _ i0 => nfs_at h i0
theorem nfs_idem {ts : List Trn} (h : Srt ts) : nfs (nfs ts) = nfs ts := nfs_of_nf (nfs_srt h) (nfs_nf h)
/-! sizes -/
/-- what the walk holds stays small -/
def BG (n : Nat) (u : Trn) : Prop := (u.2.2 ≠ none → BT n u) ∧ BT (n + 1) u
theorem BG.of {n : Nat} {u : Trn} (h : BT n u) : BG n u := ⟨fun _ => h, h.le (Nat.le_succ n)⟩
theorem joinL_bg {n : Nat} {t f : Trn} (ht : OkTr t) (hf : OkTr f) (hl : Lt t f) (bt : BG n t) (bf : BT n f) : ∀ u ∈ joinL t f, BG n u := by
  obtain ⟨c, hc, hlt⟩ := hl
  have c1 := ht.2.2 c hc
  have p1 := ht.2.1
  have q1 := hf.2.1
  have s0 := ht.1
  have start : t.1 < f.1 := lt_start ht ⟨c, hc, hlt⟩
  have bt' := bt.1 (by rw [hc]; intro z; cases z)
  have b1 := bt'.s
  have b2 := bt'.p
  have f1 := bf.s
  have f2 := bf.p
  have ps : joinS t f c ≤ PB n := by
    unfold joinS
    split <;> omega
  have ej : joinL t f = joinC t f c := by unfold joinL; rw [hc]
  intro u hu
  rw [ej] at hu
  unfold joinC at hu
  by_cases j1 : t.1 + c * joinS t f c = f.1
  · rw [if_pos j1] at hu
    by_cases j2 : f.2.1 = joinS t f c
    · rw [if_pos j2] at hu
      rw [List.mem_singleton.mp hu]
      refine BG.of ⟨b1, ps, fun d hd => ?_⟩
      cases hk : f.2.2 with
      | none =>
        rw [hk] at hd
        cases hd
      | some e =>
        rw [hk] at hd
        have z : c + e = d := Option.some.inj hd
        subst z
        have := bf.c e hk
        show t.1 + (c + e - 1) * joinS t f c ≤ PB n
        rw [show c + e - 1 = c + (e - 1) by omega, Int.add_mul, ← j2]
        rw [← j2] at j1
        omega
    · rw [if_neg j2] at hu
      rcases List.mem_cons.mp hu with rfl | hu
      · refine BG.of ⟨b1, ps, fun d hd => ?_⟩
        have z : c + 1 = d := Option.some.inj hd
        subst z
        show t.1 + (c + 1 - 1) * joinS t f c ≤ PB n
        rw [Int.add_sub_cancel]
        omega
      · unfold partL at hu
        have sc := PB_succ n
        cases hk : f.2.2 with
        | none =>
          rw [hk] at hu
          rw [List.mem_singleton.mp hu]
          exact ⟨fun z => absurd rfl z, ⟨by show f.1 + 1 * f.2.1 ≤ _; omega, by show f.2.1 ≤ _; omega, fun d hd => by cases hd⟩⟩
        | some d =>
          rw [hk] at hu
          have hu : u ∈ (if 1 = d then [] else [(f.1 + 1 * f.2.1, f.2.1, some (d - 1))] : List Trn) := hu
          have d1 := hf.2.2 d hk
          by_cases z : 1 = d
          · rw [if_pos z] at hu; simp at hu
          · rw [if_neg z] at hu
            rw [List.mem_singleton.mp hu]
            have e1 := bf.c d hk
            have e2 : 1 * f.2.1 ≤ (d - 1) * f.2.1 := Int.mul_le_mul_of_nonneg_right (by omega) (by omega)
            refine BG.of ⟨by show f.1 + 1 * f.2.1 ≤ _; omega, f2, fun k hk' => ?_⟩
            have z : d - 1 = k := Option.some.inj hk'
            subst z
            show f.1 + 1 * f.2.1 + (d - 1 - 1) * f.2.1 ≤ PB n
            rw [show d - 1 - 1 = (d - 1) + -1 by omega, Int.add_mul]
            omega
  · rw [if_neg j1] at hu
    simp only [List.mem_cons, List.mem_nil_iff, or_false] at hu
    rcases hu with rfl | rfl
    · exact bt
    · exact BG.of bf
theorem plainT_bg {n : Nat} {t : Trn} (h : BG n t) : BT (n + 1) (plainT t) := by
  unfold plainT
  split
  · rename_i q
    have b := h.2
    refine ⟨b.s, PB_pos _, fun c e => ?_⟩
    cases e
    have := b.c 1 q
    have := b.s
    show t.1 + (1 - 1) * 1 ≤ _
    omega
  · exact h.2
theorem nfs_len_aux : ∀ (r cl : List Trn) (h : Option Trn), Srt (cl ++ h.toList ++ r) → (nfG cl h r).length ≤ cl.length + h.toList.length + r.length
  | [], cl, none, _ => by
    show (cl ++ []).length ≤ _
    simp
  | [], cl, some t, _ => by
    show (cl ++ [plainT t]).length ≤ _
    simp
  | f :: r, cl, none, hs => by
    have e : cl ++ (none : Option Trn).toList ++ f :: r = cl ++ (some f).toList ++ r := by simp
    rw [e] at hs
    have := nfs_len_aux r cl (some f) hs
    show (nfG cl (some f) r).length ≤ _
    simp at this ⊢
    omega
  | f :: r, cl, some t, hs => by
    have e0 : cl ++ (some t).toList ++ f :: r = cl ++ (t :: f :: r) := by simp
    have hs0 := hs
    rw [e0] at hs
    obtain ⟨a1, a2, a3⟩ := List.pairwise_append.mp hs.2
    obtain ⟨b1, b2⟩ := List.pairwise_cons.mp a2
    obtain ⟨c1, c2⟩ := List.pairwise_cons.mp b2
    have ht : OkTr t := hs.1 t (by simp)
    have hfo : OkTr f := hs.1 f (by simp)
    have hl := b1 f (List.mem_cons_self ..)
    have J := joinL_ok ht hfo hl
    obtain ⟨c, hc, _⟩ := hl
    have k1 := ht.2.2 c hc
    obtain ⟨eg, es⟩ := joinL_split (f := f) hc k1
    have e1 : cl ++ (joinL t f).dropLast ++ ((joinL t f).getLast?).toList ++ r = cl ++ (joinL t f ++ r) := by
      rw [List.append_assoc cl, eg, List.append_assoc]
    obtain ⟨v, zs, ev, _, _, ez⟩ := joinL_head (f := f) hc k1
    have hlen : (joinL t f).length ≤ 2 := by
      rw [ev]
      rcases ez with rfl | ⟨u, rfl⟩ <;> simp
    have hl2 : (joinL t f).dropLast.length + ((joinL t f).getLast?).toList.length ≤ 2 := by
      have := congrArg List.length eg
      rw [List.length_append] at this
      omega
    have := nfs_len_aux r (cl ++ (joinL t f).dropLast) (joinL t f).getLast? (by
      rw [e1]
      refine ⟨fun u hu => ?_, List.pairwise_append.mpr ⟨a1, List.pairwise_append.mpr ⟨J.pw, c2, fun u hu v hv => J.hi v (c1 v hv) u hu⟩, fun u hu v hv => ?_⟩⟩
      · rcases List.mem_append.mp hu with hu | hu
        · exact hs.1 u (List.mem_append_left _ hu)
        · rcases List.mem_append.mp hu with hu | hu
          · exact J.ok u hu
          · exact hs.1 u (List.mem_append_right _ (List.mem_cons_of_mem _ (List.mem_cons_of_mem _ hu)))
      · have l := a3 u hu t (List.mem_cons_self ..)
        rcases List.mem_append.mp hv with hv | hv
        · exact lt_of_start l (J.lo v hv)
        · exact a3 u hu v (List.mem_cons_of_mem _ (List.mem_cons_of_mem _ hv)))
    show (nfG (cl ++ (joinL t f).dropLast) (joinL t f).getLast? r).length ≤ _
    rw [List.length_append] at this
    simp only [List.length_cons, Option.toList_some, List.length_nil] at this ⊢
    omega
theorem nfs_len {ts : List Trn} (h : Srt ts) : (nfs ts).length ≤ ts.length := by
  have := nfs_len_aux ts [] none (by simpa using h)
  show (nfG [] none ts).length ≤ _
  simpa using this
/-! ### lists of trains in the heap -/
theorem last_drop (ts : List Trn) : ts.drop (ts.length - 1) = ts.getLast?.toList := by
  induction ts with
  | nil => rfl
  | cons t ts ih =>
    cases ts with
    | nil => rfl
    | cons u ts =>
      rw [List.getLast?_cons_cons, ← ih]
      rfl
theorem Trs.init {H : Hp} {xs : List V} {ts : List Trn} (h : Trs H xs ts) : Trs H (cutV xs none (some (-1))) ts.dropLast := by
  rw [cut_init, List.dropLast_eq_take, h.len]
  exact h.take _
theorem Trs.lastL {H : Hp} {xs : List V} {ts : List Trn} (h : Trs H xs ts) : Trs H (cutV xs (some (-1)) none) ts.getLast?.toList := by
  rw [cut_last, ← last_drop, h.len]
  exact h.drop _
theorem Trs.get2 {H : Hp} {xs : List V} {ts : List Trn} {i : Nat} {t : Trn} (h : Trs H xs ts) (e : ts[i]? = some t) : ∃ x, xs[i]? = some x ∧ TrAt H x t := by
  have hi : i < ts.length := (List.getElem?_eq_some_iff.mp e).1
  have hx : i < xs.length := by rw [h.len]; exact hi
  obtain ⟨u, e1, e2⟩ := h.get (List.getElem?_eq_getElem hx)
  rw [e] at e1
  cases e1
  exact ⟨_, List.getElem?_eq_getElem hx, e2⟩
/-! ### joined and normal_form -/
def ahd : Int → List Trn → List Int
  | _, [] => []
  | n, t :: ts => n :: ahd (n + t.2.2.getD 0) ts
theorem ahd_len : ∀ (ts : List Trn) (n : Int), (ahd n ts).length = ts.length
  | [], _ => rfl
  | t :: ts, n => congrArg Nat.succ (ahd_len ts _)
/-- what is no part of H0, and what is no list, is kept -/
def KO (H0 H H' : Hp) : Prop := ∀ b o, H b = some o → (H0 b = none ∨ ∀ xs, o ≠ .lst xs) → H' b = some o
theorem KO.same {H0 H H' : Hp} (s : Same H H') : KO H0 H H' := fun b o e _ => s b o e
theorem KO.kp {H0 H H' : Hp} {a : Addr} {xs : List V} (k : Kp a H H') (h0 : H0 a ≠ none) (h : H a = some (.lst xs)) : KO H0 H H' := fun b o e q => k b o (fun z => by
  subst z
  rcases q with q | q
  · exact h0 q
  · rw [h] at e
    exact q xs (Option.some.inj e).symm) e
theorem KO.nl {H0 H H' : Hp} (k : KO H0 H H') : NL H H' := fun b o e q => k b o e (.inr q)
theorem KO.trans {H0 H H1 H2 : Hp} (a : KO H0 H H1) (b : KO H0 H1 H2) : KO H0 H H2 := fun c o e q => b c o (a c o e q) q
theorem KO.base {H0 H1 H H' : Hp} (k : KO H0 H H') (s : Same H0 H1) : KO H1 H H' := fun b o e q => k b o e (by
  rcases q with q | q
  · exact .inl (none_of s q)
  · exact .inr q)
theorem firsts_lt {ts : List Trn} (h : Srt ts) : (ts.map fun t => t.1).Pairwise (· < ·) := by
  rw [List.pairwise_map]
  exact h.2.imp_of_mem fun {a b} ha _ l => lt_start (h.1 a ha) l
theorem ahd_ge : ∀ {ts : List Trn}, (∀ t ∈ ts, OkTr t) → ∀ {n : Int} {j : Nat} {v : Int}, (ahd n ts)[j]? = some v → n ≤ v
  | [], _, n, j, v, e => by simp [ahd] at e
  | t :: ts, h, n, 0, v, e => by
    have e : some n = some v := e
    cases e
    exact Int.le_refl _
  | t :: ts, h, n, j + 1, v, e => by
    have e : (ahd (n + t.2.2.getD 0) ts)[j]? = some v := e
    have ih := ahd_ge (fun u hu => h u (List.mem_cons_of_mem _ hu)) e
    have := (h t (List.mem_cons_self ..)).2.2
    cases hk : t.2.2 with
    | none => rw [hk] at ih; have : n + 0 ≤ v := ih; omega
    | some c => rw [hk] at ih; have : n + c ≤ v := ih; have := (h t (List.mem_cons_self ..)).2.2 c hk; omega
theorem ahd_lt : ∀ {ts : List Trn}, Srt ts → ∀ n : Int, (ahd n ts).Pairwise (· < ·)
  | [], _, n => List.Pairwise.nil
  | t :: ts, h, n => by
    refine List.pairwise_cons.mpr ⟨fun v hv => ?_, ahd_lt h.tail _⟩
    obtain ⟨j, hj⟩ := List.getElem?_of_mem hv
    have ge := ahd_ge h.tail.1 hj
    cases ts with
    | nil => simp [ahd] at hv
    | cons u ts =>
      obtain ⟨c, hc, _⟩ := h.lt u (List.mem_cons_self ..)
      have c1 := h.head.2.2 c hc
      have g0 : t.2.2.getD 0 = c := by rw [hc]; rfl
      rw [g0] at ge
      omega
/-- NB by the place -/
theorem nb_at : ∀ {ts : List Trn}, Srt ts → ∀ {n : Int} {k : Nat} {t : Trn} {a x : Int}, ts[k]? = some t → (ahd n ts)[k]? = some a → t.1 < x → (∀ j u, k < j → ts[j]? = some u → x ≤ u.1) → n + NB ts x = a + nbT t x
  | [], _, n, k, t, a, x, e, _, _, _ => by simp at e
  | h :: ts, hs, n, 0, t, a, x, e, ea, l, g => by
    have e : some h = some t := e
    have ea : some n = some a := ea
    cases e
    cases ea
    have z : NB ts x = 0 := NB_zero hs.tail.1 fun u hu => by
      obtain ⟨j, hj⟩ := List.getElem?_of_mem hu
      exact g (j + 1) u (Nat.succ_pos j) hj
    show n + (nbT h x + NB ts x) = _
    omega
  | h :: ts, hs, n, k + 1, t, a, x, e, ea, l, g => by
    have e : ts[k]? = some t := e
    have ea : (ahd (n + h.2.2.getD 0) ts)[k]? = some a := ea
    have ih := nb_at hs.tail e ea l (fun j u hj hu => g (j + 1) u (Nat.succ_lt_succ hj) hu)
    obtain ⟨c, hc, hl⟩ := hs.lt t (List.mem_of_getElem? e)
    have := nbT_all hs.head hc (x := x) (by omega)
    rw [hc] at ih
    have ih : n + c + NB ts x = a + nbT t x := ih
    show n + (nbT h x + NB ts x) = _
    omega
theorem at_at : ∀ {ts : List Trn}, Srt ts → ∀ {n : Int} {k : Nat} {t : Trn} {a i y : Int}, ts[k]? = some t → (ahd n ts)[k]? = some a → a ≤ n + i → (∀ j b, k < j → (ahd n ts)[j]? = some b → n + i < b) → At ts i = some y → y = t.1 + (n + i - a) * t.2.1
  | [], _, n, k, t, a, i, y, e, _, _, _, _ => by simp at e
  | h :: ts, hs, n, 0, t, a, i, y, e, ea, l, g, hy => by
    have e : some h = some t := e
    have ea : some n = some a := ea
    cases e
    cases ea
    have lo : ∀ c, h.2.2 = some c → i < c := fun c hc => by
      by_cases q : i < c
      · exact q
      · rw [At_some_t hc, if_neg q] at hy
        cases ts with
        | nil => cases hy
        | cons u ts =>
          have := g 1 (n + h.2.2.getD 0) (by decide) rfl
          rw [hc] at this
          have : n + i < n + c := this
          omega
    rw [At_lo lo] at hy
    have := Option.some.inj hy
    rw [show n + i - n = i by omega]
    exact this.symm
  | h :: ts, hs, n, k + 1, t, a, i, y, e, ea, l, g, hy => by
    have e : ts[k]? = some t := e
    have ea : (ahd (n + h.2.2.getD 0) ts)[k]? = some a := ea
    obtain ⟨c, hc, hl⟩ := hs.lt t (List.mem_of_getElem? e)
    have ge := ahd_ge hs.tail.1 ea
    have g0 : h.2.2.getD 0 = c := by rw [hc]; rfl
    rw [g0] at ea ge
    rw [At_some_t hc, if_neg (by omega)] at hy
    have ih := at_at hs.tail e ea (i := i - c) (y := y) (by omega) (fun j b hj hb => by
      have := g (j + 1) b (Nat.succ_lt_succ hj) (by show (ahd (n + h.2.2.getD 0) ts)[j]? = some b; rw [g0]; exact hb)
      omega) hy
    rw [show n + i - a = n + c + (i - c) - a by omega]
    exact ih
def memT (ts : List Trn) (x : Int) : Bool := decide (NB ts x < NB ts (x + 1))

/-- the counts of the first i -/
def sumC : List Trn → Int
  | [] => 0
  | t :: ts => t.2.2.getD 0 + sumC ts
theorem sumC_app : ∀ (ts us : List Trn), sumC (ts ++ us) = sumC ts + sumC us
  | [], us => by show sumC us = 0 + sumC us; omega
  | t :: ts, us => by
    show t.2.2.getD 0 + sumC (ts ++ us) = t.2.2.getD 0 + sumC ts + sumC us
    rw [sumC_app ts us]
    omega
theorem ahd_app : ∀ (ts us : List Trn) (n : Int), ahd n (ts ++ us) = ahd n ts ++ ahd (n + sumC ts) us
  | [], us, n => by show ahd n us = [] ++ ahd (n + 0) us; simp
  | t :: ts, us, n => by
    show n :: ahd (n + t.2.2.getD 0) (ts ++ us) = n :: (ahd (n + t.2.2.getD 0) ts ++ ahd (n + (t.2.2.getD 0 + sumC ts)) us)
    rw [ahd_app ts us, Int.add_assoc]
theorem ahd_take {ts : List Trn} {i : Nat} {t : Trn} (h : ts[i]? = some t) : ahd 0 (ts.take (i + 1)) = ahd 0 (ts.take i) ++ [sumC (ts.take i)] := by
  rw [List.take_add_one, h, ahd_app]
  show _ ++ [0 + sumC (ts.take i)] = _
  rw [Int.zero_add]
  all_goals rfl
theorem sumC_take {ts : List Trn} {i : Nat} {t : Trn} (h : ts[i]? = some t) : sumC (ts.take (i + 1)) = sumC (ts.take i) + t.2.2.getD 0 := by
  rw [List.take_add_one, h, sumC_app]
  show _ + (t.2.2.getD 0 + 0) = _
  rw [Int.add_zero]
theorem tot_sum : ∀ {ts : List Trn}, (∀ t ∈ ts, t.2.2 ≠ none) → Tot ts = some (sumC ts)
  | [], _ => rfl
  | t :: ts, h => by
    have h1 := h t (List.mem_cons_self ..)
    have ih := tot_sum (ts := ts) fun u hu => h u (List.mem_cons_of_mem _ hu)
    cases hk : t.2.2 with
    | none => exact absurd hk h1
    | some c =>
      show (match t.2.2 with | none => none | some c => addO c (Tot ts)) = some (t.2.2.getD 0 + sumC ts)
      rw [hk, ih]
      rfl
theorem tot_none : ∀ {ts : List Trn} {t : Trn}, t ∈ ts → t.2.2 = none → Tot ts = none
  | u :: ts, t, hm, e => by
    show (match u.2.2 with | none => none | some c => addO c (Tot ts)) = none
    cases hk : u.2.2 with
    | none => rfl
    | some c =>
      rcases List.mem_cons.mp hm with rfl | hm
      · rw [e] at hk; cases hk
      · show addO c (Tot ts) = none
        rw [tot_none hm e]
        rfl
/-- of sorted trains only the last may go on for ever -/
theorem srt_last {ts : List Trn} (h : Srt ts) {t : Trn} (ht : t ∈ ts) (e : t.2.2 = none) : ts.getLast? = some t := by
  induction ts with
  | nil => simp at ht
  | cons u ts ih =>
    cases ts with
    | nil =>
      have : t = u := by simpa using ht
      rw [this]
      rfl
    | cons v ts =>
      rw [List.getLast?_cons_cons]
      rcases List.mem_cons.mp ht with rfl | ht
      · obtain ⟨c, hc, _⟩ := h.lt v (List.mem_cons_self ..)
        rw [e] at hc
        cases hc
      · exact ih h.tail ht
/-- the first time from x on -/
def nxT (ts : List Trn) (x : Int) : Option Int := At ts (NB ts x)
/-! ### times listed -/
def tmT (t : Trn) (B : Int) : List Int := (List.range (nbT t B).toNat).map fun j => t.1 + t.2.1 * (j : Nat)
def tms (ts : List Trn) (B : Int) : List Int := ts.flatMap fun t => tmT t B
def sgl (xs : List Int) : List Trn := xs.map fun x => (x, 1, some 1)
theorem NB_le_of_at {ts us : List Trn} (h : Srt ts) (h' : Srt us) (e : ∀ i, 0 ≤ i → At ts i = At us i) (x : Int) : NB ts x ≤ NB us x := by
  by_cases q : NB ts x ≤ NB us x
  · exact q
  · have i0 := NB_nn h'.1 x
    have hi : NB us x < NB ts x := by omega
    cases ea : At ts (NB us x) with
    | none =>
      obtain ⟨n, e1, e2⟩ := (At_none h.1 i0).mp ea
      have := NB_tot h.1 e1 x
      omega
    | some y =>
      have l1 := (At_lt h i0 ea x).mp hi
      rw [e _ i0] at ea
      have := (At_lt h' i0 ea x).mpr l1
      omega
theorem NB_same {ts us : List Trn} (h : Srt ts) (h' : Srt us) (e : ∀ i, 0 ≤ i → At ts i = At us i) (x : Int) : NB ts x = NB us x :=
  Int.le_antisymm (NB_le_of_at h h' e x) (NB_le_of_at h' h (fun i i0 => (e i i0).symm) x)
theorem nfs_at_iff {ts us : List Trn} (h : Srt ts) (h' : Srt us) : nfs ts = nfs us ↔ ∀ i, 0 ≤ i → At ts i = At us i :=
  ⟨fun e i i0 => At_same h h' ((nfs_iff h h').mp e) i0, fun e => (nfs_iff h h').mpr (NB_same h h' e)⟩
theorem nbT_nn' (t : Trn) (h : OkTr t) (B : Int) : ((nbT t B).toNat : Int) = nbT t B := by
  have := nbT_nn h B
  omega
theorem tmT_len {t : Trn} (h : OkTr t) (B : Int) : ((tmT t B).length : Int) = nbT t B := by
  unfold tmT
  rw [List.length_map, List.length_range]
  exact nbT_nn' t h B
theorem tms_len {ts : List Trn} (h : ∀ t ∈ ts, OkTr t) (B : Int) : ((tms ts B).length : Int) = NB ts B := by
  induction ts with
  | nil => rfl
  | cons t ts ih =>
    have := tmT_len (h t (List.mem_cons_self ..)) B
    have := ih fun u hu => h u (List.mem_cons_of_mem _ hu)
    show ((tmT t B ++ tms ts B).length : Int) = nbT t B + NB ts B
    rw [List.length_append]
    omega
theorem tmT_get {t : Trn} {B : Int} {j : Nat} (h : (j : Int) < nbT t B) : (tmT t B)[j]? = some (t.1 + j * t.2.1) := by
  unfold tmT
  rw [List.getElem?_map, List.getElem?_range (by omega)]
  show some _ = some _
  rw [Int.mul_comm]
theorem tms_get : ∀ {ts : List Trn}, Srt ts → ∀ {B : Int} {j : Nat}, (j : Int) < NB ts B → (tms ts B)[j]? = At ts j
  | [], _, B, j, hj => by
    have hj : (j : Int) < 0 := hj
    omega
  | t :: ts, h, B, j, hj => by
    have ht := h.head
    have hlen := tmT_len ht B
    have hj : (j : Int) < nbT t B + NB ts B := hj
    show (tmT t B ++ tms ts B)[j]? = _
    by_cases q : (j : Int) < nbT t B
    · rw [List.getElem?_append_left (by omega), tmT_get q, At_lo]
      intro c hc
      have := nbT_le (x := B) hc
      omega
    · have hN : 0 < NB ts B := by omega
      have : ∃ u ∈ ts, u.1 < B := by
        by_cases z : ∃ u ∈ ts, u.1 < B
        · exact z
        · have := NB_zero h.tail.1 (x := B) fun u hu => by
            by_cases w : B ≤ u.1
            · exact w
            · exact absurd ⟨u, hu, by omega⟩ z
          omega
      obtain ⟨u, hu, hB⟩ := this
      obtain ⟨c, hc, hl⟩ := h.lt u hu
      have e := nbT_all ht hc (x := B) (by omega)
      rw [List.getElem?_append_right (by omega), At_some_t hc, if_neg (by omega)]
      have e2 : ((j - (tmT t B).length : Nat) : Int) = j - c := by omega
      rw [tms_get h.tail (by omega), e2]
theorem At_asc {ts : List Trn} (h : Srt ts) {i j y z : Int} (i0 : 0 ≤ i) (hij : i < j) (hy : At ts i = some y) (hz : At ts j = some z) : y < z := by
  have h1 := At_lt h i0 hy (z + 1)
  have h2 := At_lt h (i := j) (by omega) hz (z + 1)
  have h3 := At_lt h i0 hy z
  have h4 := At_lt h (i := j) (by omega) hz z
  have h5 := NB_step h z
  omega
theorem tms_asc {ts : List Trn} (h : Srt ts) (B : Int) : (tms ts B).Pairwise (· < ·) := by
  refine List.pairwise_iff_getElem.mpr fun i j hi hj hij => ?_
  have hl := tms_len h.1 B
  have e1 := tms_get h (B := B) (j := i) (by omega)
  have e2 := tms_get h (B := B) (j := j) (by omega)
  rw [List.getElem?_eq_getElem hi] at e1
  rw [List.getElem?_eq_getElem hj] at e2
  exact At_asc h (by omega) (by omega) e1.symm e2.symm
theorem At_nn {ts : List Trn} (h : Srt ts) {i y : Int} (i0 : 0 ≤ i) (hy : At ts i = some y) : 0 ≤ y := by
  have h1 := At_lt h i0 hy 0
  have h2 : NB ts 0 = 0 := NB_zero h.1 fun t ht => (h.1 t ht).1
  omega
theorem tms_nn {ts : List Trn} (h : Srt ts) (B : Int) : ∀ x ∈ tms ts B, 0 ≤ x := by
  intro x hx
  obtain ⟨j, hj⟩ := List.getElem?_of_mem hx
  have hl := tms_len h.1 B
  have hlt := (List.getElem?_eq_some_iff.mp hj).1
  rw [tms_get h (by omega)] at hj
  exact At_nn h (by omega) hj
theorem tms_lt {ts : List Trn} (h : Srt ts) (B : Int) : ∀ x ∈ tms ts B, x < B := by
  intro x hx
  obtain ⟨j, hj⟩ := List.getElem?_of_mem hx
  have hl := tms_len h.1 B
  have hlt := (List.getElem?_eq_some_iff.mp hj).1
  rw [tms_get h (by omega)] at hj
  exact (At_lt h (by omega) hj B).mp (by omega)
theorem sgl_srt {xs : List Int} (h : xs.Pairwise (· < ·)) (h0 : ∀ x ∈ xs, 0 ≤ x) : Srt (sgl xs) := by
  refine ⟨fun t ht => ?_, ?_⟩
  · obtain ⟨x, hx, rfl⟩ := List.mem_map.mp ht
    exact ⟨h0 x hx, Int.le_refl _, fun c hc => by cases hc; exact Int.le_refl _⟩
  · unfold sgl
    rw [List.pairwise_map]
    exact h.imp fun {a b} l => ⟨1, rfl, by show a + (1 - 1) * 1 < b; omega⟩
theorem sgl_at : ∀ (xs : List Int) (j : Nat), At (sgl xs) j = xs[j]?
  | [], j => rfl
  | x :: xs, 0 => by
    show At ((x, 1, some 1) :: sgl xs) 0 = some x
    rw [At_some_t rfl, if_pos (by decide)]
    show some (x + 0 * 1) = _
    rw [Int.zero_mul, Int.add_zero]
  | x :: xs, j + 1 => by
    show At ((x, 1, some 1) :: sgl xs) ((j + 1 : Nat) : Int) = xs[j]?
    rw [At_some_t rfl, if_neg (by omega), ← sgl_at xs j]
    congr 1
    omega
/-- the times of trains with another step, one time each -/
theorem at_ones {us : List Trn} {xs : List Int} (h : us.map (fun t => (t.1, t.2.2)) = xs.map fun x => (x, some 1)) : ∀ j : Int, 0 ≤ j → At us j = At (sgl xs) j := by
  induction us generalizing xs with
  | nil =>
    cases xs with
    | nil => intro j _; rfl
    | cons x xs => simp at h
  | cons u us ih =>
    cases xs with
    | nil => simp at h
    | cons x xs =>
      intro j j0
      rw [List.map_cons, List.map_cons] at h
      obtain ⟨h1, h2⟩ := List.cons.inj h
      have hk : u.2.2 = some 1 := congrArg Prod.snd h1
      have hx : u.1 = x := congrArg Prod.fst h1
      rw [At_some_t hk]
      show _ = At ((x, 1, some 1) :: sgl xs) j
      rw [At_some_t rfl]
      by_cases q : j < 1
      · have j00 : j = 0 := by omega
        subst j00
        rw [if_pos q, if_pos q]
        show some (u.1 + 0 * u.2.1) = some (x + 0 * 1)
        rw [Int.zero_mul, Int.zero_mul, hx]
      · rw [if_neg q, if_neg q]
        exact ih h2 (j - 1) (by omega)
/-- all times of finite trains, listed -/
theorem nfs_tms {ts : List Trn} (h : Srt ts) {B n : Int} (ht : Tot ts = some n) (hB : NB ts B = n) : nfs (sgl (tms ts B)) = nfs ts := by
  refine (nfs_at_iff (sgl_srt (tms_asc h B) (tms_nn h B)) h).mpr fun i i0 => ?_
  have e : i = ((i.toNat : Nat) : Int) := by omega
  rw [e, sgl_at]
  have hl := tms_len h.1 B
  by_cases q : (i.toNat : Int) < NB ts B
  · exact tms_get h q
  · rw [(At_none h.1 (by omega)).mpr ⟨n, ht, by omega⟩]
    rw [List.getElem?_eq_none_iff]
    omega
theorem NB_full {ts : List Trn} (h : ∀ t ∈ ts, OkTr t) {n B : Int} (ht : Tot ts = some n) (hB : ∀ t ∈ ts, ∀ c, t.2.2 = some c → t.1 + (c - 1) * t.2.1 < B) : NB ts B = n := by
  induction ts generalizing n with
  | nil => cases ht; rfl
  | cons t ts ih =>
    cases hk : t.2.2 with
    | none =>
      have e2 : Tot (t :: ts) = none := by
        show (match t.2.2 with | none => none | some c => addO c (Tot ts)) = _
        rw [hk]
      rw [e2] at ht
      cases ht
    | some c =>
      have e2 : Tot (t :: ts) = addO c (Tot ts) := by
        show (match t.2.2 with | none => none | some c => addO c (Tot ts)) = _
        rw [hk]
      rw [e2] at ht
      cases hT : Tot ts with
      | none => rw [hT] at ht; cases ht
      | some m =>
        rw [hT] at ht
        have z : c + m = n := Option.some.inj ht
        have h1 := nbT_all (h t (List.mem_cons_self ..)) hk (hB t (List.mem_cons_self ..) c hk)
        have h2 := ih (fun u hu => h u (List.mem_cons_of_mem _ hu)) hT fun u hu => hB u (List.mem_cons_of_mem _ hu)
        show nbT t B + NB ts B = n
        omega
/-! one time behind the other -/
def nmS (f : List Trn) (x : Int) : List Trn := match f.getLast? with
  | none => [(x, 1, some 1)]
  | some t => if t.2.2.getD 0 = 1 ∨ x - t.1 - t.2.1 * (t.2.2.getD 0 - 1) = t.2.1 then f.dropLast ++ [(t.1, x - t.1 - t.2.1 * (t.2.2.getD 0 - 1), some (t.2.2.getD 0 + 1))] else f ++ [(x, 1, some 1)]
def nmL (xs : List Int) : List Trn := xs.foldl nmS []
theorem nmS_join {g : List Trn} {t : Trn} {x c : Int} (hc : t.2.2 = some c) : nmS (g ++ [t]) x = g ++ joinL t (x, 1, some 1) := by
  have e1 : (g ++ [t]).getLast? = some t := by simp
  have e2 : (g ++ [t]).dropLast = g := by simp
  have ec : t.2.2.getD 0 = c := by rw [hc]; rfl
  unfold nmS
  rw [e1]
  show (if t.2.2.getD 0 = 1 ∨ x - t.1 - t.2.1 * (t.2.2.getD 0 - 1) = t.2.1 then (g ++ [t]).dropLast ++ [(t.1, x - t.1 - t.2.1 * (t.2.2.getD 0 - 1), some (t.2.2.getD 0 + 1))] else g ++ [t] ++ [(x, 1, some 1)]) = _
  rw [ec, e2]
  have ej : joinL t (x, 1, some 1) = joinC t (x, 1, some 1) c := by unfold joinL; rw [hc]
  rw [ej]
  unfold joinC
  have pc : t.2.1 * (c - 1) = c * t.2.1 - t.2.1 := by rw [Int.mul_sub, Int.mul_one, Int.mul_comm]
  have e0 : (x, 1, some 1).1 = x := rfl
  by_cases c1 : c = 1
  · subst c1
    rw [if_pos (.inl rfl)]
    have es : joinS t (x, 1, some 1) 1 = x - t.1 := by unfold joinS; rw [if_pos rfl]
    rw [es, if_pos (by show t.1 + 1 * (x - t.1) = x; omega)]
    have eg : x - t.1 - t.2.1 * (1 - 1) = x - t.1 := by rw [show (1 : Int) - 1 = 0 by rfl, Int.mul_zero, Int.sub_zero]
    rw [eg]
    by_cases w : (1 : Int) = x - t.1
    · rw [if_pos (show ((x, 1, some 1) : Trn).2.1 = x - t.1 from w)]
      rfl
    · rw [if_neg (show ¬ ((x, 1, some 1) : Trn).2.1 = x - t.1 from w)]
      rfl
  · have es : joinS t (x, 1, some 1) c = t.2.1 := by unfold joinS; rw [if_neg c1]
    rw [es]
    by_cases w : x - t.1 - t.2.1 * (c - 1) = t.2.1
    · rw [if_pos (.inr w), if_pos (show t.1 + c * t.2.1 = x by omega), w]
      by_cases v : (1 : Int) = t.2.1
      · rw [if_pos (show ((x, 1, some 1) : Trn).2.1 = t.2.1 from v)]
        rfl
      · rw [if_neg (show ¬ ((x, 1, some 1) : Trn).2.1 = t.2.1 from v)]
        rfl
    · rw [if_neg (by rintro (q | q); exact c1 q; exact w q), if_neg (show ¬ t.1 + c * t.2.1 = x by omega), List.append_assoc]
      rfl
theorem nmS_nil (x : Int) : nmS [] x = [(x, 1, some 1)] := rfl
theorem joinL_fin {t : Trn} {x c : Int} (hc : t.2.2 = some c) (c1 : 1 ≤ c) (h1 : t.2.2 = some 1 → t.2.1 = 1) : ∀ g la, joinL t (x, 1, some 1) = g ++ [la] → (∃ d, la.2.2 = some d ∧ 1 ≤ d) ∧ (la.2.2 = some 1 → la.2.1 = 1) := by
  intro g la e
  have hm := nmS_join (g := []) (x := x) hc
  rw [List.nil_append, List.nil_append] at hm
  rw [← hm] at e
  unfold nmS at e
  have e1 : ([t] : List Trn).getLast? = some t := rfl
  rw [e1] at e
  have e : (if t.2.2.getD 0 = 1 ∨ x - t.1 - t.2.1 * (t.2.2.getD 0 - 1) = t.2.1 then ([] : List Trn) ++ [(t.1, x - t.1 - t.2.1 * (t.2.2.getD 0 - 1), some (t.2.2.getD 0 + 1))] else [t] ++ [(x, 1, some 1)]) = g ++ [la] := e
  have ec : t.2.2.getD 0 = c := by rw [hc]; rfl
  split at e
  · have := (List.append_inj' e rfl).2
    have z := (List.cons.inj this).1
    rw [← z, ec]
    exact ⟨⟨c + 1, rfl, by omega⟩, fun q => by have z2 : c + 1 = 1 := Option.some.inj q; omega⟩
  · have := (List.append_inj' e rfl).2
    have z := (List.cons.inj this).1
    rw [← z]
    exact ⟨⟨1, rfl, by decide⟩, fun _ => rfl⟩
theorem nfG_sgl : ∀ (xs : List Int) (cl : List Trn) (t : Trn) (c : Int), t.2.2 = some c → 1 ≤ c → (t.2.2 = some 1 → t.2.1 = 1) → nfG cl (some t) (sgl xs) = xs.foldl nmS (cl ++ [t])
  | [], cl, t, c, _, _, h1 => by
    show cl ++ [plainT t] = cl ++ [t]
    unfold plainT
    by_cases q : t.2.2 = some 1
    · rw [if_pos q]
      have e1 := h1 q
      obtain ⟨a, b, k⟩ := t
      have e2 : k = some 1 := q
      have e3 : b = 1 := e1
      rw [e2, e3]
    · rw [if_neg q]
  | x :: xs, cl, t, c, hc, c1, h1 => by
    show nfG (cl ++ (joinL t (x, 1, some 1)).dropLast) (joinL t (x, 1, some 1)).getLast? (sgl xs) = xs.foldl nmS (nmS (cl ++ [t]) x)
    rw [nmS_join hc]
    obtain ⟨v, zs, ev, _⟩ := joinL_head (f := (x, 1, some 1)) hc c1
    have ne : joinL t (x, 1, some 1) ≠ [] := by rw [ev]; simp
    have eg := List.dropLast_concat_getLast ne
    obtain ⟨⟨d, hd, d1⟩, hl⟩ := joinL_fin (x := x) hc c1 h1 _ _ eg.symm
    rw [List.getLast?_eq_some_getLast ne, nfG_sgl xs _ _ d hd d1 hl, List.append_assoc, eg]
theorem nmL_nfs (xs : List Int) : nmL xs = nfs (sgl xs) := by
  cases xs with
  | nil => rfl
  | cons x xs =>
    show xs.foldl nmS [(x, 1, some 1)] = nfG [] (some (x, 1, some 1)) (sgl xs)
    rw [nfG_sgl xs [] (x, 1, some 1) 1 rfl (by decide) fun _ => rfl]
    rfl

/-! ### windows -/
def hiW (t : Trn) : Option Int → Option Int
  | none => t.2.2
  | some a => some (nbT t a)
def wnT (t : Trn) (f : Int) (after : Option Int) : List Trn := partL t (nbT t f) (hiW t after)
def win (ts : List Trn) (f : Int) (after : Option Int) : List Trn := ts.flatMap fun t => wnT t f after
def cx (f : Int) (after : Option Int) (x : Int) : Int := match after with
  | none => if x < f then f else x
  | some a => if x < f then f else if a < x then a else x
theorem cl_mono {d e p : Int} (hp : 0 < p) (h : d ≤ e) : cl d p ≤ cl e p := (cl_le hp).mpr (Int.le_trans h ((cl_le hp).mp (Int.le_refl _)))
theorem nbT_mono {t : Trn} (h : OkTr t) {x y : Int} (l : x ≤ y) : nbT t x ≤ nbT t y := by
  obtain ⟨s, p, k⟩ := t
  have hp : 0 < p := by
    have h2 : 1 ≤ p := h.2.1
    omega
  have c := cl_mono (p := p) hp (show x - s ≤ y - s by omega)
  show minO (stepsUp (x - s) p) k ≤ minO (stepsUp (y - s) p) k
  rw [stepsUp_cl, stepsUp_cl]
  cases k with
  | none =>
    show (if cl (x - s) p > 0 then cl (x - s) p else 0) ≤ (if cl (y - s) p > 0 then cl (y - s) p else 0)
    split <;> split <;> omega
  | some d =>
    show (if d < (if cl (x - s) p > 0 then cl (x - s) p else 0) then d else (if cl (x - s) p > 0 then cl (x - s) p else 0)) ≤ (if d < (if cl (y - s) p > 0 then cl (y - s) p else 0) then d else (if cl (y - s) p > 0 then cl (y - s) p else 0))
    repeat' split
    all_goals omega
theorem NB_mono {ts : List Trn} (h : ∀ t ∈ ts, OkTr t) {x y : Int} (l : x ≤ y) : NB ts x ≤ NB ts y := by
  induction ts with
  | nil => exact Int.le_refl _
  | cons t ts ih =>
    have := nbT_mono (h t (List.mem_cons_self ..)) l
    have := ih fun u hu => h u (List.mem_cons_of_mem _ hu)
    show nbT t x + NB ts x ≤ nbT t y + NB ts y
    omega
theorem wn_nb {t : Trn} (h : OkTr t) {f : Int} {after : Option Int} (hf : ∀ a, after = some a → f ≤ a) (x : Int) : NB (wnT t f after) x = nbT t (cx f after x) - nbT t f := by
  obtain ⟨s, p, k⟩ := t
  have hp : 0 < p := by
    have h2 : 1 ≤ p := h.2.1
    omega
  have n0 := nbT_nn h f
  have low : ∀ z, z ≤ f → nbT (s, p, k) z ≤ nbT (s, p, k) f := fun z hz => nbT_mono h hz
  have e0 : x - (s + nbT (s, p, k) f * p) = x - s - nbT (s, p, k) f * p := by omega
  have one : ∀ (hi : Option Int), nbT (s + nbT (s, p, k) f * p, p, hi) x = minO (if cl (x - s) p - nbT (s, p, k) f > 0 then cl (x - s) p - nbT (s, p, k) f else 0) hi := fun hi => by
    show minO (stepsUp (x - (s + nbT (s, p, k) f * p)) p) hi = _
    rw [e0, stepsUp_cl, cl_sub _ _ _ hp]
  have full : nbT (s, p, k) x = minO (if cl (x - s) p > 0 then cl (x - s) p else 0) k := by
    show minO (stepsUp (x - s) p) k = _
    rw [stepsUp_cl]
  have nx := nbT_nn h x
  cases after with
  | none =>
    have key : nbT (s, p, k) (cx f none x) = if x < f then nbT (s, p, k) f else nbT (s, p, k) x := by
      show nbT (s, p, k) (if x < f then f else x) = _
      split <;> rfl
    rw [key]
    have hl : x < f → nbT (s, p, k) x ≤ nbT (s, p, k) f := fun l => low x (by omega)
    have hg : ¬ x < f → nbT (s, p, k) f ≤ nbT (s, p, k) x := fun l => nbT_mono h (by omega)
    cases k with
    | none =>
      show nbT (s + nbT (s, p, none) f * p, p, none) x + 0 = _
      rw [one none]
      have full : nbT (s, p, none) x = if cl (x - s) p > 0 then cl (x - s) p else 0 := full
      show (if cl (x - s) p - nbT (s, p, none) f > 0 then cl (x - s) p - nbT (s, p, none) f else 0) + 0 = _
      generalize nbT (s, p, none) f = lo at *
      generalize nbT (s, p, none) x = nn at *
      split <;> split <;> (split at full) <;> omega
    | some c =>
      have hle : nbT (s, p, some c) f ≤ c := nbT_le rfl
      show NB (if nbT (s, p, some c) f = c then [] else [(s + nbT (s, p, some c) f * p, p, some (c - nbT (s, p, some c) f))]) x = _
      have full : nbT (s, p, some c) x = if c < (if cl (x - s) p > 0 then cl (x - s) p else 0) then c else (if cl (x - s) p > 0 then cl (x - s) p else 0) := full
      by_cases z : nbT (s, p, some c) f = c
      · rw [if_pos z]
        show (0 : Int) = _
        generalize nbT (s, p, some c) f = lo at *
        generalize nbT (s, p, some c) x = nn at *
        split <;> (split at full) <;> (try split at full) <;> omega
      · rw [if_neg z]
        show nbT (s + nbT (s, p, some c) f * p, p, some (c - nbT (s, p, some c) f)) x + 0 = _
        rw [one]
        show (if c - nbT (s, p, some c) f < (if cl (x - s) p - nbT (s, p, some c) f > 0 then cl (x - s) p - nbT (s, p, some c) f else 0) then c - nbT (s, p, some c) f else (if cl (x - s) p - nbT (s, p, some c) f > 0 then cl (x - s) p - nbT (s, p, some c) f else 0)) + 0 = _
        generalize nbT (s, p, some c) f = lo at *
        generalize nbT (s, p, some c) x = nn at *
        generalize cl (x - s) p = q at *
        by_cases w : x < f
        · have := hl w
          rw [if_pos w]
          repeat' split
          all_goals (repeat' split at full)
          all_goals omega
        · have := hg w
          rw [if_neg w]
          repeat' split
          all_goals (repeat' split at full)
          all_goals omega
  | some a =>
    have hfa := hf a rfl
    have key : nbT (s, p, k) (cx f (some a) x) = if x < f then nbT (s, p, k) f else if a < x then nbT (s, p, k) a else nbT (s, p, k) x := by
      show nbT (s, p, k) (if x < f then f else if a < x then a else x) = _
      split
      · rfl
      · split <;> rfl
    rw [key]
    have hl : x < f → nbT (s, p, k) x ≤ nbT (s, p, k) f := fun l => low x (by omega)
    have hg : ¬ x < f → nbT (s, p, k) f ≤ nbT (s, p, k) x := fun l => nbT_mono h (by omega)
    have ha1 : a < x → nbT (s, p, k) a ≤ nbT (s, p, k) x := fun l => nbT_mono h (by omega)
    have ha2 : ¬ a < x → nbT (s, p, k) x ≤ nbT (s, p, k) a := fun l => nbT_mono h (by omega)
    have hfa2 := nbT_mono h hfa
    have hc : ∀ c, k = some c → nbT (s, p, k) a ≤ c := fun c e => nbT_le e
    show NB (if nbT (s, p, k) f = nbT (s, p, k) a then [] else [(s + nbT (s, p, k) f * p, p, some (nbT (s, p, k) a - nbT (s, p, k) f))]) x = _
    have base : nbT (s, p, k) x ≤ nbT (s, p, k) a → (if cl (x - s) p - nbT (s, p, k) f > 0 then cl (x - s) p - nbT (s, p, k) f else 0) = (if nbT (s, p, k) x - nbT (s, p, k) f > 0 then nbT (s, p, k) x - nbT (s, p, k) f else 0) ∨ nbT (s, p, k) x = nbT (s, p, k) a ∧ nbT (s, p, k) x ≤ cl (x - s) p := fun _ => by
      cases k with
      | none =>
        have full : nbT (s, p, none) x = if cl (x - s) p > 0 then cl (x - s) p else 0 := full
        left
        generalize nbT (s, p, none) f = lo at *
        generalize nbT (s, p, none) x = nn at *
        repeat' split
        all_goals (repeat' split at full)
        all_goals omega
      | some c =>
        have full : nbT (s, p, some c) x = if c < (if cl (x - s) p > 0 then cl (x - s) p else 0) then c else (if cl (x - s) p > 0 then cl (x - s) p else 0) := full
        have := hc c rfl
        generalize nbT (s, p, some c) f = lo at *
        generalize nbT (s, p, some c) x = nn at *
        generalize nbT (s, p, some c) a = na at *
        generalize cl (x - s) p = q at *
        by_cases w : c < q
        · right
          repeat' split at full
          all_goals omega
        · left
          repeat' split
          all_goals (repeat' split at full)
          all_goals omega
    have big : nbT (s, p, k) a ≤ nbT (s, p, k) x → nbT (s, p, k) a ≤ (if cl (x - s) p > 0 then cl (x - s) p else 0) := fun l => by
      cases k with
      | none =>
        have full : nbT (s, p, none) x = if cl (x - s) p > 0 then cl (x - s) p else 0 := full
        omega
      | some c =>
        have full : nbT (s, p, some c) x = if c < (if cl (x - s) p > 0 then cl (x - s) p else 0) then c else (if cl (x - s) p > 0 then cl (x - s) p else 0) := full
        split at full <;> omega
    by_cases z : nbT (s, p, k) f = nbT (s, p, k) a
    · rw [if_pos z]
      show (0 : Int) = _
      generalize nbT (s, p, k) f = lo at *
      generalize nbT (s, p, k) x = nn at *
      generalize nbT (s, p, k) a = na at *
      split
      · omega
      · split <;> omega
    · rw [if_neg z]
      show nbT (s + nbT (s, p, k) f * p, p, some (nbT (s, p, k) a - nbT (s, p, k) f)) x + 0 = _
      rw [one]
      show (if nbT (s, p, k) a - nbT (s, p, k) f < (if cl (x - s) p - nbT (s, p, k) f > 0 then cl (x - s) p - nbT (s, p, k) f else 0) then nbT (s, p, k) a - nbT (s, p, k) f else (if cl (x - s) p - nbT (s, p, k) f > 0 then cl (x - s) p - nbT (s, p, k) f else 0)) + 0 = _
      clear full one e0 key low
      generalize nbT (s, p, k) f = lo at *
      generalize nbT (s, p, k) x = nn at *
      generalize nbT (s, p, k) a = na at *
      generalize cl (x - s) p = q at *
      by_cases w : x < f
      · rw [if_pos w]
        have := hl w
        rcases base (by omega) with b | b
        · rw [b]
          repeat' split
          all_goals omega
        · omega
      · rw [if_neg w]
        have := hg w
        by_cases v : a < x
        · rw [if_pos v]
          have := ha1 v
          have := big this
          repeat' split
          all_goals (repeat' split at *)
          all_goals omega
        · rw [if_neg v]
          have := ha2 v
          rcases base this with b | b
          · rw [b]
            repeat' split
            all_goals omega
          · obtain ⟨b1, b2⟩ := b
            repeat' split
            all_goals omega
theorem win_nb {ts : List Trn} (h : ∀ t ∈ ts, OkTr t) {f : Int} {after : Option Int} (hf : ∀ a, after = some a → f ≤ a) (x : Int) : NB (win ts f after) x = NB ts (cx f after x) - NB ts f := by
  induction ts with
  | nil => rfl
  | cons t ts ih =>
    have h1 := wn_nb (h t (List.mem_cons_self ..)) hf x
    have h2 := ih fun u hu => h u (List.mem_cons_of_mem _ hu)
    show NB (wnT t f after ++ win ts f after) x = nbT t (cx f after x) + NB ts (cx f after x) - (nbT t f + NB ts f)
    rw [NB_app, h1, h2]
    omega

/-! ### windows in the program -/
theorem steps_le' {d p : Int} (hp : 0 < p) : stepsUp d p ≤ if 0 < d then d else 0 := by
  rw [stepsUp_cl]
  have h : cl d p ≤ (if 0 < d then d else 0) := (cl_le hp).mpr (by
    split
    · have : d * 1 ≤ d * p := Int.mul_le_mul_of_nonneg_left (by omega) (by omega)
      omega
    · omega)
  split <;> (try split) <;> (try split at h) <;> omega
/-- the start of the train from its i-th time on -/
theorem part_start {t : Trn} (h : OkTr t) {x i : Int} (hi : nbT t x = i) (h0 : 0 < i) : t.1 + (i - 1) * t.2.1 < x := by
  refine (nbT_lt h (by omega) fun c hc => ?_).mp (by omega)
  have := nbT_le (x := x) hc
  omega
structure WnOk (n : Nat) (t u : Trn) : Prop where
  ok : OkTr u
  bt : BT n u
  lo : t.1 ≤ u.1
  lt : ∀ v, Lt t v → Lt u v
theorem wn_ok {t : Trn} (h : OkTr t) {n m : Nat} (b : BT n t) {f : Int} {after : Option Int} (f0 : 0 ≤ f) (hf : ∀ a, after = some a → f ≤ a) (fm : f ≤ PB m) (am : ∀ a, after = some a → a ≤ PB m) : (∀ u ∈ wnT t f after, WnOk (max n m + 1) t u) ∧ (wnT t f after).length ≤ 1 := by
  have n0 := nbT_nn h f
  have p1 := h.2.1
  have s0 := h.1
  have bs := b.s
  have bp := b.p
  have q1 : PB n ≤ PB (max n m) := PB_le (by omega)
  have q2 : PB m ≤ PB (max n m) := PB_le (by omega)
  have q3 := PB_succ (max n m)
  have q4 := PB_pos (max n m)
  have m0 : 0 ≤ nbT t f * t.2.1 := Int.mul_nonneg n0 (by omega)
  have lowst : nbT t f * t.2.1 < f + t.2.1 ∨ nbT t f = 0 := by
    by_cases z : nbT t f = 0
    · exact .inr z
    · left
      have := part_start h (x := f) rfl (by omega)
      rw [Int.sub_mul, Int.one_mul] at this
      omega
  have st : t.1 + nbT t f * t.2.1 ≤ PB (max n m + 1) := by
    rcases lowst with l | l
    · by_cases z : nbT t f = 0
      · rw [z, Int.zero_mul]; omega
      · have := part_start h (x := f) rfl (by omega)
        rw [Int.sub_mul, Int.one_mul] at this
        omega
    · rw [l, Int.zero_mul]; omega
  unfold wnT partL
  cases hh : hiW t after with
  | none =>
    have hk : t.2.2 = none := by
      cases after with
      | none => exact hh
      | some a => cases hh
    refine ⟨fun u hu => ?_, by show 1 ≤ 1; decide⟩
    rw [List.mem_singleton.mp hu]
    exact ⟨⟨by show 0 ≤ t.1 + _; omega, p1, fun c hc => by cases hc⟩, ⟨st, by show t.2.1 ≤ _; omega, fun c hc => by cases hc⟩, by show t.1 ≤ t.1 + _; omega, fun v ⟨c, hc, _⟩ => by rw [hk] at hc; cases hc⟩
  | some hi =>
    refine ⟨fun u hu => ?_, by show (if nbT t f = hi then [] else [_] : List Trn).length ≤ 1; split <;> simp⟩
    have hu : u ∈ (if nbT t f = hi then [] else [(t.1 + nbT t f * t.2.1, t.2.1, some (hi - nbT t f))] : List Trn) := hu
    have hge : nbT t f ≤ hi ∧ (∀ c, t.2.2 = some c → hi ≤ c) ∧ t.1 + (hi - 1) * t.2.1 ≤ PB (max n m + 1) := by
      cases after with
      | none =>
        have e : t.2.2 = some hi := hh
        have := b.c hi e
        exact ⟨nbT_le e, fun c hc => by rw [e] at hc; cases hc; omega, by omega⟩
      | some a =>
        have e : nbT t a = hi := Option.some.inj hh
        have am' := am a rfl
        have hfa := hf a rfl
        refine ⟨by rw [← e]; exact nbT_mono h hfa, fun c hc => by rw [← e]; exact nbT_le hc, ?_⟩
        by_cases z : 0 < hi
        · have := part_start h e z
          omega
        · have : (hi - 1) * t.2.1 ≤ 0 := Int.mul_nonpos_of_nonpos_of_nonneg (by omega) (by omega)
          omega
    obtain ⟨g1, g2, g3⟩ := hge
    by_cases z : nbT t f = hi
    · rw [if_pos z] at hu; simp at hu
    · rw [if_neg z] at hu
      rw [List.mem_singleton.mp hu]
      have eend : ∀ c : Int, hi - nbT t f = c → t.1 + nbT t f * t.2.1 + (c - 1) * t.2.1 = t.1 + (hi - 1) * t.2.1 := fun c e => by
        subst e
        rw [show hi - nbT t f - 1 = (hi - 1) - nbT t f by omega, Int.sub_mul (hi - 1)]
        omega
      refine ⟨⟨by show 0 ≤ t.1 + _; omega, p1, fun c hc => by have y : hi - nbT t f = c := Option.some.inj hc; omega⟩, ⟨st, by show t.2.1 ≤ _; omega, fun c hc => ?_⟩, by show t.1 ≤ t.1 + _; omega, fun v ⟨c, hc, l⟩ => ?_⟩
      · have y : hi - nbT t f = c := Option.some.inj hc
        show t.1 + nbT t f * t.2.1 + (c - 1) * t.2.1 ≤ _
        rw [eend c y]
        exact g3
      · refine ⟨hi - nbT t f, rfl, ?_⟩
        show t.1 + nbT t f * t.2.1 + (hi - nbT t f - 1) * t.2.1 < v.1
        rw [eend _ rfl]
        have := g2 c hc
        have : (hi - 1) * t.2.1 ≤ (c - 1) * t.2.1 := Int.mul_le_mul_of_nonneg_right (by omega) (by omega)
        omega
theorem win_ok {n m : Nat} {f : Int} {after : Option Int} (f0 : 0 ≤ f) (hf : ∀ a, after = some a → f ≤ a) (fm : f ≤ PB m) (am : ∀ a, after = some a → a ≤ PB m) : ∀ {ts : List Trn}, Srt ts → (∀ t ∈ ts, BT n t) → Srt (win ts f after) ∧ (∀ u ∈ win ts f after, BT (max n m + 1) u) ∧ (win ts f after).length ≤ ts.length
  | [], _, _ => ⟨⟨fun u hu => (by cases hu), List.Pairwise.nil⟩, fun u hu => (by cases hu), Nat.le_refl _⟩
  | t :: ts, hs, hb => by
    obtain ⟨i1, i2, i3⟩ := win_ok f0 hf fm am hs.tail fun u hu => hb u (List.mem_cons_of_mem _ hu)
    obtain ⟨w1, w2⟩ := wn_ok hs.head (hb t (List.mem_cons_self ..)) f0 hf fm am
    have mem : ∀ v ∈ win ts f after, ∃ t' ∈ ts, t'.1 ≤ v.1 := fun v hv => by
      obtain ⟨t', ht', hv'⟩ := List.mem_flatMap.mp hv
      exact ⟨t', ht', ((wn_ok (hs.tail.1 t' ht') (hb t' (List.mem_cons_of_mem _ ht')) f0 hf fm am).1 v hv').lo⟩
    show Srt (wnT t f after ++ win ts f after) ∧ (∀ u ∈ wnT t f after ++ win ts f after, BT (max n m + 1) u) ∧ (wnT t f after ++ win ts f after).length ≤ ts.length + 1
    refine ⟨⟨fun u hu => ?_, List.pairwise_append.mpr ⟨?_, i1.2, fun u hu v hv => ?_⟩⟩, fun u hu => ?_, by rw [List.length_append]; omega⟩
    · rcases List.mem_append.mp hu with hu | hu
      · exact (w1 u hu).ok
      · exact i1.1 u hu
    · cases hw : wnT t f after with
      | nil => exact List.Pairwise.nil
      | cons a l =>
        rw [hw] at w2
        have : l = [] := by
          cases l with
          | nil => rfl
          | cons b l => simp at w2
        rw [this]
        exact List.pairwise_singleton _ _
    · obtain ⟨t', ht', l⟩ := mem v hv
      exact lt_of_start ((w1 u hu).lt t' (hs.lt t' ht')) l
    · rcases List.mem_append.mp hu with hu | hu
      · exact (w1 u hu).bt
      · exact i2 u hu

/-! ### window in the program -/
def spWo : Sp := fun vs H Q _ => ∃ (x : V) (t : Trn) (f : Int) (after : Option Int), vs = [x, .int f, cV after] ∧ TrAt H x t ∧ OkTr t ∧ BT 5000 t ∧ f ≤ PB 4900 ∧ 0 ≤ f ∧ ∀ l zs H', H' l = some (.lst zs) → Trs H' zs (wnT t f after) → Same H H' → H l = none → Q (.ref l) H'
def spWr : Sp := fun vs H Q _ => ∃ a xs ts n m f after, vs = [.ref a, .int f, cV after] ∧ H a = some (.lst xs) ∧ Trs H xs ts ∧ Srt ts ∧ (∀ t ∈ ts, BT n t) ∧ ts.length ≤ 5000 ∧ n ≤ 5000 ∧ 0 ≤ f ∧ (∀ b, after = some b → f ≤ b) ∧ f ≤ PB m ∧ (∀ b, after = some b → b ≤ PB m) ∧ m ≤ 4900 ∧ ∀ l zs H', H' l = some (.lst zs) → Trs H' zs (win ts f after) → Same H H' → H l = none → Q (.ref l) H'
theorem lc2_outer {K : PySem.W.Frag} {a : Addr} {xs : List V} {g : TG} {tt : TT} {wi1 : TI} {g1 : TG} {tt1 : TT} {te : TE} {vs vs1 : List Nat} {σ : L2.St} {H1 : Hp} {D : Addr} {Qd : Hp → Prop} (Pv : Nat → Hp → Prop) (h0 : Pv 0 (upd H1 D (.lst []))) (hl : ∀ i H, i ≤ xs.length → Pv i H → SqL K H a xs)
    (hs : ∀ i x H, xs[i]? = some x → Pv i H → g x (wipe σ vs) H fun σ2 H2 => wipe σ2 vs = wipe σ vs ∧ tt σ2 H2 fun b H3 =>
      if b = true then wi1 σ2 H3 fun J1 H4 => ∃ W1 : Nat → Nat → Hp → Prop, (∃ m, W1 0 m H4) ∧ ∀ j k H, W1 j k H →
        (J1.stop j H ∧ Pv (i + 1) H) ∨ (J1.go j H ∧ ∃ Nx1 : Hp → Prop, (∀ H', Nx1 H' → ∃ k', k' < k ∧ W1 (j + 1) k' H') ∧ ∀ x H', J1.yld j H x H' → g1 x (wipe σ2 vs1) H' fun σ3 H5 => wipe σ3 vs1 = wipe σ2 vs1 ∧ tt1 σ3 H5 fun b H6 =>
          if b = true then te σ3 H6 fun y H7 => ∃ acc, H7 D = some (.lst acc) ∧ acc.length < sizeLine ∧ Nx1 (upd H7 D (.lst (acc ++ [y]))) else Nx1 H6)
      else Pv (i + 1) H3) (hd : ∀ H, Pv xs.length H → Qd H) :
    ∃ W : Nat → Nat → Hp → Prop, (∃ m, W 0 m (upd H1 D (.lst []))) ∧ ∀ i m H, W i m H →
      ((Itl K a).stop i H ∧ Qd H) ∨ ((Itl K a).go i H ∧ ∃ Nx : Hp → Prop, (∀ H', Nx H' → ∃ m', m' < m ∧ W (i + 1) m' H') ∧ ∀ x H', (Itl K a).yld i H x H' → g x (wipe σ vs) H' fun σ2 H2 => wipe σ2 vs = wipe σ vs ∧ tt σ2 H2 fun b H3 =>
        if b = true then wi1 σ2 H3 fun J1 H4 => ∃ W1 : Nat → Nat → Hp → Prop, (∃ m, W1 0 m H4) ∧ ∀ j k H, W1 j k H →
          (J1.stop j H ∧ Nx H) ∨ (J1.go j H ∧ ∃ Nx1 : Hp → Prop, (∀ H', Nx1 H' → ∃ k', k' < k ∧ W1 (j + 1) k' H') ∧ ∀ x H', J1.yld j H x H' → g1 x (wipe σ2 vs1) H' fun σ3 H5 => wipe σ3 vs1 = wipe σ2 vs1 ∧ tt1 σ3 H5 fun b H6 =>
            if b = true then te σ3 H6 fun y H7 => ∃ acc, H7 D = some (.lst acc) ∧ acc.length < sizeLine ∧ Nx1 (upd H7 D (.lst (acc ++ [y]))) else Nx1 H6)
        else Nx H3) := by
  refine ⟨fun i m H => m = xs.length - i ∧ i ≤ xs.length ∧ Pv i H, ⟨xs.length, by simp, Nat.zero_le _, h0⟩, ?_⟩
  rintro i m H ⟨rfl, hi, p⟩
  have q := hl i H hi p
  by_cases hlt : i < xs.length
  · refine .inr ⟨⟨xs, xs[i], q, by simp [hlt]⟩, Pv (i + 1), fun H' p' => ⟨xs.length - (i + 1), by omega, rfl, hlt, p'⟩, fun x H' y => ?_⟩
    obtain ⟨e, y⟩ := y
    subst e
    exact hs i x _ (y xs q) p
  · have e : i = xs.length := by omega
    subst e
    exact .inl ⟨⟨xs, q, Nat.le_refl _⟩, hd H p⟩
theorem lc2_inner {K : PySem.W.Frag} {a : Addr} {xs : List V} {g1 : TG} {tt1 : TT} {te : TE} {vs1 : List Nat} {σ2 : L2.St} {H4 : Hp} {D : Addr} {Nx : Hp → Prop} (Pv : Nat → Hp → Prop) (h0 : Pv 0 H4) (hl : ∀ i H, i ≤ xs.length → Pv i H → SqL K H a xs)
    (hs : ∀ j x H, xs[j]? = some x → Pv j H → g1 x (wipe σ2 vs1) H fun σ3 H5 => wipe σ3 vs1 = wipe σ2 vs1 ∧ tt1 σ3 H5 fun b H6 =>
      if b = true then te σ3 H6 fun y H7 => ∃ acc, H7 D = some (.lst acc) ∧ acc.length < sizeLine ∧ Pv (j + 1) (upd H7 D (.lst (acc ++ [y]))) else Pv (j + 1) H6) (hd : ∀ H, Pv xs.length H → Nx H) :
    ∃ W1 : Nat → Nat → Hp → Prop, (∃ m, W1 0 m H4) ∧ ∀ j k H, W1 j k H →
      ((Itl K a).stop j H ∧ Nx H) ∨ ((Itl K a).go j H ∧ ∃ Nx1 : Hp → Prop, (∀ H', Nx1 H' → ∃ k', k' < k ∧ W1 (j + 1) k' H') ∧ ∀ x H', (Itl K a).yld j H x H' → g1 x (wipe σ2 vs1) H' fun σ3 H5 => wipe σ3 vs1 = wipe σ2 vs1 ∧ tt1 σ3 H5 fun b H6 =>
        if b = true then te σ3 H6 fun y H7 => ∃ acc, H7 D = some (.lst acc) ∧ acc.length < sizeLine ∧ Nx1 (upd H7 D (.lst (acc ++ [y]))) else Nx1 H6) := by
  refine ⟨fun i m H => m = xs.length - i ∧ i ≤ xs.length ∧ Pv i H, ⟨xs.length, by simp, Nat.zero_le _, h0⟩, ?_⟩
  rintro i m H ⟨rfl, hi, p⟩
  have q := hl i H hi p
  by_cases hlt : i < xs.length
  · refine .inr ⟨⟨xs, xs[i], q, by simp [hlt]⟩, Pv (i + 1), fun H' p' => ⟨xs.length - (i + 1), by omega, rfl, hlt, p'⟩, fun x H' y => ?_⟩
    obtain ⟨e, y⟩ := y
    subst e
    exact hs i x _ (y xs q) p
  · have e : i = xs.length := by omega
    subst e
    exact .inl ⟨⟨xs, q, Nat.le_refl _⟩, hd H p⟩
section
variable {P : Program} {w : World} {K : PySem.W.Frag} {mg : Str → Option Value} {base : Heap} {L : LA}
abbrev N_windowof : List Str := ["train", "first", "after", "high"]
theorem sc_windowof : FnScope N_windowof ["train", "first", "after"] (defScope st_window_of) := ⟨rfl, rfl, rfl, by decide +kernel, rfl, by decide +kernel, by decide +kernel⟩
theorem fn_windowof (T : LX K mg L) {fd : FuncData} (F : Fun K "window_of" "window_of" st_window_of L.f_window_of fd) : FnOk P w K mg base CX0 3 L.f_window_of fd ["train", "first", "after"] (spWo) := by
  have G_partof := ok_partof (P := P) (w := w) (base := base) T
  have G_timesbefore := ok_timesbefore (P := P) (w := w) (base := base) T
  have nd := sc_windowof.nd
  refine F.ok sc_windowof (fun vs H Q E h => ?_) (fun cdv A outer S H vs Q E hr h => ?_)
  · obtain ⟨x, t, f, after, rfl, _⟩ := h
    rfl
  · obtain ⟨x, t, f, after, rfl, ⟨b, rfl, hb⟩, ok, bt, fm, f0, k⟩ := h
    refine ⟨_, (pss_cons (ps_set (i := 3) nd rfl (Or.inl rfl) (pe_ifExp (pt_cmp (pc_isN (pv 2))) (pe_ix (r := rIxT K) ix_tup (pv 0) pe_int (fun _ _ => rfl)) (pe_c G_timesbefore (hr.mono (by decide)) rfl (pa_cons (pv 0) (pa_cons (pv 2) pa_nil)))))
       (pss_one (ps_ret (pe_c G_partof (hr.mono (by decide)) rfl (pa_cons (pv 0) (pa_cons (pe_c G_timesbefore (hr.mono (by decide)) rfl (pa_cons (pv 0) (pa_cons (pv 1) pa_nil))) (pa_cons (pv 3) pa_nil))))))), ?_⟩
    have p1 := ok.2.1
    have n0 := nbT_nn ok f
    have s0 := ok.1
    have hn : nbT t f ≤ BB := by
      have h1 := steps_le' (d := f - t.1) (p := t.2.1) (by omega)
      have h2 : PB 4900 ≤ BB := PB_le (by decide)
      have h3 : nbT t f ≤ stepsUp (f - t.1) t.2.1 := by
        unfold nbT
        cases t.2.2 with
        | none => exact Int.le_refl _
        | some c => show (if c < stepsUp (f - t.1) t.2.1 then c else stepsUp (f - t.1) t.2.1) ≤ _; split <;> omega
      have := BB1
      split at h1 <;> omega
    have p2 : t.2.1 ≤ BB := bt.p
    have b1 := BB1
    have cm : CMulW (nbT t f) t.2.1 := mulBB n0 (by omega) (by omega) (by omega)
    cases after with
    | none =>
      refine ⟨_, rfl, _, rfl, iteT ⟨_, rfl, b, _, 2, cV t.2.2, rfl, rfl, SqT.of hb, rfl, ?_⟩⟩
      exact ⟨_, rfl, _, rfl, _, rfl, _, t, f, rfl, ⟨b, rfl, hb⟩, ok, bt, _, rfl, _, t, nbT t f, t.2.2, rfl, ⟨b, rfl, hb⟩, cm, k⟩
    | some a =>
      refine ⟨_, rfl, _, rfl, iteF ⟨_, rfl, _, rfl, _, t, a, rfl, ⟨b, rfl, hb⟩, ok, bt, ?_⟩⟩
      exact ⟨_, rfl, _, rfl, _, rfl, _, t, f, rfl, ⟨b, rfl, hb⟩, ok, bt, _, rfl, _, t, nbT t f, some (nbT t a), rfl, ⟨b, rfl, hb⟩, cm, k⟩
theorem ok_windowof (T : LX K mg L) : Cal P w K mg base "window_of" 3 L.f_window_of ["train", "first", "after"] (spWo) := T.d_window_of.cal fun fd F => fn_windowof T F
abbrev N_windowruns : List Str := ["trains", "first", "after", "train", "part"]
theorem sc_windowruns : FnScope N_windowruns ["trains", "first", "after"] (defScope st_window_runs) := ⟨rfl, rfl, rfl, by decide +kernel, rfl, by decide +kernel, by decide +kernel⟩
theorem fn_windowruns (T : LX K mg L) {fd : FuncData} (F : Fun K "window_runs" "window_runs" st_window_runs L.f_window_runs fd) : FnOk P w K mg base CX0 4 L.f_window_runs fd ["trains", "first", "after"] (spWr) := by
  have G_windowof := ok_windowof (P := P) (w := w) (base := base) T
  have nd := sc_windowruns.nd
  refine F.ok sc_windowruns (fun vs H Q E h => ?_) (fun cdv A outer S H vs Q E hr h => ?_)
  · obtain ⟨a, xs, ts, n, m, f, after, rfl, _⟩ := h
    rfl
  · obtain ⟨a, xs, ts, n, m, f, after, rfl, h2, h3, hs, bt, ln, n5, f0, hf, fm, am, m5, k⟩ := h
    refine ⟨_, (pss_one (ps_ret (pe_lc2 (own := [("train", 3), ("part", 4)]) (vs1 := [4]) (g := gName 3) (tt := tYes) (g1 := gName 4) (tt1 := tYes) (wi1 := iList K _) rfl nd (pi_list (pv 0)) (blkOk_by (own := [("train", 3), ("part", 4)]) (N := N_windowruns) (sc := defScope st_window_runs) (by decide +kernel)) (by simp) (fun _ _ _ _ _ => pg_name (i := 3) nd rfl (Or.inl rfl)) (fun _ _ _ _ _ => pts_nil) (fun _ _ _ _ _ => (pi_list (pe_c G_windowof (hr.mono (by decide)) rfl (pa_cons (pv 3) (pa_cons (pv 1) (pa_cons (pv 2) pa_nil)))))) (fun _ _ _ _ _ => pg_name (i := 4) nd rfl (Or.inl rfl)) (fun _ _ _ _ _ => pts_nil) (fun _ _ _ _ _ => (pv 4))))), ?_⟩
    have hxl := h3.len
    have fm2 : f ≤ PB 4900 := Int.le_trans fm (PB_le m5)
    refine ⟨_, rfl, a, rfl, ⟨_, SqL.of h2⟩, fun D1 hD1 => ?_⟩
    refine lc2_outer (K := K) (a := a) (xs := xs) (fun i H' => ∃ ws, H' D1 = some (.lst ws) ∧ Trs H' ws (win (ts.take i) f after) ∧ Same H H') ⟨[], upd_same, .nil, Same.upd hD1⟩ (fun i H' _ ⟨_, _, _, s⟩ => SqL.of (s _ _ h2)) ?_ ?_
    · rintro i x H3 hxi ⟨ws, hD, tw, s3⟩
      obtain ⟨t, ht, hxt⟩ := h3.get hxi
      have htm := List.mem_of_getElem? ht
      have hj := (List.getElem?_eq_some_iff.mp ht).1
      have wl : ws.length ≤ i := by
        rw [tw.len]
        have := (win_ok f0 hf fm am (ts := ts.take i) ⟨fun u hu => hs.1 u (List.mem_of_mem_take hu), hs.2.sublist (List.take_sublist _ _)⟩ fun u hu => bt u (List.mem_of_mem_take hu)).2.2
        rw [List.length_take] at this
        omega
      refine ⟨rfl, tYes_of ⟨_, rfl, _, rfl, _, rfl, x, t, f, after, rfl, hxt.same s3, hs.1 t htm, (bt t htm).le n5, fm2, f0, fun l zs H4 hl tz s4 nl => ⟨l, rfl, ⟨_, SqL.of hl⟩, ?_⟩⟩⟩
      have nlD : l ≠ D1 := (ne_of_none hD nl).symm
      have zl : zs.length ≤ 1 := by rw [tz.len]; exact (wn_ok (hs.1 t htm) (bt t htm) f0 hf fm am).2
      refine lc2_inner (K := K) (a := l) (xs := zs) (fun j H5 => ∃ ws, H5 D1 = some (.lst ws) ∧ Trs H5 ws (win (ts.take i) f after ++ (wnT t f after).take j) ∧ Kp D1 H4 H5 ∧ ws.length ≤ i + j) ⟨ws, s4 _ _ hD, by rw [List.take_zero, List.append_nil]; exact tw.same s4, Kp.refl, wl⟩ (fun j H5 _ ⟨_, _, _, k5, _⟩ => SqL.of (k5 _ _ nlD hl)) ?_ ?_
      · rintro j y H5 hy ⟨ws5, hD5, tw5, k5, wl5⟩
        obtain ⟨u, hu, hyu⟩ := tz.get hy
        have hjz := (List.getElem?_eq_some_iff.mp hy).1
        refine ⟨rfl, tYes_of ⟨_, rfl, ws5, hD5, small1 (by omega), ws5 ++ [y], upd_same, ?_, k5.trans Kp.upd, by rw [List.length_append]; show ws5.length + 1 ≤ i + (j + 1); omega⟩⟩
        have n6 := NL.upd (o := .lst (ws5 ++ [y])) hD5
        rw [List.take_add_one, hu, ← List.append_assoc]
        have hy5 : TrAt H5 y u := hyu.nl (Kp.nl k5 (s4 _ _ hD))
        exact (tw5.nl n6).app (Trs.one (hy5.nl n6))
      · rintro H5 ⟨ws5, hD5, tw5, k5, _⟩
        refine ⟨ws5, hD5, ?_, fun b o e => k5 _ _ (ne_of_none e hD1) (s4 _ _ (s3 _ _ e))⟩
        have e1 : (wnT t f after).take zs.length = wnT t f after := by rw [tz.len, List.take_length]
        rw [e1] at tw5
        have e2 : win (ts.take (i + 1)) f after = win (ts.take i) f after ++ wnT t f after := by
          unfold win
          rw [List.take_add_one, ht, List.flatMap_append]
          congr 1
          show wnT t f after ++ [] = _
          rw [List.append_nil]
        rw [e2]
        exact tw5
    rintro H3 ⟨ws, hD, tw, s3⟩
    rw [hxl, List.take_length] at tw
    exact k D1 ws H3 hD tw s3 hD1
theorem ok_windowruns (T : LX K mg L) : Cal P w K mg base "window_runs" 4 L.f_window_runs ["trains", "first", "after"] (spWr) := T.d_window_runs.cal fun fd F => fn_windowruns T F
end
/-! ### what a breaker passes -/
def thrL (t : Trn) (wt x : Int) : List Trn := match t.2.2 with
  | none => [(t.1 + nbT t x * t.2.1, stepsUp wt t.2.1 * t.2.1, none)]
  | some c => if nbT t x = c then [] else [(t.1 + nbT t x * t.2.1, stepsUp wt t.2.1 * t.2.1, some (stepsUp (c - nbT t x) (stepsUp wt t.2.1)))]
def lastO (o : Int) (u : Trn) : Int := match u.2.2 with
  | none => o
  | some d => u.1 + (d - 1) * u.2.1
def thnG (wt : Int) : Int → List Trn → List Trn
  | _, [] => []
  | o, t :: r => thrL t wt (o + wt) ++ thnG wt (match thrL t wt (o + wt) with | [] => o | u :: _ => lastO o u) r
theorem stepsUp_pos {d s : Int} (hd : 0 < d) (hs : 0 < s) : stepsUp d s = cl d s ∧ 1 ≤ cl d s := by
  have : 0 < cl d s := (cl_gt hs).mpr (by rw [Int.zero_mul]; exact hd)
  rw [stepsUp_cl, if_pos this]
  exact ⟨rfl, this⟩
/-- of a train: the place behind the i-th time and the wait -/
theorem nbT_next {t : Trn} (h : OkTr t) {wt i : Int} (i0 : 0 ≤ i) (w0 : 1 ≤ wt) : nbT t (t.1 + i * t.2.1 + wt) = minO (i + cl wt t.2.1) t.2.2 := by
  obtain ⟨s, p, k⟩ := t
  have hp : 0 < p := by
    have h2 : 1 ≤ p := h.2.1
    omega
  show minO (stepsUp (s + i * p + wt - s) p) k = minO (i + cl wt p) k
  have e : s + i * p + wt - s = wt - (-i) * p := by rw [Int.neg_mul]; omega
  have c1 := (stepsUp_pos (d := wt) (by omega) hp).2
  rw [e, stepsUp_cl, cl_sub _ _ _ hp, if_pos (by omega)]
  congr 1
  omega
theorem nx_head_in {t : Trn} {r : List Trn} (hs : Srt (t :: r)) {x j : Int} (hj : nbT t x = j) (hc : ∀ c, t.2.2 = some c → j < c) : nxT (t :: r) x = some (t.1 + j * t.2.1) := by
  have j0 : 0 ≤ j := by rw [← hj]; exact nbT_nn hs.head x
  have z : NB r x = 0 := by
    by_cases q : NB r x = 0
    · exact q
    · have : ∃ u ∈ r, u.1 < x := by
        by_cases z : ∃ u ∈ r, u.1 < x
        · exact z
        · exact absurd (NB_zero hs.tail.1 (x := x) fun u hu => by
            by_cases w : x ≤ u.1
            · exact w
            · exact absurd ⟨u, hu, by omega⟩ z) q
      obtain ⟨u, hu, hx⟩ := this
      obtain ⟨c, hc', hl⟩ := hs.lt u hu
      have := nbT_all hs.head hc' (x := x) (by omega)
      have := hc c hc'
      omega
  unfold nxT
  have e : NB (t :: r) x = j := by
    show nbT t x + NB r x = j
    omega
  rw [e, At_lo hc]
theorem nx_tail {t : Trn} {r : List Trn} (hs : Srt (t :: r)) {x c : Int} (hc : t.2.2 = some c) (hj : nbT t x = c) : nxT (t :: r) x = nxT r x := by
  have nn := NB_nn hs.tail.1 x
  unfold nxT
  have e : NB (t :: r) x = c + NB r x := by
    show nbT t x + NB r x = c + NB r x
    rw [hj]
  rw [e, At_some_t hc, if_neg (by omega)]
  congr 1
  omega
theorem nx_ge {ts : List Trn} (h : Srt ts) {x y : Int} (e : nxT ts x = some y) : x ≤ y := by
  have n0 := NB_nn h.1 x
  have := At_lt h n0 e x
  omega
/-- each time but the first is the next one behind the one before and the wait -/
structure Pass (wt o : Int) (ts g : List Trn) : Prop where
  srt : Srt g
  lo : ∀ u ∈ g, o + wt ≤ u.1
  first : At g 0 = nxT ts (o + wt)
  next : ∀ i y, 0 ≤ i → At g i = some y → At g (i + 1) = nxT ts (y + wt)
theorem Pass.ge {wt o : Int} {ts g : List Trn} (h : Pass wt o ts g) {i y : Int} (i0 : 0 ≤ i) (e : At g i = some y) : o + wt ≤ y := by
  have z : NB g (o + wt) = 0 := NB_zero h.srt.1 h.lo
  have := At_lt h.srt i0 e (o + wt)
  omega
theorem At_mono {ts : List Trn} (h : ∀ t ∈ ts, OkTr t) {i j : Int} (i0 : 0 ≤ i) (hij : i ≤ j) (e : At ts i = none) : At ts j = none := by
  obtain ⟨n, h1, h2⟩ := (At_none h i0).mp e
  exact (At_none h (by omega)).mpr ⟨n, h1, by omega⟩
theorem thn_pass {wt : Int} (w0 : 1 ≤ wt) : ∀ {ts : List Trn}, Srt ts → ∀ o : Int, Pass wt o ts (thnG wt o ts)
  | [], _, o => ⟨⟨fun t ht => (by cases ht), List.Pairwise.nil⟩, fun u hu => (by cases hu), rfl, fun i y _ e => (by cases e)⟩
  | t :: r, hs, o => by
    have ok := hs.head
    have hp := ok.2.1
    have n0 := nbT_nn ok (o + wt)
    obtain ⟨e1, c1⟩ := stepsUp_pos (d := wt) (s := t.2.1) (by omega) (by omega)
    have wle : wt ≤ cl wt t.2.1 * t.2.1 := (cl_le (by omega)).mp (Int.le_refl _)
    -- times of t behind its end
    cases hk : t.2.2 with
    | none =>
      have r0 : r = [] := by
        cases r with
        | nil => rfl
        | cons v r =>
          obtain ⟨c, z, _⟩ := hs.lt v (List.mem_cons_self ..)
          rw [hk] at z; cases z
      subst r0
      have eg : thnG wt o [t] = [(t.1 + nbT t (o + wt) * t.2.1, cl wt t.2.1 * t.2.1, none)] := by
        show thrL t wt (o + wt) ++ [] = _
        rw [List.append_nil]
        unfold thrL
        rw [hk, e1]
      rw [eg]
      have sp : 1 ≤ cl wt t.2.1 * t.2.1 := by omega
      have m0 : 0 ≤ nbT t (o + wt) * t.2.1 := Int.mul_nonneg n0 (by omega)
      have fst : At [(t.1 + nbT t (o + wt) * t.2.1, cl wt t.2.1 * t.2.1, none)] 0 = nxT [t] (o + wt) := by
        rw [At_none_t rfl, nx_head_in hs rfl (fun c z => by rw [hk] at z; cases z)]
        show some (t.1 + nbT t (o + wt) * t.2.1 + 0 * _) = _
        rw [Int.zero_mul, Int.add_zero]
      have lo := nx_ge hs (fst.symm.trans (At_none_t rfl 0))
      refine ⟨⟨fun u hu => ?_, List.pairwise_singleton _ _⟩, fun u hu => ?_, fst, fun i y i0 e => ?_⟩
      · rw [List.mem_singleton.mp hu]
        exact ⟨by have := ok.1; show 0 ≤ t.1 + _; omega, sp, fun c z => by cases z⟩
      · rw [List.mem_singleton.mp hu]
        have lo : o + wt ≤ t.1 + nbT t (o + wt) * t.2.1 + 0 * (cl wt t.2.1 * t.2.1) := lo
        rw [Int.zero_mul, Int.add_zero] at lo
        exact lo
      · rw [At_none_t rfl] at e
        have e := Option.some.inj e
        have ey : y = t.1 + (nbT t (o + wt) + i * cl wt t.2.1) * t.2.1 := by
          rw [← e]
          show t.1 + nbT t (o + wt) * t.2.1 + i * (cl wt t.2.1 * t.2.1) = _
          rw [Int.add_mul, Int.mul_assoc]
          omega
        have nn : 0 ≤ nbT t (o + wt) + i * cl wt t.2.1 := by
          have : 0 ≤ i * cl wt t.2.1 := Int.mul_nonneg i0 (by omega)
          omega
        have q := nbT_next ok nn w0
        rw [← ey, hk] at q
        have q : nbT t (y + wt) = nbT t (o + wt) + i * cl wt t.2.1 + cl wt t.2.1 := q
        rw [nx_head_in hs q (fun c z => by rw [hk] at z; cases z), At_none_t rfl]
        show some (t.1 + nbT t (o + wt) * t.2.1 + (i + 1) * (cl wt t.2.1 * t.2.1)) = _
        congr 1
        rw [Int.add_mul, Int.add_mul, Int.add_mul, Int.mul_assoc, Int.one_mul]
        omega
    | some c =>
      have nle := nbT_le (x := o + wt) hk
      have cc := ok.2.2 c hk
      by_cases q : nbT t (o + wt) = c
      · have eg : thnG wt o (t :: r) = thnG wt o r := by
          have e3 : thrL t wt (o + wt) = [] := by
            unfold thrL
            rw [hk]
            exact if_pos q
          show thrL t wt (o + wt) ++ thnG wt (match thrL t wt (o + wt) with | [] => o | u :: _ => lastO o u) r = _
          rw [e3]
          rfl
        rw [eg]
        have ih := thn_pass w0 hs.tail o
        refine ⟨ih.srt, ih.lo, by rw [ih.first, nx_tail hs hk q], fun i y i0 e => ?_⟩
        have ge := ih.ge i0 e
        have : nbT t (y + wt) = c := by
          have h1 := (nbT_lt ok (x := o + wt) (i := c - 1) (by omega) (fun d hd => by rw [hk] at hd; cases hd; omega)).mp (by omega)
          exact nbT_all ok hk (by omega)
        rw [ih.next i y i0 e, nx_tail hs hk this]
      · have lt : nbT t (o + wt) < c := by omega
        have clp : 0 < cl wt t.2.1 := by omega
        obtain ⟨e4, d1⟩ := stepsUp_pos (d := c - nbT t (o + wt)) (s := cl wt t.2.1) (by omega) clp
        obtain ⟨k0, hk0⟩ : ∃ k0, k0 = nbT t (o + wt) := ⟨_, rfl⟩
        obtain ⟨st, hst⟩ : ∃ st, st = cl wt t.2.1 := ⟨_, rfl⟩
        obtain ⟨d, hd⟩ : ∃ d, d = cl (c - k0) st := ⟨_, rfl⟩
        rw [← hk0, ← hst, ← hd] at d1
        have dlo : (d - 1) * st < c - k0 := (cl_gt (by omega)).mp (by rw [← hd]; omega)
        have dhi : c - k0 ≤ d * st := (cl_le (by omega)).mp (by rw [← hd]; exact Int.le_refl _)
        obtain ⟨u, hu⟩ : ∃ u : Trn, u = (t.1 + k0 * t.2.1, st * t.2.1, some d) := ⟨_, rfl⟩
        have eg : thnG wt o (t :: r) = u :: thnG wt (u.1 + (d - 1) * u.2.1) r := by
          have e3 : thrL t wt (o + wt) = [u] := by
            unfold thrL
            rw [hk]
            show (if nbT t (o + wt) = c then [] else _) = _
            rw [if_neg q, e1, e4, ← hk0, ← hst, ← hd, hu]
          show thrL t wt (o + wt) ++ thnG wt (match thrL t wt (o + wt) with | [] => o | u :: _ => lastO o u) r = _
          rw [e3, hu]
          rfl
        rw [eg]
        have ih := thn_pass w0 hs.tail (u.1 + (d - 1) * u.2.1)
        have uk : u.2.2 = some d := by rw [hu]
        have k00 : 0 ≤ k0 := by rw [hk0]; exact n0
        have m0 : 0 ≤ k0 * t.2.1 := Int.mul_nonneg k00 (by omega)
        have okU : OkTr u := by
          rw [hu]
          refine ⟨by have := ok.1; show 0 ≤ t.1 + _; omega, by show 1 ≤ st * t.2.1; rw [hst]; omega, fun z hz => by cases hz; exact d1⟩
        have uy : ∀ j : Int, u.1 + j * u.2.1 = t.1 + (k0 + j * st) * t.2.1 := fun j => by
          rw [hu]
          show t.1 + k0 * t.2.1 + j * (st * t.2.1) = _
          rw [Int.add_mul, Int.mul_assoc]
          omega
        have fst : At (u :: thnG wt (u.1 + (d - 1) * u.2.1) r) 0 = nxT (t :: r) (o + wt) := by
          rw [At_head okU, nx_head_in hs hk0.symm (fun c' hc' => by rw [hk] at hc'; cases hc'; omega), hu]
        have ulo : o + wt ≤ u.1 := by
          have := nx_ge hs (fst.symm.trans (At_head okU))
          exact this
        have tail_all : ∀ z, t.1 + (c - 1) * t.2.1 < z → nbT t z = c := fun z hz => nbT_all ok hk hz
        have lastlt : ∀ v ∈ r, t.1 + (c - 1) * t.2.1 < v.1 := fun v hv => by
          obtain ⟨c', hc', l⟩ := hs.lt v hv
          rw [hk] at hc'
          cases hc'
          exact l
        -- behind the last time of u no time of t comes
        have uend : nbT t (u.1 + (d - 1) * u.2.1 + wt) = c := by
          rw [uy]
          have nn : 0 ≤ k0 + (d - 1) * st := by
            have : 0 ≤ (d - 1) * st := Int.mul_nonneg (by omega) (by omega)
            omega
          rw [nbT_next ok nn w0, hk, ← hst]
          show (if c < k0 + (d - 1) * st + st then c else k0 + (d - 1) * st + st) = c
          have : (d - 1) * st + st = d * st := by rw [Int.sub_mul, Int.one_mul]; omega
          split <;> omega
        refine ⟨⟨fun v hv => ?_, List.pairwise_cons.mpr ⟨fun v hv => ?_, ih.srt.2⟩⟩, fun v hv => ?_, fst, fun i y i0 e => ?_⟩
        · rcases List.mem_cons.mp hv with rfl | hv
          · exact okU
          · exact ih.srt.1 v hv
        · exact ⟨d, uk, by have := ih.lo v hv; omega⟩
        · rcases List.mem_cons.mp hv with rfl | hv
          · exact ulo
          · have := ih.lo v hv
            have : 0 ≤ (d - 1) * u.2.1 := Int.mul_nonneg (by omega) (by have := okU.2.1; omega)
            omega
        · rw [At_some_t uk] at e
          by_cases hi : i < d
          · rw [if_pos hi] at e
            have ey := Option.some.inj e
            have nn : 0 ≤ k0 + i * st := by
              have : 0 ≤ i * st := Int.mul_nonneg i0 (by omega)
              omega
            have hq := nbT_next ok nn w0
            rw [← uy, ey, hk, ← hst] at hq
            have hq : nbT t (y + wt) = if c < k0 + i * st + st then c else k0 + i * st + st := hq
            by_cases hi2 : i + 1 < d
            · have lt2 : k0 + i * st + st < c := by
                have : (i + 1) * st ≤ (d - 1) * st := Int.mul_le_mul_of_nonneg_right (by omega) (by omega)
                rw [Int.add_mul, Int.one_mul] at this
                omega
              rw [if_neg (by omega)] at hq
              rw [nx_head_in hs hq (fun c' hc' => by rw [hk] at hc'; cases hc'; exact lt2), At_some_t uk, if_pos hi2, uy]
              congr 3
              rw [Int.add_mul, Int.one_mul]
              omega
            · have ei : i = d - 1 := by omega
              subst ei
              have hq2 : nbT t (y + wt) = c := by rw [← ey]; exact uend
              rw [nx_tail hs hk hq2, At_some_t uk, if_neg (by omega), ← ey]
              have := ih.first
              rw [← this]
              congr 1
              omega
          · rw [if_neg hi] at e
            have ge := ih.ge (by omega) e
            have hq : nbT t (y + wt) = c := by
              have h1 : t.1 + (c - 1) * t.2.1 < u.1 + (d - 1) * u.2.1 + wt := (nbT_lt ok (by omega) (fun d' hd' => by rw [hk] at hd'; cases hd'; omega)).mp (by rw [uend]; omega)
              exact tail_all _ (by omega)
            have nx := ih.next (i - d) y (by omega) e
            rw [nx_tail hs hk hq, At_some_t uk, if_neg (by omega), ← nx]
            congr 1
            omega

/-! ### thinned in the program -/
structure ThrOk (N n : Nat) (t u : Trn) : Prop where
  ok : OkTr u
  bt : BT N u
  hi : ∀ d, u.2.2 = some d → u.1 + (d - 1) * u.2.1 ≤ PB n ∧ 0 ≤ u.1 + (d - 1) * u.2.1
  en : u.2.2 = none → t.2.2 = none
theorem nbT_le_pb {t : Trn} (h : OkTr t) {z : Int} {n : Nat} (hz : z ≤ PB n) : nbT t z ≤ PB n := by
  have s0 := h.1
  have p1 := h.2.1
  have h1 := steps_le' (d := z - t.1) (p := t.2.1) (by omega)
  have h3 : nbT t z ≤ stepsUp (z - t.1) t.2.1 := by
    unfold nbT
    cases t.2.2 with
    | none => exact Int.le_refl _
    | some c => show (if c < stepsUp (z - t.1) t.2.1 then c else stepsUp (z - t.1) t.2.1) ≤ _; split <;> omega
  have := PB_pos n
  split at h1 <;> omega
theorem stride_lt {wt p : Int} (w0 : 1 ≤ wt) (hp : 0 < p) : stepsUp wt p * p < wt + p ∧ 1 ≤ stepsUp wt p ∧ stepsUp wt p ≤ wt := by
  obtain ⟨e1, c1⟩ := stepsUp_pos (d := wt) (s := p) (by omega) hp
  have h := (cl_gt (d := wt) (s := p) (n := cl wt p - 1) hp).mp (by omega)
  have h2 := steps_le' (d := wt) hp
  rw [if_pos (by omega)] at h2
  rw [Int.sub_mul, Int.one_mul] at h
  exact ⟨by rw [e1]; omega, by rw [e1]; exact c1, h2⟩
theorem thr_ok {t : Trn} (h : OkTr t) {n m : Nat} (b : BT n t) {wt z : Int} (w0 : 1 ≤ wt) (wm : wt ≤ PB m) (zm : z ≤ PB (max n m + 1)) : (∀ u ∈ thrL t wt z, ThrOk (max n m + 2) n t u) ∧ (thrL t wt z).length ≤ 1 := by
  have n0 := nbT_nn h z
  have p1 := h.2.1
  have s0 := h.1
  have bs := b.s
  have bp := b.p
  have q1 : PB n ≤ PB (max n m) := PB_le (by omega)
  have q2 : PB m ≤ PB (max n m) := PB_le (by omega)
  have q3 := PB_succ (max n m)
  have q5 : PB (max n m + 2) = PB (max n m + 1) + PB (max n m + 1) := PB_succ (max n m + 1)
  have q4 := PB_pos (max n m)
  have m0 : 0 ≤ nbT t z * t.2.1 := Int.mul_nonneg n0 (by omega)
  obtain ⟨st1, st2, st3⟩ := stride_lt (p := t.2.1) w0 (by omega)
  have st4 : 1 ≤ stepsUp wt t.2.1 * t.2.1 := by
    have : 1 * 1 ≤ stepsUp wt t.2.1 * t.2.1 := Int.mul_le_mul st2 p1 (by decide) (by omega)
    omega
  have st : t.1 + nbT t z * t.2.1 ≤ PB (max n m + 2) := by
    by_cases y : nbT t z = 0
    · rw [y, Int.zero_mul]; omega
    · have := part_start h (x := z) rfl (by omega)
      rw [Int.sub_mul, Int.one_mul] at this
      omega
  unfold thrL
  cases hk : t.2.2 with
  | none =>
    refine ⟨fun u hu => ?_, by show 1 ≤ 1; decide⟩
    rw [List.mem_singleton.mp hu]
    exact ⟨⟨by show 0 ≤ t.1 + _; omega, st4, fun c hc => by cases hc⟩, ⟨st, by show stepsUp wt t.2.1 * t.2.1 ≤ _; omega, fun c hc => by cases hc⟩, fun d hd => (by cases hd), fun _ => hk⟩
  | some c =>
    refine ⟨fun u hu => ?_, by show (if nbT t z = c then [] else [_] : List Trn).length ≤ 1; split <;> simp⟩
    have hu : u ∈ (if nbT t z = c then [] else [(t.1 + nbT t z * t.2.1, stepsUp wt t.2.1 * t.2.1, some (stepsUp (c - nbT t z) (stepsUp wt t.2.1)))] : List Trn) := hu
    have hle := nbT_le (x := z) hk
    by_cases y : nbT t z = c
    · rw [if_pos y] at hu; simp at hu
    · rw [if_neg y] at hu
      rw [List.mem_singleton.mp hu]
      obtain ⟨e4, d1⟩ := stepsUp_pos (d := c - nbT t z) (s := stepsUp wt t.2.1) (by omega) (by omega)
      have dlo : (cl (c - nbT t z) (stepsUp wt t.2.1) - 1) * stepsUp wt t.2.1 < c - nbT t z := (cl_gt (by omega)).mp (by omega)
      have hc1 := b.c c hk
      have key : ∀ d, stepsUp (c - nbT t z) (stepsUp wt t.2.1) = d → t.1 + nbT t z * t.2.1 + (d - 1) * (stepsUp wt t.2.1 * t.2.1) ≤ PB n ∧ 0 ≤ t.1 + nbT t z * t.2.1 + (d - 1) * (stepsUp wt t.2.1 * t.2.1) := fun d hd => by
        rw [e4] at hd
        rw [hd] at dlo d1
        have e : (d - 1) * (stepsUp wt t.2.1 * t.2.1) = ((d - 1) * stepsUp wt t.2.1) * t.2.1 := by rw [Int.mul_assoc]
        have nn : 0 ≤ (d - 1) * stepsUp wt t.2.1 := Int.mul_nonneg (by omega) (by omega)
        have l1 : (nbT t z + (d - 1) * stepsUp wt t.2.1) * t.2.1 ≤ (c - 1) * t.2.1 := Int.mul_le_mul_of_nonneg_right (by omega) (by omega)
        have l2 : 0 ≤ ((d - 1) * stepsUp wt t.2.1) * t.2.1 := Int.mul_nonneg nn (by omega)
        rw [Int.add_mul] at l1
        rw [e]
        omega
      refine ⟨⟨by show 0 ≤ t.1 + _; omega, st4, fun d hd => ?_⟩, ⟨st, by show stepsUp wt t.2.1 * t.2.1 ≤ _; omega, fun d hd => ?_⟩, fun d hd => key d (Option.some.inj hd), fun q => by cases q⟩
      · have e : stepsUp (c - nbT t z) (stepsUp wt t.2.1) = d := Option.some.inj hd
        omega
      · have := (key d (Option.some.inj hd)).1
        show t.1 + nbT t z * t.2.1 + (d - 1) * (stepsUp wt t.2.1 * t.2.1) ≤ _
        omega
def thnO (wt : Int) : Int → List Trn → Int
  | o, [] => o
  | o, t :: r => thnO wt (match thrL t wt (o + wt) with | [] => o | u :: _ => lastO o u) r
theorem thnG_app (wt : Int) : ∀ (a b : List Trn) (o : Int), thnG wt o (a ++ b) = thnG wt o a ++ thnG wt (thnO wt o a) b
  | [], b, o => rfl
  | t :: a, b, o => by
    show thrL t wt (o + wt) ++ thnG wt _ (a ++ b) = thrL t wt (o + wt) ++ thnG wt _ a ++ thnG wt (thnO wt _ a) b
    rw [thnG_app wt a b, List.append_assoc]
    all_goals rfl
theorem thnO_app (wt : Int) : ∀ (a b : List Trn) (o : Int), thnO wt o (a ++ b) = thnO wt (thnO wt o a) b
  | [], b, o => rfl
  | t :: a, b, o => by
    show thnO wt _ (a ++ b) = thnO wt (thnO wt _ a) b
    exact thnO_app wt a b _
theorem thn_bd {n m : Nat} {wt : Int} (w0 : 1 ≤ wt) (wm : wt ≤ PB m) : ∀ {ts : List Trn}, (∀ t ∈ ts, OkTr t) → (∀ t ∈ ts, BT n t) → ∀ {o : Int}, 0 ≤ o → o ≤ PB (max n m) →
    (∀ u ∈ thnG wt o ts, BT (max n m + 2) u) ∧ (thnG wt o ts).length ≤ ts.length ∧ 0 ≤ thnO wt o ts ∧ thnO wt o ts ≤ PB (max n m)
  | [], _, _, o, o0, o1 => ⟨fun u hu => (by cases hu), Nat.le_refl _, o0, o1⟩
  | t :: ts, h, hb, o, o0, o1 => by
    have q1 : PB n ≤ PB (max n m) := PB_le (by omega)
    have q2 : PB m ≤ PB (max n m) := PB_le (by omega)
    have q3 := PB_succ (max n m)
    obtain ⟨k1, k2⟩ := thr_ok (h t (List.mem_cons_self ..)) (hb t (List.mem_cons_self ..)) w0 wm (z := o + wt) (by omega)
    obtain ⟨o', ho'⟩ : ∃ o', o' = (match thrL t wt (o + wt) with | [] => o | u :: _ => lastO o u) := ⟨_, rfl⟩
    have ob : 0 ≤ o' ∧ o' ≤ PB (max n m) := by
      rw [ho']
      cases e : thrL t wt (o + wt) with
      | nil => exact ⟨o0, o1⟩
      | cons u l =>
        show 0 ≤ lastO o u ∧ lastO o u ≤ _
        have ku := k1 u (by rw [e]; exact List.mem_cons_self ..)
        unfold lastO
        cases hu : u.2.2 with
        | none => exact ⟨o0, o1⟩
        | some d =>
          have := ku.hi d hu
          exact ⟨this.2, by show u.1 + (d - 1) * u.2.1 ≤ _; omega⟩
    obtain ⟨i1, i2, i3, i4⟩ := thn_bd w0 wm (fun u hu => h u (List.mem_cons_of_mem _ hu)) (fun u hu => hb u (List.mem_cons_of_mem _ hu)) ob.1 ob.2
    have eg : thnG wt o (t :: ts) = thrL t wt (o + wt) ++ thnG wt o' ts := by rw [ho']; rfl
    have eo : thnO wt o (t :: ts) = thnO wt o' ts := by rw [ho']; rfl
    rw [eg, eo]
    refine ⟨fun u hu => ?_, by rw [List.length_append]; show _ ≤ ts.length + 1; omega, i3, i4⟩
    rcases List.mem_append.mp hu with hu | hu
    · exact (k1 u hu).bt
    · exact i1 u hu
def spTr : Sp := fun vs H Q _ => ∃ (x : V) (t : Trn) (wt z : Int), vs = [x, .int wt, .int z] ∧ TrAt H x t ∧ OkTr t ∧ BT 5000 t ∧ 1 ≤ wt ∧ wt ≤ PB 4900 ∧ z ≤ PB 4900 ∧ ∀ l zs H', H' l = some (.lst zs) → Trs H' zs (thrL t wt z) → Same H H' → H l = none → Q (.ref l) H'
def spTs : Sp := fun vs H Q _ => ∃ a xs ts n m wt tm, vs = [.ref a, .int wt, .int tm] ∧ H a = some (.lst xs) ∧ Trs H xs ts ∧ Srt ts ∧ (∀ t ∈ ts, BT n t) ∧ ts.length ≤ 5000 ∧ n ≤ 5000 ∧ 1 ≤ wt ∧ 0 ≤ tm ∧ wt ≤ PB m ∧ tm ≤ PB m ∧ max n m + 3 ≤ 4900 ∧ ∀ l zs H', H' l = some (.lst zs) → Trs H' zs (thnG wt tm ts) → (∀ u ∈ thnG wt tm ts, BT (max n m + 2) u) → (thnG wt tm ts).length ≤ ts.length → Same H H' → H l = none → Q (.ref l) H'
section
variable {P : Program} {w : World} {K : PySem.W.Frag} {mg : Str → Option Value} {base : Heap} {L : LA}
abbrev N_thinnedrun : List Str := ["train", "wait", "time", "start", "step", "count", "skipped", "stride"]
theorem sc_thinnedrun : FnScope N_thinnedrun ["train", "wait", "time"] (defScope st_thinned_run) := ⟨rfl, rfl, rfl, by decide +kernel, rfl, by decide +kernel, by decide +kernel⟩
theorem fn_thinnedrun (T : LX K mg L) {fd : FuncData} (F : Fun K "thinned_run" "thinned_run" st_thinned_run L.f_thinned_run fd) : FnOk P w K mg base CX0 3 L.f_thinned_run fd ["train", "wait", "time"] (spTr) := by
  have G_timesbefore := ok_timesbefore (P := P) (w := w) (base := base) T
  have G_stepsto := ok_stepsto (P := P) (w := w) (base := base) T
  have nd := sc_thinnedrun.nd
  refine F.ok sc_thinnedrun (fun vs H Q E h => ?_) (fun cdv A outer S H vs Q E hr h => ?_)
  · obtain ⟨x, t, wt, z, rfl, _⟩ := h
    rfl
  · obtain ⟨x, t, wt, z, rfl, ⟨b, rfl, hb⟩, ok, bt, w0, wm, zm, k⟩ := h
    refine ⟨_, (pss_cons (ps_asg (pv 0) (pg_tup rfl (pgs_cons (pg_name (i := 3) nd rfl (Or.inl rfl)) (pgs_cons (pg_name (i := 4) nd rfl (Or.inl rfl)) (pgs_cons (pg_name (i := 5) nd rfl (Or.inl rfl)) pgs_nil)))))
       (pss_cons (ps_set (i := 6) nd rfl (Or.inl rfl) (pe_c G_timesbefore (hr.mono (by decide)) rfl (pa_cons (pv 0) (pa_cons (pv 2) pa_nil))))
       (pss_cons (ps_set (i := 7) nd rfl (Or.inl rfl) (pe_c G_stepsto (hr.mono (by decide)) rfl (pa_cons (pv 1) (pa_cons (pv 4) pa_nil))))
       (pss_cons (ps_if (pt_cmp (pc_isN (pv 5))) (pss_one (ps_ret (pe_lst (pa_cons (pe_tup (pa_cons (pe_op op_add (pv 3) (pe_op op_mulW (pv 6) (pv 4))) (pa_cons (pe_op op_mulW (pv 7) (pv 4)) (pa_cons pe_non pa_nil)))) pa_nil)))) pss_nil)
       (pss_cons (ps_if (pt_cmpR op_eq (pv 6) (pv 5) (nomark _)) (pss_one (ps_ret (pe_lst pa_nil))) pss_nil)
       (pss_one (ps_ret (pe_lst (pa_cons (pe_tup (pa_cons (pe_op op_add (pv 3) (pe_op op_mulW (pv 6) (pv 4))) (pa_cons (pe_op op_mulW (pv 7) (pv 4)) (pa_cons (pe_c G_stepsto (hr.mono (by decide)) rfl (pa_cons (pe_op op_sub (pv 5) (pv 6)) (pa_cons (pv 7) pa_nil))) pa_nil)))) pa_nil))))))))), ?_⟩
    have p1 := ok.2.1
    have s0 := ok.1
    have n0 := nbT_nn ok z
    have n1 : nbT t z ≤ BB := Int.le_trans (nbT_le_pb ok zm) (PB_le (by decide))
    have p2 : t.2.1 ≤ BB := bt.p
    have b1 := BB1
    obtain ⟨st1, st2, st3⟩ := stride_lt (p := t.2.1) w0 (by omega)
    have w1 : wt ≤ BB := Int.le_trans wm (PB_le (by decide))
    have cm1 : CMulW (nbT t z) t.2.1 := mulBB n0 (by omega) (by omega) (by omega)
    have cm2 : CMulW (stepsUp wt t.2.1) t.2.1 := mulBB (by omega) (by omega) (by omega) (by omega)
    refine ⟨_, rfl, b, _, rfl, SqT.of hb, rfl, _, _, rfl, _, _, rfl, _, _, rfl, rfl, ?_⟩
    refine ⟨_, rfl, _, rfl, _, t, z, rfl, ⟨b, rfl, hb⟩, ok, bt, ?_⟩
    refine ⟨_, rfl, _, rfl, _, _, rfl, by omega, divBB p1 p2, ?_⟩
    unfold thrL at k
    cases hk : t.2.2 with
    | none =>
      rw [hk] at k
      refine ⟨_, rfl, _, rfl, iteT ⟨_, rfl, _, rfl, _, rfl, _, _, rfl, rfl, cm1, _, _, rfl, rfl, _, rfl, _, rfl, _, _, rfl, rfl, cm2, (by show 3 ≤ sizeLine; decide), fun e he => ⟨(by show 1 ≤ sizeLine; decide), fun l hl => ?_⟩⟩⟩
      exact k l _ _ upd_same (Trs.one ⟨e, rfl, (Same.upd hl) _ _ upd_same⟩) ((Same.upd he).trans (Same.upd hl)) (none_of (Same.upd he) hl)
    | some c =>
      rw [hk] at k
      have k : ∀ l zs H', H' l = some (.lst zs) → Trs H' zs (if nbT t z = c then [] else [(t.1 + nbT t z * t.2.1, stepsUp wt t.2.1 * t.2.1, some (stepsUp (c - nbT t z) (stepsUp wt t.2.1)))]) → Same H H' → H l = none → Q (.ref l) H' := k
      refine ⟨_, rfl, _, rfl, iteF ⟨_, rfl, _, rfl, rfl, _, rfl, ?_⟩⟩
      refine ite2 (fun q => ?_) (fun q => ?_)
      · have q' : nbT t z = c := V.int.inj (of_decide_eq_true q)
        rw [if_pos q'] at k
        exact ⟨(by show 0 ≤ sizeLine; decide), fun l hl => k l _ _ upd_same .nil (Same.upd hl) hl⟩
      · have q' : ¬ nbT t z = c := fun e => q (decide_eq_true (by rw [e]; rfl))
        rw [if_neg q'] at k
        refine ⟨_, rfl, _, rfl, _, rfl, _, _, rfl, rfl, cm1, _, _, rfl, rfl, _, rfl, _, rfl, _, _, rfl, rfl, cm2, _, rfl, _, rfl, _, _, rfl, rfl, _, rfl, _, _, rfl, by omega, divBB st2 (by omega), (by show 3 ≤ sizeLine; decide), fun e he => ⟨(by show 1 ≤ sizeLine; decide), fun l hl => ?_⟩⟩
        exact k l _ _ upd_same (Trs.one ⟨e, rfl, (Same.upd hl) _ _ upd_same⟩) ((Same.upd he).trans (Same.upd hl)) (none_of (Same.upd he) hl)
theorem ok_thinnedrun (T : LX K mg L) : Cal P w K mg base "thinned_run" 3 L.f_thinned_run ["train", "wait", "time"] (spTr) := T.d_thinned_run.cal fun fd F => fn_thinnedrun T F
abbrev N_thinnedruns : List Str := ["trains", "wait", "time", "passed", "opened", "train", "part"]
theorem sc_thinnedruns : FnScope N_thinnedruns ["trains", "wait", "time"] (defScope st_thinned_runs) := ⟨rfl, rfl, rfl, by decide +kernel, rfl, by decide +kernel, by decide +kernel⟩
theorem fn_thinnedruns (T : LX K mg L) {fd : FuncData} (F : Fun K "thinned_runs" "thinned_runs" st_thinned_runs L.f_thinned_runs fd) : FnOk P w K mg base CX0 4 L.f_thinned_runs fd ["trains", "wait", "time"] (spTs) := by
  have G_thinnedrun := ok_thinnedrun (P := P) (w := w) (base := base) T
  have G_lasttime := ok_lasttime (P := P) (w := w) (base := base) T
  have nd := sc_thinnedruns.nd
  refine F.ok sc_thinnedruns (fun vs H Q E h => ?_) (fun cdv A outer S H vs Q E hr h => ?_)
  · obtain ⟨RR, xs, ts, n, m, wt, tm, rfl, _⟩ := h
    rfl
  · obtain ⟨RR, xs, ts, n, m, wt, tm, rfl, h2, h3, hs, bt, hRl, n5, w0, t0, wm, tmm, nm, k⟩ := h
    refine ⟨_, (pss_cons (ps_set (i := 3) nd rfl (Or.inl rfl) (pe_lst pa_nil))
       (pss_cons (ps_set (i := 4) nd rfl (Or.inl rfl) (pv 2))
       (pss_cons (ps_for PassesOwn.never rfl (pi_list (pv 0)) (pg_name (i := 5) nd rfl (Or.inl rfl)) (pss_cons (ps_set (i := 6) nd rfl (Or.inl rfl) (pe_c G_thinnedrun (hr.mono (by decide)) rfl (pa_cons (pv 5) (pa_cons (pv 1) (pa_cons (pe_op op_add (pv 4) (pv 1)) pa_nil)))))
       (pss_cons (ps_expr (pe_bm PySem.F.plainAttrs_list PySem.F.slot_list_extend PySem.F.type_list_extend mt_extend (pv 3) (pa_cons (pv 6) pa_nil)))
       (pss_one (ps_if (pt_truth (pv 6) (fun _ => rfl)) (pss_one (ps_set (i := 4) nd rfl (Or.inl rfl) (pe_c G_lasttime (hr.mono (by decide)) rfl (pa_cons (pe_ix (r := rIxL K) ix_list (pv 6) pe_int (fun _ _ => rfl)) pa_nil)))) pss_nil)))))
       (pss_one (ps_ret (pv 3)))))), ?_⟩
    have hxl := h3.len
    have q2 : PB m ≤ PB (max n m) := PB_le (by omega)
    have q3 := PB_succ (max n m)
    have bd : ∀ i, (∀ u ∈ thnG wt tm (ts.take i), BT (max n m + 2) u) ∧ (thnG wt tm (ts.take i)).length ≤ (ts.take i).length ∧ 0 ≤ thnO wt tm (ts.take i) ∧ thnO wt tm (ts.take i) ≤ PB (max n m) := fun i =>
      thn_bd w0 wm (fun u hu => hs.1 u (List.mem_of_mem_take hu)) (fun u hu => bt u (List.mem_of_mem_take hu)) t0 (by omega)
    refine ⟨(by show 0 ≤ sizeLine; decide), fun l1 hl1 => ⟨_, rfl, ?_⟩⟩
    have s1 : Same H (upd H l1 (.lst [])) := Same.upd hl1
    refine ⟨_, rfl, RR, rfl, ⟨_, SqL.of (s1 _ _ h2)⟩, ?_⟩
    refine for_list (K := K) (a := RR) (xs := xs) (fun i σ H2 => ∃ v4 ws, ∃ v5 v6 : Option V, σ = [some (.ref RR), some (.int wt), some (.int tm), some (.ref l1), some v4, v5, v6] ∧ (v4 = .int (thnO wt tm (ts.take i)) ∨ i = ts.length) ∧ H2 l1 = some (.lst ws) ∧ Trs H2 ws (thnG wt tm (ts.take i)) ∧ Same H H2)
      ⟨.int tm, [], none, none, rfl, .inl rfl, upd_same, .nil, s1⟩ (fun i σ H2 _ ⟨_, _, _, _, _, _, _, _, s2⟩ => SqL.of (s2 _ _ h2)) ?_ ?_
    · rintro i x σ H2 hxi ⟨v4, ws, v5, v6, rfl, hv4, hl12, tw, s2⟩
      obtain ⟨t, ht, hxt⟩ := h3.get hxi
      have htm := List.mem_of_getElem? ht
      have hj := (List.getElem?_eq_some_iff.mp ht).1
      have e4 : v4 = .int (thnO wt tm (ts.take i)) := by
        rcases hv4 with e | e
        · exact e
        · omega
      subst e4
      obtain ⟨_, b2, b3, b4⟩ := bd i
      have ok := hs.1 t htm
      obtain ⟨k1, k2⟩ := thr_ok ok (bt t htm) w0 wm (z := thnO wt tm (ts.take i) + wt) (by omega)
      have wm2 : wt ≤ PB 4900 := Int.le_trans wm (PB_le (by omega))
      have zm : thnO wt tm (ts.take i) + wt ≤ PB 4900 := Int.le_trans (show _ ≤ PB (max n m + 1) by omega) (PB_le (by omega))
      refine ⟨_, rfl, _, rfl, _, rfl, _, rfl, _, _, rfl, rfl, x, t, _, _, rfl, hxt.same s2, ok, (bt t htm).le n5, w0, wm2, zm, fun l zs H3 hl tz s3 nl => ?_⟩
      have nll : l ≠ l1 := (ne_of_none hl12 nl).symm
      have hl13 := s3 _ _ hl12
      have wl := tw.len
      have zl := tz.len
      rw [List.length_take] at b2
      refine ⟨_, rfl, .inl ⟨rfl, _, SqL.of hl13⟩, _, rfl, l1, l, ws, zs, rfl, rfl, hl13, hl, small2 (by omega), ?_⟩
      have n4 := NL.upd (o := .lst (ws ++ zs)) hl13
      have hl4 : (upd H3 l1 (.lst (ws ++ zs))) l = some (.lst zs) := by rw [upd_ne nll]; exact hl
      have tz4 := tz.nl n4
      have tw4 := (tw.same s3).nl n4
      have s4 : Same H (upd H3 l1 (.lst (ws ++ zs))) := fun b o e => by
        rw [upd_ne (ne_of_none e hl1)]
        exact s3 _ _ (s2 _ _ e)
      have tnx : ts.take (i + 1) = ts.take i ++ [t] := by rw [List.take_add_one, ht]; rfl
      have eg : thnG wt tm (ts.take (i + 1)) = thnG wt tm (ts.take i) ++ thrL t wt (thnO wt tm (ts.take i) + wt) := by
        rw [tnx, thnG_app]
        show _ ++ (thrL t wt (thnO wt tm (ts.take i) + wt) ++ []) = _
        rw [List.append_nil]
      have eo : thnO wt tm (ts.take (i + 1)) = (match thrL t wt (thnO wt tm (ts.take i) + wt) with | [] => thnO wt tm (ts.take i) | u :: _ => lastO (thnO wt tm (ts.take i)) u) := by
        rw [tnx, thnO_app]
        rfl
      cases hth : thrL t wt (thnO wt tm (ts.take i) + wt) with
      | nil =>
        rw [hth] at eg eo tz4
        have z0 : zs = [] := by
          have := tz4.len
          simpa using this
        subst z0
        refine ⟨_, rfl, false, .inl ⟨[], SqL.of hl4, rfl⟩, iteF ?_⟩
        refine ⟨_, ws, _, _, rfl, .inl (by rw [eo]), ?_, ?_, s4⟩
        · rw [upd_same, List.append_nil]
        · rw [eg, List.append_nil (thnG wt tm (ts.take i))]
          exact tw4
      | cons u rest =>
        have r0 : rest = [] := by
          rw [hth] at k2
          cases rest with
          | nil => rfl
          | cons _ _ => simp at k2
        subst r0
        rw [hth] at eg eo tz4
        obtain ⟨y, z0, hy⟩ : ∃ y, zs = [y] ∧ TrAt (upd H3 l1 (.lst (ws ++ zs))) y u := by
          have tz5 := tz4
          cases zs with
          | nil => cases tz5
          | cons y tl =>
            cases tz5 with
            | cons r tl2 =>
              cases tl2
              exact ⟨y, rfl, r⟩
        subst z0
        have ku := k1 u (by rw [hth]; exact List.mem_cons_self ..)
        refine ⟨_, rfl, true, .inl ⟨[y], SqL.of hl4, rfl⟩, iteT ⟨_, rfl, l, _, 0, y, rfl, rfl, SqL.of hl4, rfl, y, u, rfl, hy, ku.ok, ku.bt.le (by omega), ?_⟩⟩
        refine ⟨_, _, _, _, rfl, ?_, upd_same, by rw [eg]; exact tw4.app tz4, s4⟩
        unfold lastV
        cases hu : u.2.2 with
        | none =>
          right
          have := srt_last hs htm (ku.en hu)
          rw [List.getLast?_eq_getElem?] at this
          have h1 := hs.2
          by_cases q : i + 1 = ts.length
          · exact q
          · have hn : i + 1 < ts.length := by omega
            have hu1 : ts[i]'(by omega) = t := (List.getElem?_eq_some_iff.mp ht).2
            obtain ⟨c, hc, _⟩ := (List.pairwise_iff_getElem.mp h1) i (i + 1) (by omega) hn (by omega)
            rw [hu1, ku.en hu] at hc
            cases hc
        | some d =>
          left
          rw [eo]
          show V.int (u.1 + (d - 1) * u.2.1) = .int (lastO (thnO wt tm (ts.take i)) u)
          unfold lastO
          rw [hu]
    · rintro σ H2 ⟨v4, ws, v5, v6, rfl, hv4, hl12, tw, s2⟩
      rw [hxl, List.take_length] at tw
      have b := bd ts.length
      rw [List.take_length] at b
      exact ⟨_, rfl, k l1 ws H2 hl12 tw b.1 b.2.1 s2 hl1⟩
theorem ok_thinnedruns (T : LX K mg L) : Cal P w K mg base "thinned_runs" 4 L.f_thinned_runs ["trains", "wait", "time"] (spTs) := T.d_thinned_runs.cal fun fd F => fn_thinnedruns T F
end
/-! ### rows in the heap -/
/-! ### breakers and rows -/
abbrev Tri := Int × Int × Int
def TriV (t : Tri) : List V := [.int t.1, .int t.2.1, .int t.2.2]
def BrAt (H : Hp) (x : V) (t : Tri) : Prop := ∃ a, x = .ref a ∧ H a = some (.tup (TriV t))
def OkT (t : Tri) : Prop := 1 ≤ t.1 ∧ t.1 ≤ 1000000000000 ∧ 1 ≤ t.2.1 ∧ t.2.1 ≤ 1000000000000000000000000000000 ∧ 1 ≤ t.2.2 ∧ t.2.2 ≤ 1000000000000
abbrev Brs (H : Hp) (xs : List V) (ts : List Tri) : Prop := Paired (BrAt H) xs ts
theorem BrAt.nl {H H' : Hp} (k : NL H H') {x : V} {t : Tri} (h : BrAt H x t) : BrAt H' x t := by
  obtain ⟨a, e, h⟩ := h
  exact ⟨a, e, k _ _ h fun _ z => nomatch z⟩
theorem Brs.nl {H H' : Hp} (k : NL H H') {xs : List V} {ts : List Tri} (h : Brs H xs ts) : Brs H' xs ts := L2.Paired.mapP h fun _ _ z => z.nl k
theorem Brs.len {H : Hp} : ∀ {xs : List V} {ts : List Tri}, Brs H xs ts → xs.length = ts.length
  | _, _, .nil => rfl
  | _, _, .cons _ t => congrArg Nat.succ (Brs.len t)
theorem Brs.get {H : Hp} : ∀ {xs : List V} {ts : List Tri} {i : Nat} {x : V}, Brs H xs ts → xs[i]? = some x → ∃ t, ts[i]? = some t ∧ BrAt H x t
  | _, _, _, _, .nil, e => by simp at e
  | _, _, 0, _, .cons r _, e => by simp at e; subst e; exact ⟨_, rfl, r⟩
  | _, _, i + 1, x, .cons _ t, e => by
    obtain ⟨u, h1, h2⟩ := Brs.get (i := i) (x := x) t (by simpa using e)
    exact ⟨u, by simpa using h1, h2⟩
theorem Brs.app {H : Hp} : ∀ {xs ys : List V} {ts us : List Tri}, Brs H xs ts → Brs H ys us → Brs H (xs ++ ys) (ts ++ us)
  | _, _, _, _, .nil, s => s
  | _, _, _, _, .cons r t, s => .cons r (Brs.app t s)
theorem Brs.rev {H : Hp} : ∀ {xs : List V} {ts : List Tri}, Brs H xs ts → Brs H xs.reverse ts.reverse
  | _, _, .nil => .nil
  | _, _, .cons r t => by
    rw [List.reverse_cons, List.reverse_cons]
    exact Brs.app (Brs.rev t) (.cons r .nil)
theorem Brs.take {H : Hp} : ∀ {xs : List V} {ts : List Tri} (n : Nat), Brs H xs ts → Brs H (xs.take n) (ts.take n)
  | _, _, 0, _ => .nil
  | _, _, _ + 1, .nil => .nil
  | _, _, n + 1, .cons r t => .cons r (Brs.take n t)
theorem Brs.drop {H : Hp} : ∀ {xs : List V} {ts : List Tri} (n : Nat), Brs H xs ts → Brs H (xs.drop n) (ts.drop n)
  | _, _, 0, r => r
  | _, _, _ + 1, .nil => .nil
  | _, _, n + 1, .cons _ t => Brs.drop n t
/-! the attributes of a row, as __init__ stores them -/
theorem k1 : ¬ (("breakers" : Str) = "step") := by decide +kernel
theorem k2 : ¬ (("breakers" : Str) = "phase") := by decide +kernel
theorem k3 : ¬ (("step" : Str) = "phase") := by decide +kernel
def rowF (T : Addr) (st ph : Int) : List (Str × V) := putF "phase" (.int ph) (putF "step" (.int st) (putF "breakers" (.ref T) []))
theorem rowF_b (T : Addr) (st ph : Int) : (rowF T st ph).lookup ("breakers" : Str) = some (.ref T) := by
  unfold rowF
  rw [lookup_putF, if_neg k2, lookup_putF, if_neg k1, lookup_putF, if_pos rfl]
theorem rowF_s (T : Addr) (st ph : Int) : (rowF T st ph).lookup ("step" : Str) = some (.int st) := by
  unfold rowF
  rw [lookup_putF, if_neg k3, lookup_putF, if_pos rfl]
theorem rowF_p (T : Addr) (st ph : Int) : (rowF T st ph).lookup ("phase" : Str) = some (.int ph) := by
  unfold rowF
  rw [lookup_putF, if_pos rfl]
theorem rowF_no (T : Addr) (st ph : Int) {m : Str} (h1 : ¬ m = "phase") (h2 : ¬ m = "step") (h3 : ¬ m = "breakers") : (rowF T st ph).lookup m = none := by
  unfold rowF
  rw [lookup_putF, if_neg h1, lookup_putF, if_neg h2, lookup_putF, if_neg h3]
  all_goals rfl
/-- a Row stands at p -/
structure RowAt (C : Addr) (H : Hp) (p T : Addr) (xs : List V) (ts : List Tri) (st ph : Int) : Prop where
  ob : ∃ dx, H p = some (.ins C dx (rowF T st ph))
  tp : H T = some (.tup xs)
  br : Brs H xs ts
  ok : ∀ t ∈ ts, OkT t
  ln : ts.length ≤ 12
  s0 : 1 ≤ st
  s1 : st ≤ 1000000000000000000000000000000
  p0 : 0 ≤ ph
  p1 : ph ≤ 1000000000000000000000000000000
theorem RowAt.nl {C : Addr} {H H' : Hp} {p T : Addr} {xs : List V} {ts : List Tri} {st ph : Int} (R : RowAt C H p T xs ts st ph) (k : NL H H') : RowAt C H' p T xs ts st ph := by
  obtain ⟨dx, h⟩ := R.ob
  exact ⟨⟨dx, k _ _ h fun _ z => nomatch z⟩, k _ _ R.tp fun _ z => (nomatch z), R.br.nl k, R.ok, R.ln, R.s0, R.s1, R.p0, R.p1⟩
/-! ### promises -/
def spIsBr : Sp := fun vs H Q _ => ∃ x t, vs = [x] ∧ BrAt H x t ∧ OkT t ∧ Q (.bl true) H
def spRChk : Sp := fun vs H Q _ => ∃ a xs ts pt, vs = [.ref a, .str pt] ∧ H a = some (.lst xs) ∧ Brs H xs ts ∧ (∀ t ∈ ts, OkT t) ∧ ts.length ≤ 12 ∧ ∀ H', Same H H' → Q .non H'
def spRStep : Sp := fun vs H Q _ => ∃ st : Int, vs = [.int st] ∧ 1 ≤ st ∧ st ≤ 1000000000000000000000000000000 ∧ Q .non H
def spRInit (C : Addr) : Sp := fun vs H Q _ => ∃ p a st ph xs ts dx, vs = [.ref p, .ref a, .int st, .int ph] ∧ H p = some (.ins C dx []) ∧ H a = some (.lst xs) ∧ Brs H xs ts ∧ (∀ t ∈ ts, OkT t) ∧ ts.length ≤ 12 ∧
  (1 ≤ st ∧ st ≤ 1000000000000000000000000000000 ∧ 0 ≤ ph ∧ ph ≤ 1000000000000000000000000000000) ∧ ∀ T H', RowAt C H' p T xs ts st ph → Kp p H H' → Q .non H'
def spRBl (C : Addr) : Sp := fun vs H Q _ => ∃ p T xs ts st ph, vs = [.ref p] ∧ RowAt C H p T xs ts st ph ∧ ∀ l H', H l = none → H' = upd H l (.lst xs) → Q (.ref l) H'
def spRSt (C : Addr) : Sp := fun vs H Q _ => ∃ p T xs ts st ph, vs = [.ref p] ∧ RowAt C H p T xs ts st ph ∧ Q (.int st) H
def spRPh (C : Addr) : Sp := fun vs H Q _ => ∃ p T xs ts st ph, vs = [.ref p] ∧ RowAt C H p T xs ts st ph ∧ Q (.int ph) H
def spRLen (C : Addr) : Sp := fun vs H Q _ => ∃ p T xs ts st ph, vs = [.ref p] ∧ RowAt C H p T xs ts st ph ∧ Q (.int xs.length) H
def spRGet (C : Addr) : Sp := fun vs H Q _ => ∃ p T xs ts st ph i x, vs = [.ref p, .int i] ∧ RowAt C H p T xs ts st ph ∧ 0 ≤ i ∧ atI xs i = some x ∧ i < xs.length ∧ Q x H
def spRCon (C : Addr) : Sp := fun vs H Q _ => ∃ p T xs ts st ph x n, vs = [.ref p, x] ∧ RowAt C H p T xs ts st ph ∧ Kd H x n ∧ Q (.bl (isI x && (decide (ph ≤ toI x) && decide ((toI x - ph) % st = 0)))) H
def spRRt (C : Addr) : Sp := fun vs H Q _ => ∃ p T xs ts st ph i, vs = [.ref p, .int i] ∧ RowAt C H p T xs ts st ph ∧ 0 ≤ i ∧ i ≤ BB ∧ Q (.int (ph + i * st)) H
def spRFr (C : Addr) : Sp := fun vs H Q _ => ∃ p T xs ts st ph i, vs = [.ref p, .int i] ∧ RowAt C H p T xs ts st ph ∧ 0 ≤ i ∧ Q (.int (stepsUp (i - ph) st)) H
theorem row_made {C : Addr} {H : Hp} {Q : Addr → Hp → Prop} {a : Addr} {st ph : Int} {xs : List V} {ts : List Tri} (ha : H a = some (.lst xs)) (hb : Brs H xs ts) (ho : ∀ t ∈ ts, OkT t) (hl : ts.length ≤ 12)
    (bd : 1 ≤ st ∧ st ≤ 1000000000000000000000000000000 ∧ 0 ≤ ph ∧ ph ≤ 1000000000000000000000000000000) (k : ∀ p T H', RowAt C H' p T xs ts st ph → Same H H' → H p = none → Q p H') :
    ∀ x dx, H x = none → H dx = none → dx ≠ x → spRInit C [.ref x, .ref a, .int st, .int ph] (upd (upd H dx (.own x)) x (.ins C dx [])) (fun v H3 => v = .non ∧ Q x H3) E0 := by
  intro x dx hx hd hne
  have s0 : Same H (upd (upd H dx (.own x)) x (.ins C dx [])) := fun b o e => by
    rw [upd_ne (ne_of_none e hx), upd_ne (ne_of_none e hd)]
    exact e
  refine ⟨x, a, st, ph, xs, ts, dx, rfl, upd_same, s0 _ _ ha, hb.nl (NL.of s0), ho, hl, bd, fun T H' R kp => ⟨rfl, k x T H' R (fun b o e => kp b o (ne_of_none e hx) (s0 b o e)) hx⟩⟩
abbrev RDat := List Tri × Int × Int
/-- what == is asked of -/
inductive EqOf (C : Addr) (H : Hp) (d : RDat) : V → Bool → Prop where
  | row {q U : Addr} {ys : List V} {us : List Tri} {st ph : Int} (R : RowAt C H q U ys us st ph) : EqOf C H d (.ref q) (decide (d = (us, st, ph)))
  | non : EqOf C H d .non false
  | lst {a : Addr} {xs : List V} (e : H a = some (.lst xs)) : EqOf C H d (.ref a) false
  | tup {a : Addr} {xs : List V} (e : H a = some (.tup xs)) : EqOf C H d (.ref a) false
theorem EqOf.nl {C : Addr} {H H' : Hp} {d : RDat} {v : V} {b : Bool} (h : EqOf C H d v b) (k : Same H H') : EqOf C H' d v b := by
  cases h with
  | row R => exact .row (R.nl (NL.of k))
  | non => exact .non
  | lst e => exact .lst (k _ _ e)
  | tup e => exact .tup (k _ _ e)
/-- breakers as data -/
def triD (t : Tri) : PyData := .tuple [.int t.1, .int t.2.1, .int t.2.2]
theorem Brs.dp {K : PySem.W.Frag} {H : Hp} : ∀ {xs : List V} {ts : List Tri}, Brs H xs ts → DpAll K H xs (ts.map triD)
  | _, _, .nil => .nil
  | _, _, .cons ⟨a, e, h⟩ t => by
    subst e
    exact .cons (.tup (SqT.of h) (.cons (.int _) (.cons (.int _) (.cons (.int _) .nil)))) (Brs.dp t)
theorem triD_eq (t u : Tri) : PyData.eqv (triD t) (triD u) = decide (t = u) := by
  obtain ⟨a, b, c⟩ := t
  obtain ⟨a', b', c'⟩ := u
  simp only [triD, PyData.eqv, PyData.eqvAll, Bool.and_true]
  rw [Bool.eq_iff_iff]
  simp [Prod.ext_iff]
theorem triDs_eq : ∀ ts us : List Tri, PyData.eqvAll (ts.map triD) (us.map triD) = decide (ts = us)
  | [], [] => by simp [PyData.eqvAll]
  | [], _ :: _ => by simp [PyData.eqvAll]
  | _ :: _, [] => by simp [PyData.eqvAll]
  | t :: ts, u :: us => by
    rw [List.map_cons, List.map_cons, PyData.eqvAll, triD_eq, triDs_eq ts us, Bool.eq_iff_iff]
    simp
theorem canAll : ∀ ts : List Tri, PyData.canLayAll0 (ts.map triD) = true
  | [] => by simp [PyData.canLayAll0]
  | t :: ts => by
    rw [List.map_cons, PyData.canLayAll0, canAll ts]
    simp [triD, PyData.canLay0, PyData.canLayAll0]
theorem depAll : ∀ ts : List Tri, PyData.depthAll (ts.map triD) ≤ 10
  | [] => by simp [PyData.depthAll]
  | t :: ts => by
    have := depAll ts
    rw [List.map_cons, PyData.depthAll]
    have h2 : (triD t).depth ≤ 10 := by simp [triD, PyData.depth, PyData.depthAll]
    omega
theorem shT (ts : List Tri) : SeqAt.shaped (.tuple (ts.map triD)) = true := by
  refine Bool.and_eq_true_iff.mpr ⟨?_, decide_eq_true ?_⟩
  · rw [PyData.canLay0]
    exact canAll ts
  · have := depAll ts
    rw [PyData.depth]
    omega

theorem wide200 {i j : Int} (h1 : i.natAbs < 2 ^ 200) (h2 : j.natAbs < 2 ^ 200) : CMulW i j := wide_mul h1 h2 (by decide) (by decide) (by decide)
theorem lt200 {i : Int} (h0 : 0 ≤ i) (h : i ≤ 1000000000000000000000000000000) : i.natAbs < 2 ^ 200 := Nat.lt_of_le_of_lt (show i.natAbs ≤ 1000000000000000000000000000000 by omega) (by decide)
theorem log200 {i : Int} (h0 : 1 ≤ i) (h : i ≤ 1000000000000000000000000000000) : i.natAbs.log2 < 9000 := (wide_div (by omega : 0 < i) (lt200 (by omega) h) (by decide) (by decide) (i := 0)).2
theorem st_bb {s : Int} (h : s ≤ 1000000000000000000000000000000) : s ≤ BB := Int.le_trans h (Int.le_trans (PB_of (n := 100) (by decide +kernel)) (PB_le (by decide)))
theorem k6_pos {P : Prop} {q : Prop} [Decidable P] [Decidable q] (h : P) (h' : q) : (decide P && decide q) = true := by rw [decide_eq_true h, decide_eq_true h']; rfl
section
variable {P : Program} {w : World} {K : PySem.W.Frag} {mg : Str → Option Value} {base : Heap} {L : LA}
abbrev N_isbreaker : List Str := ["value", "failures", "wait", "successes"]
theorem sc_isbreaker : FnScope N_isbreaker ["value"] (defScope st_is_breaker) := ⟨rfl, rfl, rfl, by decide +kernel, rfl, by decide +kernel, by decide +kernel⟩
theorem fn_isbreaker (T : LX K mg L) {fd : FuncData} (F : Fun K "is_breaker" "is_breaker" st_is_breaker L.f_is_breaker fd) : FnOk P w K mg base CX0 3 L.f_is_breaker fd ["value"] (spIsBr) := by
  have G_iswithin := ok_iswithin (P := P) (w := w) (base := base) T
  obtain ⟨tk_MOST_COUNT, c_MOST_COUNT⟩ := T.n_MOST_COUNT
  obtain ⟨tk_MOST_TIME, c_MOST_TIME⟩ := T.n_MOST_TIME
  have nd := sc_isbreaker.nd
  refine F.ok sc_isbreaker (fun vs H Q E h => ?_) (fun cdv A outer S H vs Q E hr h => ?_)
  · obtain ⟨x, t, rfl, _⟩ := h
    rfl
  · obtain ⟨x, t, rfl, ⟨a, rfl, ha⟩, ⟨h1, h2, h3, h4, h5, h6⟩, k⟩ := h
    refine ⟨_, (pss_cons (ps_if (PW.pt (pw_or (pt_not (pt_val (pe_callB call_isi (by rfl) T.b_isinstance (by decide +kernel) (pa_cons (pv 0) (pa_cons (pe_bltn (by rfl) T.b_tuple (by decide +kernel : bootBuiltins "tuple" = some (.type "tuple")) (v := .ty "tuple") rfl) pa_nil))))) (pw_or1 (pt_cmpR op_ne (pe_callB call_len_seq (by rfl) T.b_len PySem.boot_len (pa_cons (pv 0) pa_nil)) pe_int (nomark _))))) (pss_one (ps_ret pe_bl)) pss_nil)
       (pss_cons (ps_asg (pv 0) (pg_tup rfl (pgs_cons (pg_name (i := 1) nd rfl (Or.inl rfl)) (pgs_cons (pg_name (i := 2) nd rfl (Or.inl rfl)) (pgs_cons (pg_name (i := 3) nd rfl (Or.inl rfl)) pgs_nil)))))
       (pss_one (ps_ret (pe_and (pe_c G_iswithin (hr.mono (by decide)) rfl (pa_cons (pv 1) (pa_cons pe_int (pa_cons (pe_gI c_MOST_COUNT) pa_nil)))) (pe_and (pe_c G_iswithin (hr.mono (by decide)) rfl (pa_cons (pv 2) (pa_cons pe_int (pa_cons (pe_gI c_MOST_TIME) pa_nil)))) (pe_one (pe_c G_iswithin (hr.mono (by decide)) rfl (pa_cons (pv 3) (pa_cons pe_int (pa_cons (pe_gI c_MOST_COUNT) pa_nil))))))))))), ?_⟩
    refine ⟨_, rfl, _, .ty "tuple", _, _, _, rfl, .ty "tuple", (Kd.tup ha).ty, (Kd.tup ha).kit "tuple" _ (.inr ⟨by decide, by decide, rfl⟩), _, rfl, iteF ?_⟩
    refine ⟨_, rfl, a, _, rfl, .inr (SqT.of ha), rfl, _, rfl, iteF ?_⟩
    refine ⟨_, rfl, a, _, rfl, SqT.of ha, rfl, _, _, rfl, _, _, rfl, _, _, rfl, rfl, ?_⟩
    refine ⟨_, rfl, _, _, _, _, rfl, .int _, _, rfl, ?_⟩
    have e1 : (decide ((1 : Int) ≤ t.1) && decide (t.1 ≤ 1000000000000)) = true := k6_pos h1 h2
    have e2 : (decide ((1 : Int) ≤ t.2.1) && decide (t.2.1 ≤ 1000000000000000000000000000000)) = true := k6_pos h3 h4
    have e3 : (decide ((1 : Int) ≤ t.2.2) && decide (t.2.2 ≤ 1000000000000)) = true := k6_pos h5 h6
    show if (decide ((1 : Int) ≤ t.1) && decide (t.1 ≤ 1000000000000)) = true then _ else _
    rw [e1]
    refine iteT ?_
    refine ⟨_, rfl, _, _, _, _, rfl, .int _, _, rfl, ?_⟩
    show if (decide ((1 : Int) ≤ t.2.1) && decide (t.2.1 ≤ 1000000000000000000000000000000)) = true then _ else _
    rw [e2]
    refine iteT ?_
    refine ⟨_, rfl, _, _, _, _, rfl, .int _, ?_⟩
    show Q (.bl (decide ((1 : Int) ≤ t.2.2) && decide (t.2.2 ≤ 1000000000000))) H
    rw [e3]
    exact k
theorem ok_isbreaker (T : LX K mg L) : Cal P w K mg base "is_breaker" 3 L.f_is_breaker ["value"] (spIsBr) := T.d_is_breaker.cal fun fd F => fn_isbreaker T F
abbrev N_checkbreakers : List Str := ["breakers", "part", "at", "breaker"]
theorem sc_checkbreakers : FnScope N_checkbreakers ["breakers", "part"] (defScope st_check_breakers) := ⟨rfl, rfl, rfl, by decide +kernel, rfl, by decide +kernel, by decide +kernel⟩
theorem fn_checkbreakers (T : LX K mg L) {fd : FuncData} (F : Fun K "check_breakers" "check_breakers" st_check_breakers L.f_check_breakers fd) : FnOk P w K mg base CX0 4 L.f_check_breakers fd ["breakers", "part"] (spRChk) := by
  obtain ⟨tk_MOST_BREAKERS, c_MOST_BREAKERS⟩ := T.n_MOST_BREAKERS
  have G_isbreaker := ok_isbreaker (P := P) (w := w) (base := base) T
  have nd := sc_checkbreakers.nd
  refine F.ok sc_checkbreakers (fun vs H Q E h => ?_) (fun cdv A outer S H vs Q E hr h => ?_)
  · obtain ⟨a, xs, ts, pt, rfl, _⟩ := h
    rfl
  · obtain ⟨a, xs, ts, pt, rfl, ha, hb, ho, hl, k⟩ := h
    refine ⟨_, (pss_cons (ps_if (PW.pt (pw_or (pt_not (pt_val (pe_callB call_isi (by rfl) T.b_isinstance (by decide +kernel) (pa_cons (pv 0) (pa_cons (pe_bltn (by rfl) T.b_list (by decide +kernel : bootBuiltins "list" = some (.type "list")) (v := .ty "list") rfl) pa_nil))))) (pw_or1 (pt_cmpR op_gt (pe_callB call_len_seq (by rfl) T.b_len PySem.boot_len (pa_cons (pv 0) pa_nil)) (pe_gI c_MOST_BREAKERS) (nomark _))))) (pss_one (ps_never)) pss_nil)
       (pss_one (ps_for PassesOwn.never rfl (pi_enum (by rfl) T.b_enumerate (pa_cons (pv 0) pa_nil)) (pg_tup rfl (pgs_cons (pg_name (i := 2) nd rfl (Or.inl rfl)) (pgs_cons (pg_name (i := 3) nd rfl (Or.inl rfl)) pgs_nil))) (pss_one (ps_if (pt_not (pt_val (pe_c G_isbreaker (hr.mono (by decide)) rfl (pa_cons (pv 3) pa_nil)))) (pss_one (ps_never)) pss_nil))))), ?_⟩
    refine ⟨_, rfl, _, .ty "list", _, _, _, rfl, .ty "list", (Kd.lst ha).ty, (Kd.lst ha).kit "list" _ (.inr ⟨by decide, by decide, rfl⟩), _, rfl, iteF ?_⟩
    refine ⟨_, rfl, a, _, rfl, .inl (SqL.of ha), _, _, rfl, rfl, _, rfl, ?_⟩
    have hn : ¬ ((12 : Int) < (xs.length : Nat)) := by rw [hb.len]; omega
    rw [decide_eq_false hn]
    refine iteF ?_
    refine ⟨_, rfl, a, xs, rfl, SqL.of ha, for_enum (K := K) (a := a) (xs := xs) (fun i σ H2 => ∃ u v : Option V, σ = [some (.ref a), some (.str pt), u, v] ∧ Same H H2) ⟨none, none, rfl, Same.refl H⟩ (fun i σ H2 _ ⟨_, _, _, s2⟩ => SqL.of (s2 _ _ ha)) ?_ ?_⟩
    · rintro i x T' σ H2 hx ⟨u, v, rfl, s2⟩ hT
      obtain ⟨t, ht, hbr⟩ := hb.get hx
      have s3 : Same H (upd H2 T' (.tup [.int (i : Nat), x])) := s2.trans (Same.upd hT)
      refine ⟨T', _, rfl, SqT.of upd_same, rfl, _, _, rfl, _, _, rfl, rfl, ?_⟩
      refine ⟨_, rfl, x, t, rfl, hbr.nl (NL.of s3), ho t (List.mem_of_getElem? ht), _, rfl, iteF ?_⟩
      exact ⟨_, _, rfl, s3⟩
    · rintro σ H2 ⟨u, v, rfl, s2⟩
      exact k H2 s2
theorem ok_checkbreakers (T : LX K mg L) : Cal P w K mg base "check_breakers" 4 L.f_check_breakers ["breakers", "part"] (spRChk) := T.d_check_breakers.cal fun fd F => fn_checkbreakers T F
abbrev N_checkstep : List Str := ["step"]
theorem sc_checkstep : FnScope N_checkstep ["step"] (defScope st_check_step) := ⟨rfl, rfl, rfl, by decide +kernel, rfl, by decide +kernel, by decide +kernel⟩
theorem fn_checkstep (T : LX K mg L) {fd : FuncData} (F : Fun K "check_step" "check_step" st_check_step L.f_check_step fd) : FnOk P w K mg base CX0 3 L.f_check_step fd ["step"] (spRStep) := by
  have G_iswithin := ok_iswithin (P := P) (w := w) (base := base) T
  obtain ⟨tk_MOST_TIME, c_MOST_TIME⟩ := T.n_MOST_TIME
  have nd := sc_checkstep.nd
  refine F.ok sc_checkstep (fun vs H Q E h => ?_) (fun cdv A outer S H vs Q E hr h => ?_)
  · obtain ⟨st, rfl, _⟩ := h
    rfl
  · obtain ⟨st, rfl, b1, b2, k⟩ := h
    refine ⟨_, (pss_one (ps_if (pt_not (pt_val (pe_c G_iswithin (hr.mono (by decide)) rfl (pa_cons (pv 0) (pa_cons pe_int (pa_cons (pe_gI c_MOST_TIME) pa_nil)))))) (pss_one (ps_never)) pss_nil)), ?_⟩
    have e1 : (decide ((1 : Int) ≤ st) && decide (st ≤ 1000000000000000000000000000000)) = true := k6_pos b1 b2
    refine ⟨_, rfl, _, _, _, _, rfl, .int _, _, rfl, ?_⟩
    show if (!(decide ((1 : Int) ≤ st) && decide (st ≤ 1000000000000000000000000000000))) = true then _ else _
    rw [e1]
    exact iteF k
theorem ok_checkstep (T : LX K mg L) : Cal P w K mg base "check_step" 3 L.f_check_step ["step"] (spRStep) := T.d_check_step.cal fun fd F => fn_checkstep T F
abbrev N_Rowinit : List Str := ["self", "breakers", "step", "phase"]
theorem sc_Rowinit : FnScope N_Rowinit ["self", "breakers", "step", "phase"] (defScope st_Row_init) := ⟨rfl, rfl, rfl, by decide +kernel, rfl, by decide +kernel, by decide +kernel⟩
theorem fn_Rowinit (T : LX K mg L) {fd : FuncData} (F : Fun K "__init__" "Row.__init__" st_Row_init L.i_Row fd) : FnOk P w K mg base CX0 5 L.i_Row fd ["self", "breakers", "step", "phase"] (spRInit L.c_Row) := by
  have G_checkbreakers := ok_checkbreakers (P := P) (w := w) (base := base) T
  have G_checkstep := ok_checkstep (P := P) (w := w) (base := base) T
  have G_iswithin := ok_iswithin (P := P) (w := w) (base := base) T
  obtain ⟨tk_MOST_TIME, c_MOST_TIME⟩ := T.n_MOST_TIME
  have nd := sc_Rowinit.nd
  refine F.ok sc_Rowinit (fun vs H Q E h => ?_) (fun cdv A outer S H vs Q E hr h => ?_)
  · obtain ⟨p, a, st, ph, xs, ts, dx, rfl, _⟩ := h
    rfl
  · obtain ⟨p, a, st, ph, xs, ts, dx, rfl, hp, ha, hb, ho, hl, ⟨b1, b2, b3, b4⟩, k⟩ := h
    refine ⟨_, (pss_cons (ps_expr (pe_c G_checkbreakers (hr.mono (by decide)) rfl (pa_cons (pv 1) (pa_cons pe_str pa_nil))))
       (pss_cons (ps_expr (pe_c G_checkstep (hr.mono (by decide)) rfl (pa_cons (pv 2) pa_nil)))
       (pss_cons (ps_if (pt_not (pt_val (pe_c G_iswithin (hr.mono (by decide)) rfl (pa_cons (pv 3) (pa_cons pe_int (pa_cons (pe_gI c_MOST_TIME) pa_nil)))))) (pss_one (ps_never)) pss_nil)
       (pss_cons (ps_fld (pv 0) (pe_callTy call_tuple_of (by rfl) T.b_tuple (by decide +kernel) (pa_cons (pv 1) pa_nil)) rfl)
       (pss_cons (ps_fld (pv 0) (pv 2) rfl)
       (pss_one (ps_fld (pv 0) (pv 3) rfl))))))), ?_⟩
    refine ⟨_, rfl, a, xs, ts, _, rfl, ha, hb, ho, hl, fun H1 s1 => ?_⟩
    have e2 : (decide ((0 : Int) ≤ ph) && decide (ph ≤ 1000000000000000000000000000000)) = true := k6_pos b3 b4
    refine ⟨_, rfl, _, rfl, b1, b2, ?_⟩
    refine ⟨_, rfl, _, _, _, _, rfl, .int _, _, rfl, ?_⟩
    show if (!(decide ((0 : Int) ≤ ph) && decide (ph ≤ 1000000000000000000000000000000))) = true then _ else _
    rw [e2]
    refine iteF ?_
    have hp1 := s1 _ _ hp
    refine ⟨_, rfl, a, xs, rfl, .inl ⟨SqL.of (s1 _ _ ha), fun l hl' => ?_⟩⟩
    have npl : p ≠ l := ne_of_none hp1 hl'
    refine ⟨_, rfl, p, L.c_Row, dx, [], rfl, (by rw [upd_ne npl]; exact hp1), T.cf_Row.cl, T.nf_Row_breakers, (by show 0 < 1000; decide), ?_⟩
    refine ⟨_, rfl, _, rfl, p, L.c_Row, dx, _, rfl, upd_same, T.cf_Row.cl, T.nf_Row_step, Nat.lt_of_le_of_lt (putF_len _ _ [] (Nat.le_refl 0)) (by decide), ?_⟩
    refine ⟨_, rfl, _, rfl, p, L.c_Row, dx, _, rfl, upd_same, T.cf_Row.cl, T.nf_Row_phase, Nat.lt_of_le_of_lt (putF_len _ _ _ (putF_len _ _ [] (Nat.le_refl 0))) (by decide), ?_⟩
    refine k l _ ⟨⟨dx, upd_same⟩, ?_, ?_, ho, hl, b1, b2, b3, b4⟩ ?_
    · rw [upd_ne npl.symm, upd_ne npl.symm, upd_ne npl.symm, upd_same]
    · refine L2.Paired.mapP hb fun x t ⟨b, e, h⟩ => ⟨b, e, ?_⟩
      have nbp : b ≠ p := ne_of h hp (by intro z; cases z)
      have h1 := s1 _ _ h
      rw [upd_ne nbp, upd_ne nbp, upd_ne nbp, upd_ne (ne_of_none h1 hl')]
      exact h1
    · intro b o n e
      have h1 := s1 _ _ e
      rw [upd_ne n, upd_ne n, upd_ne n, upd_ne (ne_of_none h1 hl')]
      exact h1
abbrev N_Rowbreakerlist : List Str := ["self"]
theorem sc_Rowbreakerlist : FnScope N_Rowbreakerlist ["self"] (defScope st_Row_breaker_list) := ⟨rfl, rfl, rfl, by decide +kernel, rfl, by decide +kernel, by decide +kernel⟩
theorem fn_Rowbreakerlist (T : LX K mg L) {fd : FuncData} (F : Fun K "breaker_list" "Row.breaker_list" st_Row_breaker_list L.m_Row_breaker_list fd) : FnOk P w K mg base CX0 1 L.m_Row_breaker_list fd ["self"] (spRBl L.c_Row) := by
  have nd := sc_Rowbreakerlist.nd
  refine F.ok sc_Rowbreakerlist (fun vs H Q E h => ?_) (fun cdv A outer S H vs Q E hr h => ?_)
  · obtain ⟨p, B, xs, ts, st, ph, rfl, _⟩ := h
    rfl
  · obtain ⟨p, B, xs, ts, st, ph, rfl, R, k⟩ := h
    refine ⟨_, (pss_one (ps_ret (pe_callTy call_list_of (by rfl) T.b_list (by decide +kernel) (pa_cons (pe_fld (pv 0) rfl) pa_nil)))), ?_⟩
    obtain ⟨dx, hp⟩ := R.ob
    exact ⟨_, rfl, p, L.c_Row, dx, _, _, rfl, hp, T.cf_Row.cl, T.nf_Row_breakers, rowF_b _ _ _, B, xs, rfl, .inr (SqT.of R.tp), fun l hl' => k l _ hl' rfl⟩
theorem ok_Rowbreakerlist (T : LX K mg L) : Met P w K mg base L.c_Row "breaker_list" 1 L.m_Row_breaker_list ["self"] (spRBl L.c_Row) := T.mm_Row_breaker_list.met fun fd F => fn_Rowbreakerlist T F
abbrev N_Rowsteplength : List Str := ["self"]
theorem sc_Rowsteplength : FnScope N_Rowsteplength ["self"] (defScope st_Row_step_length) := ⟨rfl, rfl, rfl, by decide +kernel, rfl, by decide +kernel, by decide +kernel⟩
theorem fn_Rowsteplength (T : LX K mg L) {fd : FuncData} (F : Fun K "step_length" "Row.step_length" st_Row_step_length L.m_Row_step_length fd) : FnOk P w K mg base CX0 1 L.m_Row_step_length fd ["self"] (spRSt L.c_Row) := by
  have nd := sc_Rowsteplength.nd
  refine F.ok sc_Rowsteplength (fun vs H Q E h => ?_) (fun cdv A outer S H vs Q E hr h => ?_)
  · obtain ⟨p, B, xs, ts, st, ph, rfl, _⟩ := h
    rfl
  · obtain ⟨p, B, xs, ts, st, ph, rfl, R, k⟩ := h
    refine ⟨_, (pss_one (ps_ret (pe_fld (pv 0) rfl))), ?_⟩
    obtain ⟨dx, hp⟩ := R.ob
    exact ⟨_, rfl, p, L.c_Row, dx, _, _, rfl, hp, T.cf_Row.cl, T.nf_Row_step, rowF_s _ _ _, k⟩
theorem ok_Rowsteplength (T : LX K mg L) : Met P w K mg base L.c_Row "step_length" 1 L.m_Row_step_length ["self"] (spRSt L.c_Row) := T.mm_Row_step_length.met fun fd F => fn_Rowsteplength T F
abbrev N_Rowlen : List Str := ["self"]
theorem sc_Rowlen : FnScope N_Rowlen ["self"] (defScope st_Row_len) := ⟨rfl, rfl, rfl, by decide +kernel, rfl, by decide +kernel, by decide +kernel⟩
theorem fn_Rowlen (T : LX K mg L) {fd : FuncData} (F : Fun K "__len__" "Row.__len__" st_Row_len L.m_Row_len fd) : FnOk P w K mg base CX0 1 L.m_Row_len fd ["self"] (spRLen L.c_Row) := by
  have nd := sc_Rowlen.nd
  refine F.ok sc_Rowlen (fun vs H Q E h => ?_) (fun cdv A outer S H vs Q E hr h => ?_)
  · obtain ⟨p, B, xs, ts, st, ph, rfl, _⟩ := h
    rfl
  · obtain ⟨p, B, xs, ts, st, ph, rfl, R, k⟩ := h
    refine ⟨_, (pss_one (ps_ret (pe_callB call_len_seq (by rfl) T.b_len PySem.boot_len (pa_cons (pe_fld (pv 0) rfl) pa_nil)))), ?_⟩
    obtain ⟨dx, hp⟩ := R.ob
    exact ⟨_, rfl, p, L.c_Row, dx, _, _, rfl, hp, T.cf_Row.cl, T.nf_Row_breakers, rowF_b _ _ _, B, xs, rfl, .inr (SqT.of R.tp), k⟩
theorem ok_Rowlen (T : LX K mg L) : Met P w K mg base L.c_Row "__len__" 1 L.m_Row_len ["self"] (spRLen L.c_Row) := T.mm_Row_len.met fun fd F => fn_Rowlen T F
abbrev N_Rowgetitem : List Str := ["self", "at"]
theorem sc_Rowgetitem : FnScope N_Rowgetitem ["self", "at"] (defScope st_Row_getitem) := ⟨rfl, rfl, rfl, by decide +kernel, rfl, by decide +kernel, by decide +kernel⟩
theorem fn_Rowgetitem (T : LX K mg L) {fd : FuncData} (F : Fun K "__getitem__" "Row.__getitem__" st_Row_getitem L.m_Row_getitem fd) : FnOk P w K mg base CX0 3 L.m_Row_getitem fd ["self", "at"] (spRGet L.c_Row) := by
  have G_iswithin := ok_iswithin (P := P) (w := w) (base := base) T
  have nd := sc_Rowgetitem.nd
  refine F.ok sc_Rowgetitem (fun vs H Q E h => ?_) (fun cdv A outer S H vs Q E hr h => ?_)
  · obtain ⟨p, B, xs, ts, st, ph, i, x, rfl, _⟩ := h
    rfl
  · obtain ⟨p, B, xs, ts, st, ph, i, x, rfl, R, i0, hx, i1, k⟩ := h
    refine ⟨_, (pss_cons (ps_if (pt_not (pt_val (pe_c G_iswithin (hr.mono (by decide)) rfl (pa_cons (pv 1) (pa_cons pe_int (pa_cons (pe_op op_sub (pe_callB call_len_seq (by rfl) T.b_len PySem.boot_len (pa_cons (pe_fld (pv 0) rfl) pa_nil)) pe_int) pa_nil)))))) (pss_one (ps_never)) pss_nil)
       (pss_one (ps_ret (pe_ix (r := rIxT K) ix_tup (pe_fld (pv 0) rfl) (pv 1) (fun _ _ => rfl))))), ?_⟩
    obtain ⟨dx, hp⟩ := R.ob
    refine ⟨_, rfl, _, rfl, p, L.c_Row, dx, _, _, rfl, hp, T.cf_Row.cl, T.nf_Row_breakers, rowF_b _ _ _, B, xs, rfl, .inr (SqT.of R.tp), _, _, rfl, rfl, _, _, _, _, rfl, .int _, _, rfl, ?_⟩
    have e1 : (decide ((0 : Int) ≤ i) && decide (i ≤ (xs.length : Int) - 1)) = true := k6_pos i0 (by omega)
    show if (!(decide ((0 : Int) ≤ i) && decide (i ≤ (xs.length : Int) - 1))) = true then _ else _
    rw [e1]
    refine iteF ?_
    exact ⟨_, rfl, p, L.c_Row, dx, _, _, rfl, hp, T.cf_Row.cl, T.nf_Row_breakers, rowF_b _ _ _, _, rfl, B, xs, i, x, rfl, rfl, SqT.of R.tp, hx, k⟩
theorem ok_Rowgetitem (T : LX K mg L) : Met P w K mg base L.c_Row "__getitem__" 3 L.m_Row_getitem ["self", "at"] (spRGet L.c_Row) := T.mm_Row_getitem.met fun fd F => fn_Rowgetitem T F
abbrev N_Rowcontains : List Str := ["self", "x"]
theorem sc_Rowcontains : FnScope N_Rowcontains ["self", "x"] (defScope st_Row_contains) := ⟨rfl, rfl, rfl, by decide +kernel, rfl, by decide +kernel, by decide +kernel⟩
theorem fn_Rowcontains (T : LX K mg L) {fd : FuncData} (F : Fun K "__contains__" "Row.__contains__" st_Row_contains L.m_Row_contains fd) : FnOk P w K mg base CX0 3 L.m_Row_contains fd ["self", "x"] (spRCon L.c_Row) := by
  have G_isatleast := ok_isatleast (P := P) (w := w) (base := base) T
  have nd := sc_Rowcontains.nd
  refine F.ok sc_Rowcontains (fun vs H Q E h => ?_) (fun cdv A outer S H vs Q E hr h => ?_)
  · obtain ⟨p, B, xs, ts, st, ph, x, n, rfl, _⟩ := h
    rfl
  · obtain ⟨p, B, xs, ts, st, ph, x, n, rfl, R, hx, k⟩ := h
    refine ⟨_, (pss_one (ps_ret (pe_and (pe_c G_isatleast (hr.mono (by decide)) rfl (pa_cons (pv 1) (pa_cons (pe_fld (pv 0) rfl) pa_nil))) (pe_one (pe_cmpR op_eq (pe_op op_mod (pe_op op_sub (pv 1) (pe_fld (pv 0) rfl)) (pe_fld (pv 0) rfl)) pe_int (nomark _)))))), ?_⟩
    obtain ⟨dx, hp⟩ := R.ob
    have s0 := R.s0
    refine ⟨_, rfl, _, rfl, p, L.c_Row, dx, _, _, rfl, hp, T.cf_Row.cl, T.nf_Row_phase, rowF_p _ _ _, x, n, _, rfl, hx, _, rfl, ?_⟩
    refine ite2 (fun c => ?_) (fun c => ?_)
    · cases x with
      | int i =>
        have c' : decide (ph ≤ i) = true := c
        have k' : Q (.bl (decide (ph ≤ i) && decide ((i - ph) % st = 0))) H := k
        rw [c', Bool.true_and] at k'
        refine ⟨_, rfl, _, rfl, p, L.c_Row, dx, _, _, rfl, hp, T.cf_Row.cl, T.nf_Row_phase, rowF_p _ _ _, _, _, rfl, rfl, _, rfl, p, L.c_Row, dx, _, _, rfl, hp, T.cf_Row.cl, T.nf_Row_step, rowF_s _ _ _, _, _, rfl, rfl, by omega, rfl, ?_⟩
        have e : decide (V.int ((i - ph) % st) = V.int 0) = decide ((i - ph) % st = 0) := by rw [dec_int]; rfl
        rw [e]
        exact k'
      | _ => exact absurd (show false = true from c) Bool.false_ne_true
    · cases x with
      | int i =>
        have c' : decide (ph ≤ i) = false := by
          have c2 : ¬ (decide (ph ≤ i) = true) := c
          simpa using c2
        have k' : Q (.bl (decide (ph ≤ i) && decide ((i - ph) % st = 0))) H := k
        rw [c', Bool.false_and] at k'
        exact k'
      | _ => exact k
theorem ok_Rowcontains (T : LX K mg L) : Met P w K mg base L.c_Row "__contains__" 3 L.m_Row_contains ["self", "x"] (spRCon L.c_Row) := T.mm_Row_contains.met fun fd F => fn_Rowcontains T F
abbrev N_requesttime : List Str := ["row", "number"]
theorem sc_requesttime : FnScope N_requesttime ["row", "number"] (defScope st_request_time) := ⟨rfl, rfl, rfl, by decide +kernel, rfl, by decide +kernel, by decide +kernel⟩
theorem fn_requesttime (T : LX K mg L) {fd : FuncData} (F : Fun K "request_time" "request_time" st_request_time L.f_request_time fd) : FnOk P w K mg base CX0 3 L.f_request_time fd ["row", "number"] (spRRt L.c_Row) := by
  have G_isatleast := ok_isatleast (P := P) (w := w) (base := base) T
  have nd := sc_requesttime.nd
  refine F.ok sc_requesttime (fun vs H Q E h => ?_) (fun cdv A outer S H vs Q E hr h => ?_)
  · obtain ⟨p, B, xs, ts, st, ph, i, rfl, _⟩ := h
    rfl
  · obtain ⟨p, B, xs, ts, st, ph, i, rfl, R, i0, iw, k⟩ := h
    refine ⟨_, (pss_cons (ps_if (pt_not (pt_val (pe_c G_isatleast (hr.mono (by decide)) rfl (pa_cons (pv 1) (pa_cons pe_int pa_nil))))) (pss_one (ps_never)) pss_nil)
       (pss_one (ps_ret (pe_op op_add (pe_fld (pv 0) rfl) (pe_op op_mulW (pv 1) (pe_fld (pv 0) rfl)))))), ?_⟩
    obtain ⟨dx, hp⟩ := R.ob
    have s0 := R.s0
    have s1 := st_bb R.s1
    refine ⟨_, rfl, _, _, _, rfl, .int _, _, rfl, ?_⟩
    show if (!(decide ((0 : Int) ≤ i))) = true then _ else _
    rw [decide_eq_true i0]
    refine iteF ?_
    exact ⟨_, rfl, p, L.c_Row, dx, _, _, rfl, hp, T.cf_Row.cl, T.nf_Row_phase, rowF_p _ _ _, _, rfl, _, rfl, p, L.c_Row, dx, _, _, rfl, hp, T.cf_Row.cl, T.nf_Row_step, rowF_s _ _ _, _, _, rfl, rfl, mulBB i0 (by have := BB1; omega) (by omega) (by have := BB1; omega), _, _, rfl, rfl, k⟩
theorem ok_requesttime (T : LX K mg L) : Cal P w K mg base "request_time" 3 L.f_request_time ["row", "number"] (spRRt L.c_Row) := T.d_request_time.cal fun fd F => fn_requesttime T F
abbrev N_firstrequest : List Str := ["row", "time"]
theorem sc_firstrequest : FnScope N_firstrequest ["row", "time"] (defScope st_first_request) := ⟨rfl, rfl, rfl, by decide +kernel, rfl, by decide +kernel, by decide +kernel⟩
theorem fn_firstrequest (T : LX K mg L) {fd : FuncData} (F : Fun K "first_request" "first_request" st_first_request L.f_first_request fd) : FnOk P w K mg base CX0 3 L.f_first_request fd ["row", "time"] (spRFr L.c_Row) := by
  have G_stepsto := ok_stepsto (P := P) (w := w) (base := base) T
  have G_isatleast := ok_isatleast (P := P) (w := w) (base := base) T
  have nd := sc_firstrequest.nd
  refine F.ok sc_firstrequest (fun vs H Q E h => ?_) (fun cdv A outer S H vs Q E hr h => ?_)
  · obtain ⟨p, B, xs, ts, st, ph, i, rfl, _⟩ := h
    rfl
  · obtain ⟨p, B, xs, ts, st, ph, i, rfl, R, i0, k⟩ := h
    refine ⟨_, (pss_cons (ps_if (pt_not (pt_val (pe_c G_isatleast (hr.mono (by decide)) rfl (pa_cons (pv 1) (pa_cons pe_int pa_nil))))) (pss_one (ps_never)) pss_nil)
       (pss_one (ps_ret (pe_c G_stepsto (hr.mono (by decide)) rfl (pa_cons (pe_op op_sub (pv 1) (pe_fld (pv 0) rfl)) (pa_cons (pe_fld (pv 0) rfl) pa_nil)))))), ?_⟩
    obtain ⟨dx, hp⟩ := R.ob
    have s0 := R.s0
    have s1 := st_bb R.s1
    refine ⟨_, rfl, _, _, _, rfl, .int _, _, rfl, ?_⟩
    show if (!(decide ((0 : Int) ≤ i))) = true then _ else _
    rw [decide_eq_true i0]
    refine iteF ?_
    exact ⟨_, rfl, _, rfl, p, L.c_Row, dx, _, _, rfl, hp, T.cf_Row.cl, T.nf_Row_phase, rowF_p _ _ _, _, _, rfl, rfl, _, rfl, p, L.c_Row, dx, _, _, rfl, hp, T.cf_Row.cl, T.nf_Row_step, rowF_s _ _ _, _, _, rfl, by omega, divBB s0 s1, k⟩
theorem ok_firstrequest (T : LX K mg L) : Cal P w K mg base "first_request" 3 L.f_first_request ["row", "time"] (spRFr L.c_Row) := T.d_first_request.cal fun fd F => fn_firstrequest T F
end
section
variable {X : Cx} {L : LA}
theorem row_fn {K : PySem.W.Frag} {mg : Str → Option Value} (T : LX K mg L) : ∃ fd, Fun K "__init__" "Row.__init__" st_Row_init L.i_Row fd ∧ FunD K "__init__" "Row.__init__" (defArgs st_Row_init) (defBody st_Row_init) (defScope st_Row_init) [] [("phase", .int 0)] L.i_Row fd := by
  obtain ⟨fd, F⟩ := T.in_Row
  refine ⟨fd, ?_, F⟩
  obtain ⟨oc, od, dV, kV, doc, pm, an, cdv, ct, osl, rfl, lk, hcd, hD, hK⟩ := F.ex
  rcases hD with ⟨_, rfl⟩ | ⟨e, _⟩
  · exact ⟨⟨oc, od, kV, doc, pm, an, cdv, ct, osl, rfl, lk, hcd⟩, F.kp⟩
  · exact absurd rfl e
theorem row_k1 {K : PySem.W.Frag} {mg : Str → Option Value} (T : LX K mg L) : ∃ fd, Fun K "__init__" "Row.__init__" st_Row_init L.i_Row fd ∧ KBn K fd ["self", "breakers", "step", "phase"] 3 ["phase"] (fun us ws => us ++ ws) (fun us ws => us ++ ws) := by
  obtain ⟨fd, F, FD⟩ := row_fn T
  obtain ⟨mv, h⟩ := FD.kbinds0 (ps := ["self", "breakers", "step", "phase"]) 3 ["phase"] [] (fun us _ ws => us ++ ws) (by simp) (by simp) (fun r1 _ r3 => r1.append r3) (fun D doc pm an cdv ct us mv ws h1 h2 h3 => by
    match us, h1, ws, h3, mv, h2 with
    | [_, _, _], _, [_], _, [], _ => rfl)
  exact ⟨fd, F, h⟩
theorem row_k2 {K : PySem.W.Frag} {mg : Str → Option Value} (T : LX K mg L) : ∃ fd ds, Fun K "__init__" "Row.__init__" st_Row_init L.i_Row fd ∧ Vals [.int 0] ds ∧ Binds K fd ["self", "breakers", "step", "phase"] ds := by
  obtain ⟨fd, F, FD⟩ := row_fn T
  obtain ⟨ds, h1, h2⟩ := FD.binds0 (ps := ["self", "breakers", "step", "phase"]) 3 (by simp) rfl (fun D doc pm an cdv ct us ks h1 h2 => by
    match us, h1, ks, h2 with
    | [_, _, _], _, [_], _ => exact ⟨_, _, _, _, _, _, rfl, rfl, rfl⟩)
  exact ⟨fd, ds, F, h1, h2⟩
/-- Row(e, s, phase=f) -/
theorem pe_mkRow_p_phase (T : LX X.K X.mg L) (hr : Room 6 X.A) {p pos : Pos} {e e2 : Expr} {kws : List Keyword} {t tk : TA} (hg : Gl X "Row") (ha : PA X [e, e2] t) (hkw : PK X kws tk)
    (hall : (backToKw pos (keywordEach kws X.env)).all (·.1.isSome) = true := by rfl) (hks : (backToKw pos (keywordEach kws X.env)).filterMap (·.1) = (["phase"] : List Str) := by rfl)
    (he : starEach (e :: [e2]) X.env = (false, eval e X.env) :: starEach [e2] X.env := by rfl) (hpl : ((backTo pos (starEach (e :: [e2]) X.env)).any (·.1) || (backToKw pos (keywordEach kws X.env)).any (·.1.isNone)) = false := by rfl) :
    PE X (.Call (.Name "Row" p) (e :: [e2]) kws pos) (tMakeK L.c_Row 2 1 (spRInit L.c_Row) (fun us ws => us ++ ws) E0 t tk) := by
  obtain ⟨fd, F, b⟩ := row_k1 T
  exact pe_makeK T.mk_Row (fn_Rowinit T F) hr hg T.gc_Row b pass0 ha hkw hall hks (by decide) he hpl
/-- Row(e, s) -/
theorem pe_mkRow (T : LX X.K X.mg L) (hr : Room 6 X.A) {p pos : Pos} {e e2 : Expr} {t : TA} (hg : Gl X "Row") (ha : PA X [e, e2] t)
    (he : starEach (e :: [e2]) X.env = (false, eval e X.env) :: starEach [e2] X.env := by rfl) (hpl : (backTo pos (starEach [e2] X.env)).any (·.1) = false := by rfl) :
    PE X (.Call (.Name "Row" p) (e :: [e2]) [] pos) (tMake L.c_Row (spRInit L.c_Row) [.int 0] E0 t) := by
  obtain ⟨fd, ds, F, hv, b⟩ := row_k2 T
  exact pe_make T.mk_Row (fn_Rowinit T F) hr hg T.gc_Row b hv pass0 ha (by decide) he hpl
end
theorem PB_add (n m : Nat) : PB n * PB m = PB (n + m) := by
  unfold PB
  rw [Int.pow_add]
theorem PB_mul {i j : Int} {n m : Nat} (i0 : 0 ≤ i) (hi : i ≤ PB n) (j0 : 0 ≤ j) (hj : j ≤ PB m) : i * j ≤ PB (n + m) := by
  rw [← PB_add]
  exact Int.mul_le_mul hi hj j0 (by omega)
/-! ### lists of ints as data; what the law asks of told times -/
def intsD (ns : List Int) : PyData := .list (ns.map PyData.int)
theorem ints_dp {K : PySem.W.Frag} {H : Hp} : ∀ ns : List Int, DpAll K H (ns.map V.int) (ns.map PyData.int)
  | [] => .nil
  | n :: ns => .cons (.int n) (ints_dp ns)
theorem canInts : ∀ ns : List Int, PyData.canLayAll0 (ns.map PyData.int) = true
  | [] => by simp [PyData.canLayAll0]
  | n :: ns => by rw [List.map_cons, PyData.canLayAll0, canInts ns]; simp [PyData.canLay0]
theorem depInts : ∀ ns : List Int, PyData.depthAll (ns.map PyData.int) ≤ 10
  | [] => by simp [PyData.depthAll]
  | n :: ns => by
    have := depInts ns
    rw [List.map_cons, PyData.depthAll]
    have h2 : (PyData.int n).depth ≤ 10 := by simp [PyData.depth]
    omega
theorem shInts (ns : List Int) : SeqAt.shaped (intsD ns) = true := by
  refine Bool.and_eq_true_iff.mpr ⟨?_, decide_eq_true ?_⟩
  · unfold intsD
    rw [PyData.canLay0]
    exact canInts ns
  · have := depInts ns
    unfold intsD
    rw [PyData.depth]
    omega
theorem eqInts1 : ∀ ns ms : List Int, PyData.eqvAll (ns.map PyData.int) (ms.map PyData.int) = decide (ns = ms)
  | [], [] => by simp [PyData.eqvAll]
  | [], _ :: _ => by simp [PyData.eqvAll]
  | _ :: _, [] => by simp [PyData.eqvAll]
  | n :: ns, m :: ms => by
    rw [List.map_cons, List.map_cons, PyData.eqvAll, eqInts1 ns ms, Bool.eq_iff_iff]
    simp [PyData.eqv]
theorem eqInts (ns ms : List Int) : PyData.eqv (intsD ns) (intsD ms) = decide (ns = ms) := by
  unfold intsD
  rw [PyData.eqv]
  exact eqInts1 ns ms
theorem Dp.ints {K : PySem.W.Frag} {H : Hp} {a : Addr} {ns : List Int} (h : H a = some (.lst (ns.map V.int))) : Dp K H (.ref a) (intsD ns) := .lst (SqL.of h) (ints_dp ns)
theorem NB_le_self {ts : List Trn} (h : Srt ts) (x : Nat) : NB ts (x : Int) ≤ x := by
  induction x with
  | zero =>
    have : NB ts 0 = 0 := NB_zero h.1 fun t ht => (h.1 t ht).1
    show NB ts 0 ≤ 0
    omega
  | succ x ih =>
    have := NB_step h (x : Int)
    have e : ((x + 1 : Nat) : Int) = (x : Int) + 1 := by omega
    rw [e]
    omega
/-- the times below B -/
theorem win_at0 {g : List Trn} (h : Srt g) {B : Int} (B0 : 0 ≤ B) (hw : Srt (win g 0 (some B))) {i : Int} (i0 : 0 ≤ i) : At (win g 0 (some B)) i = if i < NB g B then At g i else none := by
  have z0 : NB g 0 = 0 := NB_zero h.1 fun t ht => (h.1 t ht).1
  have nb : ∀ x, NB (win g 0 (some B)) x = NB g (cx 0 (some B) x) := fun x => by
    rw [win_nb h.1 (fun a e => by cases e; exact B0) x, z0, Int.sub_zero]
  by_cases q : i < NB g B
  · rw [if_pos q]
    cases e : At g i with
    | none =>
      obtain ⟨n, h1, h2⟩ := (At_none h.1 i0).mp e
      have := NB_tot h.1 h1 B
      omega
    | some y =>
      have yB := (At_lt h i0 e B).mp q
      have y0 := At_nn h i0 e
      obtain ⟨e1, e2⟩ := (At_iff h i0).mp e
      refine (At_iff hw i0).mpr ⟨?_, ?_⟩
      · rw [nb]
        have : cx 0 (some B) y = y := by show (if y < 0 then 0 else if B < y then B else y) = y; rw [if_neg (by omega), if_neg (by omega)]
        rw [this, e1]
      · rw [nb]
        have : cx 0 (some B) (y + 1) = y + 1 := by show (if y + 1 < 0 then 0 else if B < y + 1 then B else y + 1) = y + 1; rw [if_neg (by omega), if_neg (by omega)]
        rw [this, e2]
  · rw [if_neg q]
    cases e : At (win g 0 (some B)) i with
    | none => rfl
    | some y =>
      obtain ⟨_, e2⟩ := (At_iff hw i0).mp e
      rw [nb] at e2
      have := NB_mono h.1 (show cx 0 (some B) (y + 1) ≤ B by
        show (if y + 1 < 0 then 0 else if B < y + 1 then B else y + 1) ≤ B
        split
        · exact B0
        · split <;> omega)
      omega
def spHd (ts : List Trn) (c : Int) : List Trn := match At ts c with
  | none => win ts 0 none
  | some y => win ts 0 (some y)
def spTail (ts : List Trn) (c : Int) : List Trn := match At ts c with
  | none => []
  | some y => win ts y none
def lastE (t : Trn) : Option Int := t.2.2.map fun c => t.1 + (c - 1) * t.2.1
def behB (ts us : List Trn) : Bool := match ts.getLast?, us.head? with
  | some t, some u => match lastE t with
    | none => false
    | some e => decide (e < u.1)
  | _, _ => true
theorem lastV_e (t : Trn) : lastV t = cV (lastE t) := by
  unfold lastV lastE
  cases t.2.2 <;> rfl
theorem beh_srt {ts us : List Trn} (hs : Srt ts) (hs' : Srt us) (h : behB ts us = true) : Srt (ts ++ us) := by
  refine ⟨fun t ht => ?_, List.pairwise_append.mpr ⟨hs.2, hs'.2, fun t ht u hu => ?_⟩⟩
  · rcases List.mem_append.mp ht with ht | ht
    · exact hs.1 t ht
    · exact hs'.1 t ht
  · unfold behB at h
    cases hl : ts.getLast? with
    | none => rw [List.getLast?_eq_none_iff.mp hl] at ht; cases ht
    | some la =>
      cases hh : us.head? with
      | none => rw [List.head?_eq_none_iff.mp hh] at hu; cases hu
      | some fi =>
        rw [hl, hh] at h
        have h : (match lastE la with | none => false | some e => decide (e < fi.1)) = true := h
        cases hc : la.2.2 with
        | none =>
          unfold lastE at h
          rw [hc] at h
          cases h
        | some c =>
          unfold lastE at h
          rw [hc] at h
          have hlt : la.1 + (c - 1) * la.2.1 < fi.1 := of_decide_eq_true h
          have hfi : fi.1 ≤ u.1 := by
            cases us with
            | nil => cases hu
            | cons v r =>
              cases hh
              rcases List.mem_cons.mp hu with rfl | hu
              · exact Int.le_refl _
              · exact Int.le_of_lt (lt_start hs'.head (hs'.lt u hu))
          obtain ⟨ini, rfl⟩ := List.getLast?_eq_some_iff.mp hl
          rcases List.mem_append.mp ht with ht | ht
          · obtain ⟨d, hd, hl2⟩ := (List.pairwise_append.mp hs.2).2.2 t ht la (List.mem_singleton.mpr rfl)
            have ok := hs.1 la (List.mem_append_right _ (List.mem_singleton.mpr rfl))
            have c1 := ok.2.2 c hc
            have := Int.mul_nonneg (show 0 ≤ c - 1 by omega) (show 0 ≤ la.2.1 by have := ok.2.1; omega)
            exact ⟨d, hd, by omega⟩
          · rw [List.mem_singleton.mp ht]
            exact ⟨c, hc, by omega⟩
/-! ### next_time -/
theorem nx_none {ts : List Trn} (h : Srt ts) (x : Int) : nxT ts x = none ↔ Tot ts = some (NB ts x) := by
  have n0 := NB_nn h.1 x
  unfold nxT
  rw [At_none h.1 n0]
  constructor
  · rintro ⟨n, e, l⟩
    have := NB_tot h.1 e x
    rw [e]
    congr 1
    omega
  · intro e
    exact ⟨_, e, Int.le_refl _⟩
theorem NB_le_pb {ts : List Trn} (h : Srt ts) {x : Int} {n : Nat} (hx : x ≤ PB n) : NB ts x ≤ PB n := by
  have p := PB_pos n
  have h1 := NB_le_self h (PB n).toNat
  have e : (((PB n).toNat : Nat) : Int) = PB n := by omega
  rw [e] at h1
  exact Int.le_trans (NB_mono h.1 hx) h1
theorem At_le {n a : Nat} : ∀ {ts : List Trn}, (∀ t ∈ ts, OkTr t) → (∀ t ∈ ts, BT n t) → ∀ {i y : Int}, 0 ≤ i → i ≤ PB a → At ts i = some y → y ≤ PB (n + a + 1)
  | [], _, _, i, y, _, _, e => by cases e
  | t :: ts, h, hb, i, y, i0, ia, e => by
    have ok := h t (List.mem_cons_self ..)
    have b := hb t (List.mem_cons_self ..)
    have bs := b.s
    have m := PB_mul i0 ia (show 0 ≤ t.2.1 by have := ok.2.1; omega) b.p
    have q1 : PB n ≤ PB (n + a) := PB_le (by omega)
    have q2 := PB_succ (n + a)
    have q3 : PB (a + n) = PB (n + a) := by rw [Nat.add_comm]
    by_cases c : ∀ c, t.2.2 = some c → i < c
    · rw [At_lo c] at e
      have := Option.some.inj e
      omega
    · cases hk : t.2.2 with
      | none => exact absurd (fun c hc => by rw [hk] at hc; cases hc) c
      | some d =>
        have hd : ¬ i < d := fun l => c fun c hc => by rw [hk] at hc; cases hc; exact l
        rw [At_some_t hk, if_neg hd] at e
        have := ok.2.2 d hk
        exact At_le (fun u hu => h u (List.mem_cons_of_mem _ hu)) (fun u hu => hb u (List.mem_cons_of_mem _ hu)) (by omega) (by omega) e
theorem tot_le {n : Nat} {ts : List Trn} (h : Srt ts) (hb : ∀ t ∈ ts, BT n t) {N : Int} (e : Tot ts = some N) : N ≤ PB (n + 1) := by
  have hf : ∀ t ∈ ts, t.2.2 ≠ none := fun t ht q => by rw [tot_none ht q] at e; cases e
  have p := PB_pos n
  have q := PB_succ n
  have := NB_full h.1 e (B := PB (n + 1)) fun t ht c hc => by
    have := (hb t ht).c c hc
    omega
  rw [← this]
  exact NB_le_pb h (Int.le_refl _)
/-! ### times that are in both of two trains -/
def inT (t : Trn) (x : Int) : Prop := ∃ i, 0 ≤ i ∧ (∀ c, t.2.2 = some c → i < c) ∧ x = t.1 + i * t.2.1
def inL (ts : List Trn) (x : Int) : Prop := ∃ t ∈ ts, inT t x
theorem in_nb {t : Trn} (h : OkTr t) (x : Int) : inT t x ↔ nbT t x < nbT t (x + 1) := by
  have n0 := nbT_nn h x
  have p1 := h.2.1
  constructor
  · rintro ⟨i, i0, hc, rfl⟩
    have a := (nbT_lt h i0 hc (x := t.1 + i * t.2.1 + 1)).mpr (by omega)
    have b : ¬ i < nbT t (t.1 + i * t.2.1) := fun z => by have := (nbT_lt h i0 hc).mp z; omega
    omega
  · intro z
    have hc : ∀ c, t.2.2 = some c → nbT t x < c := fun c e => by
      have := nbT_le (x := x + 1) e
      omega
    have a := (nbT_lt h n0 hc (x := x + 1)).mp z
    have b : ¬ t.1 + nbT t x * t.2.1 < x := fun y => by
      have := (nbT_lt h n0 hc).mpr y
      omega
    exact ⟨nbT t x, n0, hc, by omega⟩
theorem in_mem : ∀ {ts : List Trn}, (∀ t ∈ ts, OkTr t) → ∀ x, inL ts x ↔ NB ts x < NB ts (x + 1)
  | [], _, x => ⟨fun ⟨_, h, _⟩ => (by cases h), fun h => absurd h (Int.lt_irrefl _)⟩
  | t :: r, h, x => by
    have ih := in_mem (ts := r) (fun u hu => h u (List.mem_cons_of_mem _ hu)) x
    have h1 := in_nb (h t (List.mem_cons_self ..)) x
    have m1 := nbT_mono (h t (List.mem_cons_self ..)) (x := x) (y := x + 1) (by omega)
    have m2 := NB_mono (ts := r) (fun u hu => h u (List.mem_cons_of_mem _ hu)) (x := x) (y := x + 1) (by omega)
    have e : inL (t :: r) x ↔ inT t x ∨ inL r x := ⟨fun ⟨u, hu, k⟩ => by
        rcases List.mem_cons.mp hu with rfl | hu
        · exact .inl k
        · exact .inr ⟨u, hu, k⟩, fun k => by
        rcases k with k | ⟨u, hu, k⟩
        · exact ⟨t, List.mem_cons_self .., k⟩
        · exact ⟨u, List.mem_cons_of_mem _ hu, k⟩⟩
    show inL (t :: r) x ↔ nbT t x + NB r x < nbT t (x + 1) + NB r (x + 1)
    rw [e, h1, ih]
    omega
theorem in_cons {t : Trn} {r : List Trn} {x : Int} : inL (t :: r) x ↔ inT t x ∨ inL r x := ⟨fun ⟨u, hu, k⟩ => by
    rcases List.mem_cons.mp hu with rfl | hu
    · exact .inl k
    · exact .inr ⟨u, hu, k⟩, fun k => by
    rcases k with k | ⟨u, hu, k⟩
    · exact ⟨t, List.mem_cons_self .., k⟩
    · exact ⟨u, List.mem_cons_of_mem _ hu, k⟩⟩
theorem in_app {a b : List Trn} {x : Int} : inL (a ++ b) x ↔ inL a x ∨ inL b x := by
  constructor
  · rintro ⟨u, hu, k⟩
    rcases List.mem_append.mp hu with hu | hu
    · exact .inl ⟨u, hu, k⟩
    · exact .inr ⟨u, hu, k⟩
  · rintro (⟨u, hu, k⟩ | ⟨u, hu, k⟩)
    · exact ⟨u, List.mem_append_left _ hu, k⟩
    · exact ⟨u, List.mem_append_right _ hu, k⟩
theorem in_ge {t : Trn} (h : OkTr t) {x : Int} (k : inT t x) : t.1 ≤ x := by
  obtain ⟨i, i0, _, rfl⟩ := k
  have := Int.mul_nonneg i0 (show 0 ≤ t.2.1 by have := h.2.1; omega)
  omega
theorem in_le {t : Trn} (h : OkTr t) {x c : Int} (hc : t.2.2 = some c) (k : inT t x) : x ≤ t.1 + (c - 1) * t.2.1 := by
  obtain ⟨i, i0, hi, rfl⟩ := k
  have := hi c hc
  have := Int.mul_le_mul_of_nonneg_right (show i ≤ c - 1 by omega) (show 0 ≤ t.2.1 by have := h.2.1; omega)
  omega
theorem in_first {t : Trn} (h : OkTr t) : inT t t.1 := ⟨0, Int.le_refl _, fun c e => by have := h.2.2 c e; omega, by omega⟩
theorem in_last {t : Trn} (h : OkTr t) {c : Int} (hc : t.2.2 = some c) : inT t (t.1 + (c - 1) * t.2.1) :=
  ⟨c - 1, by have := h.2.2 c hc; omega, fun d e => by rw [hc] at e; cases e; omega, rfl⟩
theorem in_big {t : Trn} (h : OkTr t) (e : t.2.2 = none) (B : Int) : ∃ x, B < x ∧ inT t x := by
  have s0 := h.1
  have p1 := h.2.1
  refine ⟨t.1 + (if 0 ≤ B then B + 1 else 1) * t.2.1, ?_, _, by split <;> omega, fun c hc => (by rw [e] at hc; cases hc), rfl⟩
  split
  · have := Int.mul_le_mul_of_nonneg_left p1 (show 0 ≤ B + 1 by omega)
    omega
  · omega
/-- the same times, the same numbers of times -/
theorem nb_of_in {ts us : List Trn} (h : Srt ts) (h' : Srt us) (e : ∀ x, inL ts x ↔ inL us x) : ∀ x, NB ts x = NB us x := by
  have z : ∀ n : Nat, NB ts (n : Int) = NB us (n : Int) := fun n => by
    induction n with
    | zero =>
      rw [NB_zero h.1 (x := ((0 : Nat) : Int)) fun t ht => (h.1 t ht).1, NB_zero h'.1 (x := ((0 : Nat) : Int)) fun t ht => (h'.1 t ht).1]
    | succ n ih =>
      have a := in_mem h.1 (n : Int)
      have b := in_mem h'.1 (n : Int)
      have c := NB_step h (n : Int)
      have d := NB_step h' (n : Int)
      have m1 := NB_mono h.1 (x := (n : Int)) (y := n + 1) (by omega)
      have m2 := NB_mono h'.1 (x := (n : Int)) (y := n + 1) (by omega)
      have q : NB ts (n : Int) < NB ts ((n : Int) + 1) ↔ NB us (n : Int) < NB us ((n : Int) + 1) := a.symm.trans ((e n).trans b)
      rw [Int.natCast_succ]
      by_cases y : NB ts (n : Int) < NB ts ((n : Int) + 1)
      · have := q.mp y
        omega
      · have : ¬ NB us (n : Int) < NB us ((n : Int) + 1) := fun w => y (q.mpr w)
        omega
  intro x
  by_cases x0 : 0 ≤ x
  · obtain ⟨n, rfl⟩ : ∃ n : Nat, x = n := ⟨x.toNat, by omega⟩
    exact z n
  · rw [NB_zero h.1 fun t ht => by have := (h.1 t ht).1; omega, NB_zero h'.1 fun t ht => by have := (h'.1 t ht).1; omega]
theorem in_of_nb {ts us : List Trn} (h : Srt ts) (h' : Srt us) (e : ∀ x, NB ts x = NB us x) (x : Int) : inL ts x ↔ inL us x := by
  rw [in_mem h.1, in_mem h'.1, e, e]
theorem in_one {m : Trn} {x : Int} : inL [m] x ↔ inT m x := by
  rw [in_cons]
  exact ⟨fun h => by
    rcases h with h | ⟨_, h, _⟩
    · exact h
    · exact (nomatch h), fun h => Or.inl h⟩
theorem in_nil {x : Int} : ¬ inL [] x := fun ⟨_, h, _⟩ => nomatch h
/-! ### Euclid -/
structure Euc (p q d f : Int) : Prop where
  d1 : 1 ≤ d
  dp : d ∣ p
  dq : d ∣ q
  bz : ∃ k, f * p = d + k * q
  fb : -q ≤ f ∧ f ≤ q
structure EuS (p q d r f g : Int) : Prop where
  d1 : 1 ≤ d
  r0 : 0 ≤ r
  db : d ≤ p ∨ d ≤ q
  rb : r ≤ q
  bf : ∃ k, f * p = d + k * q
  bg : ∃ k, g * p = r + k * q
  dv : ∀ z, z ∣ d → z ∣ r → z ∣ p ∧ z ∣ q
  sg : ∃ e a b : Int, (e = 1 ∨ e = -1) ∧ 0 ≤ a ∧ 0 ≤ b ∧ f = e * a ∧ g = -(e * b) ∧ b * d + a * r = q ∧ a ≤ q ∧ b ≤ q
theorem eus_start {p q : Int} (hp : 1 ≤ p) (hq : 1 ≤ q) : EuS p q p q 1 0 :=
  ⟨hp, by omega, .inl (Int.le_refl _), Int.le_refl _, ⟨0, by omega⟩, ⟨-1, by omega⟩, fun z a b => ⟨a, b⟩, 1, 1, 0, .inl rfl, by decide, by decide, by decide, by decide, by omega, hq, by omega⟩
theorem eus_step {p q d r f g : Int} (h : EuS p q d r f g) (hr : 0 < r) : EuS p q r (d % r) g (f - d / r * g) := by
  obtain ⟨d1, r0, db, rb, ⟨k1, b1⟩, ⟨k2, b2⟩, dv, e, a, b, he, a0, b0, rfl, rfl, hq, al, bl⟩ := h
  have m0 := Int.emod_nonneg d (show r ≠ 0 by omega)
  have ml := Int.emod_lt_of_pos d hr
  have dm := Int.mul_ediv_add_emod d r
  have q0 : 0 ≤ d / r := Int.ediv_nonneg (by omega) r0
  have ee : e * e = 1 := by rcases he with rfl | rfl <;> decide
  have qb : 0 ≤ d / r * b := Int.mul_nonneg q0 b0
  generalize hQ : d / r = Q at *
  generalize hM : d % r = M at *
  have hd : d = r * Q + M := dm.symm
  have hN : (a + Q * b) * r + b * M = q := by
    rw [← hq, hd, Int.mul_add, Int.add_mul, show b * (r * Q) = Q * b * r by rw [Int.mul_comm b, Int.mul_comm r Q, Int.mul_assoc, Int.mul_comm r b, ← Int.mul_assoc]]
    omega
  refine ⟨by omega, m0, .inr (by omega), by omega, ⟨k2, b2⟩, ⟨k1 - Q * k2, ?_⟩, ?_, -e, b, a + Q * b, ?_, b0, by omega, ?_, ?_, ?_, bl, ?_⟩
  · have : (e * a - Q * -(e * b)) * p = e * a * p - Q * (-(e * b) * p) := by rw [Int.sub_mul, Int.mul_assoc Q]
    rw [this, b1, b2, hd, Int.mul_add, Int.sub_mul, Int.mul_comm r Q, Int.mul_assoc Q k2 q]
    omega
  · intro z zr zm
    have zd : z ∣ d := by rw [hd]; exact Int.dvd_add (Int.dvd_trans zr (Int.dvd_mul_right r Q)) zm
    exact dv z zd zr
  · rcases he with rfl | rfl
    · exact .inr rfl
    · exact .inl rfl
  · rw [Int.neg_mul]
  · rw [Int.neg_mul, Int.neg_neg, Int.mul_add, Int.mul_neg, Int.sub_neg, Int.mul_left_comm Q e b]
  · exact hN
  · have h1 := Int.mul_le_mul_of_nonneg_left (show (1 : Int) ≤ r by omega) (show 0 ≤ a + Q * b by omega)
    have h2 := Int.mul_nonneg b0 m0
    omega
theorem eus_end {p q d f g : Int} (hp : 1 ≤ p) (hq : 1 ≤ q) (h : EuS p q d 0 f g) : Euc p q d f := by
  obtain ⟨d1, r0, db, rb, b1, ⟨k2, b2⟩, dv, e, a, b, he, a0, b0, rfl, rfl, _, al, bl⟩ := h
  have z := dv d (Int.dvd_refl _) (Int.dvd_zero _)
  refine ⟨d1, z.1, z.2, b1, ?_⟩
  rcases he with rfl | rfl <;> omega
theorem EuS.gbd {p q d r f g : Int} (h : EuS p q d r f g) : -q ≤ g ∧ g ≤ q ∧ -q ≤ f ∧ f ≤ q := by
  obtain ⟨e, a, b, he, a0, b0, rfl, rfl, _, al, bl⟩ := h.sg
  rcases he with rfl | rfl <;> omega
/-! ### windows and splits as sets of times -/
theorem in_win2 {g : List Trn} (h : Srt g) {f : Int} {after : Option Int} (f0 : 0 ≤ f) (hf : ∀ a, after = some a → f ≤ a) (hw : Srt (win g f after)) (x : Int) : inL (win g f after) x ↔ inL g x ∧ f ≤ x ∧ ∀ a, after = some a → x < a := by
  rw [in_mem hw.1, in_mem h.1]
  have nb := fun y => win_nb h.1 (f := f) (after := after) hf y
  rw [nb, nb]
  have mono := fun {a b : Int} (l : a ≤ b) => NB_mono h.1 l
  cases after with
  | none =>
    have e1 : ∀ y, cx f none y = if y < f then f else y := fun _ => rfl
    rw [e1, e1]
    by_cases x0 : x < f
    · rw [if_pos x0]
      by_cases x1 : x + 1 < f
      · rw [if_pos x1]
        exact ⟨fun z => by omega, fun z => by omega⟩
      · rw [if_neg x1, show x + 1 = f by omega]
        exact ⟨fun z => by omega, fun z => by omega⟩
    · rw [if_neg x0, if_neg (show ¬ (x + 1 < f) by omega)]
      exact ⟨fun z => ⟨by omega, by omega, fun a e => by cases e⟩, fun z => by have := z.1; omega⟩
  | some a =>
    have fa := hf a rfl
    have e1 : ∀ y, cx f (some a) y = if y < f then f else if a < y then a else y := fun _ => rfl
    rw [e1, e1]
    by_cases x0 : x < f
    · rw [if_pos x0]
      by_cases x1 : x + 1 < f
      · rw [if_pos x1]
        exact ⟨fun z => by omega, fun z => by omega⟩
      · have x2 : ¬ (a < x + 1) := by omega
        rw [if_neg x1, if_neg x2, show x + 1 = f by omega]
        exact ⟨fun z => by omega, fun z => by omega⟩
    · have x1 : ¬ (x + 1 < f) := by omega
      rw [if_neg x0, if_neg x1]
      by_cases xa : x < a
      · have q1 : ¬ (a < x) := by omega
        have q2 : ¬ (a < x + 1) := by omega
        rw [if_neg q1, if_neg q2]
        exact ⟨fun z => ⟨by omega, by omega, fun b e => by cases e; exact xa⟩, fun z => by have := z.1; omega⟩
      · rw [if_pos (show a < x + 1 by omega)]
        refine ⟨fun z => ?_, fun z => absurd (z.2.2 a rfl) xa⟩
        exfalso
        by_cases xe : a < x
        · rw [if_pos xe] at z
          omega
        · rw [if_neg xe, show x = a by omega] at z
          omega
theorem in_nfs {g : List Trn} (h : Srt g) (x : Int) : inL (nfs g) x ↔ inL g x := in_of_nb (nfs_srt h) h (nfs_nb h) x
/-- the times of the two parts of a split -/
theorem in_spHd {g : List Trn} (h : Srt g) {c : Int} (c0 : 0 ≤ c) (hw : Srt (spHd g c)) (x : Int) : inL (spHd g c) x ↔ inL g x ∧ NB g x < c ∨ inL g x ∧ At g c = none := by
  unfold spHd at hw ⊢
  cases e : At g c with
  | none =>
    rw [e] at hw
    show inL (win g 0 none) x ↔ _
    rw [in_win2 h (Int.le_refl _) (fun a e => by cases e) hw]
    constructor
    · rintro ⟨a, _⟩
      exact .inr ⟨a, rfl⟩
    · rintro (⟨⟨t, ht, k⟩, _⟩ | ⟨⟨t, ht, k⟩, _⟩) <;> exact ⟨⟨t, ht, k⟩, by have := in_ge (h.1 t ht) k; have := (h.1 t ht).1; omega, fun a e => by cases e⟩
  | some y =>
    rw [e] at hw
    have y0 := At_nn h c0 e
    show inL (win g 0 (some y)) x ↔ _
    rw [in_win2 h (Int.le_refl _) (fun a e => by cases e; exact y0) hw]
    have lt := At_lt h c0 e
    constructor
    · rintro ⟨a, _, b⟩
      refine .inl ⟨a, ?_⟩
      have h1 := b y rfl
      have h2 := lt x
      have h3 := lt y
      have m := NB_mono h.1 (show x ≤ y by omega)
      have h4 := (in_mem h.1 x).mp a
      have m2 := NB_mono h.1 (show x + 1 ≤ y by omega)
      omega
    · rintro (⟨a, b⟩ | ⟨_, b⟩)
      · refine ⟨a, ?_, fun z e => ?_⟩
        · obtain ⟨t, ht, k⟩ := a
          have := in_ge (h.1 t ht) k
          have := (h.1 t ht).1
          omega
        · cases e
          have h4 := (in_mem h.1 x).mp a
          have h5 := NB_step h x
          by_cases z : x < y
          · exact z
          · have h2 := (At_iff h c0).mp e
            have m := NB_mono h.1 (show y ≤ x by omega)
            omega
      · cases b
theorem in_idx {g : List Trn} (h : Srt g) {c : Int} (c0 : 0 ≤ c) (e : At g c = none) {x : Int} (k : inL g x) : NB g x < c := by
  obtain ⟨N, hT, hN⟩ := (At_none h.1 c0).mp e
  have h1 := (in_mem h.1 x).mp k
  have h2 := NB_tot h.1 hT (x + 1)
  omega
theorem in_hd {g : List Trn} (h : Srt g) {c : Int} (c0 : 0 ≤ c) (hw : Srt (spHd g c)) (x : Int) : inL (spHd g c) x ↔ inL g x ∧ NB g x < c := by
  rw [in_spHd h c0 hw]
  exact ⟨fun z => z.elim id fun ⟨a, b⟩ => ⟨a, in_idx h c0 b a⟩, .inl⟩
theorem in_tl {g : List Trn} (h : Srt g) {c : Int} (c0 : 0 ≤ c) (hw : Srt (spTail g c)) (x : Int) : inL (spTail g c) x ↔ inL g x ∧ c ≤ NB g x := by
  unfold spTail at hw ⊢
  cases e : At g c with
  | none =>
    refine ⟨fun z => absurd z in_nil, fun ⟨a, b⟩ => ?_⟩
    have := in_idx h c0 e a
    omega
  | some y =>
    rw [e] at hw
    have y0 := At_nn h c0 e
    show inL (win g y none) x ↔ _
    rw [in_win2 h y0 (fun a e => by cases e) hw]
    have h2 := (At_iff h c0).mp e
    constructor
    · rintro ⟨a, b, _⟩
      have m := NB_mono h.1 b
      exact ⟨a, by omega⟩
    · rintro ⟨a, b⟩
      refine ⟨a, ?_, fun z e => by cases e⟩
      have h4 := (in_mem h.1 x).mp a
      by_cases z : y ≤ x
      · exact z
      · have m := NB_mono h.1 (show x + 1 ≤ y by omega)
        omega
theorem sp_srt {g : List Trn} {n a : Nat} (h : Srt g) (hb : ∀ t ∈ g, BT n t) {c : Int} (c0 : 0 ≤ c) (ca : c ≤ PB a) : Srt (spHd g c) ∧ Srt (spTail g c) := by
  unfold spHd spTail
  cases e : At g c with
  | none =>
    exact ⟨(win_ok (n := n) (m := 0) (Int.le_refl _) (fun a e => by cases e) (by have := PB_pos 0; omega) (fun a e => by cases e) h hb).1, fun t ht => (by cases ht), List.Pairwise.nil⟩
  | some y =>
    have y0 := At_nn h c0 e
    have y1 := At_le h.1 hb c0 ca e
    exact ⟨(win_ok (n := n) (m := n + a + 1) (Int.le_refl _) (fun a e => by cases e; exact y0) (by have := PB_pos (n + a + 1); omega) (fun a e => by cases e; exact y1) h hb).1,
      (win_ok (n := n) (m := n + a + 1) y0 (fun a e => by cases e) y1 (fun a e => by cases e) h hb).1⟩
/-- all times of the one are before all of the other -/
theorem beh_of {g k : List Trn} (hg : Srt g) (hk : Srt k) (h : ∀ x y, inL g x → inL k y → x < y) : behB g k = true := by
  unfold behB
  cases hl : g.getLast? with
  | none => rfl
  | some la =>
    cases hh : k.head? with
    | none => rfl
    | some fi =>
      have m1 : la ∈ g := List.mem_of_getLast? hl
      have m2 : fi ∈ k := List.mem_of_head? hh
      have ok := hg.1 la m1
      have h2 := in_first (hk.1 fi m2)
      show (match lastE la with | none => false | some e => decide (e < fi.1)) = true
      cases hc : la.2.2 with
      | none =>
        obtain ⟨x, hx, hi⟩ := in_big ok hc fi.1
        have := h x fi.1 ⟨la, m1, hi⟩ ⟨fi, m2, h2⟩
        omega
      | some c =>
        unfold lastE
        rw [hc]
        exact decide_eq_true (h _ _ ⟨la, m1, in_last ok hc⟩ ⟨fi, m2, h2⟩)
theorem same_nfs {g k : List Trn} (hg : Srt g) (hk : Srt k) (h : ∀ x, inL g x ↔ inL k x) : nfs g = nfs k := (nfs_iff hg hk).mpr (nb_of_in hg hk h)
/-- the two parts of a split, put together -/
theorem split_join {g : List Trn} {n a : Nat} (h : Srt g) (hb : ∀ t ∈ g, BT n t) {c : Int} (c0 : 0 ≤ c) (ca : c ≤ PB a) : behB (nfs (spHd g c)) (nfs (spTail g c)) = true ∧ nfs (nfs (spHd g c) ++ nfs (spTail g c)) = nfs g := by
  obtain ⟨s1, s2⟩ := sp_srt h hb c0 ca
  have be : behB (nfs (spHd g c)) (nfs (spTail g c)) = true := beh_of (nfs_srt s1) (nfs_srt s2) fun x y hx hy => by
    rw [in_nfs s1, in_hd h c0 s1] at hx
    rw [in_nfs s2, in_tl h c0 s2] at hy
    by_cases z : x < y
    · exact z
    · have := NB_mono h.1 (show y ≤ x by omega)
      omega
  refine ⟨be, same_nfs (beh_srt (nfs_srt s1) (nfs_srt s2) be) h fun x => ?_⟩
  rw [in_app, in_nfs s1, in_nfs s2, in_hd h c0 s1, in_tl h c0 s2]
  constructor
  · rintro (⟨a, _⟩ | ⟨a, _⟩) <;> exact a
  · intro a
    by_cases z : NB g x < c
    · exact .inl ⟨a, z⟩
    · exact .inr ⟨a, by omega⟩
/-- windows side by side -/
theorem win_join {g : List Trn} (h : Srt g) {f m : Int} {after : Option Int} (f0 : 0 ≤ f) (fm : f ≤ m) (hm : ∀ a, after = some a → m ≤ a) (h1 : Srt (win g f (some m))) (h2 : Srt (win g m after)) (h3 : Srt (win g f after)) :
    behB (nfs (win g f (some m))) (nfs (win g m after)) = true ∧ nfs (nfs (win g f (some m)) ++ nfs (win g m after)) = nfs (win g f after) := by
  have i1 := in_win2 h f0 (after := some m) (fun a e => by cases e; exact fm) h1
  have i2 := in_win2 h (show 0 ≤ m by omega) hm h2
  have i3 := in_win2 h f0 (fun a e => by have := hm a e; omega) h3
  have be : behB (nfs (win g f (some m))) (nfs (win g m after)) = true := beh_of (nfs_srt h1) (nfs_srt h2) fun x y hx hy => by
    rw [in_nfs h1, i1] at hx
    rw [in_nfs h2, i2] at hy
    have := hx.2.2 m rfl
    omega
  refine ⟨be, same_nfs (beh_srt (nfs_srt h1) (nfs_srt h2) be) h3 fun x => ?_⟩
  rw [in_app, in_nfs h1, in_nfs h2, i1, i2, i3]
  constructor
  · rintro (⟨a, b, c⟩ | ⟨a, b, c⟩)
    · have := c m rfl
      exact ⟨a, b, fun z e => by have := hm z e; omega⟩
    · exact ⟨a, by omega, c⟩
  · rintro ⟨a, b, c⟩
    by_cases z : x < m
    · exact .inl ⟨a, b, fun w e => by cases e; exact z⟩
    · exact .inr ⟨a, by omega, c⟩
theorem tot_iff {g : List Trn} (h : ∀ t ∈ g, OkTr t) {N : Int} (N0 : 0 ≤ N) (h1 : At g N = none) (h2 : ∀ i, 0 ≤ i → i < N → At g i ≠ none) : Tot g = some N := by
  obtain ⟨m, hm, l⟩ := (At_none h N0).mp h1
  have m0 := tot_nn h m hm
  by_cases z : m < N
  · exact absurd ((At_none h m0).mpr ⟨m, hm, Int.le_refl _⟩) (h2 m m0 z)
  · rw [hm, show m = N by omega]
theorem tot_win0 {g : List Trn} (h : Srt g) {B : Int} (B0 : 0 ≤ B) (hw : Srt (win g 0 (some B))) : Tot (win g 0 (some B)) = some (NB g B) := by
  have n0 := NB_nn h.1 B
  refine tot_iff hw.1 n0 ?_ fun i i0 il => ?_
  · rw [win_at0 h B0 hw n0, if_neg (by omega)]
  · rw [win_at0 h B0 hw i0, if_pos il]
    intro e
    obtain ⟨m, hm, l⟩ := (At_none h.1 i0).mp e
    have := NB_tot h.1 hm B
    omega
theorem at_winN {g : List Trn} (h : Srt g) {f : Int} (f0 : 0 ≤ f) (hw : Srt (win g f none)) {i : Int} (i0 : 0 ≤ i) : At (win g f none) i = At g (i + NB g f) := by
  have n0 := NB_nn h.1 f
  have nb := fun y => win_nb h.1 (f := f) (after := none) (fun a e => by cases e) y
  have e1 : ∀ y, cx f none y = if y < f then f else y := fun _ => rfl
  have key : ∀ z, At (win g f none) i = some z ↔ At g (i + NB g f) = some z := fun z => by
    rw [At_iff hw i0, At_iff h (by omega), nb, nb, e1, e1]
    by_cases x0 : z < f
    · rw [if_pos x0]
      have m := NB_mono h.1 (show z + 1 ≤ f by omega)
      have m2 := NB_mono h.1 (show z ≤ z + 1 by omega)
      by_cases x1 : z + 1 < f
      · rw [if_pos x1]
        omega
      · rw [if_neg x1]
        have : z + 1 = f := by omega
        rw [this]
        rw [this] at m2
        omega
    · rw [if_neg x0, if_neg (show ¬ (z + 1 < f) by omega)]
      omega
  cases e : At g (i + NB g f) with
  | some z => exact (key z).mpr e
  | none =>
    cases e2 : At (win g f none) i with
    | none => rfl
    | some z => rw [(key z).mp e2] at e; cases e
theorem tot_winN {g : List Trn} (h : Srt g) {f : Int} (f0 : 0 ≤ f) (hw : Srt (win g f none)) : Tot (win g f none) = match Tot g with | none => none | some N => some (N - NB g f) := by
  have n0 := NB_nn h.1 f
  cases hT : Tot g with
  | none =>
    show _ = none
    cases e : Tot (win g f none) with
    | none => rfl
    | some m =>
      have m0 := tot_nn hw.1 m e
      have := (At_none hw.1 m0).mpr ⟨m, e, Int.le_refl _⟩
      rw [at_winN h f0 hw m0] at this
      obtain ⟨k, hk, _⟩ := (At_none h.1 (by omega)).mp this
      rw [hT] at hk
      cases hk
  | some N =>
    have l := NB_tot h.1 hT f
    refine tot_iff hw.1 (by omega) ?_ fun i i0 il => ?_
    · rw [at_winN h f0 hw (by omega)]
      exact (At_none h.1 (by omega)).mpr ⟨N, hT, by omega⟩
    · rw [at_winN h f0 hw i0]
      intro e
      obtain ⟨k, hk, hl⟩ := (At_none h.1 (by omega)).mp e
      rw [hT] at hk
      cases hk
      omega
theorem tot_hd {g : List Trn} (h : Srt g) {c : Int} (c0 : 0 ≤ c) (hw : Srt (spHd g c)) : Tot (spHd g c) = match Tot g with | none => some c | some N => some (if N < c then N else c) := by
  unfold spHd at hw ⊢
  cases e : At g c with
  | none =>
    rw [e] at hw
    obtain ⟨N, hT, hN⟩ := (At_none h.1 c0).mp e
    have z := tot_winN h (Int.le_refl 0) hw
    rw [hT] at z
    show Tot (win g 0 none) = _
    rw [z, hT]
    have n0 : NB g 0 = 0 := NB_zero h.1 fun t ht => (h.1 t ht).1
    show some (N - NB g 0) = some (if N < c then N else c)
    rw [n0]
    congr 1
    split <;> omega
  | some y =>
    rw [e] at hw
    have y0 := At_nn h c0 e
    have hy := ((At_iff h c0).mp e).1
    show Tot (win g 0 (some y)) = _
    rw [tot_win0 h y0 hw, hy]
    cases hT : Tot g with
    | none => rfl
    | some N =>
      show some c = some (if N < c then N else c)
      have : ¬ N ≤ c := fun l => by
        rw [(At_none h.1 c0).mpr ⟨N, hT, l⟩] at e
        cases e
      rw [if_neg (by omega)]
theorem tot_tl {g : List Trn} (h : Srt g) {c : Int} (c0 : 0 ≤ c) (hw : Srt (spTail g c)) : Tot (spTail g c) = match Tot g with | none => none | some N => some (if N - c > 0 then N - c else 0) := by
  unfold spTail at hw ⊢
  cases e : At g c with
  | none =>
    obtain ⟨N, hT, hN⟩ := (At_none h.1 c0).mp e
    rw [hT]
    show some 0 = some (if N - c > 0 then N - c else 0)
    rw [if_neg (by omega)]
  | some y =>
    rw [e] at hw
    have y0 := At_nn h c0 e
    have hy := ((At_iff h c0).mp e).1
    show Tot (win g y none) = _
    rw [tot_winN h y0 hw, hy]
    cases hT : Tot g with
    | none => rfl
    | some N =>
      show some (N - c) = some (if N - c > 0 then N - c else 0)
      have : ¬ N ≤ c := fun l => by
        rw [(At_none h.1 c0).mpr ⟨N, hT, l⟩] at e
        cases e
      rw [if_pos (by omega)]
/-! ### the first times, and the others -/
def tkn (t : Trn) (l : Int) : Int := minO l t.2.2
def divH : List Trn → Int → List Trn
  | [], _ => []
  | t :: r, l => partL t 0 (some (tkn t l)) ++ divH r (l - tkn t l)
def divT : List Trn → Int → List Trn
  | [], _ => []
  | t :: r, l => partL t (tkn t l) t.2.2 ++ divT r (l - tkn t l)
theorem nbT_0 {t : Trn} (h : OkTr t) {y : Int} (l : y ≤ t.1) : nbT t y = 0 := by
  have h1 := nbT_nn h y
  have h2 := nbT_lt h (x := y) (Int.le_refl 0) (fun c hc => by have := h.2.2 c hc; omega)
  rw [Int.zero_mul] at h2
  omega
theorem wn_div {t : Trn} (h : OkTr t) {y : Int} (k : Int) (hk : nbT t y = k) : wnT t 0 (some y) = partL t 0 (some k) ∧ wnT t y none = partL t k t.2.2 := by
  have h0 : nbT t 0 = 0 := nbT_0 h h.1
  refine ⟨?_, ?_⟩
  · show partL t (nbT t 0) (some (nbT t y)) = _
    rw [h0, hk]
  · show partL t (nbT t y) t.2.2 = _
    rw [hk]
theorem div_zero : ∀ {ts : List Trn} {y : Int}, (∀ t ∈ ts, OkTr t) → (∀ t ∈ ts, y ≤ t.1) → divH ts 0 = win ts 0 (some y) ∧ divT ts 0 = win ts y none ∧ divH ts 0 = [] ∧ (divT ts 0).length ≤ ts.length
  | [], y, _, _ => ⟨rfl, rfl, rfl, Nat.le_refl _⟩
  | t :: r, y, h, l => by
    have ok := h t (List.mem_cons_self ..)
    have tk : tkn t 0 = 0 := by
      unfold tkn
      cases hc : t.2.2 with
      | none => rfl
      | some c =>
        have := ok.2.2 c hc
        show (if c < 0 then c else 0) = 0
        rw [if_neg (by omega)]
    obtain ⟨i1, i2, i3, i4⟩ := div_zero (ts := r) (y := y) (fun u hu => h u (List.mem_cons_of_mem _ hu)) (fun u hu => l u (List.mem_cons_of_mem _ hu))
    obtain ⟨w1, w2⟩ := wn_div ok 0 (nbT_0 ok (l t (List.mem_cons_self ..)))
    have e0 : partL t 0 (some 0) = [] := rfl
    refine ⟨?_, ?_, ?_, ?_⟩
    · show partL t 0 (some (tkn t 0)) ++ divH r (0 - tkn t 0) = wnT t 0 (some y) ++ win r 0 (some y)
      rw [tk, w1, Int.sub_zero, i1]
    · show partL t (tkn t 0) t.2.2 ++ divT r (0 - tkn t 0) = wnT t y none ++ win r y none
      rw [tk, w2, Int.sub_zero, i2]
    · show partL t 0 (some (tkn t 0)) ++ divH r (0 - tkn t 0) = []
      rw [tk, Int.sub_zero, i3, e0]
      rfl
    · show (partL t (tkn t 0) t.2.2 ++ divT r (0 - tkn t 0)).length ≤ r.length + 1
      rw [tk, Int.sub_zero, List.length_append]
      have : (partL t 0 t.2.2).length ≤ 1 := by
        unfold partL
        cases t.2.2 with
        | none => exact Nat.le_refl _
        | some c => show (if 0 = c then [] else _).length ≤ 1; split <;> simp
      omega
theorem part1 (t : Trn) (a : Int) (b : Option Int) : (partL t a b).length ≤ 1 := by
  unfold partL
  cases b with
  | none => exact Nat.le_refl _
  | some c => show (if a = c then [] else _).length ≤ 1; split <;> simp
theorem At_ge : ∀ {ts : List Trn}, (∀ t ∈ ts, OkTr t) → ∀ {i y : Int}, 0 ≤ i → At ts i = some y → ∃ u ∈ ts, u.1 ≤ y
  | [], _, i, y, _, e => by cases e
  | t :: r, h, i, y, i0, e => by
    have ok := h t (List.mem_cons_self ..)
    cases hc : t.2.2 with
    | none =>
      rw [At_none_t hc] at e
      cases e
      exact ⟨t, List.mem_cons_self .., by have := Int.mul_nonneg i0 (show 0 ≤ t.2.1 by have := ok.2.1; omega); omega⟩
    | some c =>
      rw [At_some_t hc] at e
      split at e
      · cases e
        exact ⟨t, List.mem_cons_self .., by have := Int.mul_nonneg i0 (show 0 ≤ t.2.1 by have := ok.2.1; omega); omega⟩
      · obtain ⟨u, hu, l⟩ := At_ge (fun u hu => h u (List.mem_cons_of_mem _ hu)) (show 0 ≤ i - c by omega) e
        exact ⟨u, List.mem_cons_of_mem _ hu, l⟩
theorem div_win : ∀ {ts : List Trn}, Srt ts → ∀ {c y : Int}, 0 ≤ c → At ts c = some y → divH ts c = win ts 0 (some y) ∧ divT ts c = win ts y none ∧ (divH ts c).length + (divT ts c).length ≤ ts.length + 1
  | [], _, c, y, _, e => by cases e
  | t :: r, hs, c, y, c0, e => by
    have ok := hs.head
    have p1 := ok.2.1
    by_cases hlo : ∀ k, t.2.2 = some k → c < k
    · rw [At_lo hlo] at e
      have e := (Option.some.inj e).symm
      have tk : tkn t c = c := by
        unfold tkn
        cases hc : t.2.2 with
        | none => rfl
        | some k =>
          have := hlo k hc
          show (if k < c then k else c) = c
          rw [if_neg (by omega)]
      have nb : nbT t y = c := by
        have h1 := nbT_nn ok y
        have h2 := nbT_lt ok (x := y) c0 hlo
        have a1 : ¬ c < nbT t y := fun z => by have := h2.mp z; omega
        by_cases z : c = 0
        · omega
        · have h3 := nbT_lt ok (x := y) (i := c - 1) (by omega) (fun k hk => by have := hlo k hk; omega)
          have a2 : t.1 + (c - 1) * t.2.1 < y := by
            rw [e, Int.sub_mul, Int.one_mul]
            omega
          have := h3.mpr a2
          omega
      obtain ⟨w1, w2⟩ := wn_div ok c nb
      obtain ⟨i1, i2, i3, i4⟩ := div_zero (ts := r) (y := y) (fun u hu => hs.1 u (List.mem_cons_of_mem _ hu)) (fun u hu => by
        obtain ⟨k, hk, l⟩ := hs.lt u hu
        have := hlo k hk
        have : c * t.2.1 ≤ (k - 1) * t.2.1 := Int.mul_le_mul_of_nonneg_right (by omega) (by omega)
        omega)
      refine ⟨?_, ?_, ?_⟩
      · show partL t 0 (some (tkn t c)) ++ divH r (c - tkn t c) = wnT t 0 (some y) ++ win r 0 (some y)
        rw [tk, w1, Int.sub_self, i1]
      · show partL t (tkn t c) t.2.2 ++ divT r (c - tkn t c) = wnT t y none ++ win r y none
        rw [tk, w2, Int.sub_self, i2]
      · show (partL t 0 (some (tkn t c)) ++ divH r (c - tkn t c)).length + (partL t (tkn t c) t.2.2 ++ divT r (c - tkn t c)).length ≤ r.length + 1 + 1
        rw [tk, Int.sub_self, i3, List.length_append, List.length_append]
        have h1 := part1 t 0 (some c)
        have h2 := part1 t c t.2.2
        have h3 : ([] : List Trn).length = 0 := rfl
        omega
    · obtain ⟨k, hk, kc⟩ : ∃ k, t.2.2 = some k ∧ k ≤ c := by
        cases hc : t.2.2 with
        | none => exact absurd (fun k hk => by rw [hc] at hk; cases hk) hlo
        | some k => exact ⟨k, rfl, Int.not_lt.mp fun z => hlo fun k' hk' => by rw [hc] at hk'; cases hk'; exact z⟩
      have k1 := ok.2.2 k hk
      rw [At_some_t hk, if_neg (by omega)] at e
      have tk : tkn t c = k := by
        unfold tkn
        rw [hk]
        show (if k < c then k else c) = k
        split <;> omega
      obtain ⟨u, hu, ul⟩ := At_ge (fun u hu => hs.1 u (List.mem_cons_of_mem _ hu)) (show 0 ≤ c - k by omega) e
      obtain ⟨k', hk', l⟩ := hs.lt u hu
      rw [hk] at hk'
      cases hk'
      have nb : nbT t y = k := by
        have h1 := nbT_le (x := y) hk
        have h3 := nbT_lt ok (x := y) (i := k - 1) (by omega) (fun k' hk' => by rw [hk] at hk'; cases hk'; omega)
        have := h3.mpr (by omega)
        omega
      obtain ⟨w1, w2⟩ := wn_div ok k nb
      obtain ⟨i1, i2, i3⟩ := div_win hs.tail (show 0 ≤ c - k by omega) e
      refine ⟨?_, ?_, ?_⟩
      · show partL t 0 (some (tkn t c)) ++ divH r (c - tkn t c) = wnT t 0 (some y) ++ win r 0 (some y)
        rw [tk, w1, i1]
      · show partL t (tkn t c) t.2.2 ++ divT r (c - tkn t c) = wnT t y none ++ win r y none
        rw [tk, w2, i2]
      · show (partL t 0 (some (tkn t c)) ++ divH r (c - tkn t c)).length + (partL t (tkn t c) t.2.2 ++ divT r (c - tkn t c)).length ≤ r.length + 1 + 1
        rw [tk, List.length_append, List.length_append]
        have h1 := part1 t 0 (some k)
        have h2 : (partL t k t.2.2).length = 0 := by
          rw [hk]
          show (if k = k then [] else _).length = 0
          rw [if_pos rfl]
          rfl
        omega
/-! ### what a breaker passes -/
theorem at_in {g : List Trn} (h : Srt g) {i y : Int} (i0 : 0 ≤ i) (e : At g i = some y) : inL g y := by
  obtain ⟨e1, e2⟩ := (At_iff h i0).mp e
  exact (in_mem h.1 y).mpr (by omega)
theorem in_at {g : List Trn} (h : Srt g) {x : Int} (k : inL g x) : At g (NB g x) = some x := by
  have h1 := (in_mem h.1 x).mp k
  have h2 := NB_step h x
  exact (At_iff h (NB_nn h.1 x)).mpr ⟨rfl, by omega⟩
theorem at_le {g : List Trn} (h : Srt g) {i j x y : Int} (i0 : 0 ≤ i) (ij : i ≤ j) (ex : At g i = some x) (ey : At g j = some y) : x ≤ y := by
  have h1 := (At_iff h i0).mp ex
  have h2 := (At_iff h (by omega)).mp ey
  by_cases z : x ≤ y
  · exact z
  · have := NB_mono h.1 (show y + 1 ≤ x by omega)
    omega
theorem at_lt {g : List Trn} (h : Srt g) {i j x y : Int} (i0 : 0 ≤ i) (ij : i < j) (ex : At g i = some x) (ey : At g j = some y) : x < y := by
  have h1 := (At_iff h i0).mp ex
  have h2 := (At_iff h (by omega)).mp ey
  by_cases z : x < y
  · exact z
  · have := NB_mono h.1 (show y + 1 ≤ x + 1 by omega)
    omega
theorem at_end {g : List Trn} (h : Srt g) (hT : Tot g = none) {i : Int} (i0 : 0 ≤ i) : ∃ y, At g i = some y := by
  cases e : At g i with
  | some y => exact ⟨y, rfl⟩
  | none =>
    obtain ⟨n, hn, _⟩ := (At_none h.1 i0).mp e
    rw [hT] at hn
    cases hn
theorem tot_end {g : List Trn} (h : Srt g) (ha : ∀ i : Nat, At g (i : Int) ≠ none) : Tot g = none := by
  cases e : Tot g with
  | none => rfl
  | some n =>
    have n0 := tot_nn h.1 n e
    have := (At_none h.1 n0).mpr ⟨n, e, Int.le_refl _⟩
    rw [show n = ((n.toNat : Nat) : Int) by omega] at this
    exact absurd this (ha _)
theorem nx_end {g : List Trn} (h : Srt g) (hT : Tot g = none) (x : Int) : ∃ y, nxT g x = some y := at_end h hT (NB_nn h.1 x)
theorem nx_iff {g : List Trn} (h : Srt g) {x y : Int} : nxT g x = some y ↔ inL g y ∧ x ≤ y ∧ ∀ z, inL g z → x ≤ z → y ≤ z := by
  have n0 := NB_nn h.1 x
  have fw : ∀ {y}, nxT g x = some y → inL g y ∧ x ≤ y ∧ ∀ z, inL g z → x ≤ z → y ≤ z := fun {y} e => by
    have e' : At g (NB g x) = some y := e
    refine ⟨at_in h n0 e', nx_ge h e, fun z hz hx => ?_⟩
    have h1 := NB_mono h.1 hx
    exact at_le h n0 h1 e' (in_at h hz)
  refine ⟨fw, fun ⟨k, l, m⟩ => ?_⟩
  have ey := in_at h k
  have h1 := NB_mono h.1 l
  by_cases z : NB g x = NB g y
  · show At g (NB g x) = some y
    rw [z]
    exact ey
  · cases e : nxT g x with
    | none =>
      have e' : At g (NB g x) = none := e
      obtain ⟨n, hn, l2⟩ := (At_none h.1 n0).mp e'
      have := (At_none h.1 (NB_nn h.1 y)).mpr ⟨n, hn, by omega⟩
      rw [ey] at this
      cases this
    | some v =>
      obtain ⟨a, b, _⟩ := fw e
      have := m v a b
      have e' : At g (NB g x) = some v := e
      have := at_lt h n0 (show NB g x < NB g y by omega) e' ey
      omega
theorem thn_in {wt o : Int} {ts g : List Trn} (ht : Srt ts) (p : Pass wt o ts g) {x : Int} (k : inL g x) : inL ts x ∧ o + wt ≤ x := by
  have e := in_at p.srt k
  have n0 := NB_nn p.srt.1 x
  refine ⟨?_, p.ge n0 e⟩
  by_cases z : NB g x = 0
  · rw [z, p.first] at e
    exact ((nx_iff ht).mp e).1
  · obtain ⟨v, hv⟩ : ∃ v, At g (NB g x - 1) = some v := by
      cases q : At g (NB g x - 1) with
      | some v => exact ⟨v, rfl⟩
      | none =>
        obtain ⟨n, hn, l2⟩ := (At_none p.srt.1 (by omega)).mp q
        rw [(At_none p.srt.1 n0).mpr ⟨n, hn, by omega⟩] at e
        cases e
    have := p.next (NB g x - 1) v (by omega) hv
    rw [show NB g x - 1 + 1 = NB g x by omega, e] at this
    exact ((nx_iff ht).mp this.symm).1
theorem thn_end {wt o : Int} {ts g : List Trn} (ht : Srt ts) (hT : Tot ts = none) (p : Pass wt o ts g) : Tot g = none := by
  refine tot_end p.srt fun i => ?_
  induction i with
  | zero =>
    obtain ⟨y, hy⟩ := nx_end ht hT (o + wt)
    show At g 0 ≠ none
    rw [p.first, hy]
    exact fun z => nomatch z
  | succ i ih =>
    cases e : At g (i : Int) with
    | none => exact absurd e ih
    | some v =>
      obtain ⟨y, hy⟩ := nx_end ht hT (v + wt)
      have := p.next (i : Int) v (by omega) e
      rw [show ((i + 1 : Nat) : Int) = (i : Int) + 1 by omega, this, hy]
      exact fun z => nomatch z
def passG (ts : List Trn) (nd wt o : Int) : List Trn := divH ts nd ++ thnG wt o (divT ts nd)
structure RunOk (n k : Nat) (fr : Int) (ts : List Trn) : Prop where
  srt : Srt ts
  bt : ∀ t ∈ ts, BT n t
  ln : ts.length ≤ k
  en : Tot ts = none
  hd : At ts 0 = some fr
structure PassOk (ts g : List Trn) (o wt : Int) : Prop where
  sub : ∀ x, inL g x → inL ts x
  low : ∀ x, x ≤ o → inL ts x → inL g x
  op : inL g o
  nxt : ∀ x, inL g x → o ≤ x → nxT g (x + 1) = nxT ts (x + wt)
theorem in_lt_last {t : Trn} (h : OkTr t) {c : Int} (hc : t.2.2 = some c) : inT t (t.1 + (c - 1) * t.2.1) := ⟨c - 1, by have := h.2.2 c hc; omega, fun c' e => by rw [hc] at e; cases e; omega, rfl⟩
theorem pass_ok {n k : Nat} {fr : Int} {ts : List Trn} (R : RunOk n k fr ts) {nd wt : Int} (n1 : 1 ≤ nd) (n2 : nd ≤ PB 40) (w1 : 1 ≤ wt) (w2 : wt ≤ PB 100) (hn : 100 ≤ n) :
    ∃ o y, At ts (nd - 1) = some o ∧ At ts nd = some y ∧ 0 ≤ o ∧ o ≤ PB (n + 41) ∧ y ≤ PB (n + 41) ∧ fr ≤ o ∧ RunOk (n + 44) (k + 1) fr (passG ts nd wt o) ∧ PassOk ts (passG ts nd wt o) o wt ∧
      Srt (divT ts nd) ∧ (∀ t ∈ divT ts nd, BT (n + 42) t) ∧ (divT ts nd).length ≤ k + 1 ∧ divH ts nd ≠ [] ∧ (∀ t, (divH ts nd).getLast? = some t → OkTr t ∧ BT (n + 42) t ∧ lastV t = .int o) ∧ Srt (divH ts nd) ∧ (divH ts nd).length ≤ k + 1 ∧ NB ts o = nd - 1 := by
  obtain ⟨o, ho⟩ := at_end R.srt R.en (show 0 ≤ nd - 1 by omega)
  obtain ⟨y, hy⟩ := at_end R.srt R.en (show 0 ≤ nd by omega)
  have o0 := At_nn R.srt (by omega) ho
  have y0 := At_nn R.srt (by omega) hy
  have oy := at_lt R.srt (show 0 ≤ nd - 1 by omega) (by omega) ho hy
  have o1 : o ≤ PB (n + 41) := At_le R.srt.1 R.bt (a := 40) (by omega) (by omega) ho
  have y1 : y ≤ PB (n + 41) := At_le R.srt.1 R.bt (a := 40) (by omega) n2 hy
  have fo := at_le R.srt (Int.le_refl 0) (by omega) R.hd ho
  obtain ⟨d1, d2, d3⟩ := div_win R.srt (show 0 ≤ nd by omega) hy
  have hT := tot_winN R.srt (f := y) (by omega)
  obtain ⟨sh, bh, lh⟩ := win_ok (n := n) (m := n + 41) (f := 0) (after := some y) (Int.le_refl 0) (fun a e => by cases e; exact y0) (by have := PB_pos (n + 41); omega) (fun a e => by cases e; exact y1) R.srt R.bt
  obtain ⟨st, bt, lt⟩ := win_ok (n := n) (m := n + 41) (f := y) (after := none) y0 (fun a e => by cases e) y1 (fun a e => by cases e) R.srt R.bt
  have ih : ∀ x, inL (divH ts nd) x ↔ inL ts x ∧ x < y := fun x => by
    rw [d1, in_win2 R.srt (Int.le_refl 0) (fun a e => by cases e; exact y0) sh]
    constructor
    · rintro ⟨a, _, b⟩
      exact ⟨a, b y rfl⟩
    · rintro ⟨a, b⟩
      obtain ⟨u, hu, z⟩ := a
      have z0 := in_ge (R.srt.1 u hu) z
      have u0 := (R.srt.1 u hu).1
      exact ⟨⟨u, hu, z⟩, by omega, fun c e => by cases e; exact b⟩
  have it : ∀ x, inL (divT ts nd) x ↔ inL ts x ∧ y ≤ x := fun x => by
    rw [d2, in_win2 R.srt y0 (fun a e => by cases e) st]
    exact ⟨fun ⟨a, b, _⟩ => ⟨a, b⟩, fun ⟨a, b⟩ => ⟨a, b, fun c e => by cases e⟩⟩
  have hle : ∀ x, inL ts x → x < y → x ≤ o := fun x hx l => by
    have e := in_at R.srt hx
    have h2 := (At_iff R.srt (by omega)).mp hy
    have h3 := (in_mem R.srt.1 x).mp hx
    have h4 := NB_mono R.srt.1 (show x + 1 ≤ y by omega)
    exact at_le R.srt (NB_nn R.srt.1 x) (by omega) e ho
  have io : inL ts o := at_in R.srt (by omega) ho
  rw [← d2] at st bt lt hT
  rw [← d1] at sh bh lh
  rw [R.en] at hT
  have hT : Tot (divT ts nd) = none := hT st
  have P := thn_pass w1 st o
  have tb := thn_bd (n := n + 42) (m := n + 42) w1 (Int.le_trans w2 (PB_le (by omega))) st.1 (fun t ht => (bt t ht).le (by omega)) o0 (Int.le_trans o1 (PB_le (by omega)))
  rw [Nat.max_self] at tb
  have sg : Srt (passG ts nd wt o) := by
    refine ⟨fun t ht => ?_, List.pairwise_append.mpr ⟨sh.2, P.srt.2, fun t ht u hu => ?_⟩⟩
    · rcases List.mem_append.mp ht with ht | ht
      · exact sh.1 t ht
      · exact P.srt.1 t ht
    · have hu2 := P.lo u hu
      cases hc : t.2.2 with
      | some c =>
        have q := (ih _).mp ⟨t, ht, in_lt_last (sh.1 t ht) hc⟩
        have := hle _ q.1 q.2
        exact ⟨c, hc, by omega⟩
      | none =>
        have q := (ih (t.1 + y * t.2.1)).mp ⟨t, ht, y, y0, (fun c e => by rw [hc] at e; cases e), rfl⟩
        have t1 := (sh.1 t ht).2.1
        have t0 := (sh.1 t ht).1
        have : y * 1 ≤ y * t.2.1 := Int.mul_le_mul_of_nonneg_left t1 y0
        omega
  have inG : ∀ x, inL (passG ts nd wt o) x ↔ inL (divH ts nd) x ∨ inL (thnG wt o (divT ts nd)) x := fun x => in_app
  have low : ∀ x, x ≤ o → inL ts x → inL (passG ts nd wt o) x := fun x l h => (inG x).mpr (.inl ((ih x).mpr ⟨h, by omega⟩))
  have tg := thn_end st hT P
  have eg : ∀ x, inL (passG ts nd wt o) x → o < x → inL (thnG wt o (divT ts nd)) x := fun x h l => by
    rcases (inG x).mp h with h | h
    · have q := (ih x).mp h
      have := hle x q.1 q.2
      omega
    · exact h
  have nxe : ∀ z, o < z → nxT (divT ts nd) z = nxT ts z := fun z oz => by
    obtain ⟨v, hv⟩ := nx_end R.srt R.en z
    rw [hv]
    obtain ⟨a, b, c⟩ := (nx_iff R.srt).mp hv
    refine (nx_iff st).mpr ⟨(it v).mpr ⟨a, ?_⟩, b, fun w hw l => c w ((it w).mp hw).1 l⟩
    by_cases q : y ≤ v
    · exact q
    · have := hle v a (by omega)
      omega
  refine ⟨o, y, ho, hy, o0, o1, y1, fo, ⟨sg, ?_, ?_, ?_, ?_⟩, ⟨?_, low, low o (Int.le_refl _) io, ?_⟩, st, fun t ht => ?_, ?_, ?_, ?_, sh, ?_, ?_⟩
  · intro t ht
    rcases List.mem_append.mp ht with ht | ht
    · exact (bh t ht).le (by omega)
    · exact (tb.1 t ht).le (by omega)
  · show (divH ts nd ++ _).length ≤ _
    rw [List.length_append]
    have := tb.2.1
    have := R.ln
    omega
  · refine tot_end sg fun i => ?_
    intro e
    obtain ⟨m, hm, l⟩ := (At_none sg.1 (by omega)).mp e
    obtain ⟨v, hv⟩ := at_end P.srt tg (show 0 ≤ m by exact tot_nn sg.1 m hm)
    have m0 := tot_nn sg.1 m hm
    have k1 : inL (passG ts nd wt o) v := (inG v).mpr (.inr (at_in P.srt m0 hv))
    have h1 := NB_tot sg.1 hm (v + 1)
    have e1 : NB (passG ts nd wt o) (v + 1) = NB (divH ts nd) (v + 1) + NB (thnG wt o (divT ts nd)) (v + 1) := NB_app _ _ _
    have e2 := NB_nn sh.1 (v + 1)
    have e3 := (At_iff P.srt m0).mp hv
    omega
  · have k1 := low fr fo (at_in R.srt (Int.le_refl 0) R.hd)
    have e := in_at sg k1
    have h0 : NB (passG ts nd wt o) fr = 0 := by
      have n0 := NB_nn sg.1 fr
      by_cases z : NB (passG ts nd wt o) fr = 0
      · exact z
      · obtain ⟨v, hv⟩ : ∃ v, At (passG ts nd wt o) 0 = some v := by
          cases q : At (passG ts nd wt o) 0 with
          | some v => exact ⟨v, rfl⟩
          | none =>
            obtain ⟨m, hm, l⟩ := (At_none sg.1 (Int.le_refl 0)).mp q
            have := NB_tot sg.1 hm fr
            omega
        have h5 := at_lt sg (Int.le_refl 0) (show 0 < NB (passG ts nd wt o) fr by omega) hv e
        have h6 : inL ts v := by
          rcases (inG v).mp (at_in sg (Int.le_refl 0) hv) with h | h
          · exact ((ih v).mp h).1
          · exact ((it v).mp (thn_in st P h).1).1
        have := at_le R.srt (Int.le_refl 0) (NB_nn R.srt.1 v) R.hd (in_at R.srt h6)
        omega
    rw [h0] at e
    exact e
  · intro x h
    rcases (inG x).mp h with h | h
    · exact ((ih x).mp h).1
    · exact ((it x).mp (thn_in st P h).1).1
  · intro x hx ox
    obtain ⟨z, hz⟩ := nx_end R.srt R.en (x + wt)
    obtain ⟨z1, z2, z3⟩ := (nx_iff R.srt).mp hz
    have key : inL (thnG wt o (divT ts nd)) z ∧ ∀ w, inL (thnG wt o (divT ts nd)) w → x < w → z ≤ w := by
      by_cases c : o < x
      · have hxt := eg x hx c
        have e := in_at P.srt hxt
        have n0 := NB_nn P.srt.1 x
        have e2 := P.next _ x n0 e
        rw [nxe _ (by omega), hz] at e2
        refine ⟨at_in P.srt (by omega) e2, fun w hw xw => ?_⟩
        have h3 := (in_mem P.srt.1 x).mp hxt
        have h4 := NB_mono P.srt.1 (show x + 1 ≤ w by omega)
        exact at_le P.srt (by omega) (by omega) e2 (in_at P.srt hw)
      · have : x = o := by omega
        subst this
        have e2 := P.first
        rw [nxe _ (by omega), hz] at e2
        exact ⟨at_in P.srt (Int.le_refl 0) e2, fun w hw xw => at_le P.srt (Int.le_refl 0) (NB_nn P.srt.1 w) e2 (in_at P.srt hw)⟩
    rw [hz]
    exact (nx_iff sg).mpr ⟨(inG z).mpr (.inr key.1), by omega, fun w hw l => key.2 w (eg w hw (by omega)) (by omega)⟩
  · exact (bt t ht).le (by omega)
  · have := R.ln
    have := List.length_append (as := divH ts nd) (bs := divT ts nd)
    omega
  · intro e
    have := (ih o).mpr ⟨io, oy⟩
    rw [e] at this
    obtain ⟨u, hu, _⟩ := this
    cases hu
  · intro t ht
    have hm : t ∈ divH ts nd := by
      obtain ⟨ini, e⟩ := List.getLast?_eq_some_iff.mp ht
      rw [e]
      exact List.mem_append_right _ (List.mem_singleton.mpr rfl)
    refine ⟨sh.1 t hm, (bh t hm).le (by omega), ?_⟩
    cases hc : t.2.2 with
    | none =>
      have q := (ih (t.1 + y * t.2.1)).mp ⟨t, hm, y, y0, (fun c e => by rw [hc] at e; cases e), rfl⟩
      have t1 := (sh.1 t hm).2.1
      have t0 := (sh.1 t hm).1
      have : y * 1 ≤ y * t.2.1 := Int.mul_le_mul_of_nonneg_left t1 y0
      omega
    | some c =>
      have q := (ih _).mp ⟨t, hm, in_lt_last (sh.1 t hm) hc⟩
      have l1 := hle _ q.1 q.2
      obtain ⟨u, hu, ho2⟩ := (ih o).mpr ⟨io, oy⟩
      have l2 : o ≤ t.1 + (c - 1) * t.2.1 := by
        obtain ⟨ini, e⟩ := List.getLast?_eq_some_iff.mp ht
        rw [e] at hu sh
        rcases List.mem_append.mp hu with hu | hu
        · obtain ⟨c', hc', l⟩ := (List.pairwise_append.mp sh.2).2.2 u hu t (List.mem_singleton.mpr rfl)
          obtain ⟨i, i0, hi, e⟩ := ho2
          have := hi c' hc'
          have ok := sh.1 u (List.mem_append_left _ hu)
          have ok2 := sh.1 t (List.mem_append_right _ (List.mem_singleton.mpr rfl))
          have : i * u.2.1 ≤ (c' - 1) * u.2.1 := Int.mul_le_mul_of_nonneg_right (by omega) (by have := ok.2.1; omega)
          have := Int.mul_nonneg (show 0 ≤ c - 1 by have := ok2.2.2 c hc; omega) (show 0 ≤ t.2.1 by have := ok2.2.1; omega)
          omega
        · rw [List.mem_singleton.mp hu] at ho2
          obtain ⟨i, i0, hi, e⟩ := ho2
          have := hi c hc
          have ok2 := sh.1 t (List.mem_append_right _ (List.mem_singleton.mpr rfl))
          have : i * t.2.1 ≤ (c - 1) * t.2.1 := Int.mul_le_mul_of_nonneg_right (by omega) (by have := ok2.2.1; omega)
          omega
      unfold lastV
      rw [hc]
      show V.int (t.1 + (c - 1) * t.2.1) = .int o
      congr 1
      omega
  · have := R.ln
    omega
  · exact ((At_iff R.srt (by omega)).mp ho).1
/-! ### states of breakers, and data of them -/
abbrev StD := Str × Int
def StAt (H : Hp) (x : V) (s : StD) : Prop := ∃ a, x = .ref a ∧ H a = some (.tup [.str s.1, .int s.2])
abbrev Sts (H : Hp) (xs : List V) (ss : List StD) : Prop := Paired (StAt H) xs ss
theorem StAt.nl {H H' : Hp} (k : NL H H') {x : V} {d : StD} (h : StAt H x d) : StAt H' x d := by
  obtain ⟨a, e, h⟩ := h
  exact ⟨a, e, k _ _ h fun _ z => nomatch z⟩
theorem Sts.nl {H H' : Hp} (k : NL H H') {xs : List V} {ss : List StD} (h : Sts H xs ss) : Sts H' xs ss := L2.Paired.mapP h fun _ _ z => z.nl k
theorem paired_len {α β : Type} {F : α → β → Prop} : ∀ {xs : List α} {ys : List β}, Paired F xs ys → xs.length = ys.length
  | _, _, .nil => rfl
  | _, _, .cons _ p => by rw [List.length_cons, List.length_cons, paired_len p]
theorem paired_get {α β : Type} {F : α → β → Prop} : ∀ {xs : List α} {ys : List β} {i : Nat} {x : α}, Paired F xs ys → xs[i]? = some x → ∃ y, ys[i]? = some y ∧ F x y
  | _, _, i, x, .nil, e => by cases e
  | _, _, 0, x, .cons h _, e => by cases e; exact ⟨_, rfl, h⟩
  | _, _, i + 1, x, .cons _ p, e => paired_get (i := i) p e
theorem paired_get2 {α β : Type} {F : α → β → Prop} : ∀ {xs : List α} {ys : List β} {i : Nat} {y : β}, Paired F xs ys → ys[i]? = some y → ∃ x, xs[i]? = some x ∧ F x y
  | _, _, i, x, .nil, e => by cases e
  | _, _, 0, x, .cons h _, e => by cases e; exact ⟨_, rfl, h⟩
  | _, _, i + 1, x, .cons _ p, e => paired_get2 (i := i) p e
theorem paired_app {α β : Type} {F : α → β → Prop} : ∀ {xs us : List α} {ys vs : List β}, Paired F xs ys → Paired F us vs → Paired F (xs ++ us) (ys ++ vs)
  | _, _, _, _, .nil, q => q
  | _, _, _, _, .cons h p, q => .cons h (paired_app p q)
theorem StAt.same {H H' : Hp} (s : Same H H') {x : V} {d : StD} (h : StAt H x d) : StAt H' x d := by
  obtain ⟨a, e, h⟩ := h
  exact ⟨a, e, s _ _ h⟩
theorem Sts.same {H H' : Hp} (s : Same H H') {xs : List V} {ss : List StD} (h : Sts H xs ss) : Sts H' xs ss := L2.Paired.mapP h fun _ _ z => z.same s
/-- the breaker passes a request at t -/
def psB (b : Tri) (s : StD) (t : Int) : Prop := s.1 = "open" → b.2.1 ≤ t - s.2
def hfS (s : StD) : StD := if s.1 = "open" then ("half", 0) else s
def okS (b : Tri) (s : StD) : StD := if (hfS s).1 = "half" ∧ (hfS s).2 + 1 < b.2.2 then ("half", (hfS s).2 + 1) else ("closed", 0)
def badS (b : Tri) (s : StD) (t : Int) : StD := if (hfS s).1 = "closed" ∧ (hfS s).2 + 1 < b.1 then ("closed", (hfS s).2 + 1) else ("open", t)
theorem sC_O : ¬ (("closed" : Str) = "open") := by decide +kernel
theorem sH_O : ¬ (("half" : Str) = "open") := by decide +kernel
theorem sO_C : ¬ (("open" : Str) = "closed") := by decide +kernel
theorem sH_C : ¬ (("half" : Str) = "closed") := by decide +kernel
theorem sC_H : ¬ (("closed" : Str) = "half") := by decide +kernel
theorem sO_H : ¬ (("open" : Str) = "half") := by decide +kernel
theorem hf_closed (n : Int) : hfS (("closed" : Str), n) = (("closed" : Str), n) := if_neg sC_O
theorem hf_half (n : Int) : hfS (("half" : Str), n) = (("half" : Str), n) := if_neg sH_O
theorem hf_open (n : Int) : hfS (("open" : Str), n) = (("half" : Str), 0) := if_pos rfl
/-- what is told of a request that k of n breakers pass -/
def outV (n k : Nat) (inS : Bool) : List V := if k < n then [.str "rejected", .int k] else if inS then [.str "failed"] else [.str "served"]
def okW (s : StD) : Prop := s.1 = "closed" ∨ s.1 = "open" ∨ s.1 = "half"
def stD (s : StD) : PyData := .tuple [.str s.1, .int s.2]
theorem Sts.dp {K : PySem.W.Frag} {H : Hp} : ∀ {xs : List V} {ss : List StD}, Sts H xs ss → DpAll K H xs (ss.map stD)
  | _, _, .nil => .nil
  | _, _, .cons ⟨a, e, h⟩ t => by
    subst e
    exact .cons (.tup (SqT.of h) (.cons (.str _) (.cons (.int _) .nil))) (Sts.dp t)
theorem stD_eq (s u : StD) : PyData.eqv (stD s) (stD u) = decide (s = u) := by
  obtain ⟨a, b⟩ := s
  obtain ⟨a', b'⟩ := u
  simp only [stD, PyData.eqv, PyData.eqvAll, Bool.and_true]
  rw [Bool.eq_iff_iff]
  simp [Prod.ext_iff]
theorem stDs_eq : ∀ ss us : List StD, PyData.eqvAll (ss.map stD) (us.map stD) = decide (ss = us)
  | [], [] => by simp [PyData.eqvAll]
  | [], _ :: _ => by simp [PyData.eqvAll]
  | _ :: _, [] => by simp [PyData.eqvAll]
  | t :: ts, u :: us => by
    rw [List.map_cons, List.map_cons, PyData.eqvAll, stD_eq, stDs_eq ts us, Bool.eq_iff_iff]
    simp
theorem sok_W {s : StD} (h : okW s) : PyData.strOk s.1 = true := by
  obtain ⟨a, b⟩ := s
  rcases h with h | h | h
  · have h : a = "closed" := h
    subst h
    show PyData.strOk "closed" = true
    decide +kernel
  · have h : a = "open" := h
    subst h
    show PyData.strOk "open" = true
    decide +kernel
  · have h : a = "half" := h
    subst h
    show PyData.strOk "half" = true
    decide +kernel
theorem canSts : ∀ {ss : List StD}, (∀ s ∈ ss, okW s) → PyData.canLayAll0 (ss.map stD) = true
  | [], _ => by simp [PyData.canLayAll0]
  | t :: ts, h => by
    rw [List.map_cons, PyData.canLayAll0, canSts fun s hs => h s (List.mem_cons_of_mem _ hs)]
    simp [stD, PyData.canLay0, PyData.canLayAll0, sok_W (h t (List.mem_cons_self ..))]
theorem depSts : ∀ ss : List StD, PyData.depthAll (ss.map stD) ≤ 10
  | [] => by simp [PyData.depthAll]
  | t :: ts => by
    have := depSts ts
    rw [List.map_cons, PyData.depthAll]
    have h2 : (stD t).depth ≤ 10 := by simp [stD, PyData.depth, PyData.depthAll]
    omega
theorem shSts {ss : List StD} (h : ∀ s ∈ ss, okW s) : SeqAt.shaped (.list (ss.map stD)) = true := by
  refine Bool.and_eq_true_iff.mpr ⟨?_, decide_eq_true ?_⟩
  · rw [PyData.canLay0]
    exact canSts h
  · have := depSts ss
    rw [PyData.depth]
    omega
theorem Sts.dpl {K : PySem.W.Frag} {H : Hp} {l : Addr} {ys : List V} {ss : List StD} (h : H l = some (.lst ys)) (s : Sts H ys ss) : Dp K H (.ref l) (.list (ss.map stD)) := .lst (SqL.of h) s.dp
theorem eqSts (ss us : List StD) : PyData.eqv (.list (ss.map stD)) (.list (us.map stD)) = decide (ss = us) := by
  rw [PyData.eqv]
  exact stDs_eq ss us
/-! ### the states before all requests -/
theorem sts_rep {H : Hp} {t : Addr} {d : StD} (h : H t = some (.tup [.str d.1, .int d.2])) : ∀ n : Nat, Sts H (List.replicate n (V.ref t)) (List.replicate n d)
  | 0 => .nil
  | n + 1 => .cons ⟨t, rfl, h⟩ (sts_rep h n)
def spClosed : Sp := fun vs H Q _ => ∃ n : Nat, vs = [.int n] ∧ n ≤ 100 ∧ ∀ l ys H', H' l = some (.lst ys) → Sts H' ys (List.replicate n ("closed", 0)) → Same H H' → H l = none → Q (.ref l) H'
section
variable {P : Program} {w : World} {K : PySem.W.Frag} {mg : Str → Option Value} {base : Heap} {L : LA}
abbrev N_closedstates : List Str := ["number"]
theorem sc_closedstates : FnScope N_closedstates ["number"] (defScope st_closed_states) := ⟨rfl, rfl, rfl, by decide +kernel, rfl, by decide +kernel, by decide +kernel⟩
theorem fn_closedstates (T : LX K mg L) {fd : FuncData} (F : Fun K "closed_states" "closed_states" st_closed_states L.f_closed_states fd) : FnOk P w K mg base CX0 3 L.f_closed_states fd ["number"] (spClosed) := by
  have nd := sc_closedstates.nd
  refine F.ok sc_closedstates (fun vs H Q E h => ?_) (fun cdv A outer S H vs Q E hr h => ?_)
  · obtain ⟨n, rfl, _⟩ := h
    rfl
  · obtain ⟨n, rfl, hn, k⟩ := h
    refine ⟨_, (pss_one (ps_ret (pe_op op_rep (pe_lst (pa_cons (pe_tup (pa_cons pe_str (pa_cons pe_int pa_nil))) pa_nil)) (pv 0)))), ?_⟩
    refine ⟨(by show 2 ≤ sizeLine; decide), fun t ht => ⟨(by show 1 ≤ sizeLine; decide), fun l hl => ?_⟩⟩
    have s1 := Same.upd (o := .tup [.str "closed", .int 0]) ht
    have s2 := s1.trans (Same.upd (o := .lst [.ref t]) hl)
    refine ⟨_, rfl, ?_⟩
    refine ⟨l, _, [.ref t], rfl, rfl, upd_same, by omega, by omega, small2 (by rw [Int.toNat_natCast]; show 1 * n ≤ 100000; omega), fun r hr => ?_⟩
    have s3 := s2.trans (Same.upd (o := .lst (List.replicate (n : Int).toNat [V.ref t]).flatten) hr)
    refine k r _ _ upd_same ?_ s3 (none_of s2 hr)
    rw [Int.toNat_natCast, List.flatten_replicate_singleton]
    have ht3 : (upd (upd (upd H t (.tup [.str "closed", .int 0])) l (.lst [.ref t])) r (.lst (List.replicate n (V.ref t)))) t = some (.tup [.str "closed", .int 0]) := by
      have h1 : (upd (upd H t (.tup [.str "closed", .int 0])) l (.lst [.ref t])) t = some (.tup [.str "closed", .int 0]) := (Same.upd hl) _ _ upd_same
      rw [upd_ne (ne_of_none h1 hr)]
      exact h1
    exact sts_rep ht3 n
theorem ok_closedstates (T : LX K mg L) : Cal P w K mg base "closed_states" 3 L.f_closed_states ["number"] (spClosed) := T.d_closed_states.cal fun fd F => fn_closedstates T F
end
/-! ### what no change of an older list can touch -/
def Fr (H0 H : Hp) : Hp := fun b => match H b with
  | some (.lst xs) => (match H0 b with
    | none => some (.lst xs)
    | some _ => none)
  | o => o
theorem Fr.nol {H0 H : Hp} {b : Addr} {o : HO} (h : H b = some o) (n : ∀ xs, o ≠ .lst xs) : Fr H0 H b = some o := by
  unfold Fr
  rw [h]
  cases o with
  | lst xs => exact absurd rfl (n xs)
  | _ => rfl
theorem Fr.new {H0 H : Hp} {b : Addr} (h : H0 b = none) : Fr H0 H b = H b := by
  unfold Fr
  cases e : H b with
  | none => rfl
  | some o =>
    cases o with
    | lst xs =>
      show (match H0 b with | none => some (HO.lst xs) | some _ => none) = _
      rw [h]
    | _ => rfl
theorem Fr.inv {H0 H : Hp} {b : Addr} {o : HO} (h : Fr H0 H b = some o) : H b = some o ∧ (H0 b = none ∨ ∀ xs, o ≠ .lst xs) := by
  unfold Fr at h
  cases e : H b with
  | none => rw [e] at h; cases h
  | some u =>
    rw [e] at h
    cases u with
    | lst xs =>
      have h : (match H0 b with | none => some (HO.lst xs) | some _ => none) = some o := h
      cases q : H0 b with
      | none => rw [q] at h; cases h; exact ⟨rfl, .inl rfl⟩
      | some z => rw [q] at h; cases h
    | _ => cases h; exact ⟨rfl, .inr fun xs z => nomatch z⟩
theorem Fr.of {H0 H : Hp} {b : Addr} {o : HO} (h : H b = some o) (n : H0 b = none ∨ ∀ xs, o ≠ .lst xs) : Fr H0 H b = some o := by
  rcases n with n | n
  · rw [Fr.new n]; exact h
  · exact Fr.nol h n
theorem Fr.le {H0 H : Hp} : Same (Fr H0 H) H := fun b o e => (Fr.inv e).1
theorem Fr.ko {H0 H H' : Hp} (k : KO H0 H H') : Same (Fr H0 H) (Fr H0 H') := fun b o e => by
  obtain ⟨h, n⟩ := Fr.inv e
  exact Fr.of (k b o h n) n
theorem Fr.same {H0 H H' : Hp} (s : Same H H') : Same (Fr H0 H) (Fr H0 H') := Fr.ko (KO.same s)
theorem Fr.kp {H0 H H' : Hp} {a : Addr} {xs : List V} (k : Kp a H H') (h : H0 a ≠ none) (ha : H a = some (.lst xs)) : Same (Fr H0 H) (Fr H0 H') := Fr.ko (KO.kp k h ha)
theorem Fr.base' {H0 H1 H : Hp} (s : ∀ b, H1 b = none → H0 b = none) : Same (Fr H1 H) (Fr H0 H) := fun b o e => by
  obtain ⟨h, n⟩ := Fr.inv e
  exact Fr.of h (n.elim (fun n => .inl (s b n)) .inr)
theorem Fr.base {H0 H1 H : Hp} (s : Same H0 H1) : Same (Fr H1 H) (Fr H0 H) := Fr.base' fun b h => none_of s h
theorem Fr.nl {H0 H H' : Hp} (k : NL H H') : NL (Fr H0 H) (Fr H0 H') := fun b o e n => Fr.nol (k b o (Fr.le b o e) n) n
/-! ### states, lists of trains, and spells in the heap -/
def RunAt (H : Hp) (x : V) (ts : List Trn) : Prop := ∃ a xs, x = .ref a ∧ H a = some (.lst xs) ∧ Trs H xs ts
abbrev Rns (H : Hp) (xs : List V) (rs : List (List Trn)) : Prop := Paired (RunAt H) xs rs
theorem RunAt.same {H H' : Hp} (s : Same H H') {x : V} {ts : List Trn} (h : RunAt H x ts) : RunAt H' x ts := by
  obtain ⟨a, xs, e, h, t⟩ := h
  exact ⟨a, xs, e, s _ _ h, t.same s⟩
theorem Rns.same {H H' : Hp} (s : Same H H') {xs : List V} {rs : List (List Trn)} (h : Rns H xs rs) : Rns H' xs rs := L2.Paired.mapP h fun _ _ z => z.same s
/-- what is kept of a spell -/
structure SpD where
  first : Int
  rcv : Option Int
  bg : List StD
  rs : List (List Trn)
  op : List (Option Int)
def spF (f : Int) (r : Option Int) (aB aR aO : Addr) : List (Str × V) := putF "opened" (.ref aO) (putF "runs" (.ref aR) (putF "begun" (.ref aB) (putF "recovered" (cV r) (putF "first" (.int f) []))))
theorem spF_first (f : Int) (r : Option Int) (aB aR aO : Addr) : (spF f r aB aR aO).lookup ("first" : Str) = some (.int f) := by
  unfold spF
  rw [lookup_putF, if_neg (by decide +kernel), lookup_putF, if_neg (by decide +kernel), lookup_putF, if_neg (by decide +kernel), lookup_putF, if_neg (by decide +kernel), lookup_putF, if_pos rfl]
theorem spF_rcv (f : Int) (r : Option Int) (aB aR aO : Addr) : (spF f r aB aR aO).lookup ("recovered" : Str) = some (cV r) := by
  unfold spF
  rw [lookup_putF, if_neg (by decide +kernel), lookup_putF, if_neg (by decide +kernel), lookup_putF, if_neg (by decide +kernel), lookup_putF, if_pos rfl]
theorem spF_bg (f : Int) (r : Option Int) (aB aR aO : Addr) : (spF f r aB aR aO).lookup ("begun" : Str) = some (.ref aB) := by
  unfold spF
  rw [lookup_putF, if_neg (by decide +kernel), lookup_putF, if_neg (by decide +kernel), lookup_putF, if_pos rfl]
theorem spF_rs (f : Int) (r : Option Int) (aB aR aO : Addr) : (spF f r aB aR aO).lookup ("runs" : Str) = some (.ref aR) := by
  unfold spF
  rw [lookup_putF, if_neg (by decide +kernel), lookup_putF, if_pos rfl]
theorem spF_op (f : Int) (r : Option Int) (aB aR aO : Addr) : (spF f r aB aR aO).lookup ("opened" : Str) = some (.ref aO) := by
  unfold spF
  rw [lookup_putF, if_pos rfl]
structure SpAt (C : Addr) (H : Hp) (p aB aR aO : Addr) (xB xR : List V) (d : SpD) : Prop where
  ob : ∃ dx, H p = some (.ins C dx (spF d.first d.rcv aB aR aO))
  hB : H aB = some (.lst xB)
  sB : Sts H xB d.bg
  hR : H aR = some (.lst xR)
  sR : Rns H xR d.rs
  hO : H aO = some (.lst (d.op.map cV))
theorem SpAt.same {C : Addr} {H H' : Hp} {p aB aR aO : Addr} {xB xR : List V} {d : SpD} (h : SpAt C H p aB aR aO xB xR d) (s : Same H H') : SpAt C H' p aB aR aO xB xR d := by
  obtain ⟨dx, e⟩ := h.ob
  exact ⟨⟨dx, s _ _ e⟩, s _ _ h.hB, h.sB.same s, s _ _ h.hR, h.sR.same s, s _ _ h.hO⟩
def SpV (C : Addr) (H : Hp) (x : V) (d : SpD) : Prop := ∃ p aB aR aO xB xR, x = .ref p ∧ SpAt C H p aB aR aO xB xR d
theorem SpV.same {C : Addr} {H H' : Hp} {x : V} {d : SpD} (h : SpV C H x d) (s : Same H H') : SpV C H' x d := by
  obtain ⟨p, aB, aR, aO, xB, xR, e, h⟩ := h
  exact ⟨p, aB, aR, aO, xB, xR, e, h.same s⟩
abbrev SpVs (C : Addr) (H : Hp) (xs : List V) (ds : List SpD) : Prop := Paired (SpV C H) xs ds
theorem SpVs.same {C : Addr} {H H' : Hp} {xs : List V} {ds : List SpD} (h : SpVs C H xs ds) (s : Same H H') : SpVs C H' xs ds := L2.Paired.mapP h fun _ _ z => z.same s
theorem st_turn {H Hb Hc : Hp} {D1 tp : Addr} {ys : List V} {ss : List StD} {d : StD} (hD : Hc D1 = some (.lst ys)) (ty : Sts (Fr H Hc) ys ss) (sc : Same Hb Hc) (hb : Hb D1 = none) (h0 : Same H Hb) (htp : Hc tp = none) (hl : ys.length ≤ 1000) :
    ∃ acc, (upd Hc tp (.tup [.str d.1, .int d.2])) D1 = some (.lst acc) ∧ acc.length < sizeLine ∧ ∃ ys', (upd (upd Hc tp (.tup [.str d.1, .int d.2])) D1 (.lst (acc ++ [.ref tp]))) D1 = some (.lst ys') ∧
      Sts (Fr H (upd (upd Hc tp (.tup [.str d.1, .int d.2])) D1 (.lst (acc ++ [.ref tp])))) ys' (ss ++ [d]) ∧ Same Hb (upd (upd Hc tp (.tup [.str d.1, .int d.2])) D1 (.lst (acc ++ [.ref tp]))) := by
  have s1 := Same.upd (o := .tup [.str d.1, .int d.2]) htp
  have hD1 := s1 _ _ hD
  have n2 := NL.upd (o := .lst (ys ++ [.ref tp])) hD1
  refine ⟨ys, hD1, small1 (by omega), _, upd_same, ?_, fun b o e => ?_⟩
  · refine paired_app ((ty.same (Fr.same s1)).nl (Fr.nl n2)) (.cons ⟨tp, rfl, ?_⟩ .nil)
    rw [Fr.new (none_of (h0.trans sc) htp)]
    exact n2 _ _ upd_same fun _ z => nomatch z
  · rw [upd_ne (ne_of_none e hb)]
    exact s1 _ _ (sc _ _ e)
/-! ### promises of the runs -/
def spDiv : Sp := fun vs H Q _ => ∃ a xs ts c y n m, vs = [.ref a, .int c] ∧ H a = some (.lst xs) ∧ Trs H xs ts ∧ Srt ts ∧ (∀ t ∈ ts, BT n t) ∧ ts.length ≤ 5000 ∧ n ≤ 4900 ∧ 0 ≤ c ∧ c ≤ PB m ∧ m ≤ 4000 ∧ At ts c = some y ∧
  ∀ t l1 l2 z1 z2 H', H' t = some (.tup [.ref l1, .ref l2]) → H' l1 = some (.lst z1) → Trs H' z1 (divH ts c) → H' l2 = some (.lst z2) → Trs H' z2 (divT ts c) → Same H H' → H t = none → H l1 = none → H l2 = none → Q (.ref t) H'
def spNb : Sp := fun vs H Q _ => ∃ a xs ts z, vs = [.ref a, .int z] ∧ H a = some (.lst xs) ∧ Trs H xs ts ∧ (∀ t ∈ ts, OkTr t) ∧ (∀ t ∈ ts, BT 5000 t) ∧ ts.length ≤ 5000 ∧ ∀ H', Same H H' → Q (.int (NB ts z)) H'
def spTf : Sp := fun vs H Q _ => ∃ a xs ts z n y, vs = [.ref a, .int z] ∧ H a = some (.lst xs) ∧ Trs H xs ts ∧ Srt ts ∧ (∀ t ∈ ts, BT n t) ∧ n ≤ 4900 ∧ z ≤ PB 4900 ∧ ts.length ≤ 5000 ∧ nxT ts z = some y ∧ Q (.int y) H
theorem NB_sum : ∀ (ts : List Trn) (z : Int), NB ts z = (ts.map fun t => nbT t z).sum
  | [], _ => rfl
  | t :: r, z => by
    show nbT t z + NB r z = _
    rw [NB_sum r z, List.map_cons, List.sum_cons]
def dvR : List Trn → Int → Int
  | [], l => l
  | t :: r, l => dvR r (l - tkn t l)
theorem tkn_le {t : Trn} (h : OkTr t) {l : Int} (l0 : 0 ≤ l) : 0 ≤ tkn t l ∧ tkn t l ≤ l := by
  unfold tkn
  cases hc : t.2.2 with
  | none => exact ⟨l0, Int.le_refl _⟩
  | some c =>
    have := h.2.2 c hc
    show 0 ≤ (if c < l then c else l) ∧ (if c < l then c else l) ≤ l
    split <;> omega
theorem dvR_le : ∀ {ts : List Trn}, (∀ t ∈ ts, OkTr t) → ∀ {l : Int}, 0 ≤ l → 0 ≤ dvR ts l ∧ dvR ts l ≤ l
  | [], _, l, l0 => ⟨l0, Int.le_refl _⟩
  | t :: r, h, l, l0 => by
    have tk := tkn_le (h t (List.mem_cons_self ..)) l0
    have ih := dvR_le (ts := r) (fun u hu => h u (List.mem_cons_of_mem _ hu)) (l := l - tkn t l) (by omega)
    show 0 ≤ dvR r (l - tkn t l) ∧ dvR r (l - tkn t l) ≤ l
    omega
theorem dvR_app : ∀ (a b : List Trn) (l : Int), dvR (a ++ b) l = dvR b (dvR a l)
  | [], _, _ => rfl
  | t :: a, b, l => dvR_app a b _
theorem divH_app : ∀ (a b : List Trn) (l : Int), divH (a ++ b) l = divH a l ++ divH b (dvR a l)
  | [], _, _ => rfl
  | t :: a, b, l => by
    show partL t 0 (some (tkn t l)) ++ divH (a ++ b) _ = partL t 0 (some (tkn t l)) ++ divH a _ ++ divH b _
    rw [divH_app a b, List.append_assoc]
    rfl
theorem divT_app : ∀ (a b : List Trn) (l : Int), divT (a ++ b) l = divT a l ++ divT b (dvR a l)
  | [], _, _ => rfl
  | t :: a, b, l => by
    show partL t (tkn t l) t.2.2 ++ divT (a ++ b) _ = partL t (tkn t l) t.2.2 ++ divT a _ ++ divT b _
    rw [divT_app a b, List.append_assoc]
    rfl
section
variable {P : Program} {w : World} {K : PySem.W.Frag} {mg : Str → Option Value} {base : Heap} {L : LA}
abbrev N_timefrom : List Str := ["trains", "time", "train", "before"]
theorem sc_timefrom : FnScope N_timefrom ["trains", "time"] (defScope st_time_from) := ⟨rfl, rfl, rfl, by decide +kernel, rfl, by decide +kernel, by decide +kernel⟩
theorem fn_timefrom (T : LX K mg L) {fd : FuncData} (F : Fun K "time_from" "time_from" st_time_from L.f_time_from fd) : FnOk P w K mg base CX0 4 L.f_time_from fd ["trains", "time"] (spTf) := by
  have G_timesbefore := ok_timesbefore (P := P) (w := w) (base := base) T
  have nd := sc_timefrom.nd
  refine F.ok sc_timefrom (fun vs H Q E h => ?_) (fun cdv A outer S H vs Q E hr h => ?_)
  · obtain ⟨a, xs, ts, z, n, y, rfl, _⟩ := h
    rfl
  · obtain ⟨a, xs, ts, z, n, y, rfl, ha, hx, hs, bt, n4, zb, hl, e, k⟩ := h
    refine ⟨_, (pss_cons (ps_for PassesOwn.never rfl (pi_list (pv 0)) (pg_name (i := 2) nd rfl (Or.inl rfl)) (pss_cons (ps_set (i := 3) nd rfl (Or.inl rfl) (pe_c G_timesbefore (hr.mono (by decide)) rfl (pa_cons (pv 2) (pa_cons (pv 1) pa_nil))))
       (pss_one (ps_if (PW.pt (pw_or (pt_cmp (pc_isN (pe_ix (r := rIxT K) ix_tup (pv 2) pe_int (fun _ _ => rfl)))) (pw_or1 (pt_cmpR op_lt (pv 3) (pe_ix (r := rIxT K) ix_tup (pv 2) pe_int (fun _ _ => rfl)) (nomark _))))) (pss_one (ps_ret (pe_op op_add (pe_ix (r := rIxT K) ix_tup (pv 2) pe_int (fun _ _ => rfl)) (pe_op op_mulW (pv 3) (pe_ix (r := rIxT K) ix_tup (pv 2) pe_int (fun _ _ => rfl)))))) pss_nil))))
       (pss_one (ps_ret pe_non))), ?_⟩
    refine ⟨_, rfl, a, rfl, ⟨_, SqL.of ha⟩, ?_⟩
    refine for_list (K := K) (a := a) (xs := xs) (fun i σ H2 => ∃ v2 v3 : Option V, σ = [some (.ref a), some (.int z), v2, v3] ∧ H2 = H ∧ nxT (ts.drop i) z = some y) ⟨none, none, rfl, rfl, e⟩ (fun i σ H2 _ ⟨_, _, _, e2, _⟩ => by rw [e2]; exact SqL.of ha) ?_ ?_
    · rintro i x σ H2 hxi ⟨v2, v3, rfl, rfl, ei⟩
      obtain ⟨t, ht, hxt⟩ := hx.get hxi
      have htm := List.mem_of_getElem? ht
      have hj := (List.getElem?_eq_some_iff.mp ht).1
      have dr : ts.drop i = t :: ts.drop (i + 1) := by
        rw [List.drop_eq_getElem_cons hj]
        congr 1
        exact (List.getElem?_eq_some_iff.mp ht).2
      rw [dr] at ei
      have sd : Srt (t :: ts.drop (i + 1)) := by
        rw [← dr]
        exact ⟨fun u hu => hs.1 u (List.mem_of_mem_drop hu), hs.2.sublist (List.drop_sublist _ _)⟩
      have ok := hs.1 t htm
      have b5 := (bt t htm).le (show n ≤ 5000 by omega)
      obtain ⟨b, rfl, hb⟩ := hxt
      refine ⟨_, rfl, _, rfl, .ref b, t, z, rfl, ⟨b, rfl, hb⟩, ok, b5, ?_⟩
      refine ⟨_, rfl, b, _, 2, cV t.2.2, rfl, rfl, SqT.of hb, rfl, ?_⟩
      have p1 := ok.2.1
      have p2 : t.2.1 ≤ BB := b5.p
      have n0 := nbT_nn ok z
      have nB : nbT t z ≤ BB := Int.le_trans (nbT_le_pb ok zb) (PB_le (by decide))
      have b1 := BB1
      have cm : CMulW (nbT t z) t.2.1 := mulBB n0 (by omega) (by omega) (by omega)
      cases hc : t.2.2 with
      | none =>
        rw [nx_head_in sd rfl (fun c e => by rw [hc] at e; cases e)] at ei
        cases ei
        exact ⟨_, rfl, iteT ⟨_, rfl, b, _, 0, .int t.1, rfl, rfl, SqT.of hb, rfl, _, rfl, _, rfl, b, _, 1, .int t.2.1, rfl, rfl, SqT.of hb, rfl, _, _, rfl, rfl, cm, _, _, rfl, rfl, k⟩⟩
      | some c =>
        refine ⟨_, rfl, iteF ⟨_, rfl, _, rfl, b, _, 2, .int c, rfl, rfl, SqT.of hb, (by show some (cV t.2.2) = _; rw [hc]; rfl), _, _, rfl, rfl, _, rfl, ?_⟩⟩
        refine ite2 (fun q => ?_) (fun q => ?_)
        · have q' : nbT t z < c := of_decide_eq_true q
          rw [nx_head_in sd rfl (fun c' e => by rw [hc] at e; cases e; exact q')] at ei
          cases ei
          exact ⟨_, rfl, b, _, 0, .int t.1, rfl, rfl, SqT.of hb, rfl, _, rfl, _, rfl, b, _, 1, .int t.2.1, rfl, rfl, SqT.of hb, rfl, _, _, rfl, rfl, cm, _, _, rfl, rfl, k⟩
        · have q' : ¬ nbT t z < c := fun h => q (decide_eq_true h)
          have := nbT_le (x := z) hc
          rw [nx_tail sd hc (by omega)] at ei
          exact ⟨_, _, rfl, rfl, ei⟩
    · rintro σ H2 ⟨v2, v3, rfl, rfl, ei⟩
      rw [hx.len, List.drop_length] at ei
      cases ei
theorem ok_timefrom (T : LX K mg L) : Cal P w K mg base "time_from" 4 L.f_time_from ["trains", "time"] (spTf) := T.d_time_from.cal fun fd F => fn_timefrom T F
abbrev N_dividedruns : List Str := ["trains", "count", "head", "tail", "left", "train", "taken"]
theorem sc_dividedruns : FnScope N_dividedruns ["trains", "count"] (defScope st_divided_runs) := ⟨rfl, rfl, rfl, by decide +kernel, rfl, by decide +kernel, by decide +kernel⟩
theorem fn_dividedruns (T : LX K mg L) {fd : FuncData} (F : Fun K "divided_runs" "divided_runs" st_divided_runs L.f_divided_runs fd) : FnOk P w K mg base CX0 4 L.f_divided_runs fd ["trains", "count"] (spDiv) := by
  have G_partof := ok_partof (P := P) (w := w) (base := base) T
  have nd := sc_dividedruns.nd
  refine F.ok sc_dividedruns (fun vs H Q E h => ?_) (fun cdv A outer S H vs Q E hr h => ?_)
  · obtain ⟨a, xs, ts, c, y, n, m, rfl, _⟩ := h
    rfl
  · obtain ⟨a, xs, ts, c, y, n, m, rfl, ha, hx, hs, bt, hl, n4, c0, cm, m4, e, k⟩ := h
    refine ⟨_, (pss_cons (ps_set (i := 2) nd rfl (Or.inl rfl) (pe_lst pa_nil))
       (pss_cons (ps_set (i := 3) nd rfl (Or.inl rfl) (pe_lst pa_nil))
       (pss_cons (ps_set (i := 4) nd rfl (Or.inl rfl) (pv 1))
       (pss_cons (ps_for PassesOwn.never rfl (pi_list (pv 0)) (pg_name (i := 5) nd rfl (Or.inl rfl)) (C8.pss_cut (ps_set (i := 6) nd rfl (Or.inl rfl) (pe_ifExp (pt_cmp (pc_isN (pe_ix (r := rIxT K) ix_tup (pv 5) pe_int (fun _ _ => rfl)))) (pv 4) (pe_callB (call_min2 rfl) (by rfl) T.b_min (by decide +kernel) (pa_cons (pv 4) (pa_cons (pe_ix (r := rIxT K) ix_tup (pv 5) pe_int (fun _ _ => rfl)) pa_nil)))))
       (pss_cons (ps_expr (pe_bm PySem.F.plainAttrs_list PySem.F.slot_list_extend PySem.F.type_list_extend mt_extend (pv 2) (pa_cons (pe_c G_partof (hr.mono (by decide)) rfl (pa_cons (pv 5) (pa_cons pe_int (pa_cons (pv 6) pa_nil)))) pa_nil)))
       (pss_cons (ps_expr (pe_bm PySem.F.plainAttrs_list PySem.F.slot_list_extend PySem.F.type_list_extend mt_extend (pv 3) (pa_cons (pe_c G_partof (hr.mono (by decide)) rfl (pa_cons (pv 5) (pa_cons (pv 6) (pa_cons (pe_ix (r := rIxT K) ix_tup (pv 5) pe_int (fun _ _ => rfl)) pa_nil)))) pa_nil)))
       (pss_one (ps_set (i := 4) nd rfl (Or.inl rfl) (pe_op op_sub (pv 4) (pv 6))))))))
       (pss_one (ps_ret (pe_tup (pa_cons (pv 2) (pa_cons (pv 3) pa_nil))))))))), ?_⟩
    refine ⟨(by show 0 ≤ sizeLine; decide), fun l1 hl1 => ⟨(by show 0 ≤ sizeLine; decide), fun l2 hl2 => ⟨_, rfl, ?_⟩⟩⟩
    have s1 := Same.upd (o := .lst []) hl1
    have s2 := s1.trans (Same.upd (o := .lst []) hl2)
    have n12 : l1 ≠ l2 := ne_of_none (upd_same (H := H) (a := l1) (o := .lst [])) hl2
    have hl2H : H l2 = none := none_of s1 hl2
    refine ⟨_, rfl, a, rfl, ⟨_, SqL.of (s2 _ _ ha)⟩, ?_⟩
    refine for_list (K := K) (a := a) (xs := xs) (fun i σ H2 => ∃ v5 v6, ∃ z1 z2 : List V, σ = [some (.ref a), some (.int c), some (.ref l1), some (.ref l2), some (.int (dvR (ts.take i) c)), v5, v6] ∧ H2 l1 = some (.lst z1) ∧ Trs H2 z1 (divH (ts.take i) c) ∧ H2 l2 = some (.lst z2) ∧ Trs H2 z2 (divT (ts.take i) c) ∧ Same H H2 ∧ z1.length ≤ i ∧ z2.length ≤ i)
      ⟨none, none, [], [], rfl, by rw [upd_ne n12, upd_same], .nil, upd_same, .nil, s2, Nat.le_refl _, Nat.le_refl _⟩ (fun i σ H2 _ ⟨_, _, _, _, _, _, _, _, _, s, _⟩ => SqL.of (s _ _ ha)) ?_ ?_
    · rintro i x σ H2 hxi ⟨v5, v6, z1, z2, rfl, h1, t1, h2, t2, s3, zl1, zl2⟩
      obtain ⟨t, ht, hxt⟩ := hx.get hxi
      have htm := List.mem_of_getElem? ht
      have hj := (List.getElem?_eq_some_iff.mp ht).1
      have ok := hs.1 t htm
      have tnx : ts.take (i + 1) = ts.take i ++ [t] := by rw [List.take_add_one, ht]; rfl
      obtain ⟨l, hlf⟩ : ∃ l, l = dvR (ts.take i) c := ⟨_, rfl⟩
      have l0 : 0 ≤ l ∧ l ≤ c := by rw [hlf]; exact dvR_le (fun u hu => hs.1 u (List.mem_of_mem_take hu)) c0
      rw [← hlf]
      have tk := tkn_le ok l0.1
      obtain ⟨b, rfl, hb⟩ := hxt.same s3
      refine ⟨fun σ' H' => σ' = [some (.ref a), some (.int c), some (.ref l1), some (.ref l2), some (.int l), some (.ref b), some (.int (tkn t l))] ∧ H' = H2, ?_, ?_⟩
      · refine ⟨_, rfl, b, _, 2, cV t.2.2, rfl, rfl, SqT.of hb, rfl, ?_⟩
        unfold tkn
        cases hc : t.2.2 with
        | none => exact ⟨_, rfl, iteT ⟨_, rfl, rfl, rfl⟩⟩
        | some k' => exact ⟨_, rfl, iteF ⟨_, rfl, _, rfl, b, _, 2, .int k', rfl, rfl, SqT.of hb, (by show some (cV t.2.2) = _; rw [hc]; rfl), l, k', rfl, rfl, rfl⟩⟩
      rintro σ' H' ⟨rfl, rfl⟩
      have p1 := ok.2.1
      have b5 := bt t htm
      have p2 : t.2.1 ≤ BB := Int.le_trans b5.p (PB_le (by omega))
      have b1 := BB1
      have tB : tkn t l ≤ BB := Int.le_trans (Int.le_trans tk.2 (Int.le_trans l0.2 cm)) (PB_le (by omega))
      refine ⟨_, rfl, .inl ⟨rfl, _, SqL.of h1⟩, _, rfl, _, rfl, .ref b, t, 0, some (tkn t l), rfl, ⟨b, rfl, hb⟩, mulBB (Int.le_refl 0) (by omega) (by omega) (by omega), fun q zs H3 hq tz s4 nq => ⟨l1, q, z1, zs, rfl, rfl, s4 _ _ h1, hq, small2 (by have := tz.len; have := part1 t 0 (some (tkn t l)); omega), ?_⟩⟩
      have zsl : zs.length ≤ 1 := by rw [tz.len]; exact part1 _ _ _
      have hb3 := s4 _ _ hb
      have n1 := NL.upd (o := .lst (z1 ++ zs)) (s4 _ _ h1)
      have h2' : (upd H3 l1 (.lst (z1 ++ zs))) l2 = some (.lst z2) := by rw [upd_ne n12.symm]; exact s4 _ _ h2
      have hb4 : (upd H3 l1 (.lst (z1 ++ zs))) b = some (.tup (TrV t)) := n1 _ _ hb3 fun _ z => nomatch z
      refine ⟨_, rfl, .inl ⟨rfl, _, SqL.of h2'⟩, _, rfl, _, rfl, _, rfl, b, _, 2, cV t.2.2, rfl, rfl, SqT.of hb4, rfl, .ref b, t, tkn t l, t.2.2, rfl, ⟨b, rfl, hb4⟩, mulBB tk.1 (by omega) (by omega) (by omega), fun q2 zs2 H4 hq2 tz2 s5 nq2 => ⟨l2, q2, z2, zs2, rfl, rfl, s5 _ _ h2', hq2, small2 (by have := tz2.len; have := part1 t (tkn t l) t.2.2; omega), ?_⟩⟩
      have zsl2 : zs2.length ≤ 1 := by rw [tz2.len]; exact part1 _ _ _
      have n2 := NL.upd (o := .lst (z2 ++ zs2)) (s5 _ _ h2')
      refine ⟨_, rfl, _, rfl, _, _, rfl, rfl, ?_⟩
      have e1 : divH (ts.take (i + 1)) c = divH (ts.take i) c ++ partL t 0 (some (tkn t l)) := by
        rw [tnx, divH_app, ← hlf]
        show _ ++ (partL t 0 (some (tkn t l)) ++ []) = _
        rw [List.append_nil]
      have e2 : divT (ts.take (i + 1)) c = divT (ts.take i) c ++ partL t (tkn t l) t.2.2 := by
        rw [tnx, divT_app, ← hlf]
        show _ ++ (partL t (tkn t l) t.2.2 ++ []) = _
        rw [List.append_nil]
      have e3 : dvR (ts.take (i + 1)) c = l - tkn t l := by
        rw [tnx, dvR_app, ← hlf]
        rfl
      rw [e1, e2, e3]
      refine ⟨_, _, z1 ++ zs, z2 ++ zs2, rfl, ?_, ?_, upd_same, ?_, fun u o e => ?_, by rw [List.length_append]; omega, by rw [List.length_append]; omega⟩
      · rw [upd_ne n12]
        exact s5 _ _ upd_same
      · exact ((((t1.same s4).app tz).nl n1).same s5).nl n2
      · exact ((((t2.same s4).nl n1).same s5).app tz2).nl n2
      · rw [upd_ne (ne_of_none e hl2H)]
        refine s5 _ _ ?_
        rw [upd_ne (ne_of_none e hl1)]
        exact s4 _ _ (s3 _ _ e)
    · rintro σ H2 ⟨v5, v6, z1, z2, rfl, h1, t1, h2, t2, s3, zl1, zl2⟩
      rw [hx.len, List.take_length] at t1 t2
      refine ⟨_, rfl, _, rfl, (by show 2 ≤ sizeLine; decide), fun tp htp => ?_⟩
      have s4 := Same.upd (o := .tup [.ref l1, .ref l2]) htp
      exact k tp l1 l2 z1 z2 _ upd_same (s4 _ _ h1) (t1.same s4) (s4 _ _ h2) (t2.same s4) (s3.trans s4) (none_of s3 htp) hl1 hl2H
theorem ok_dividedruns (T : LX K mg L) : Cal P w K mg base "divided_runs" 4 L.f_divided_runs ["trains", "count"] (spDiv) := T.d_divided_runs.cal fun fd F => fn_dividedruns T F
end
/-! ### spells as data -/
abbrev Out := Int × Option Int
def OtAt (H : Hp) (x : V) (o : Out) : Prop := ∃ a, x = .ref a ∧ H a = some (.tup [.int o.1, cV o.2])
abbrev Ots (H : Hp) (xs : List V) (os : List Out) : Prop := Paired (OtAt H) xs os
theorem OtAt.same {H H' : Hp} (s : Same H H') {x : V} {d : Out} (h : OtAt H x d) : OtAt H' x d := by
  obtain ⟨a, e, h⟩ := h
  exact ⟨a, e, s _ _ h⟩
theorem OtAt.nl {H H' : Hp} (s : NL H H') {x : V} {d : Out} (h : OtAt H x d) : OtAt H' x d := by
  obtain ⟨a, e, h⟩ := h
  exact ⟨a, e, s _ _ h fun _ z => nomatch z⟩
theorem Ots.same {H H' : Hp} (s : Same H H') {xs : List V} {os : List Out} (h : Ots H xs os) : Ots H' xs os := L2.Paired.mapP h fun _ _ z => z.same s
theorem Ots.nl {H H' : Hp} (s : NL H H') {xs : List V} {os : List Out} (h : Ots H xs os) : Ots H' xs os := L2.Paired.mapP h fun _ _ z => z.nl s
/-- a list or a tuple -/
def SqE (H : Hp) (a : Addr) (xs : List V) : Prop := H a = some (.tup xs) ∨ H a = some (.lst xs)
theorem SqE.same {H H' : Hp} (s : Same H H') {a : Addr} {xs : List V} (h : SqE H a xs) : SqE H' a xs := h.elim (fun h => .inl (s _ _ h)) fun h => .inr (s _ _ h)
theorem SqE.ix {K : PySem.W.Frag} {H : Hp} {a : Addr} {xs : List V} {i : Int} {v : V} {Q : VK} (h : SqE H a xs) (e : atI xs i = some v) (k : Q v H) : rIx K (.ref a) (.int i) H Q := by
  rcases h with h | h
  · exact .inr (.inl ⟨a, xs, i, v, rfl, rfl, SqT.of h, e, k⟩)
  · exact .inl ⟨a, xs, i, v, rfl, rfl, SqL.of h, e, k⟩
theorem SqE.sq {K : PySem.W.Frag} {H : Hp} {a : Addr} {xs : List V} (h : SqE H a xs) : SqL K H a xs ∨ SqT K H a xs := h.elim (fun h => .inr (SqT.of h)) fun h => .inl (SqL.of h)
def ndOf (b : Tri) (s : StD) : Int := if s.1 = "closed" then b.1 else 1
def recM (g : List Trn) : List Out → Option Int × Nat
  | [] => (none, 0)
  | (b, e) :: os => match e with
    | none => (none, 1)
    | some e => match os with
      | [] => (nxT g e, 1)
      | (b2, e2) :: os' => if (nxT g e).getD 0 < b2 then (nxT g e, 1) else ((recM g ((b2, e2) :: os')).1, (recM g ((b2, e2) :: os')).2 + 1)
def chR : List Tri → List StD → List Trn → List (List Trn)
  | b :: bs, s :: ss, ts => match At ts (ndOf b s - 1) with
    | some o => ts :: chR bs ss (passG ts (ndOf b s) b.2.1 o)
    | none => [ts]
  | _, _, ts => [ts]
def chO : List Tri → List StD → List Trn → List Int
  | b :: bs, s :: ss, ts => match At ts (ndOf b s - 1) with
    | some o => o :: chO bs ss (passG ts (ndOf b s) b.2.1 o)
    | none => []
  | _, _, _ => []
/-- what reaches the service -/
def chL : List Tri → List StD → List Trn → List Trn
  | b :: bs, s :: ss, ts => match At ts (ndOf b s - 1) with
    | some o => chL bs ss (passG ts (ndOf b s) b.2.1 o)
    | none => ts
  | _, _, ts => ts
def cutO (r : Option Int) (o : Int) : Option Int := match r with
  | none => some o
  | some r => if o < r then some o else none
def spellD (bs : List Tri) (stp fr : Int) (bg : List StD) (os : List Out) : SpD :=
  ⟨fr, (recM (chL bs bg [(fr, stp, none)]) os).1, bg, chR bs bg [(fr, stp, none)], (chO bs bg [(fr, stp, none)]).map (cutO (recM (chL bs bg [(fr, stp, none)]) os).1)⟩
def spellN (bs : List Tri) (stp fr : Int) (bg : List StD) (os : List Out) : Nat := (recM (chL bs bg [(fr, stp, none)]) os).2
def stB (suc : Int) (b : Tri) (o : Option Int) : StD := if o.isSome = true ∧ suc < b.2.2 then ("half", suc) else ("closed", 0)
def stBeh (bs : List Tri) (stp : Int) (d : SpD) (x : Int) : List StD := List.zipWith (stB ((x - d.rcv.getD 0) / stp + 1)) bs d.op
def spM (bs : List Tri) (stp ph : Int) : Nat → Option SpD → List Out → List SpD
  | 0, _, _ => []
  | _ + 1, _, [] => []
  | n + 1, pv, (b, e) :: os =>
    if (match e with | none => false | some e => decide (e ≤ ph + stepsUp (b - ph) stp * stp)) = true then spM bs stp ph n pv os
    else
      spellD bs stp (ph + stepsUp (b - ph) stp * stp) (match pv with | none => List.replicate bs.length ("closed", 0) | some d => stBeh bs stp d (ph + stepsUp (b - ph) stp * stp - 1)) ((b, e) :: os)
        :: spM bs stp ph n (some (spellD bs stp (ph + stepsUp (b - ph) stp * stp) (match pv with | none => List.replicate bs.length ("closed", 0) | some d => stBeh bs stp d (ph + stepsUp (b - ph) stp * stp - 1)) ((b, e) :: os)))
          (((b, e) :: os).drop (spellN bs stp (ph + stepsUp (b - ph) stp * stp) (match pv with | none => List.replicate bs.length ("closed", 0) | some d => stBeh bs stp d (ph + stepsUp (b - ph) stp * stp - 1)) ((b, e) :: os)))
theorem Trs.endL {H : Hp} {xs : List V} {ini : List Trn} {la : Trn} (h : Trs H xs (ini ++ [la])) : ∃ xi x, xs = xi ++ [x] ∧ TrAt H x la := by
  have hl := h.len
  rw [List.length_append] at hl
  have hl : xs.length = ini.length + 1 := hl
  have e : (ini ++ [la])[ini.length]? = some la := by rw [List.getElem?_append_right (Nat.le_refl _), Nat.sub_self]; rfl
  obtain ⟨x, hx, hb⟩ := h.get2 e
  refine ⟨xs.take ini.length, x, ?_, hb⟩
  have := List.take_add_one (l := xs) (i := ini.length)
  rw [hx, ← hl, List.take_length] at this
  exact this
/-! promises -/
def spPassed : Sp := fun vs H Q _ => ∃ a x y xs ts b s n k fr o, vs = [.ref a, x, y] ∧ H a = some (.lst xs) ∧ Trs H xs ts ∧ BrAt H x b ∧ OkT b ∧ StAt H y s ∧ RunOk n k fr ts ∧ 100 ≤ n ∧ n ≤ 3000 ∧ k ≤ 100 ∧ At ts (ndOf b s - 1) = some o ∧
  ∀ t l zs H', H' t = some (.tup [.ref l, .int o]) → H' l = some (.lst zs) → Trs H' zs (passG ts (ndOf b s) b.2.1 o) → Same H H' → H t = none → H l = none → Q (.ref t) H'
def spRec : Sp := fun vs H Q _ => ∃ a q xs ts ys os n k fr, ∃ at' : Nat, vs = [.ref a, .ref q, .int at'] ∧ H a = some (.lst xs) ∧ Trs H xs ts ∧ RunOk n k fr ts ∧ n ≤ 4900 ∧ k ≤ 100 ∧ SqE H q ys ∧ Ots H ys os ∧ (∀ o ∈ os, ∀ e, o.2 = some e → e ≤ PB 4900) ∧ at' < os.length ∧
  ∀ t H', H' t = some (.tup [cV (recM ts (os.drop at')).1, .int (at' + (recM ts (os.drop at')).2 : Nat)]) → Same H H' → H t = none → Q (.ref t) H'
section
variable {P : Program} {w : World} {K : PySem.W.Frag} {mg : Str → Option Value} {base : Heap} {L : LA}
abbrev N_passedruns : List Str := ["runs", "breaker", "state", "failures", "wait", "successes", "needed", "head", "tail", "opening"]
theorem sc_passedruns : FnScope N_passedruns ["runs", "breaker", "state"] (defScope st_passed_runs) := ⟨rfl, rfl, rfl, by decide +kernel, rfl, by decide +kernel, by decide +kernel⟩
theorem fn_passedruns (T : LX K mg L) {fd : FuncData} (F : Fun K "passed_runs" "passed_runs" st_passed_runs L.f_passed_runs fd) : FnOk P w K mg base CX0 5 L.f_passed_runs fd ["runs", "breaker", "state"] (spPassed) := by
  have G_dividedruns := ok_dividedruns (P := P) (w := w) (base := base) T
  have G_lasttime := ok_lasttime (P := P) (w := w) (base := base) T
  have G_thinnedruns := ok_thinnedruns (P := P) (w := w) (base := base) T
  have nd := sc_passedruns.nd
  refine F.ok sc_passedruns (fun vs H Q E h => ?_) (fun cdv A outer S H vs Q E hr h => ?_)
  · obtain ⟨a, x, y, xs, ts, b, s, n, k, fr, o, rfl, _⟩ := h
    rfl
  · obtain ⟨a, x, y, xs, ts, b, s, n, k, fr, o, rfl, ha, hx, ⟨ab, rfl, hb⟩, okb, ⟨as, rfl, hs⟩, R, n1, n2, k1, ho, kk⟩ := h
    refine ⟨_, (pss_cons (ps_asg (pv 1) (pg_tup rfl (pgs_cons (pg_name (i := 3) nd rfl (Or.inl rfl)) (pgs_cons (pg_name (i := 4) nd rfl (Or.inl rfl)) (pgs_cons (pg_name (i := 5) nd rfl (Or.inl rfl)) pgs_nil)))))
       (C8.pss_cut (ps_set (i := 6) nd rfl (Or.inl rfl) (pe_ifExp (pt_cmpR op_eq (pe_ix (r := rIxT K) ix_tup (pv 2) pe_int (fun _ _ => rfl)) pe_str (nomark _)) (pv 3) pe_int))
       (pss_cons (ps_asg (pe_c G_dividedruns (hr.mono (by decide)) rfl (pa_cons (pv 0) (pa_cons (pv 6) pa_nil))) (pg_tup rfl (pgs_cons (pg_name (i := 7) nd rfl (Or.inl rfl)) (pgs_cons (pg_name (i := 8) nd rfl (Or.inl rfl)) pgs_nil))))
       (pss_cons (ps_set (i := 9) nd rfl (Or.inl rfl) (pe_c G_lasttime (hr.mono (by decide)) rfl (pa_cons (pe_ix (r := rIxL K) ix_list (pv 7) (pe_un un_neg pe_int) (fun _ _ => rfl)) pa_nil)))
       (pss_one (ps_ret (pe_tup (pa_cons (pe_op op_cat (pv 7) (pe_c G_thinnedruns (hr.mono (by decide)) rfl (pa_cons (pv 8) (pa_cons (pv 4) (pa_cons (pv 9) pa_nil))))) (pa_cons (pv 9) pa_nil))))))))), ?_⟩
    refine ⟨_, rfl, ab, _, rfl, SqT.of hb, rfl, _, _, rfl, _, _, rfl, _, _, rfl, rfl, ?_⟩
    obtain ⟨o1, o2, o3, o4, o5, o6⟩ := okb
    have nd1 : 1 ≤ ndOf b s ∧ ndOf b s ≤ 1000000000000 := by unfold ndOf; split <;> omega
    have e40 : (1000000000000 : Int) ≤ PB 40 := PB_of (by decide +kernel)
    have e100 : (1000000000000000000000000000000 : Int) ≤ PB 100 := PB_of (by decide +kernel)
    refine ⟨fun σ' H' => σ' = [some (.ref a), some (.ref ab), some (.ref as), some (.int b.1), some (.int b.2.1), some (.int b.2.2), some (.int (ndOf b s)), none, none, none] ∧ H' = H, ?_, ?_⟩
    · refine ⟨_, rfl, as, _, 0, .str s.1, rfl, rfl, SqT.of hs, rfl, ?_⟩
      unfold ndOf
      refine ⟨rfl, _, rfl, ite2 (fun q => ?_) (fun q => ?_)⟩
      · have q' : s.1 = "closed" := V.str.inj (of_decide_eq_true q)
        rw [if_pos q']
        exact ⟨_, rfl, rfl, rfl⟩
      · have q' : ¬ s.1 = "closed" := fun e => q (decide_eq_true (congrArg V.str e))
        rw [if_neg q']
        exact ⟨rfl, rfl⟩
    rintro σ' H' ⟨rfl, rfl⟩
    obtain ⟨o', y, ho', hy, o0, oB, yB, fo, RG, PG, sT, bT, lT, hne, hlast, sH, lH, nbo⟩ := pass_ok R nd1.1 (Int.le_trans nd1.2 e40) o3 (Int.le_trans o4 e100) n1
    rw [ho] at ho'
    cases ho'
    refine ⟨_, rfl, _, rfl, a, xs, ts, ndOf b s, y, n, 40, rfl, ha, hx, R.srt, R.bt, by have := R.ln; omega, by omega, by omega, Int.le_trans nd1.2 e40, by decide, hy, fun t l1 l2 z1 z2 H1 ht h1 t1 h2 t2 s1 nt nl1 nl2 => ?_⟩
    refine ⟨t, _, rfl, SqT.of ht, rfl, _, _, rfl, _, _, rfl, rfl, ?_⟩
    obtain ⟨ini, la, hla⟩ : ∃ ini la, divH ts (ndOf b s) = ini ++ [la] := ⟨_, _, (List.dropLast_concat_getLast hne).symm⟩
    obtain ⟨k1', k2', k3'⟩ := hlast la (by rw [hla, List.getLast?_concat])
    have t1' := t1
    rw [hla] at t1'
    obtain ⟨zi, x, rfl, hxa⟩ := t1'.endL
    have z1l := t1.len
    have z2l := t2.len
    have lR := R.ln
    refine ⟨_, rfl, 1, rfl, l1, _, -1, x, rfl, rfl, SqL.of h1, atI_last zi _, x, la, rfl, hxa, k1', k2'.le (by omega), ?_⟩
    rw [k3']
    refine ⟨_, rfl, _, rfl, _, rfl, _, rfl, l2, z2, divT ts (ndOf b s), n + 42, n + 42, b.2.1, o, rfl, h2, t2, sT, bT, by omega, by omega, o3, o0, Int.le_trans (Int.le_trans o4 e100) (PB_le (by omega)), Int.le_trans oB (PB_le (by omega)), by omega, fun l zs H3 hl tz bz lz s3 nl => ?_⟩
    have zl := tz.len
    have h1' := s3 _ _ h1
    refine ⟨l1, l, _, zs, rfl, rfl, h1', hl, small2 (by omega), fun r hr => ?_⟩
    have s4 := Same.upd (o := .lst ((zi ++ [x]) ++ zs)) hr
    refine ⟨_, rfl, (by show 2 ≤ sizeLine; decide), fun tp htp => ?_⟩
    have s5 := Same.upd (o := .tup [.ref r, .int o]) htp
    have s13 := s1.trans s3
    exact kk tp r _ _ upd_same (s5 _ _ upd_same) ((((t1.same s3).app tz).same s4).same s5) ((s13.trans s4).trans s5) (none_of (s13.trans s4) htp) (none_of s13 hr)
theorem ok_passedruns (T : LX K mg L) : Cal P w K mg base "passed_runs" 5 L.f_passed_runs ["runs", "breaker", "state"] (spPassed) := T.d_passed_runs.cal fun fd F => fn_passedruns T F
abbrev N_recovery : List Str := ["runs", "outages", "at", "following", "end", "time"]
theorem sc_recovery : FnScope N_recovery ["runs", "outages", "at"] (defScope st_recovery) := ⟨rfl, rfl, rfl, by decide +kernel, rfl, by decide +kernel, by decide +kernel⟩
theorem fn_recovery (T : LX K mg L) {fd : FuncData} (F : Fun K "recovery" "recovery" st_recovery L.f_recovery fd) : FnOk P w K mg base CX0 5 L.f_recovery fd ["runs", "outages", "at"] (spRec) := by
  have G_timefrom := ok_timefrom (P := P) (w := w) (base := base) T
  have nd := sc_recovery.nd
  refine F.ok sc_recovery (fun vs H Q E h => ?_) (fun cdv A outer S H vs Q E hr h => ?_)
  · obtain ⟨a, q, xs, ts, ys, os, n, k, fr, at', rfl, _⟩ := h
    rfl
  · obtain ⟨a, q, xs, ts, ys, os, n, k, fr, at', rfl, ha, hx, R, n4, k1, hq, hy, hb, hat, kk⟩ := h
    refine ⟨_, (pss_cons (ps_set (i := 3) nd rfl (Or.inl rfl) (pv 2))
       (pss_one (ps_while PassesOwn.never (pt_val pe_bl) (pss_cons (ps_set (i := 4) nd rfl (Or.inl rfl) (pe_ix (r := rIxT K) ix_tup (pe_ix (r := rIx K) ix_seq (pv 1) (pv 3) (fun _ _ => rfl)) pe_int (fun _ _ => rfl)))
       (pss_cons (ps_aug (i := 3) nd rfl (Or.inl rfl) pe_int ip_add)
       (pss_cons (ps_if (pt_cmp (pc_isN (pv 4))) (pss_one (ps_ret (pe_tup (pa_cons pe_non (pa_cons (pv 3) pa_nil))))) pss_nil)
       (pss_cons (ps_set (i := 5) nd rfl (Or.inl rfl) (pe_c G_timefrom (hr.mono (by decide)) rfl (pa_cons (pv 0) (pa_cons (pv 4) pa_nil))))
       (pss_one (ps_if (PW.pt (pw_or (pt_cmpR op_eq (pv 3) (pe_callB call_len_seq (by rfl) T.b_len PySem.boot_len (pa_cons (pv 1) pa_nil)) (nomark _)) (pw_or1 (pt_cmpR op_lt (pv 5) (pe_ix (r := rIxT K) ix_tup (pe_ix (r := rIx K) ix_seq (pv 1) (pv 3) (fun _ _ => rfl)) pe_int (fun _ _ => rfl)) (nomark _))))) (pss_one (ps_ret (pe_tup (pa_cons (pv 5) (pa_cons (pv 3) pa_nil))))) pss_nil))))))))), ?_⟩
    refine ⟨_, rfl, ?_⟩
    have yl := paired_len hy
    refine while_by (fun σ H2 => ∃ f : Nat, ∃ v4 v5 : Option V, σ = [some (.ref a), some (.ref q), some (.int at'), some (.int f), v4, v5] ∧ H2 = H ∧ f < os.length ∧ (recM ts (os.drop at')).1 = (recM ts (os.drop f)).1 ∧ at' + (recM ts (os.drop at')).2 = f + (recM ts (os.drop f)).2) (fun σ _ => match σ with | [_, _, _, some (.int f), _, _] => (os.length - f).toNat | _ => 0)
      ⟨at', none, none, rfl, rfl, hat, rfl, rfl⟩ ?_ (fun σ H Q Q' m h => ?_)
    · rintro σ H2 ⟨f, v4, v5, rfl, rfl, hf, e1, e2⟩
      refine ⟨_, rfl, iteT ?_⟩
      obtain ⟨x, hxf⟩ : ∃ x, ys[f]? = some x := ⟨_, List.getElem?_eq_getElem (by omega)⟩
      obtain ⟨⟨b, e⟩, hof, hot⟩ := paired_get hy hxf
      obtain ⟨c, rfl, hc⟩ := hot
      have dr : os.drop f = (b, e) :: os.drop (f + 1) := by
        rw [List.drop_eq_getElem_cons hf]
        congr 1
        exact (List.getElem?_eq_some_iff.mp hof).2
      refine ⟨_, rfl, _, rfl, hq.ix (atI_nat hxf) ⟨c, _, 1, cV e, rfl, rfl, SqT.of hc, rfl, ?_⟩⟩
      rw [dr] at e1 e2
      have fin : ∀ (tp : Addr) (v : V) (n : Int) (r : Option Int), H2 tp = none → (recM ts ((b, e) :: os.drop (f + 1))).1 = r → n = f + 1 → (recM ts ((b, e) :: os.drop (f + 1))).2 = 1 → v = cV r → Q (.ref tp) (upd H2 tp (.tup [v, .int n])) := fun tp v n r htp er en e3 ev => by
        refine kk tp _ ?_ (Same.upd htp) htp
        rw [upd_same, e1, e2, er, e3, ev, en]
        rfl
      refine ⟨_, rfl, _, _, rfl, rfl, ?_⟩
      cases e with
      | none => exact ⟨_, rfl, _, rfl, iteT ⟨_, rfl, (by show 2 ≤ sizeLine; decide), fun tp htp => fin tp _ _ none htp rfl rfl rfl rfl⟩⟩
      | some z =>
        obtain ⟨y, hy2⟩ := nx_end R.srt R.en z
        refine ⟨_, rfl, _, rfl, iteF ⟨_, rfl, _, rfl, a, xs, ts, z, n, y, rfl, ha, hx, R.srt, R.bt, n4, hb _ (List.mem_of_getElem? hof) z rfl, by have := R.ln; omega, hy2, ?_⟩⟩
        refine ⟨_, rfl, _, rfl, q, ys, rfl, hq.sq, rfl, _, rfl, ?_⟩
        refine ite2 (fun c1 => ?_) (fun c1 => ?_)
        · have c2 : (f : Int) + 1 = ys.length := V.int.inj (of_decide_eq_true c1)
          have d1 : os.drop (f + 1) = [] := List.drop_eq_nil_of_le (by omega)
          refine ⟨_, rfl, _, rfl, (by show 2 ≤ sizeLine; decide), fun tp htp => fin tp _ _ (some y) htp ?_ rfl ?_ rfl⟩
          · rw [d1]
            exact hy2
          · rw [d1]
            rfl
        · have c2 : ¬ (f : Int) + 1 = ys.length := fun z => c1 (decide_eq_true (congrArg V.int z))
          have hf1 : f + 1 < os.length := by omega
          obtain ⟨x2, hxf2⟩ : ∃ x, ys[f + 1]? = some x := ⟨_, List.getElem?_eq_getElem (by omega)⟩
          obtain ⟨⟨b2, e2'⟩, hof2, hot2⟩ := paired_get hy hxf2
          obtain ⟨c2', rfl, hc2⟩ := hot2
          have dr2 : os.drop (f + 1) = (b2, e2') :: os.drop (f + 2) := by
            rw [List.drop_eq_getElem_cons hf1]
            congr 1
            exact (List.getElem?_eq_some_iff.mp hof2).2
          have hix : atI ys ((f : Int) + 1) = some (V.ref c2') := atI_nat (j := f + 1) hxf2
          refine ⟨_, rfl, _, rfl, _, rfl, hq.ix hix ⟨c2', _, 0, .int b2, rfl, rfl, SqT.of hc2, rfl, _, _, rfl, rfl, _, rfl, ?_⟩⟩
          refine ite2 (fun c3 => ?_) (fun c3 => ?_)
          · have c4 : y < b2 := of_decide_eq_true c3
            have er : recM ts ((b, some z) :: os.drop (f + 1)) = (nxT ts z, 1) := by
              rw [dr2]
              show (if (nxT ts z).getD 0 < b2 then _ else _) = _
              rw [hy2]
              exact if_pos c4
            exact ⟨_, rfl, _, rfl, (by show 2 ≤ sizeLine; decide), fun tp htp => fin tp _ _ (some y) htp (by rw [er]; exact hy2) rfl (by rw [er]) rfl⟩
          · have c4 : ¬ y < b2 := fun z => c3 (decide_eq_true z)
            have er : recM ts ((b, some z) :: os.drop (f + 1)) = ((recM ts (os.drop (f + 1))).1, (recM ts (os.drop (f + 1))).2 + 1) := by
              rw [dr2]
              show (if (nxT ts z).getD 0 < b2 then _ else _) = _
              rw [hy2]
              exact if_neg c4
            rw [er] at e1 e2
            refine ⟨⟨f + 1, _, _, rfl, rfl, hf1, e1, by omega⟩, ?_⟩
            show ((os.length : Int) - ((f : Int) + 1)).toNat < ((os.length : Int) - f).toNat
            omega
    · obtain ⟨b, e, h⟩ := h
      exact ⟨b, e, m _ _ h⟩
theorem ok_recovery (T : LX K mg L) : Cal P w K mg base "recovery" 5 L.f_recovery ["runs", "outages", "at"] (spRec) := T.d_recovery.cal fun fd F => fn_recovery T F
end
/-! ### a spell is made -/
def spSInit (C : Addr) : Sp := fun vs H Q _ => ∃ p f r aB aR aO dx, vs = [.ref p, .int f, cV r, .ref aB, .ref aR, .ref aO] ∧ H p = some (.ins C dx []) ∧ ∀ H', H' p = some (.ins C dx (spF f r aB aR aO)) → Kp p H H' → Q .non H'
def spBeh (C CS : Addr) : Sp := fun vs H Q _ => ∃ p B xs ts st ph x d r z, vs = [.ref p, x, .int z] ∧ RowAt C H p B xs ts st ph ∧ SpV CS H x d ∧ d.rcv = some r ∧ d.op.length = ts.length ∧ ∀ l ys H', H' l = some (.lst ys) → Sts (Fr H H') ys (stBeh ts st d z) → Same H H' → H l = none → Q (.ref l) H'
def spSpell (C CS : Addr) : Sp := fun vs H Q _ => ∃ p B xs ts st ph q ys os fr, ∃ (at' n0 : Nat) (bl : Addr) (bz : List V) (bg : List StD) (H0 : Hp), vs = [.ref p, .int fr, .ref bl, .ref q, .int at'] ∧ RowAt C H p B xs ts st ph ∧ (∀ b, H b = none → H0 b = none) ∧ Fr H0 H bl = some (.lst bz) ∧ Sts (Fr H0 H) bz bg ∧ bg.length = ts.length ∧
  SqE H q ys ∧ Ots H ys os ∧ (∀ o ∈ os, ∀ e, o.2 = some e → e ≤ PB 4900) ∧ at' < os.length ∧ 0 ≤ fr ∧ fr ≤ PB n0 ∧ 104 ≤ n0 ∧ n0 ≤ 2000 ∧
  ∀ t p2 H', H' t = some (.tup [.ref p2, .int (at' + spellN ts st fr bg (os.drop at') : Nat)]) → SpV CS (Fr H0 H') (.ref p2) (spellD ts st fr bg (os.drop at')) → Same H H' → H t = none → Q (.ref t) H'
section
variable {P : Program} {w : World} {K : PySem.W.Frag} {mg : Str → Option Value} {base : Heap} {L : LA}
abbrev N_Spellinit : List Str := ["self", "first", "recovered", "begun", "runs", "opened"]
theorem sc_Spellinit : FnScope N_Spellinit ["self", "first", "recovered", "begun", "runs", "opened"] (defScope st_Spell_init) := ⟨rfl, rfl, rfl, by decide +kernel, rfl, by decide +kernel, by decide +kernel⟩
theorem fn_Spellinit (T : LX K mg L) {fd : FuncData} (F : Fun K "__init__" "Spell.__init__" st_Spell_init L.i_Spell fd) : FnOk P w K mg base CX0 1 L.i_Spell fd ["self", "first", "recovered", "begun", "runs", "opened"] (spSInit L.c_Spell) := by
  have nd := sc_Spellinit.nd
  refine F.ok sc_Spellinit (fun vs H Q E h => ?_) (fun cdv A outer S H vs Q E hr h => ?_)
  · obtain ⟨p, f, r, aB, aR, aO, dx, rfl, _⟩ := h
    rfl
  · obtain ⟨p, f, r, aB, aR, aO, dx, rfl, hp, k⟩ := h
    refine ⟨_, (pss_cons (ps_fld (pv 0) (pv 1) rfl)
       (pss_cons (ps_fld (pv 0) (pv 2) rfl)
       (pss_cons (ps_fld (pv 0) (pv 3) rfl)
       (pss_cons (ps_fld (pv 0) (pv 4) rfl)
       (pss_one (ps_fld (pv 0) (pv 5) rfl)))))), ?_⟩
    have z1 := putF_len "first" (.int f) [] (Nat.le_refl 0)
    have z2 := putF_len "recovered" (cV r) _ z1
    have z3 := putF_len "begun" (.ref aB) _ z2
    have z4 := putF_len "runs" (.ref aR) _ z3
    refine ⟨_, rfl, _, rfl, p, L.c_Spell, dx, [], rfl, hp, T.cf_Spell.cl, T.nf_Spell_first, (by show 0 < 1000; decide), ?_⟩
    refine ⟨_, rfl, _, rfl, p, L.c_Spell, dx, _, rfl, upd_same, T.cf_Spell.cl, T.nf_Spell_recovered, Nat.lt_of_le_of_lt z1 (by decide), ?_⟩
    refine ⟨_, rfl, _, rfl, p, L.c_Spell, dx, _, rfl, upd_same, T.cf_Spell.cl, T.nf_Spell_begun, Nat.lt_of_le_of_lt z2 (by decide), ?_⟩
    refine ⟨_, rfl, _, rfl, p, L.c_Spell, dx, _, rfl, upd_same, T.cf_Spell.cl, T.nf_Spell_runs, Nat.lt_of_le_of_lt z3 (by decide), ?_⟩
    refine ⟨_, rfl, _, rfl, p, L.c_Spell, dx, _, rfl, upd_same, T.cf_Spell.cl, T.nf_Spell_opened, Nat.lt_of_le_of_lt z4 (by decide), ?_⟩
    exact k _ upd_same fun b o n e => by
      rw [upd_ne n, upd_ne n, upd_ne n, upd_ne n, upd_ne n]
      exact e
abbrev N_statesbehind : List Str := ["row", "spell", "time", "successes", "breaker", "opening"]
theorem sc_statesbehind : FnScope N_statesbehind ["row", "spell", "time"] (defScope st_states_behind) := ⟨rfl, rfl, rfl, by decide +kernel, rfl, by decide +kernel, by decide +kernel⟩
theorem fn_statesbehind (T : LX K mg L) {fd : FuncData} (F : Fun K "states_behind" "states_behind" st_states_behind L.f_states_behind fd) : FnOk P w K mg base CX0 3 L.f_states_behind fd ["row", "spell", "time"] (spBeh L.c_Row L.c_Spell) := by
  have G_Rowsteplength := ok_Rowsteplength (P := P) (w := w) (base := base) T
  have G_Rowbreakerlist := ok_Rowbreakerlist (P := P) (w := w) (base := base) T
  have nd := sc_statesbehind.nd
  refine F.ok sc_statesbehind (fun vs H Q E h => ?_) (fun cdv A outer S H vs Q E hr h => ?_)
  · obtain ⟨p, B, xs, ts, st, ph, x, d, r, z, rfl, _⟩ := h
    rfl
  · obtain ⟨p, B, xs, ts, st, ph, x, d, r, z, rfl, R, ⟨px, aB, aR, aO, xB, xR, rfl, Sx⟩, hr', hl, k⟩ := h
    refine ⟨_, (pss_cons (ps_set (i := 3) nd rfl (Or.inr rfl) (pe_op op_add (pe_op op_fdivW (pe_op op_sub (pv 2) (pe_fld (pv 1) rfl)) (G_Rowsteplength.p_m0 T.cf_Row.cl (hr.mono (by decide)) (pv 0))) pe_int))
       (pss_one (ps_ret (pe_lc (own := [("breaker", 4), ("opening", 5)]) (g := gTup K 2 (gCons (gName 4) (gCons (gName 5) (gNil)))) (tt := tYes) rfl nd (pi_zip (by rfl) T.b_zip (pa_cons (G_Rowbreakerlist.p_m0 T.cf_Row.cl (hr.mono (by decide)) (pv 0)) (pa_cons (pe_fld (pv 1) rfl) pa_nil))) (blkOk_by (own := [("breaker", 4), ("opening", 5)]) (N := N_statesbehind) (sc := defScope st_states_behind) (by decide +kernel)) (fun _ _ _ _ _ => pg_tup rfl (pgs_cons (pg_name (i := 4) nd rfl (Or.inl rfl)) (pgs_cons (pg_name (i := 5) nd rfl (Or.inl rfl)) pgs_nil))) (fun _ _ _ _ _ => pts_nil) (fun _ _ _ _ _ => (pe_ifExp (PW.pt (pw_and (pt_cmp (pc_notN (pv 5))) (pw_and1 (pt_cmpR op_lt (pv 3) (pe_ix (r := rIxT K) ix_tup (pv 4) pe_int (fun _ _ => rfl)) (nomark _))))) (pe_tup (pa_cons pe_str (pa_cons (pv 3) pa_nil))) (pe_tup (pa_cons pe_str (pa_cons pe_int pa_nil))))))))), ?_⟩
    obtain ⟨dx, hp⟩ := R.ob
    obtain ⟨dy, hpx⟩ := Sx.ob
    rw [hr'] at hpx
    have s0 := R.s0
    refine ⟨_, rfl, _, rfl, px, L.c_Spell, dy, _, _, rfl, hpx, T.cf_Spell.cl, T.nf_Spell_recovered, spF_rcv _ _ _ _ _, _, _, rfl, rfl, ?_⟩
    obtain ⟨suc, hsuc⟩ : ∃ suc, suc = (z - r) / st + 1 := ⟨_, rfl⟩
    have hsuc' : suc = (z - (some r).getD 0) / st + 1 := hsuc
    refine ⟨_, rfl, p, dx, _, rfl, hp, rowF_no _ _ _ (by decide +kernel) (by decide +kernel) (by decide +kernel), p, B, xs, ts, st, ph, rfl, R, _, _, rfl, rfl, ⟨by omega, divBB s0 (st_bb R.s1)⟩, _, _, rfl, rfl, ?_⟩
    refine ⟨_, rfl, p, dx, _, rfl, hp, rowF_no _ _ _ (by decide +kernel) (by decide +kernel) (by decide +kernel), p, B, xs, ts, st, ph, rfl, R, fun l1 H1 hl1 e1 => ?_⟩
    subst e1
    have s1 := Same.upd (o := .lst xs) hl1
    have hO1 := s1 _ _ Sx.hO
    have hpx1 := s1 _ _ hpx
    refine ⟨_, rfl, px, L.c_Spell, dy, _, _, rfl, hpx1, T.cf_Spell.cl, T.nf_Spell_opened, spF_op _ _ _ _ _, l1, aO, xs, d.op.map cV, rfl, SqL.of upd_same, SqL.of hO1, fun D1 hD1 => ?_⟩
    have xl := R.br.len
    refine lc_zip (K := K) (a := l1) (b := aO) (xs := xs) (ys := d.op.map cV) (by rw [List.length_map]; omega) (fun j Hc => ∃ ys, Hc D1 = some (.lst ys) ∧ Sts (Fr H Hc) ys ((stBeh ts st d z).take j) ∧ Same (upd H l1 (.lst xs)) Hc) ⟨[], upd_same, .nil, Same.upd hD1⟩ (fun j Hc ⟨_, _, _, s⟩ => ⟨SqL.of (s _ _ upd_same), SqL.of (s _ _ hO1)⟩) ?_ ?_
    · rintro j x y T1 Hc hx hy ⟨ys, hD, ty, sc⟩ hT1
      obtain ⟨b, hb, hbx⟩ := R.br.get hx
      obtain ⟨o, ho, rfl⟩ : ∃ o, d.op[j]? = some o ∧ y = cV o := by
        rw [List.getElem?_map] at hy
        cases q : d.op[j]? with
        | none => rw [q] at hy; cases hy
        | some o => rw [q] at hy; cases hy; exact ⟨o, rfl, rfl⟩
      have hj := (List.getElem?_eq_some_iff.mp hb).1
      have s2 := sc.trans (Same.upd (o := .tup [x, cV o]) hT1)
      have yl := paired_len ty
      rw [List.length_take] at yl
      have R12 := R.ln
      have hbx2 := hbx.nl (NL.of (s1.trans s2))
      obtain ⟨ab, rfl, hab⟩ := hbx2
      refine ⟨T1, _, rfl, SqT.of upd_same, rfl, _, _, rfl, _, _, rfl, rfl, ?_⟩
      have etk : (stBeh ts st d z).take (j + 1) = (stBeh ts st d z).take j ++ [stB suc b o] := by
        rw [List.take_add_one]
        congr 1
        unfold stBeh
        rw [List.getElem?_zipWith, hb, ho, hr', ← hsuc']
        rfl
      rw [etk]
      have sT := Same.upd (o := .tup [.ref ab, cV o]) hT1
      have hD' := sT _ _ hD
      have ty' := ty.same (Fr.same sT)
      have bl12 : ys.length ≤ 1000 := by omega
      refine ⟨rfl, tYes_of ?_⟩
      cases o with
      | none =>
        refine ⟨_, rfl, _, rfl, iteF ⟨(by show 2 ≤ sizeLine; decide), fun tp htp => ?_⟩⟩
        exact st_turn (d := ("closed", 0)) hD' ty' s2 hD1 s1 htp bl12
      | some v =>
        refine ⟨_, rfl, _, rfl, iteT ⟨_, rfl, _, rfl, ab, _, 2, .int b.2.2, rfl, rfl, SqT.of hab, rfl, _, _, rfl, rfl, _, rfl, ?_⟩⟩
        refine ite2 (fun c => ⟨_, rfl, (by show 2 ≤ sizeLine; decide), fun tp htp => ?_⟩) (fun c => ⟨(by show 2 ≤ sizeLine; decide), fun tp htp => ?_⟩)
        · have c' : suc < b.2.2 := by rw [hsuc]; exact of_decide_eq_true c
          have e : stB suc b (some v) = (("half" : Str), suc) := if_pos ⟨rfl, c'⟩
          rw [e, hsuc]
          exact st_turn (d := ("half", (z - r) / st + 1)) hD' ty' s2 hD1 s1 htp bl12
        · have c' : ¬ suc < b.2.2 := by rw [hsuc]; exact fun q => c (decide_eq_true q)
          have e : stB suc b (some v) = (("closed" : Str), 0) := if_neg fun q => c' q.2
          rw [e]
          exact st_turn (d := ("closed", 0)) hD' ty' s2 hD1 s1 htp bl12
    rintro Hc ⟨ys, hD, ty, sc⟩
    rw [List.length_map, hl, List.take_of_length_le (by unfold stBeh; rw [List.length_zipWith]; omega)] at ty
    exact k D1 ys Hc hD ty (s1.trans sc) (none_of s1 hD1)
theorem ok_statesbehind (T : LX K mg L) : Cal P w K mg base "states_behind" 3 L.f_states_behind ["row", "spell", "time"] (spBeh L.c_Row L.c_Spell) := T.d_states_behind.cal fun fd F => fn_statesbehind T F
end
section
variable {X : Cx} {L : LA}
/-- Spell(..) -/
theorem pe_mkSpell (T : LX X.K X.mg L) (hr : Room 2 X.A) {p pos : Pos} {e : Expr} {es : List Expr} {t : TA} (hg : Gl X "Spell") (ha : PA X (e :: es) t)
    (he : starEach (e :: es) X.env = (false, eval e X.env) :: starEach es X.env := by rfl) (hpl : (backTo pos (starEach es X.env)).any (·.1) = false := by rfl) :
    PE X (.Call (.Name "Spell" p) (e :: es) [] pos) (tMake L.c_Spell (spSInit L.c_Spell) [] E0 t) := by
  obtain ⟨fd, F, b⟩ := T.in_Spell
  exact pe_make T.mk_Spell (fn_Spellinit T F) hr hg T.gc_Spell b .nil pass0 ha (by decide) he hpl
end
theorem spell_made {C : Addr} {H : Hp} {Q : Addr → Hp → Prop} {f : Int} {r : Option Int} {aB aR aO : Addr} (k : ∀ p dx H', H' p = some (.ins C dx (spF f r aB aR aO)) → Same H H' → H p = none → Q p H') :
    ∀ x dx, H x = none → H dx = none → dx ≠ x → spSInit C [.ref x, .int f, cV r, .ref aB, .ref aR, .ref aO] (upd (upd H dx (.own x)) x (.ins C dx [])) (fun v H3 => v = .non ∧ Q x H3) E0 := by
  intro x dx hx hd hne
  have s0 : Same H (upd (upd H dx (.own x)) x (.ins C dx [])) := fun b o e => by
    rw [upd_ne (ne_of_none e hx), upd_ne (ne_of_none e hd)]
    exact e
  exact ⟨x, f, r, aB, aR, aO, dx, rfl, upd_same, fun H' R kp => ⟨rfl, k x dx H' R (fun b o e => kp b o (ne_of_none e hx) (s0 b o e)) hx⟩⟩
theorem paired_last {α β : Type} {F : α → β → Prop} {xs : List α} {ys : List β} {y : β} (h : Paired F xs (ys ++ [y])) : ∃ xi x, xs = xi ++ [x] ∧ F x y := by
  have hl := paired_len h
  rw [List.length_append] at hl
  have hl : xs.length = ys.length + 1 := hl
  have e : (ys ++ [y])[ys.length]? = some y := by rw [List.getElem?_append_right (Nat.le_refl _), Nat.sub_self]; rfl
  obtain ⟨x, hx, hb⟩ := paired_get2 h e
  refine ⟨xs.take ys.length, x, ?_, hb⟩
  have := List.take_add_one (l := xs) (i := ys.length)
  rw [hx, ← hl, List.take_length] at this
  exact this
section
variable {P : Program} {w : World} {K : PySem.W.Frag} {mg : Str → Option Value} {base : Heap} {L : LA}
abbrev N_spellfrom : List Str := ["row", "first", "begun", "outages", "at", "runs", "openings", "breaker", "state", "passed", "opening", "recovered", "following", "opened"]
theorem sc_spellfrom : FnScope N_spellfrom ["row", "first", "begun", "outages", "at"] (defScope st_spell_from) := ⟨rfl, rfl, rfl, by decide +kernel, rfl, by decide +kernel, by decide +kernel⟩
theorem fn_spellfrom (T : LX K mg L) {fd : FuncData} (F : Fun K "spell_from" "spell_from" st_spell_from L.f_spell_from fd) : FnOk P w K mg base CX0 6 L.f_spell_from fd ["row", "first", "begun", "outages", "at"] (spSpell L.c_Row L.c_Spell) := by
  have G_Rowbreakerlist := ok_Rowbreakerlist (P := P) (w := w) (base := base) T
  have G_recovery := ok_recovery (P := P) (w := w) (base := base) T
  have G_passedruns := ok_passedruns (P := P) (w := w) (base := base) T
  have G_Rowsteplength := ok_Rowsteplength (P := P) (w := w) (base := base) T
  have nd := sc_spellfrom.nd
  refine F.ok sc_spellfrom (fun vs H Q E h => ?_) (fun cdv A outer S H vs Q E hr h => ?_)
  · obtain ⟨p, B, xs, ts, st, ph, q, ys, os, fr, at', n0, bl, bz, bg, H0, rfl, _⟩ := h
    rfl
  · obtain ⟨p, B, xs, ts, st, ph, q, ys, os, fr, at', n0, bl, bz, bg, H0, rfl, R, h0, hbl, hbz, bgl, hq, hy, hb, hat, f0, f1, n01, n02, kk⟩ := h
    refine ⟨_, (pss_cons (ps_set (i := 5) nd rfl (Or.inl rfl) (pe_lst (pa_cons (pe_lst (pa_cons (pe_tup (pa_cons (pv 1) (pa_cons (G_Rowsteplength.p_m0 T.cf_Row.cl (hr.mono (by decide)) (pv 0)) (pa_cons pe_non pa_nil)))) pa_nil)) pa_nil)))
       (pss_cons (ps_set (i := 6) nd rfl (Or.inl rfl) (pe_lst pa_nil))
       (pss_cons (ps_for PassesOwn.never rfl (pi_zip (by rfl) T.b_zip (pa_cons (G_Rowbreakerlist.p_m0 T.cf_Row.cl (hr.mono (by decide)) (pv 0)) (pa_cons (pv 2) pa_nil))) (pg_tup rfl (pgs_cons (pg_name (i := 7) nd rfl (Or.inl rfl)) (pgs_cons (pg_name (i := 8) nd rfl (Or.inl rfl)) pgs_nil))) (pss_cons (ps_asg (pe_c G_passedruns (hr.mono (by decide)) rfl (pa_cons (pe_ix (r := rIxL K) ix_list (pv 5) (pe_un un_neg pe_int) (fun _ _ => rfl)) (pa_cons (pv 7) (pa_cons (pv 8) pa_nil)))) (pg_tup rfl (pgs_cons (pg_name (i := 9) nd rfl (Or.inl rfl)) (pgs_cons (pg_name (i := 10) nd rfl (Or.inl rfl)) pgs_nil))))
       (pss_cons (ps_expr (pe_bm PySem.F.plainAttrs_list PySem.F.slot_list_append PySem.F.type_list_append mt_append (pv 5) (pa_cons (pv 9) pa_nil)))
       (pss_one (ps_expr (pe_bm PySem.F.plainAttrs_list PySem.F.slot_list_append PySem.F.type_list_append mt_append (pv 6) (pa_cons (pv 10) pa_nil)))))))
       (pss_cons (ps_asg (pe_c G_recovery (hr.mono (by decide)) rfl (pa_cons (pe_ix (r := rIxL K) ix_list (pv 5) (pe_un un_neg pe_int) (fun _ _ => rfl)) (pa_cons (pv 3) (pa_cons (pv 4) pa_nil)))) (pg_tup rfl (pgs_cons (pg_name (i := 11) nd rfl (Or.inr rfl)) (pgs_cons (pg_name (i := 12) nd rfl (Or.inl rfl)) pgs_nil))))
       (pss_cons (ps_setLc (i := 13) (own := [("opening", 10)]) (g := gName 10) (tt := tYes) rfl nd rfl rfl (sw_true rfl rfl rfl (by decide +kernel)) (pi_list (pv 6)) (blkOk_by (own := [("opening", 10)]) (N := N_spellfrom) (sc := defScope st_spell_from) (by decide +kernel)) (fun _ _ _ _ _ => pg_name (i := 10) nd rfl (Or.inl rfl)) (fun _ _ _ _ _ => pts_nil) (fun _ _ _ _ _ => (pe_ifExp (PW.pt (pw_or (pt_cmp (pc_isN (pv 11))) (pw_or1 (pt_cmpR op_lt (pv 10) (pv 11) (nomark _))))) (pv 10) pe_non)))
       (pss_one (ps_ret (pe_tup (pa_cons (pe_mkSpell T (hr.mono (by decide)) rfl (pa_cons (pv 1) (pa_cons (pv 11) (pa_cons (pv 2) (pa_cons (pv 5) (pa_cons (pv 13) pa_nil)))))) (pa_cons (pv 12) pa_nil)))))))))), ?_⟩
    obtain ⟨dx, hp⟩ := R.ob
    refine ⟨_, rfl, _, rfl, p, dx, _, rfl, hp, rowF_no _ _ _ (by decide +kernel) (by decide +kernel) (by decide +kernel), p, B, xs, ts, st, ph, rfl, R, (by show 3 ≤ sizeLine; decide), fun t1 ht1 => ⟨(by show 1 ≤ sizeLine; decide), fun l1 hl1 => ⟨(by show 1 ≤ sizeLine; decide), fun l2 hl2 => ?_⟩⟩⟩
    refine ⟨(by show 0 ≤ sizeLine; decide), fun l3 hl3 => ?_⟩
    have sa := Same.upd (o := .tup [.int fr, .int st, .non]) ht1
    have sb := sa.trans (Same.upd (o := .lst [.ref t1]) hl1)
    have sc := sb.trans (Same.upd (o := .lst [.ref l1]) hl2)
    have sd := sc.trans (Same.upd (o := .lst []) hl3)
    have nl2 := none_of sb hl2
    have nl3 := none_of sc hl3
    have nl1 := none_of sa hl1
    have h12 : l1 ≠ l2 := ne_of_none (upd_same (a := l1)) hl2
    have h23 : l2 ≠ l3 := ne_of_none (upd_same (a := l2)) hl3
    have h13 : l1 ≠ l3 := ne_of_none (by rw [upd_ne h12]; exact upd_same) hl3
    have Rd := R.nl (NL.of sd)
    obtain ⟨dx2, hp2⟩ := Rd.ob
    refine ⟨_, rfl, p, dx2, _, rfl, hp2, rowF_no _ _ _ (by decide +kernel) (by decide +kernel) (by decide +kernel), p, B, xs, ts, st, ph, rfl, Rd, fun l4 H4 hl4 e4 => ?_⟩
    subst e4
    obtain ⟨ts0, hts0⟩ : ∃ ts0 : List Trn, ts0 = [(fr, st, none)] := ⟨_, rfl⟩
    have se := sd.trans (Same.upd (o := .lst xs) hl4)
    generalize hH4 : upd (upd (upd (upd (upd H t1 (.tup [.int fr, .int st, .non])) l1 (.lst [.ref t1])) l2 (.lst [.ref l1])) l3 (.lst [])) l4 (.lst xs) = H4 at se ⊢
    have g2 : H4 l2 = some (.lst [.ref l1]) := by
      rw [← hH4]
      refine (Same.upd hl4) _ _ ?_
      rw [upd_ne h23]
      exact upd_same
    have g3 : H4 l3 = some (.lst []) := by
      rw [← hH4]
      exact (Same.upd hl4) _ _ upd_same
    have g4 : H4 l4 = some (.lst xs) := by
      rw [← hH4]
      exact upd_same
    have g1 : H4 l1 = some (.lst [.ref t1]) := by
      rw [← hH4]
      refine (Same.upd hl4) _ _ ?_
      rw [upd_ne h13, upd_ne h12]
      exact upd_same
    have gt : H4 t1 = some (.tup [.int fr, .int st, .non]) := by
      have h1 := (Same.upd (o := .lst [.ref t1]) hl1) _ _ (upd_same (H := H) (a := t1) (o := .tup [.int fr, .int st, .non]))
      have h2 := (Same.upd (o := .lst [.ref l1]) hl2) _ _ h1
      have h3 := (Same.upd (o := .lst []) hl3) _ _ h2
      rw [← hH4]
      exact (Same.upd hl4) _ _ h3
    have hbl0 : H bl = some (.lst bz) := Fr.le _ _ hbl
    have nl4 : l4 ≠ l2 := fun z => by
      rw [z] at hl4
      rw [upd_ne h23, upd_same] at hl4
      cases hl4
    have nl43 : l4 ≠ l3 := fun z => by
      rw [z, upd_same] at hl4
      cases hl4
    have nb2 : bl ≠ l2 := ne_of_none hbl0 nl2
    have nb3 : bl ≠ l3 := ne_of_none hbl0 nl3
    -- the base: what stood before, and the two lists
    obtain ⟨Hx, hHx⟩ : ∃ Hx : Hp, Hx = upd (upd H l2 (.lst [])) l3 (.lst []) := ⟨_, rfl⟩
    have x2 : Hx l2 ≠ none := by rw [hHx, upd_ne h23, upd_same]; exact fun z => nomatch z
    have x3 : Hx l3 ≠ none := by rw [hHx, upd_same]; exact fun z => nomatch z
    have sx : Same H Hx := fun b o e => by
      rw [hHx, upd_ne (ne_of_none e nl3), upd_ne (ne_of_none e nl2)]
      exact e
    have xnew : ∀ {b}, b ≠ l2 → b ≠ l3 → H b = none → Hx b = none := fun n1 n2 e => by rw [hHx, upd_ne n2, upd_ne n1]; exact e
    have xlen := R.br.len
    have R12 := R.ln
    have bzl := paired_len hbz
    have e40 : (1000000000000000000000000000000 : Int) ≤ PB 104 := PB_of (by decide +kernel)
    have R0 : RunOk n0 1 fr ts0 := by
      rw [hts0]
      refine ⟨⟨fun t ht => ?_, List.pairwise_singleton _ _⟩, fun t ht => ?_, Nat.le_refl _, rfl, ?_⟩
      · rw [List.mem_singleton.mp ht]
        exact ⟨f0, R.s0, fun c e => nomatch e⟩
      · rw [List.mem_singleton.mp ht]
        exact ⟨f1, Int.le_trans R.s1 (Int.le_trans e40 (PB_le n01)), fun c e => nomatch e⟩
      · show some (fr + 0 * st) = some fr
        rw [Int.zero_mul, Int.add_zero]
    have t12 : t1 ≠ l2 := fun z => by
      rw [z, g2] at gt
      cases gt
    have t13 : t1 ≠ l3 := fun z => by
      rw [z, g3] at gt
      cases gt
    have it0 : TrAt (Fr Hx H4) (.ref t1) (fr, st, none) := ⟨t1, rfl, by rw [Fr.new (xnew t12 t13 ht1)]; exact gt⟩
    have i1 : RunAt (Fr Hx H4) (.ref l1) ts0 := ⟨l1, [.ref t1], rfl, by rw [Fr.new (xnew h12 h13 nl1)]; exact g1, by rw [hts0]; exact .cons it0 .nil⟩
    have i0 : Rns (Fr Hx H4) [.ref l1] [ts0] := .cons i1 .nil
    refine ⟨_, rfl, l4, bl, xs, bz, rfl, SqL.of g4, SqL.of (se _ _ hbl0), ?_⟩
    refine RZ.for_zipL (K := K) (a := l4) (b := bl) (xs := xs) (ys := bz) (by omega) (fun i σ H2 => ∃ v7 v8 v9 v10 : Option V, ∃ zR zO, ∃ (Rr : List (List Trn)) (g : List Trn) (O : List Int),
        σ = [some (.ref p), some (.int fr), some (.ref bl), some (.ref q), some (.int at'), some (.ref l2), some (.ref l3), v7, v8, v9, v10, none, none, none] ∧
        H2 l2 = some (.lst zR) ∧ Rns (Fr Hx H2) zR (Rr ++ [g]) ∧ H2 l3 = some (.lst zO) ∧ zO = O.map V.int ∧ O.length = i ∧ Rr.length = i ∧
        chR ts bg ts0 = Rr ++ chR (ts.drop i) (bg.drop i) g ∧ chO ts bg ts0 = O ++ chO (ts.drop i) (bg.drop i) g ∧ chL ts bg ts0 = chL (ts.drop i) (bg.drop i) g ∧
        RunOk (n0 + 44 * i) (1 + i) fr g ∧ Same H H2 ∧ H2 l4 = some (.lst xs))
      ⟨none, none, none, none, [.ref l1], [], [], ts0, [], rfl, g2, i0, g3, rfl, rfl, rfl, rfl, rfl, rfl, R0, se, g4⟩
      (fun i σ H2 ⟨_, _, _, _, _, _, _, _, _, _, _, _, _, _, _, _, _, _, _, _, s, h4⟩ => ⟨SqL.of h4, SqL.of (s _ _ hbl0)⟩) ?_ ?_
    · rintro i x y T1 σ H2 hx hy' ⟨v7, v8, v9, v10, zR, zO, Rr, g, O, rfl, h2, hR, h3, rfl, ol, rl, c1, c2, c3, RG, s2, h4⟩ hT1
      obtain ⟨b, hbb, hbx⟩ := R.br.get hx
      obtain ⟨s, hss, hsx⟩ := paired_get hbz hy'
      have hi := (List.getElem?_eq_some_iff.mp hbb).1
      have sT := Same.upd (o := .tup [x, y]) hT1
      have okb := R.ok b (List.mem_of_getElem? hbb)
      obtain ⟨zi, lg, rfl, ga, gx, rfl, hga, hgx⟩ : ∃ zi lg, zR = zi ++ [lg] ∧ RunAt (Fr Hx H2) lg g := paired_last hR
      have hga2 := sT _ _ (Fr.le _ _ hga)
      have hgx2 := (Trs.same Fr.le hgx).same sT
      have n100 : 100 ≤ n0 + 44 * i := by omega
      have ndl : 1 ≤ ndOf b s ∧ ndOf b s ≤ 1000000000000 := by unfold ndOf; obtain ⟨o1, o2, _⟩ := okb; split <;> omega
      obtain ⟨o, y2, ho, hy2, o0, oB, yB, fo, RG2, PG, _⟩ := pass_ok RG ndl.1 (Int.le_trans ndl.2 (PB_of (n := 40) (by decide +kernel))) okb.2.2.1 (Int.le_trans okb.2.2.2.1 (PB_of (n := 100) (by decide +kernel))) n100
      have s2T := s2.trans sT
      refine ⟨T1, _, rfl, SqT.of upd_same, rfl, _, _, rfl, _, _, rfl, rfl, ?_⟩
      refine ⟨_, rfl, 1, rfl, l2, _, -1, .ref ga, rfl, rfl, SqL.of (sT _ _ h2), atI_last zi _, _, rfl, _, rfl, ga, x, y, gx, g, b, s, n0 + 44 * i, 1 + i, fr, o, rfl, hga2, hgx2, hbx.nl (NL.of s2T), okb, (Sts.same Fr.le hbz |> fun _ => hsx.same (Fr.le.trans s2T)), RG, n100, by omega, by omega, ho, fun t l zs H6 ht hl tz s6 nt nl => ?_⟩
      refine ⟨t, _, rfl, SqT.of ht, rfl, _, _, rfl, _, _, rfl, rfl, ?_⟩
      have h26 := s6 _ _ (sT _ _ h2)
      have h36 := s6 _ _ (sT _ _ h3)
      have zl := paired_len hR
      rw [List.length_append, List.length_append] at zl
      have zl : zi.length + 1 = Rr.length + 1 := zl
      refine ⟨_, rfl, .inl ⟨rfl, _, SqL.of h26⟩, _, rfl, l2, _, _, rfl, rfl, h26, small1 (by rw [List.length_append]; show zi.length + 1 ≤ 100000; omega), ?_⟩
      obtain ⟨H7, hH7⟩ : ∃ H7 : Hp, H7 = upd H6 l2 (.lst ((zi ++ [.ref ga]) ++ [.ref l])) := ⟨_, rfl⟩
      rw [← hH7]
      have h37 : H7 l3 = some (.lst (O.map V.int)) := by rw [hH7, upd_ne h23.symm]; exact h36
      have h27 : H7 l2 = some (.lst ((zi ++ [.ref ga]) ++ [.ref l])) := by rw [hH7]; exact upd_same
      have k7 : Kp l2 H6 H7 := by rw [hH7]; exact Kp.upd
      refine ⟨_, rfl, .inl ⟨rfl, _, SqL.of h37⟩, _, rfl, l3, _, _, rfl, rfl, h37, small1 (by rw [List.length_map]; omega), ?_⟩
      have k8 : Kp l3 H7 (upd H7 l3 (.lst (O.map V.int ++ [.int o]))) := Kp.upd
      have nl6 : H l = none := none_of s2T nl
      have nlx : Hx l = none := xnew (ne_of_none (sT _ _ h2) nl |>.symm) (ne_of_none (sT _ _ h3) nl |>.symm) nl6
      have ll2 : l ≠ l2 := (ne_of_none (sT _ _ h2) nl).symm
      have ll3 : l ≠ l3 := (ne_of_none (sT _ _ h3) nl).symm
      have sF : Same (Fr Hx H6) (Fr Hx (upd H7 l3 (.lst (O.map V.int ++ [.int o])))) := (Fr.kp k7 x2 h26).trans (Fr.kp k8 x3 h37)
      have hl8 : (upd H7 l3 (.lst (O.map V.int ++ [.int o]))) l = some (.lst zs) := k8 _ _ ll3 (k7 _ _ ll2 hl)
      have tz6 : Trs (Fr Hx H6) zs (passG g (ndOf b s) b.2.1 o) := by
        exact L2.Paired.mapP tz fun u v ⟨a, e, h⟩ => ⟨a, e, Fr.nol h fun _ z => nomatch z⟩
      have dts : ts.drop i = b :: ts.drop (i + 1) := by
        rw [List.drop_eq_getElem_cons hi]
        congr 1
        exact (List.getElem?_eq_some_iff.mp hbb).2
      have dbg : bg.drop i = s :: bg.drop (i + 1) := by
        rw [List.drop_eq_getElem_cons (show i < bg.length by omega)]
        congr 1
        exact (List.getElem?_eq_some_iff.mp hss).2
      rw [dts, dbg] at c1 c2 c3
      have q1 : chR (b :: ts.drop (i + 1)) (s :: bg.drop (i + 1)) g = g :: chR (ts.drop (i + 1)) (bg.drop (i + 1)) (passG g (ndOf b s) b.2.1 o) := by
        show (match At g (ndOf b s - 1) with | some o => _ | none => _) = _
        rw [ho]
      have q2 : chO (b :: ts.drop (i + 1)) (s :: bg.drop (i + 1)) g = o :: chO (ts.drop (i + 1)) (bg.drop (i + 1)) (passG g (ndOf b s) b.2.1 o) := by
        show (match At g (ndOf b s - 1) with | some o => _ | none => _) = _
        rw [ho]
      have q3 : chL (b :: ts.drop (i + 1)) (s :: bg.drop (i + 1)) g = chL (ts.drop (i + 1)) (bg.drop (i + 1)) (passG g (ndOf b s) b.2.1 o) := by
        show (match At g (ndOf b s - 1) with | some o => _ | none => _) = _
        rw [ho]
      refine ⟨_, _, _, _, _, _, Rr ++ [g], passG g (ndOf b s) b.2.1 o, O ++ [o], rfl, ?_, paired_app (((hR.same (Fr.same sT)).same (Fr.same s6)).same sF) (.cons ⟨l, zs, rfl, by rw [Fr.new nlx]; exact hl8, tz6.same sF⟩ .nil), upd_same, by rw [List.map_append]; rfl, by rw [List.length_append]; show O.length + 1 = _; omega, by rw [List.length_append]; show Rr.length + 1 = _; omega, ?_, ?_, ?_, ?_, ?_, ?_⟩
      · rw [upd_ne h23]
        exact h27
      · rw [c1, q1, List.append_assoc]
        rfl
      · rw [c2, q2, List.append_assoc]
        rfl
      · rw [c3, q3]
      · rw [show n0 + 44 * (i + 1) = n0 + 44 * i + 44 by omega, show 1 + (i + 1) = 1 + i + 1 by omega]
        exact RG2
      · intro u w e
        exact k8 _ _ (ne_of_none e nl3) (k7 _ _ (ne_of_none e nl2) (s6 _ _ (s2T _ _ e)))
      · exact k8 _ _ nl43 (k7 _ _ nl4 (s6 _ _ (sT _ _ h4)))
    · rintro σ H2 ⟨v7, v8, v9, v10, zR, zO, Rr, g, O, rfl, h2, hR, h3, rfl, ol, rl, c1, c2, c3, RG, s2, h4⟩
      have d1 : ts.drop xs.length = [] := List.drop_eq_nil_of_le (by omega)
      rw [d1] at c1 c2 c3
      have c1 : chR ts bg ts0 = Rr ++ [g] := c1
      have c2 : chO ts bg ts0 = O ++ [] := c2
      have c3 : chL ts bg ts0 = g := c3
      rw [List.append_nil] at c2
      obtain ⟨zi, lg, rfl, ga, gx, rfl, hga, hgx⟩ : ∃ zi lg, zR = zi ++ [lg] ∧ RunAt (Fr Hx H2) lg g := paired_last hR
      have hga2 := Fr.le _ _ hga
      have hgx2 := Trs.same Fr.le hgx
      refine ⟨_, rfl, 1, rfl, l2, _, -1, .ref ga, rfl, rfl, SqL.of h2, atI_last zi _, _, rfl, _, rfl, ga, q, gx, g, ys, os, _, _, fr, at', rfl, hga2, hgx2, RG, by omega, by omega, hq.same s2, hy.same s2, hb, hat, fun t H3 ht s3 nt => ?_⟩
      obtain ⟨rc, hrc⟩ : ∃ rc, rc = (recM g (os.drop at')).1 := ⟨_, rfl⟩
      rw [← hrc] at ht
      refine ⟨t, _, rfl, SqT.of ht, rfl, _, _, rfl, _, _, rfl, rfl, ?_⟩
      have h33 := s3 _ _ h3
      refine ⟨_, rfl, l3, rfl, ⟨_, SqL.of h33⟩, fun D1 hD1 => ?_⟩
      refine lc_list (K := K) (a := l3) (xs := O.map V.int) (fun j Hc => Hc D1 = some (.lst (((O.take j).map (cutO rc)).map cV)) ∧ Same H3 Hc) ⟨upd_same, Same.upd hD1⟩ (fun j Hc _ ⟨_, s⟩ => SqL.of (s _ _ h33)) ?_ ?_
      · rintro j y Hc hy2 ⟨hD, sc2⟩
        obtain ⟨o, ho, rfl⟩ : ∃ o, O[j]? = some o ∧ y = .int o := by
          rw [List.getElem?_map] at hy2
          cases q : O[j]? with
          | none => rw [q] at hy2; cases hy2
          | some o => rw [q] at hy2; cases hy2; exact ⟨o, rfl, rfl⟩
        have hj := (List.getElem?_eq_some_iff.mp ho).1
        refine ⟨rfl, tYes_of ?_⟩
        have fin : ∃ acc, Hc D1 = some (.lst acc) ∧ acc.length < sizeLine ∧ (upd Hc D1 (.lst (acc ++ [cV (cutO rc o)]))) D1 = some (.lst (((O.take (j + 1)).map (cutO rc)).map cV)) ∧ Same H3 (upd Hc D1 (.lst (acc ++ [cV (cutO rc o)]))) := by
          refine ⟨_, hD, small1 (by rw [List.length_map, List.length_map, List.length_take]; omega), ?_, fun u w e => ?_⟩
          · rw [upd_same, List.take_add_one, ho, List.map_append, List.map_append]
            rfl
          · rw [upd_ne (ne_of_none e hD1)]
            exact sc2 _ _ e
        clear hrc
        cases rc with
        | none => exact ⟨_, rfl, _, rfl, iteT ⟨_, rfl, fin⟩⟩
        | some r =>
          refine ⟨_, rfl, _, rfl, iteF ⟨_, rfl, _, rfl, _, _, rfl, rfl, _, rfl, ?_⟩⟩
          refine ite2 (fun c => ?_) (fun c => ?_)
          · have e : cutO (some r) o = some o := if_pos (of_decide_eq_true c)
            rw [e] at fin
            exact ⟨_, rfl, fin⟩
          · have e : cutO (some r) o = none := if_neg fun z => c (decide_eq_true z)
            rw [e] at fin
            exact fin
      rintro H5 ⟨hD, s5⟩
      rw [List.length_map, List.take_length] at hD
      refine ⟨_, rfl, _, rfl, _, rfl, _, rfl, _, rfl, ?_⟩
      refine spell_made (f := fr) (r := rc) (aB := bl) (aR := l2) (aO := D1) fun p2 dx3 H6 h6 s6 n6 => ?_
      refine ⟨_, rfl, (by show 2 ≤ sizeLine; decide), fun tp htp => ?_⟩
      have s7 := Same.upd (o := .tup [.ref p2, .int (at' + (recM g (os.drop at')).2 : Nat)]) htp
      have s37 := ((s3.trans s5).trans s6).trans s7
      have s5H := (s2.trans s3).trans s5
      have s27 := s2.trans s37
      have eD : spellD ts st fr bg (os.drop at') = ⟨fr, rc, bg, Rr ++ [g], O.map (cutO rc)⟩ := by
        unfold spellD
        rw [← hts0, c1, c2, c3, ← hrc]
      have eN : spellN ts st fr bg (os.drop at') = (recM g (os.drop at')).2 := by
        unfold spellN
        rw [← hts0, c3]
      refine kk tp p2 _ (by rw [eN]; exact upd_same) ?_ s27 (none_of (s5H.trans s6) htp)
      rw [eD]
      refine ⟨p2, bl, l2, D1, bz, zi ++ [.ref ga], rfl, ⟨dx3, Fr.nol (s7 _ _ h6) fun _ z => nomatch z⟩, Fr.same s27 _ _ hbl, hbz.same (Fr.same s27), ?_, ?_, ?_⟩
      · exact Fr.of (s37 _ _ h2) (.inl (h0 _ nl2))
      · exact (hR.same (Fr.same s37)).same (Fr.base' fun b e => h0 b (none_of sx e))
      · exact Fr.of (s7 _ _ (s6 _ _ hD)) (.inl (h0 _ (none_of (s2.trans s3) hD1)))
theorem ok_spellfrom (T : LX K mg L) : Cal P w K mg base "spell_from" 6 L.f_spell_from ["row", "first", "begun", "outages", "at"] (spSpell L.c_Row L.c_Spell) := T.d_spell_from.cal fun fd F => fn_spellfrom T F
end
/-! ### the spells of a row -/
theorem ch_ok : ∀ {bs : List Tri} {bg : List StD} {n k : Nat} {fr : Int} {ts : List Trn}, RunOk n k fr ts → bg.length = bs.length → (∀ b ∈ bs, OkT b) → 100 ≤ n → (chO bs bg ts).length = bs.length ∧ RunOk (n + 44 * bs.length) (k + bs.length) fr (chL bs bg ts)
  | [], bg, n, k, fr, ts, R, _, _, _ => ⟨by cases bg <;> rfl, by
    have e : chL [] bg ts = ts := by cases bg <;> rfl
    rw [e]
    exact R⟩
  | b :: bs, [], n, k, fr, ts, R, hl, _, _ => by cases hl
  | b :: bs, s :: ss, n, k, fr, ts, R, hl, ho, hn => by
    have okb := ho b (List.mem_cons_self ..)
    have ndl : 1 ≤ ndOf b s ∧ ndOf b s ≤ 1000000000000 := by unfold ndOf; obtain ⟨o1, o2, _⟩ := okb; split <;> omega
    obtain ⟨o, y2, h1, hy2, o0, oB, yB, fo, RG2, _⟩ := pass_ok R ndl.1 (Int.le_trans ndl.2 (PB_of (n := 40) (by decide +kernel))) okb.2.2.1 (Int.le_trans okb.2.2.2.1 (PB_of (n := 100) (by decide +kernel))) hn
    obtain ⟨i1, i2⟩ := ch_ok (bs := bs) (bg := ss) RG2 (by simpa using hl) (fun u hu => ho u (List.mem_cons_of_mem _ hu)) (by omega)
    have e1 : chO (b :: bs) (s :: ss) ts = o :: chO bs ss (passG ts (ndOf b s) b.2.1 o) := by
      show (match At ts (ndOf b s - 1) with | some o => _ | none => _) = _
      rw [h1]
    have e2 : chL (b :: bs) (s :: ss) ts = chL bs ss (passG ts (ndOf b s) b.2.1 o) := by
      show (match At ts (ndOf b s - 1) with | some o => _ | none => _) = _
      rw [h1]
    rw [e1, e2]
    refine ⟨by rw [List.length_cons, List.length_cons, i1], ?_⟩
    rw [show n + 44 * (b :: bs).length = n + 44 + 44 * bs.length by rw [List.length_cons]; omega, show k + (b :: bs).length = k + 1 + bs.length by rw [List.length_cons]; omega]
    exact i2
theorem rec_ok {g : List Trn} : ∀ {l : List Out}, l ≠ [] → 1 ≤ (recM g l).2 ∧ (recM g l).2 ≤ l.length
  | [], h => absurd rfl h
  | [(b, none)], _ => ⟨Nat.le_refl _, Nat.le_refl _⟩
  | [(b, some e)], _ => ⟨Nat.le_refl _, Nat.le_refl _⟩
  | (b, none) :: o :: os, _ => ⟨Nat.le_refl _, by show 1 ≤ os.length + 1 + 1; omega⟩
  | (b, some e) :: (b2, e2) :: os, _ => by
    have ih := rec_ok (g := g) (l := (b2, e2) :: os) (fun z => nomatch z)
    show 1 ≤ (if (nxT g e).getD 0 < b2 then (nxT g e, 1) else ((recM g ((b2, e2) :: os)).1, (recM g ((b2, e2) :: os)).2 + 1)).2 ∧ (if (nxT g e).getD 0 < b2 then (nxT g e, 1) else ((recM g ((b2, e2) :: os)).1, (recM g ((b2, e2) :: os)).2 + 1)).2 ≤ os.length + 1 + 1
    have hl : ((b2, e2) :: os).length = os.length + 1 := rfl
    split
    · exact ⟨Nat.le_refl _, by show 1 ≤ _; omega⟩
    · exact ⟨by show 1 ≤ _ + 1; omega, by show _ + 1 ≤ _; omega⟩
theorem rec_none {g : List Trn} (hs : Srt g) (hT : Tot g = none) : ∀ {l : List Out}, (∀ o ∈ l.dropLast, o.2 ≠ none) → (recM g l).1 = none → (recM g l).2 = l.length
  | [], _, _ => rfl
  | [(b, none)], _, _ => rfl
  | [(b, some e)], _, h => rfl
  | (b, none) :: o :: os, hd, _ => absurd rfl (hd (b, none) (List.mem_cons_self ..))
  | (b, some e) :: (b2, e2) :: os, hd, h => by
    have ih := rec_none (g := g) hs hT (l := (b2, e2) :: os) (fun o ho => hd o (List.mem_cons_of_mem _ ho))
    obtain ⟨y, hy⟩ := nx_end hs hT e
    have er : recM g ((b, some e) :: (b2, e2) :: os) = if (nxT g e).getD 0 < b2 then (nxT g e, 1) else ((recM g ((b2, e2) :: os)).1, (recM g ((b2, e2) :: os)).2 + 1) := rfl
    rw [er] at h ⊢
    by_cases c : (nxT g e).getD 0 < b2
    · rw [if_pos c, hy] at h
      cases h
    · rw [if_neg c] at h ⊢
      show _ + 1 = _
      rw [ih h]
      rfl
structure OsOk (nb : Nat) (os : List Out) : Prop where
  bd : ∀ o ∈ os, 0 ≤ o.1 ∧ o.1 ≤ PB nb ∧ ∀ e, o.2 = some e → e ≤ PB nb
  la : ∀ o ∈ os.dropLast, o.2 ≠ none
  ln : os.length ≤ 60
  n1 : 104 ≤ nb
  n2 : nb ≤ 1900
def reqA (ph st b : Int) : Int := ph + stepsUp (b - ph) st * st
theorem reqA_ok {ph st b : Int} (s1 : 1 ≤ st) (s2 : st ≤ 1000000000000000000000000000000) (p0 : 0 ≤ ph) (p1 : ph ≤ 1000000000000000000000000000000) {nb : Nat} (b1 : b ≤ PB nb) (n1 : 104 ≤ nb) : 0 ≤ reqA ph st b ∧ reqA ph st b ≤ PB (nb + 1) ∧ 0 ≤ stepsUp (b - ph) st ∧ stepsUp (b - ph) st ≤ PB nb := by
  have e104 : (1000000000000000000000000000000 : Int) ≤ PB 104 := PB_of (by decide +kernel)
  have e2 : PB 104 ≤ PB nb := PB_le n1
  have e3 := PB_succ nb
  have e4 := PB_pos nb
  have h0 : 0 ≤ stepsUp (b - ph) st := by unfold stepsUp; split <;> omega
  have h1 := steps_le' (d := b - ph) (p := st) (by omega)
  have h2 := Int.mul_nonneg h0 (show 0 ≤ st by omega)
  unfold reqA
  by_cases c : 0 < b - ph
  · rw [if_pos c] at h1
    have h3 := (stride_lt (wt := b - ph) (p := st) (by omega) (by omega)).1
    omega
  · rw [if_neg c] at h1
    have : stepsUp (b - ph) st = 0 := by omega
    rw [this, Int.zero_mul]
    omega
def bgOf (bs : List Tri) (stp : Int) (pv : Option SpD) (z : Int) : List StD := match pv with
  | none => List.replicate bs.length ("closed", 0)
  | some d => stBeh bs stp d z
theorem spM_skip {bs : List Tri} {stp ph : Int} {n : Nat} {pv : Option SpD} {b e : Int} {os : List Out} (h : e ≤ reqA ph stp b) : spM bs stp ph (n + 1) pv ((b, some e) :: os) = spM bs stp ph n pv os := if_pos (decide_eq_true h)
theorem spM_take {bs : List Tri} {stp ph : Int} {n : Nat} {pv : Option SpD} {b : Int} {e : Option Int} {os : List Out} (h : ∀ z, e = some z → ¬ z ≤ reqA ph stp b) :
    spM bs stp ph (n + 1) pv ((b, e) :: os) = spellD bs stp (reqA ph stp b) (bgOf bs stp pv (reqA ph stp b - 1)) ((b, e) :: os) :: spM bs stp ph n (some (spellD bs stp (reqA ph stp b) (bgOf bs stp pv (reqA ph stp b - 1)) ((b, e) :: os))) (((b, e) :: os).drop (spellN bs stp (reqA ph stp b) (bgOf bs stp pv (reqA ph stp b - 1)) ((b, e) :: os))) := by
  cases e with
  | none => rfl
  | some z => exact if_neg fun q => h z rfl (of_decide_eq_true q)
theorem tIf_e {e : Option Int} {i j : Nat} {A B : TS} {D : Ends} {σ : L2.St} {H : Hp} {fr : Int} (he : σ[i]? = some (some (cV e))) (hf : σ[j]? = some (some (.int fr))) (hA : ∀ z, e = some z → z ≤ fr → A D σ H) (hB : (∀ z, e = some z → ¬ z ≤ fr) → B D σ H) :
    tIfS (tAnd (tB (tNotN (tVar i))) (tTest (tOp (rI0 fun i j => V.bl (decide (j ≤ i))) (tVar j) (tVar i)))) A B D σ H := by
  cases e with
  | none => exact ⟨_, he, _, rfl, iteF (hB fun z e => nomatch e)⟩
  | some z =>
    refine ⟨_, he, _, rfl, iteT ⟨_, hf, _, he, _, _, rfl, rfl, _, rfl, ite2 (fun c => hA z rfl (of_decide_eq_true c)) (fun c => hB fun z' e => ?_)⟩⟩
    cases e
    exact fun q => c (decide_eq_true q)
def spSpells (C CS : Addr) : Sp := fun vs H Q _ => ∃ p B xs ts st ph q ys os nb, vs = [.ref p, .ref q] ∧ RowAt C H p B xs ts st ph ∧ SqE H q ys ∧ Ots H ys os ∧ OsOk nb os ∧
  ∀ l zs H', H' l = some (.lst zs) → SpVs CS (Fr H H') zs (spM ts st ph os.length none os) → Same H H' → H l = none → Q (.ref l) H'
section
variable {P : Program} {w : World} {K : PySem.W.Frag} {mg : Str → Option Value} {base : Heap} {L : LA}
abbrev N_spellsof : List Str := ["row", "outages", "spells", "at", "begin", "end", "first", "begun", "spell"]
theorem sc_spellsof : FnScope N_spellsof ["row", "outages"] (defScope st_spells_of) := ⟨rfl, rfl, rfl, by decide +kernel, rfl, by decide +kernel, by decide +kernel⟩
theorem fn_spellsof (T : LX K mg L) {fd : FuncData} (F : Fun K "spells_of" "spells_of" st_spells_of L.f_spells_of fd) : FnOk P w K mg base CX0 7 L.f_spells_of fd ["row", "outages"] (spSpells L.c_Row L.c_Spell) := by
  have G_requesttime := ok_requesttime (P := P) (w := w) (base := base) T
  have G_firstrequest := ok_firstrequest (P := P) (w := w) (base := base) T
  have G_spellfrom := ok_spellfrom (P := P) (w := w) (base := base) T
  have G_statesbehind := ok_statesbehind (P := P) (w := w) (base := base) T
  have G_closedstates := ok_closedstates (P := P) (w := w) (base := base) T
  have G_Rowlen := ok_Rowlen (P := P) (w := w) (base := base) T
  have nd := sc_spellsof.nd
  refine F.ok sc_spellsof (fun vs H Q E h => ?_) (fun cdv A outer S H vs Q E hr h => ?_)
  · obtain ⟨p, B, xs, ts, st, ph, q, ys, os, nb, rfl, _⟩ := h
    rfl
  · obtain ⟨p, B, xs, ts, st, ph, q, ys, os, nb, rfl, R, hq, hy, O, kk⟩ := h
    refine ⟨_, (pss_cons (ps_set (i := 2) nd rfl (Or.inl rfl) (pe_lst pa_nil))
       (pss_cons (ps_set (i := 3) nd rfl (Or.inl rfl) pe_int)
       (pss_cons (ps_while PassesOwn.never (pt_cmpR op_lt (pv 3) (pe_callB call_len_seq (by rfl) T.b_len PySem.boot_len (pa_cons (pv 1) pa_nil)) (nomark _)) (pss_cons (ps_asg (pe_ix (r := rIx K) ix_seq (pv 1) (pv 3) (fun _ _ => rfl)) (pg_tup rfl (pgs_cons (pg_name (i := 4) nd rfl (Or.inl rfl)) (pgs_cons (pg_name (i := 5) nd rfl (Or.inl rfl)) pgs_nil))))
       (pss_cons (ps_set (i := 6) nd rfl (Or.inl rfl) (pe_c G_requesttime (hr.mono (by decide)) rfl (pa_cons (pv 0) (pa_cons (pe_c G_firstrequest (hr.mono (by decide)) rfl (pa_cons (pv 0) (pa_cons (pv 4) pa_nil))) pa_nil))))
       (pss_one (ps_if (PW.pt (pw_and (pt_cmp (pc_notN (pv 5))) (pw_and1 (pt_cmpR op_ge (pv 6) (pv 5) (nomark _))))) (pss_one (ps_aug (i := 3) nd rfl (Or.inl rfl) pe_int ip_add)) (C8.pss_cut (ps_set (i := 7) nd rfl (Or.inl rfl) (pe_ifExp (pt_truth (pv 2) (fun _ => rfl)) (pe_c G_statesbehind (hr.mono (by decide)) rfl (pa_cons (pv 0) (pa_cons (pe_ix (r := rIxL K) ix_list (pv 2) (pe_un un_neg pe_int) (fun _ _ => rfl)) (pa_cons (pe_op op_sub (pv 6) pe_int) pa_nil)))) (pe_c G_closedstates (hr.mono (by decide)) rfl (pa_cons (pe_callB (G_Rowlen.c_len (hr.mono (by decide))) (by rfl) T.b_len PySem.boot_len (pa_cons (pv 0) pa_nil)) pa_nil))))
       (pss_cons (ps_asg (pe_c G_spellfrom (hr.mono (by decide)) rfl (pa_cons (pv 0) (pa_cons (pv 6) (pa_cons (pv 7) (pa_cons (pv 1) (pa_cons (pv 3) pa_nil)))))) (pg_tup rfl (pgs_cons (pg_name (i := 8) nd rfl (Or.inl rfl)) (pgs_cons (pg_name (i := 3) nd rfl (Or.inl rfl)) pgs_nil))))
       (pss_one (ps_expr (pe_bm PySem.F.plainAttrs_list PySem.F.slot_list_append PySem.F.type_list_append mt_append (pv 2) (pa_cons (pv 8) pa_nil)))))))))))
       (pss_one (ps_ret (pv 2)))))), ?_⟩
    refine ⟨(by show 0 ≤ sizeLine; decide), fun l hl => ?_⟩
    have s1 := Same.upd (o := .lst []) hl
    obtain ⟨H1, hH1⟩ : ∃ H1 : Hp, H1 = upd H l (.lst []) := ⟨_, rfl⟩
    have hl1 : H1 l = some (.lst []) := by rw [hH1]; exact upd_same
    have xl1 : H1 l ≠ none := by rw [hl1]; exact fun z => nomatch z
    rw [← hH1] at s1 ⊢
    have yl := paired_len hy
    have R12 := R.ln
    have Os := O.ln
    refine while_by (fun σ H2 => ∃ f n' : Nat, ∃ v4 v5 v6 v7 v8 : Option V, ∃ (zs : List V) (ds : List SpD), σ = [some (.ref p), some (.ref q), some (.ref l), some (.int f), v4, v5, v6, v7, v8] ∧ H2 l = some (.lst zs) ∧ SpVs L.c_Spell (Fr H1 H2) zs ds ∧ os.length - f ≤ n' ∧ f ≤ os.length ∧ zs.length ≤ f ∧
        spM ts st ph os.length none os = ds ++ spM ts st ph n' ds.getLast? (os.drop f) ∧ Same H H2 ∧ (f < os.length → ∀ d ∈ ds, (∃ r, d.rcv = some r) ∧ d.op.length = ts.length))
      (fun σ _ => match σ with | [_, _, _, some (.int f), _, _, _, _, _] => (os.length - f).toNat | _ => 0)
      ⟨0, os.length, none, none, none, none, none, [], [], rfl, hl1, .nil, Nat.le_refl _, Nat.zero_le _, Nat.le_refl _, rfl, s1, fun _ d hd => nomatch hd⟩ ?_ ?_
    · rintro σ H2 ⟨f, n', v4, v5, v6, v7, v8, zs, ds, rfl, h2, dv, fn, fl, zf, em, s2, lst⟩
      refine ⟨_, rfl, _, rfl, q, ys, rfl, (hq.same s2).sq, _, _, rfl, rfl, _, rfl, ?_⟩
      refine ite2 (fun c => ?_) (fun c => ?_)
      rotate_left
      · have c' : ¬ (f : Int) < ys.length := fun z => c (decide_eq_true z)
        have d0 : os.drop f = [] := List.drop_eq_nil_of_le (by omega)
        rw [d0] at em
        have e0 : spM ts st ph n' ds.getLast? [] = [] := by cases n' <;> rfl
        rw [e0, List.append_nil] at em
        refine ⟨_, rfl, kk l zs H2 h2 ?_ s2 hl⟩
        rw [em]
        exact dv.same (Fr.base s1)
      have c' : (f : Int) < ys.length := of_decide_eq_true c
      have hf : f < os.length := by omega
      obtain ⟨x, hxf⟩ : ∃ x, ys[f]? = some x := ⟨_, List.getElem?_eq_getElem (by omega)⟩
      obtain ⟨⟨b, e⟩, hof, hot⟩ := paired_get (hy.same s2) hxf
      obtain ⟨cx, rfl, hc⟩ := hot
      have hmem := List.mem_of_getElem? hof
      obtain ⟨b0, b1, b2⟩ := O.bd _ hmem
      have b0 : 0 ≤ b := b0
      have b1 : b ≤ PB nb := b1
      have dr : os.drop f = (b, e) :: os.drop (f + 1) := by
        rw [List.drop_eq_getElem_cons hf]
        congr 1
        exact (List.getElem?_eq_some_iff.mp hof).2
      have R2 := R.nl (NL.of s2)
      obtain ⟨f0, f1, f2, f3⟩ := reqA_ok R.s0 R.s1 R.p0 R.p1 b1 O.n1
      have nB : PB nb ≤ BB := PB_le (by have := O.n2; omega)
      obtain ⟨m', rfl⟩ : ∃ m', n' = m' + 1 := ⟨n' - 1, by omega⟩
      refine ⟨_, rfl, _, rfl, (hq.same s2).ix (atI_nat hxf) ⟨cx, _, rfl, SqT.of hc, rfl, _, _, rfl, _, _, rfl, rfl, ?_⟩⟩
      refine ⟨_, rfl, _, rfl, _, rfl, p, B, xs, ts, st, ph, b, rfl, R2, b0, p, B, xs, ts, st, ph, _, rfl, R2, f2, by omega, ?_⟩
      refine tIf_e (e := e) (fr := reqA ph st b) rfl rfl (fun z ez zl => ?_) (fun hno => ?_)
      · subst ez
        refine ⟨_, rfl, _, _, rfl, rfl, ⟨f + 1, m', _, _, _, _, _, zs, ds, rfl, h2, dv, by omega, by omega, by omega, ?_, s2, fun _ => lst hf⟩, ?_⟩
        · rw [em, dr, spM_skip zl]
        · show ((os.length : Int) - ((f : Int) + 1)).toNat < ((os.length : Int) - f).toNat
          omega
      -- a spell
      obtain ⟨fr, hfr⟩ : ∃ fr, fr = reqA ph st b := ⟨_, rfl⟩
      obtain ⟨bg, hbg⟩ : ∃ bg, bg = bgOf ts st ds.getLast? (fr - 1) := ⟨_, rfl⟩
      refine ⟨fun σ' H' => ∃ bl bz, σ' = [some (.ref p), some (.ref q), some (.ref l), some (.int f), some (.int b), some (cV e), some (.int fr), some (.ref bl), v8] ∧ H' bl = some (.lst bz) ∧ Sts (Fr H2 H') bz bg ∧ bg.length = ts.length ∧ Same H2 H' ∧ H2 bl = none, ?_, ?_⟩
      · cases hgl : ds.getLast? with
        | none =>
          have d0 : ds = [] := List.getLast?_eq_none_iff.mp hgl
          have z0 : zs = [] := by
            have := paired_len dv
            rw [d0] at this
            exact List.length_eq_zero_iff.mp this
          rw [z0] at h2
          rw [hgl] at hbg
          obtain ⟨dxr, hpr⟩ := R2.ob
          have xlr := R2.br.len
          refine ⟨_, rfl, false, .inl ⟨[], SqL.of h2, rfl⟩, iteF ⟨_, rfl, p, dxr, _, rfl, hpr, p, B, xs, ts, st, ph, rfl, R2, _, rfl, by omega, by omega, xs.length, rfl, by omega, fun bl bz H3 hbl hbz s3 nbl => ⟨bl, bz, (by rw [hfr]; rfl), hbl, ?_, ?_, s3, nbl⟩⟩⟩
          · rw [hbg]
            rw [xlr] at hbz
            exact L2.Paired.mapP hbz fun u v ⟨a, e, h⟩ => ⟨a, e, Fr.nol h fun _ z => nomatch z⟩
          · rw [hbg]
            exact List.length_replicate
        | some d =>
          obtain ⟨ini, hini⟩ := List.getLast?_eq_some_iff.mp hgl
          rw [hini] at dv
          obtain ⟨zi, lx, rfl, hlx⟩ := paired_last dv
          obtain ⟨⟨r, hr'⟩, hol⟩ := lst hf d (by rw [hini]; exact List.mem_append_right _ (List.mem_singleton.mpr rfl))
          rw [hgl] at hbg
          refine ⟨_, rfl, true, .inl ⟨_, SqL.of h2, by simp⟩, iteT ⟨_, rfl, _, rfl, 1, rfl, l, _, -1, lx, rfl, rfl, SqL.of h2, atI_last zi _, _, rfl, _, _, rfl, rfl, p, B, xs, ts, st, ph, lx, d, r, fr - 1, (by rw [hfr]; rfl), R2, hlx.same Fr.le, hr', hol, fun bl bz H3 hbl hbz s3 nbl => ⟨bl, bz, ?_, hbl, ?_, ?_, s3, nbl⟩⟩⟩
          · rw [hfr]
            rfl
          · rw [hbg]
            exact hbz
          · rw [hbg]
            show (stBeh ts st d (fr - 1)).length = _
            unfold stBeh
            rw [List.length_zipWith, hol, Nat.min_self]
      rintro σ' H3 ⟨bl, bz, rfl, hbl, hbz, bgl, s3, nbl⟩
      have s23 := s2.trans s3
      have h23 : ∀ a, H3 a = none → H2 a = none := fun a e => none_of s3 e
      refine ⟨_, rfl, _, rfl, _, rfl, _, rfl, _, rfl, p, B, xs, ts, st, ph, q, ys, os, fr, f, nb + 1, bl, bz, bg, H2, rfl, R.nl (NL.of s23), h23, by rw [Fr.new nbl]; exact hbl, hbz, bgl, hq.same s23, hy.same s23, fun o ho e he => Int.le_trans ((O.bd o ho).2.2 e he) (PB_le (by have := O.n2; omega)), hf, by rw [hfr]; exact f0, by rw [hfr]; exact f1, by have := O.n1; omega, by have := O.n2; omega, fun t p2 H4 ht hsp s4 nt => ?_⟩
      refine ⟨t, _, rfl, SqT.of ht, rfl, _, _, rfl, _, _, rfl, rfl, ?_⟩
      have s34 := s3.trans s4
      have h24 := s34 _ _ h2
      refine ⟨_, rfl, .inl ⟨rfl, _, SqL.of h24⟩, _, rfl, l, _, _, rfl, rfl, h24, small1 (by omega), ?_⟩
      have k5 : Kp l H4 (upd H4 l (.lst (zs ++ [.ref p2]))) := Kp.upd
      obtain ⟨D, hD⟩ : ∃ D, D = spellD ts st fr bg (os.drop f) := ⟨_, rfl⟩
      obtain ⟨N, hN⟩ : ∃ N, N = spellN ts st fr bg (os.drop f) := ⟨_, rfl⟩
      rw [← hD] at hsp
      rw [← hN]
      have nN : 1 ≤ N ∧ N ≤ os.length - f := by
        have := rec_ok (g := chL ts bg [(fr, st, none)]) (l := os.drop f) (by rw [dr]; exact fun z => nomatch z)
        rw [List.length_drop] at this
        rw [hN]
        exact this
      have em2 : spM ts st ph os.length none os = (ds ++ [D]) ++ spM ts st ph m' (some D) (os.drop (f + N)) := by
        rw [em, dr, spM_take hno, ← hfr, ← hbg, ← dr, ← hD, ← hN, List.drop_drop, List.append_assoc]
        rfl
      refine ⟨⟨f + N, m', _, _, _, _, _, zs ++ [.ref p2], ds ++ [D], rfl, upd_same, ?_, by omega, by omega, by rw [List.length_append]; show zs.length + 1 ≤ f + N; omega, ?_, fun u w e => ?_, fun hl2 d hd => ?_⟩, ?_⟩
      · have sF := Fr.kp (H0 := H1) k5 xl1 h24
        refine paired_app ((dv.same (Fr.same s34)).same sF) (.cons ((hsp.same (Fr.base' fun a e => ?_)).same sF) .nil)
        cases q : H1 a with
        | none => rfl
        | some o =>
          by_cases al : a = l
          · rw [al, h2] at e
            cases e
          · rw [hH1, upd_ne al] at q
            rw [s2 _ _ q] at e
            cases e
      · rw [em2, List.getLast?_concat]
      · rw [upd_ne (ne_of_none e hl)]
        exact s4 _ _ (s3 _ _ (s2 _ _ e))
      · rcases List.mem_append.mp hd with hd | hd
        · exact lst hf d hd
        · rw [List.mem_singleton.mp hd, hD]
          have R0 : RunOk (nb + 1) 1 fr [(fr, st, none)] := by
            refine ⟨⟨fun t ht => ?_, List.pairwise_singleton _ _⟩, fun t ht => ?_, Nat.le_refl _, rfl, ?_⟩
            · rw [List.mem_singleton.mp ht]
              exact ⟨by rw [hfr]; exact f0, R.s0, fun c e => nomatch e⟩
            · rw [List.mem_singleton.mp ht]
              exact ⟨by rw [hfr]; exact f1, Int.le_trans R.s1 (Int.le_trans (PB_of (n := 104) (by decide +kernel)) (PB_le (by have := O.n1; omega))), fun c e => nomatch e⟩
            · show some (fr + 0 * st) = some fr
              rw [Int.zero_mul, Int.add_zero]
          obtain ⟨g1, g2⟩ := ch_ok R0 bgl R.ok (by have := O.n1; omega)
          refine ⟨?_, by show (List.map _ _).length = _; rw [List.length_map, g1]⟩
          cases hrc : (spellD ts st fr bg (os.drop f)).rcv with
          | some r => exact ⟨r, rfl⟩
          | none =>
            have := rec_none g2.srt g2.en (l := os.drop f) (fun o ho => O.la o (by have e := List.dropLast_append_of_ne_nil (l := os.drop f) (l' := os.take f) (show os.drop f ≠ [] by rw [dr]; exact fun z => nomatch z); rw [List.take_append_drop] at e; rw [e]; exact List.mem_append_right _ ho)) hrc
            rw [List.length_drop] at this
            have e : N = os.length - f := by rw [hN]; exact this
            omega
      · show ((os.length : Int) - ((f + N : Nat) : Int)).toNat < ((os.length : Int) - f).toNat
        omega
    · rintro σ H Q Q' m ⟨v, e, u, e2, a, ys2, e3, hs, i, j, e4, e5, bb, e6, q⟩
      exact ⟨v, e, u, e2, a, ys2, e3, hs, i, j, e4, e5, bb, e6, m _ _ q⟩
theorem ok_spellsof (T : LX K mg L) : Cal P w K mg base "spells_of" 7 L.f_spells_of ["row", "outages"] (spSpells L.c_Row L.c_Spell) := T.d_spells_of.cal fun fd F => fn_spellsof T F
end
/-! ### timelines -/
def VOut : Int → List (Int × Int) → Prop
  | _, [] => True
  | m, o :: r => m ≤ o.1 ∧ o.1 < o.2 ∧ o.2 ≤ 1000000000000000000000000000000 ∧ VOut (o.2 + 1) r
def outs (os : List (Int × Int)) : List Out := os.map fun o => (o.1, some o.2)
def ndL (bs : List Tri) (d : SpD) : List Int := ((bs.zip d.op).filter fun p => p.2.isSome).map fun p => p.1.2.2
def mxL (l : List Int) : Int := l.foldl (fun a b => if a < b then b else a) 1
def whM (bs : List Tri) (st : Int) (d : SpD) : Int := d.rcv.getD 0 + (mxL (ndL bs d) - 1) * st
abbrev MkD := Int × Int × Option Int
def mkM (bs : List Tri) (st : Int) : List SpD → List MkD
  | [] => []
  | [d] => [(d.first, d.rcv.getD 0, some (whM bs st d))]
  | d :: e :: r => (d.first, d.rcv.getD 0, if e.first ≤ whM bs st d then none else some (whM bs st d)) :: mkM bs st (e :: r)
def MkAt (H : Hp) (x : V) (m : MkD) : Prop := ∃ a, x = .ref a ∧ H a = some (.tup [.int m.1, .int m.2.1, cV m.2.2])
abbrev Mks (H : Hp) (xs : List V) (ms : List MkD) : Prop := Paired (MkAt H) xs ms
theorem MkAt.nl {H H' : Hp} (s : NL H H') {x : V} {d : MkD} (h : MkAt H x d) : MkAt H' x d := by
  obtain ⟨a, e, h⟩ := h
  exact ⟨a, e, s _ _ h fun _ z => nomatch z⟩
theorem Mks.nl {H H' : Hp} (s : NL H H') {xs : List V} {ms : List MkD} (h : Mks H xs ms) : Mks H' xs ms := L2.Paired.mapP h fun _ _ z => z.nl s
theorem mxL_fold : ∀ (l : List Int) (a : Int), (∀ y ∈ l, y ≤ l.foldl (fun a b => if a < b then b else a) a) ∧ a ≤ l.foldl (fun a b => if a < b then b else a) a ∧ (l.foldl (fun a b => if a < b then b else a) a = a ∨ l.foldl (fun a b => if a < b then b else a) a ∈ l)
  | [], a => ⟨fun y hy => (nomatch hy), Int.le_refl _, .inl rfl⟩
  | b :: l, a => by
    obtain ⟨h1, h2, h3⟩ := mxL_fold l (if a < b then b else a)
    have h4 : a ≤ (if a < b then b else a) ∧ b ≤ (if a < b then b else a) := by split <;> omega
    rw [List.foldl_cons]
    refine ⟨fun y hy => ?_, Int.le_trans h4.1 h2, ?_⟩
    · rcases List.mem_cons.mp hy with rfl | hy
      · exact Int.le_trans h4.2 h2
      · exact h1 y hy
    · rcases h3 with h3 | h3
      · rw [h3]
        by_cases c : a < b
        · rw [if_pos c]
          exact .inr (List.mem_cons_self ..)
        · rw [if_neg c]
          exact .inl rfl
      · exact .inr (List.mem_cons_of_mem _ h3)
theorem mxL_is {l : List Int} {m : Int} (hm : m ∈ 1 :: l) (hx : ∀ y ∈ 1 :: l, y ≤ m) : m = mxL l := by
  obtain ⟨h1, h2, h3⟩ := mxL_fold l 1
  have a1 : mxL l ≤ m := by
    rcases h3 with h3 | h3
    · exact hx _ (by show mxL l ∈ _; unfold mxL; rw [h3]; exact List.mem_cons_self ..)
    · exact hx _ (List.mem_cons_of_mem _ h3)
  have a2 : m ≤ mxL l := by
    rcases List.mem_cons.mp hm with rfl | hm
    · exact h2
    · exact h1 m hm
  omega
theorem mxL_bd {l : List Int} {B : Int} (h : ∀ y ∈ l, y ≤ B) (hB : 1 ≤ B) : 1 ≤ mxL l ∧ mxL l ≤ B := by
  obtain ⟨h1, h2, h3⟩ := mxL_fold l 1
  refine ⟨h2, ?_⟩
  rcases h3 with h3 | h3
  · unfold mxL; rw [h3]; exact hB
  · exact h _ h3
theorem mkM_len (bs : List Tri) (st : Int) : ∀ ds : List SpD, (mkM bs st ds).length = ds.length
  | [] => rfl
  | [d] => rfl
  | d :: e :: r => by
    show (mkM bs st (e :: r)).length + 1 = (e :: r).length + 1
    rw [mkM_len bs st (e :: r)]
theorem mkM_get {bs : List Tri} {st : Int} : ∀ {ds : List SpD} {i : Nat} {d : SpD}, ds[i]? = some d → (mkM bs st ds)[i]? = some (d.first, d.rcv.getD 0, match ds[i + 1]? with | some e => if e.first ≤ whM bs st d then none else some (whM bs st d) | none => some (whM bs st d))
  | [], i, d, h => by cases h
  | [d'], 0, d, h => by cases h; rfl
  | [d'], i + 1, d, h => by cases h
  | d' :: e :: r, 0, d, h => by cases h; rfl
  | d' :: e :: r, i + 1, d, h => mkM_get (ds := e :: r) (i := i) h
def spIsOut : Sp := fun vs H Q _ => ∃ x, ∃ o : Int × Int, vs = [x] ∧ OtAt H x (o.1, some o.2) ∧ 0 ≤ o.1 ∧ o.1 < o.2 ∧ o.2 ≤ 1000000000000000000000000000000 ∧ Q (.bl true) H
def spChkO : Sp := fun vs H Q _ => ∃ a xs, ∃ os : List (Int × Int), vs = [.ref a] ∧ H a = some (.lst xs) ∧ Ots H xs (outs os) ∧ VOut 0 os ∧ os.length ≤ 50 ∧ ∀ H', Same H H' → Q .non H'
def spWhole (C CS : Addr) : Sp := fun vs H Q _ => ∃ p B xs ts st ph x d r, vs = [.ref p, x] ∧ RowAt C H p B xs ts st ph ∧ SpV CS H x d ∧ d.rcv = some r ∧ d.op.length = ts.length ∧ ∀ H', Same H H' → Q (.int (whM ts st d)) H'
def spMarks (C CS : Addr) : Sp := fun vs H Q _ => ∃ p B xs ts st ph a zs ds, vs = [.ref p, .ref a] ∧ RowAt C H p B xs ts st ph ∧ H a = some (.lst zs) ∧ SpVs CS H zs ds ∧ ds.length ≤ 60 ∧ (∀ d ∈ ds, (∃ r, d.rcv = some r) ∧ d.op.length = ts.length) ∧
  ∀ l ys H', H' l = some (.lst ys) → Mks H' ys (mkM ts st ds) → Same H H' → H l = none → Q (.ref l) H'
section
variable {P : Program} {w : World} {K : PySem.W.Frag} {mg : Str → Option Value} {base : Heap} {L : LA}
abbrev N_isoutage : List Str := ["value", "begin", "end"]
theorem sc_isoutage : FnScope N_isoutage ["value"] (defScope st_is_outage) := ⟨rfl, rfl, rfl, by decide +kernel, rfl, by decide +kernel, by decide +kernel⟩
theorem fn_isoutage (T : LX K mg L) {fd : FuncData} (F : Fun K "is_outage" "is_outage" st_is_outage L.f_is_outage fd) : FnOk P w K mg base CX0 3 L.f_is_outage fd ["value"] (spIsOut) := by
  have G_isatleast := ok_isatleast (P := P) (w := w) (base := base) T
  have G_iswithin := ok_iswithin (P := P) (w := w) (base := base) T
  obtain ⟨tk_MOST_TIME, c_MOST_TIME⟩ := T.n_MOST_TIME
  have nd := sc_isoutage.nd
  refine F.ok sc_isoutage (fun vs H Q E h => ?_) (fun cdv A outer S H vs Q E hr h => ?_)
  · obtain ⟨x, o, rfl, _⟩ := h
    rfl
  · obtain ⟨x, o, rfl, ⟨a, rfl, ha⟩, h1, h2, h3, k⟩ := h
    refine ⟨_, (pss_cons (ps_if (PW.pt (pw_or (pt_not (pt_val (pe_callB call_isi (by rfl) T.b_isinstance (by decide +kernel) (pa_cons (pv 0) (pa_cons (pe_bltn (by rfl) T.b_tuple (by decide +kernel : bootBuiltins "tuple" = some (.type "tuple")) (v := .ty "tuple") rfl) pa_nil))))) (pw_or1 (pt_cmpR op_ne (pe_callB call_len_seq (by rfl) T.b_len PySem.boot_len (pa_cons (pv 0) pa_nil)) pe_int (nomark _))))) (pss_one (ps_ret pe_bl)) pss_nil)
       (pss_cons (ps_asg (pv 0) (pg_tup rfl (pgs_cons (pg_name (i := 1) nd rfl (Or.inl rfl)) (pgs_cons (pg_name (i := 2) nd rfl (Or.inl rfl)) pgs_nil))))
       (pss_one (ps_ret (pe_and (pe_c G_isatleast (hr.mono (by decide)) rfl (pa_cons (pv 1) (pa_cons pe_int pa_nil))) (pe_one (pe_c G_iswithin (hr.mono (by decide)) rfl (pa_cons (pv 2) (pa_cons (pe_op op_add (pv 1) pe_int) (pa_cons (pe_gI c_MOST_TIME) pa_nil)))))))))), ?_⟩
    refine ⟨_, rfl, _, .ty "tuple", _, _, _, rfl, .ty "tuple", (Kd.tup ha).ty, (Kd.tup ha).kit "tuple" _ (.inr ⟨by decide, by decide, rfl⟩), _, rfl, iteF ?_⟩
    refine ⟨_, rfl, a, _, rfl, .inr (SqT.of ha), rfl, _, rfl, iteF ?_⟩
    refine ⟨_, rfl, a, _, rfl, SqT.of ha, rfl, _, _, rfl, _, _, rfl, rfl, ?_⟩
    refine ⟨_, rfl, _, _, _, rfl, .int _, _, rfl, ?_⟩
    show if (decide ((0 : Int) ≤ o.1)) = true then _ else _
    rw [decide_eq_true h1]
    refine iteT ⟨_, rfl, _, rfl, _, _, rfl, rfl, _, _, _, _, rfl, .int _, ?_⟩
    show Q (.bl (decide (o.1 + 1 ≤ o.2) && decide (o.2 ≤ 1000000000000000000000000000000))) H
    rw [k6_pos (show o.1 + 1 ≤ o.2 by omega) h3]
    exact k
theorem ok_isoutage (T : LX K mg L) : Cal P w K mg base "is_outage" 3 L.f_is_outage ["value"] (spIsOut) := T.d_is_outage.cal fun fd F => fn_isoutage T F
abbrev N_checkoutages : List Str := ["outages", "least", "at", "outage"]
theorem sc_checkoutages : FnScope N_checkoutages ["outages"] (defScope st_check_outages) := ⟨rfl, rfl, rfl, by decide +kernel, rfl, by decide +kernel, by decide +kernel⟩
theorem fn_checkoutages (T : LX K mg L) {fd : FuncData} (F : Fun K "check_outages" "check_outages" st_check_outages L.f_check_outages fd) : FnOk P w K mg base CX0 4 L.f_check_outages fd ["outages"] (spChkO) := by
  obtain ⟨tk_MOST_OUTAGES, c_MOST_OUTAGES⟩ := T.n_MOST_OUTAGES
  have G_isoutage := ok_isoutage (P := P) (w := w) (base := base) T
  have nd := sc_checkoutages.nd
  refine F.ok sc_checkoutages (fun vs H Q E h => ?_) (fun cdv A outer S H vs Q E hr h => ?_)
  · obtain ⟨a, xs, os, rfl, _⟩ := h
    rfl
  · obtain ⟨a, xs, os, rfl, ha, hx, hv, hl, k⟩ := h
    refine ⟨_, (pss_cons (ps_if (PW.pt (pw_or (pt_not (pt_val (pe_callB call_isi (by rfl) T.b_isinstance (by decide +kernel) (pa_cons (pv 0) (pa_cons (pe_bltn (by rfl) T.b_list (by decide +kernel : bootBuiltins "list" = some (.type "list")) (v := .ty "list") rfl) pa_nil))))) (pw_or1 (pt_cmpR op_gt (pe_callB call_len_seq (by rfl) T.b_len PySem.boot_len (pa_cons (pv 0) pa_nil)) (pe_gI c_MOST_OUTAGES) (nomark _))))) (pss_one (ps_never)) pss_nil)
       (pss_cons (ps_set (i := 1) nd rfl (Or.inl rfl) pe_int)
       (pss_one (ps_for PassesOwn.never rfl (pi_enum (by rfl) T.b_enumerate (pa_cons (pv 0) pa_nil)) (pg_tup rfl (pgs_cons (pg_name (i := 2) nd rfl (Or.inl rfl)) (pgs_cons (pg_name (i := 3) nd rfl (Or.inl rfl)) pgs_nil))) (pss_cons (ps_if (PW.pt (pw_or (pt_not (pt_val (pe_c G_isoutage (hr.mono (by decide)) rfl (pa_cons (pv 3) pa_nil)))) (pw_or1 (pt_cmpR op_lt (pe_ix (r := rIxT K) ix_tup (pv 3) pe_int (fun _ _ => rfl)) (pv 1) (nomark _))))) (pss_one (ps_never)) pss_nil)
       (pss_one (ps_set (i := 1) nd rfl (Or.inl rfl) (pe_op op_add (pe_ix (r := rIxT K) ix_tup (pv 3) pe_int (fun _ _ => rfl)) pe_int)))))))), ?_⟩
    have xl := paired_len hx
    have ol : (outs os).length = os.length := by unfold outs; rw [List.length_map]
    refine ⟨_, rfl, _, .ty "list", _, _, _, rfl, .ty "list", (Kd.lst ha).ty, (Kd.lst ha).kit "list" _ (.inr ⟨by decide, by decide, rfl⟩), _, rfl, iteF ?_⟩
    refine ⟨_, rfl, a, _, rfl, .inl (SqL.of ha), _, _, rfl, rfl, _, rfl, ?_⟩
    have hn : ¬ ((50 : Int) < (xs.length : Nat)) := by omega
    rw [decide_eq_false hn]
    refine iteF ?_
    refine ⟨_, rfl, a, xs, rfl, SqL.of ha, for_enum (K := K) (a := a) (xs := xs) (fun i σ H2 => ∃ m, ∃ u v : Option V, σ = [some (.ref a), some (.int m), u, v] ∧ Same H H2 ∧ VOut m (os.drop i) ∧ 0 ≤ m) ⟨0, none, none, rfl, Same.refl H, hv, Int.le_refl _⟩ (fun i σ H2 _ ⟨_, _, _, _, s2, _⟩ => SqL.of (s2 _ _ ha)) ?_ ?_⟩
    · rintro i x T' σ H2 hxi ⟨m, u, v, rfl, s2, vo, mm⟩ hT
      obtain ⟨o', ho', hox⟩ := paired_get hx hxi
      obtain ⟨o, ho, rfl⟩ : ∃ o, os[i]? = some o ∧ o' = (o.1, some o.2) := by
        unfold outs at ho'
        rw [List.getElem?_map] at ho'
        cases q : os[i]? with
        | none => rw [q] at ho'; cases ho'
        | some o => rw [q] at ho'; cases ho'; exact ⟨o, rfl, rfl⟩
      have hi := (List.getElem?_eq_some_iff.mp ho).1
      have dr : os.drop i = o :: os.drop (i + 1) := by
        rw [List.drop_eq_getElem_cons hi]
        congr 1
        exact (List.getElem?_eq_some_iff.mp ho).2
      rw [dr] at vo
      obtain ⟨v1, v2, v3, v4⟩ := vo
      have m0 : 0 ≤ o.1 := by omega
      have s3 : Same H (upd H2 T' (.tup [.int (i : Nat), x])) := s2.trans (Same.upd hT)
      have hox3 := hox.same s3
      refine ⟨T', _, rfl, SqT.of upd_same, rfl, _, _, rfl, _, _, rfl, rfl, ?_⟩
      refine ⟨_, rfl, x, o, rfl, hox3, m0, v2, v3, _, rfl, iteF ?_⟩
      obtain ⟨c, rfl, hc⟩ := hox3
      refine ⟨_, rfl, c, _, 0, .int o.1, rfl, rfl, SqT.of hc, rfl, _, rfl, _, _, rfl, rfl, _, rfl, ?_⟩
      rw [decide_eq_false (show ¬ o.1 < m by omega)]
      refine iteF ⟨_, rfl, c, _, 1, .int o.2, rfl, rfl, SqT.of hc, rfl, _, _, rfl, rfl, ?_⟩
      exact ⟨_, _, _, rfl, s3, v4, by omega⟩
    · rintro σ H2 ⟨m, u, v, rfl, s2, _⟩
      exact k H2 s2
theorem ok_checkoutages (T : LX K mg L) : Cal P w K mg base "check_outages" 4 L.f_check_outages ["outages"] (spChkO) := T.d_check_outages.cal fun fd F => fn_checkoutages T F
end
/-! ### facts about all spells -/
theorem run0 {fr st : Int} {n : Nat} (f0 : 0 ≤ fr) (f1 : fr ≤ PB n) (s0 : 1 ≤ st) (s1 : st ≤ 1000000000000000000000000000000) (n1 : 104 ≤ n) : RunOk n 1 fr [(fr, st, none)] := by
  refine ⟨⟨fun t ht => ?_, List.pairwise_singleton _ _⟩, fun t ht => ?_, Nat.le_refl _, rfl, ?_⟩
  · rw [List.mem_singleton.mp ht]
    exact ⟨f0, s0, fun c e => nomatch e⟩
  · rw [List.mem_singleton.mp ht]
    exact ⟨f1, Int.le_trans s1 (Int.le_trans (PB_of (n := 104) (by decide +kernel)) (PB_le n1)), fun c e => nomatch e⟩
  · show some (fr + 0 * st) = some fr
    rw [Int.zero_mul, Int.add_zero]
/-- what a row must be -/
structure RowD (bs : List Tri) (st ph : Int) : Prop where
  ok : ∀ t ∈ bs, OkT t
  ln : bs.length ≤ 12
  s0 : 1 ≤ st
  s1 : st ≤ 1000000000000000000000000000000
  p0 : 0 ≤ ph
  p1 : ph ≤ 1000000000000000000000000000000
theorem RowAt.d {C : Addr} {H : Hp} {p B : Addr} {xs : List V} {ts : List Tri} {st ph : Int} (R : RowAt C H p B xs ts st ph) : RowD ts st ph := ⟨R.ok, R.ln, R.s0, R.s1, R.p0, R.p1⟩
theorem bgOf_len {bs : List Tri} {st : Int} {pv : Option SpD} {z : Int} (h : ∀ d, pv = some d → d.op.length = bs.length) : (bgOf bs st pv z).length = bs.length := by
  cases pv with
  | none => exact List.length_replicate
  | some d =>
    show (stBeh bs st d z).length = _
    unfold stBeh
    rw [List.length_zipWith, h d rfl, Nat.min_self]
/-- where a spell comes from -/
structure SpFrom (bs : List Tri) (st ph : Int) (os : List Out) (d : SpD) (b : Int) (e : Option Int) (os' : List Out) (bg : List StD) : Prop where
  sf : ((b, e) :: os') <:+ os
  bl : bg.length = bs.length
  no : ∀ z, e = some z → ¬ z ≤ reqA ph st b
  eq : d = spellD bs st (reqA ph st b) bg ((b, e) :: os')
theorem op_len {bs : List Tri} {st fr : Int} {bg : List StD} {os : List Out} {n : Nat} (R : RunOk n 1 fr [(fr, st, none)]) (bl : bg.length = bs.length) (ok : ∀ t ∈ bs, OkT t) (n1 : 100 ≤ n) : (spellD bs st fr bg os).op.length = bs.length := by
  show (List.map _ _).length = _
  rw [List.length_map, (ch_ok R bl ok n1).1]
theorem spM_mem {bs : List Tri} {st ph : Int} {nb : Nat} (W : RowD bs st ph) (n1 : 104 ≤ nb) : ∀ {n : Nat} {pv : Option SpD} {os : List Out}, (∀ o ∈ os, 0 ≤ o.1 ∧ o.1 ≤ PB nb) → (∀ d, pv = some d → d.op.length = bs.length) → ∀ d ∈ spM bs st ph n pv os, ∃ b e os' bg, SpFrom bs st ph os d b e os' bg
  | 0, pv, os, _, _, d, hd => by cases hd
  | n + 1, pv, [], _, _, d, hd => by cases hd
  | n + 1, pv, (b, e) :: os, ho, hp, d, hd => by
    by_cases c : ∀ z, e = some z → ¬ z ≤ reqA ph st b
    · rw [spM_take c] at hd
      have bl := bgOf_len (st := st) (z := reqA ph st b - 1) hp
      obtain ⟨h0, h1⟩ := ho _ (List.mem_cons_self ..)
      obtain ⟨f0, f1, _⟩ := reqA_ok W.s0 W.s1 W.p0 W.p1 h1 n1
      rcases List.mem_cons.mp hd with rfl | hd
      · exact ⟨b, e, os, _, List.suffix_refl _, bl, c, rfl⟩
      · obtain ⟨b', e', os', bg', F⟩ := spM_mem W n1 (fun o ho' => ho o (List.mem_of_mem_drop ho')) (fun d' e' => by cases e'; exact op_len (run0 f0 f1 W.s0 W.s1 (by omega)) bl W.ok (by omega)) d hd
        exact ⟨b', e', os', bg', F.sf.trans (List.drop_suffix _ _), F.bl, F.no, F.eq⟩
    · obtain ⟨z, hz, hl⟩ : ∃ z, e = some z ∧ z ≤ reqA ph st b := by
        cases e with
        | none => exact absurd (fun z e => nomatch e) c
        | some z =>
          refine ⟨z, rfl, ?_⟩
          by_cases q : z ≤ reqA ph st b
          · exact q
          · exact absurd (fun z' e => by cases e; exact q) c
      subst hz
      rw [spM_skip hl] at hd
      obtain ⟨b', e', os', bg', F⟩ := spM_mem W n1 (fun o ho' => ho o (List.mem_cons_of_mem _ ho')) hp d hd
      exact ⟨b', e', os', bg', F.sf.trans (List.suffix_cons _ _), F.bl, F.no, F.eq⟩
theorem rec_some {g : List Trn} (hs : Srt g) (hT : Tot g = none) : ∀ {l : List Out}, l ≠ [] → (∀ o ∈ l, ∃ z, o.2 = some z) → ∃ r, (recM g l).1 = some r
  | [], h, _ => absurd rfl h
  | [(b, none)], _, h => by obtain ⟨z, e⟩ := h _ (List.mem_cons_self ..); cases e
  | [(b, some e)], _, _ => by
    obtain ⟨y, hy⟩ := nx_end hs hT e
    exact ⟨y, hy⟩
  | (b, none) :: o :: os, _, h => by obtain ⟨z, e⟩ := h _ (List.mem_cons_self ..); cases e
  | (b, some e) :: (b2, e2) :: os, _, h => by
    obtain ⟨r, hr⟩ := rec_some (g := g) hs hT (l := (b2, e2) :: os) (fun z => nomatch z) (fun o ho => h o (List.mem_cons_of_mem _ ho))
    obtain ⟨y, hy⟩ := nx_end hs hT e
    show ∃ r, (if (nxT g e).getD 0 < b2 then (nxT g e, 1) else ((recM g ((b2, e2) :: os)).1, (recM g ((b2, e2) :: os)).2 + 1)).1 = some r
    by_cases c : (nxT g e).getD 0 < b2
    · rw [if_pos c]
      exact ⟨y, hy⟩
    · rw [if_neg c]
      exact ⟨r, hr⟩
theorem outs_len (os : List (Int × Int)) : (outs os).length = os.length := by unfold outs; rw [List.length_map]
theorem outs_mem {os : List (Int × Int)} {o : Out} (h : o ∈ outs os) : ∃ z, z ∈ os ∧ o = (z.1, some z.2) := by
  unfold outs at h
  obtain ⟨z, hz, e⟩ := List.mem_map.mp h
  exact ⟨z, hz, e.symm⟩
theorem vout_mem : ∀ {os : List (Int × Int)} {m : Int}, VOut m os → ∀ o ∈ os, m ≤ o.1 ∧ o.1 < o.2 ∧ o.2 ≤ 1000000000000000000000000000000
  | [], m, _, o, ho => by cases ho
  | z :: r, m, h, o, ho => by
    obtain ⟨h1, h2, h3, h4⟩ := h
    rcases List.mem_cons.mp ho with rfl | ho
    · exact ⟨h1, h2, h3⟩
    · have := vout_mem h4 o ho
      omega
theorem osOk_of {os : List (Int × Int)} (hv : VOut 0 os) (hl : os.length ≤ 50) : OsOk 104 (outs os) := by
  have e : (1000000000000000000000000000000 : Int) ≤ PB 104 := PB_of (by decide +kernel)
  refine ⟨fun o ho => ?_, fun o ho => ?_, by rw [outs_len]; omega, Nat.le_refl _, by decide⟩
  · obtain ⟨z, hz, rfl⟩ := outs_mem ho
    have := vout_mem hv z hz
    exact ⟨this.1, by show z.1 ≤ _; omega, fun y e => by cases e; omega⟩
  · obtain ⟨z, hz, rfl⟩ := outs_mem (List.dropLast_subset _ ho)
    exact fun z => nomatch z
def spsOf (bs : List Tri) (st ph : Int) (os : List (Int × Int)) : List SpD := spM bs st ph os.length none (outs os)
theorem sps_ok {bs : List Tri} {st ph : Int} (W : RowD bs st ph) {os : List (Int × Int)} (hv : VOut 0 os) (hl : os.length ≤ 50) : ∀ d ∈ spsOf bs st ph os, (∃ r, d.rcv = some r) ∧ d.op.length = bs.length := by
  intro d hd
  have O := osOk_of hv hl
  obtain ⟨b, e, os', bg, F⟩ := spM_mem (nb := 104) (pv := none) W (Nat.le_refl _) (fun o ho => ⟨(O.bd o ho).1, (O.bd o ho).2.1⟩) (fun d e => nomatch e) d hd
  have hm := F.sf.subset (List.mem_cons_self ..)
  obtain ⟨f0, f1, _⟩ := reqA_ok W.s0 W.s1 W.p0 W.p1 (O.bd _ hm).2.1 (Nat.le_refl _)
  have R0 := run0 f0 f1 W.s0 W.s1 (by decide)
  rw [F.eq]
  refine ⟨?_, op_len R0 F.bl W.ok (by decide)⟩
  obtain ⟨_, g2⟩ := ch_ok R0 F.bl W.ok (by decide)
  exact rec_some g2.srt g2.en (fun z => nomatch z) fun o ho => by
    obtain ⟨z, hz, rfl⟩ := outs_mem (F.sf.subset ho)
    exact ⟨z.2, rfl⟩
theorem spM_len {bs : List Tri} {st ph : Int} : ∀ {n : Nat} {pv : Option SpD} {os : List Out}, (spM bs st ph n pv os).length ≤ n
  | 0, pv, os => Nat.le_refl _
  | n + 1, pv, [] => Nat.zero_le _
  | n + 1, pv, (b, e) :: os => by
    by_cases c : ∀ z, e = some z → ¬ z ≤ reqA ph st b
    · rw [spM_take c]
      have := spM_len (bs := bs) (st := st) (ph := ph) (n := n) (pv := some (spellD bs st (reqA ph st b) (bgOf bs st pv (reqA ph st b - 1)) ((b, e) :: os))) (os := ((b, e) :: os).drop (spellN bs st (reqA ph st b) (bgOf bs st pv (reqA ph st b - 1)) ((b, e) :: os)))
      rw [List.length_cons]
      omega
    · obtain ⟨z, hz, hl⟩ : ∃ z, e = some z ∧ z ≤ reqA ph st b := by
        cases e with
        | none => exact absurd (fun z e => nomatch e) c
        | some z =>
          refine ⟨z, rfl, ?_⟩
          by_cases q : z ≤ reqA ph st b
          · exact q
          · exact absurd (fun z' e => by cases e; exact q) c
      subst hz
      rw [spM_skip hl]
      have := spM_len (bs := bs) (st := st) (ph := ph) (n := n) (pv := pv) (os := os)
      omega
/-! ### while an object's fields are set -/
/-- what is no instance is kept -/
def NI (H H' : Hp) : Prop := ∀ b o, H b = some o → (∀ C dx fs, o ≠ .ins C dx fs) → H' b = some o
theorem NI.of {p C dx : Addr} {fs : List (Str × V)} {H H' : Hp} (k : Kp p H H') (h : H p = some (.ins C dx fs)) : NI H H' := fun b o e n => k b o (fun z => by
  subst z
  rw [h] at e
  cases e
  exact n _ _ _ rfl) e
theorem NI.trans {H H1 H2 : Hp} (a : NI H H1) (b : NI H1 H2) : NI H H2 := fun c o h n => b c o (a c o h n) n
theorem NI.same {H H' : Hp} (s : Same H H') : NI H H' := fun b o e _ => s b o e
theorem Fr.kpp {H0 H H' : Hp} {p : Addr} (k : Kp p H H') : Kp p (Fr H0 H) (Fr H0 H') := fun b o n e => by
  obtain ⟨h, q⟩ := Fr.inv e
  exact Fr.of (k b o n h) q
theorem Fr.ni {H0 H H' : Hp} (k : NI H H') : NI (Fr H0 H) (Fr H0 H') := fun b o e n => by
  obtain ⟨h, q⟩ := Fr.inv e
  exact Fr.of (k b o h n) q
theorem Trs.ni {H H' : Hp} (k : NI H H') {xs : List V} {ts : List Trn} (h : Trs H xs ts) : Trs H' xs ts := L2.Paired.mapP h fun _ _ ⟨a, e, h⟩ => ⟨a, e, k _ _ h fun _ _ _ z => nomatch z⟩
theorem Sts.ni {H H' : Hp} (k : NI H H') {xs : List V} {ts : List StD} (h : Sts H xs ts) : Sts H' xs ts := L2.Paired.mapP h fun _ _ ⟨a, e, h⟩ => ⟨a, e, k _ _ h fun _ _ _ z => nomatch z⟩
theorem Ots.ni {H H' : Hp} (k : NI H H') {xs : List V} {ts : List Out} (h : Ots H xs ts) : Ots H' xs ts := L2.Paired.mapP h fun _ _ ⟨a, e, h⟩ => ⟨a, e, k _ _ h fun _ _ _ z => nomatch z⟩
theorem Mks.ni {H H' : Hp} (k : NI H H') {xs : List V} {ts : List MkD} (h : Mks H xs ts) : Mks H' xs ts := L2.Paired.mapP h fun _ _ ⟨a, e, h⟩ => ⟨a, e, k _ _ h fun _ _ _ z => nomatch z⟩
theorem Rns.ni {H H' : Hp} (k : NI H H') {xs : List V} {ts : List (List Trn)} (h : Rns H xs ts) : Rns H' xs ts := L2.Paired.mapP h fun _ _ ⟨a, ys, e, h, t⟩ => ⟨a, ys, e, k _ _ h (fun _ _ _ z => nomatch z), t.ni k⟩
theorem SpV.kp {CS : Addr} {H H' : Hp} {p C dx : Addr} {fs : List (Str × V)} (k : Kp p H H') (h : H p = some (.ins C dx fs)) (nf : fs.lookup ("first" : Str) = none) {x : V} {d : SpD} (S : SpV CS H x d) : SpV CS H' x d := by
  obtain ⟨q, aB, aR, aO, xB, xR, e, S⟩ := S
  obtain ⟨dz, hq⟩ := S.ob
  have ni := NI.of k h
  have nq : q ≠ p := fun z => by
    subst z
    rw [h] at hq
    cases hq
    rw [spF_first] at nf
    cases nf
  exact ⟨q, aB, aR, aO, xB, xR, e, ⟨dz, k _ _ nq hq⟩, ni _ _ S.hB (fun _ _ _ z => nomatch z), S.sB.ni ni, ni _ _ S.hR (fun _ _ _ z => nomatch z), S.sR.ni ni, ni _ _ S.hO fun _ _ _ z => nomatch z⟩
theorem SpVs.kp {CS : Addr} {H H' : Hp} {p C dx : Addr} {fs : List (Str × V)} (k : Kp p H H') (h : H p = some (.ins C dx fs)) (nf : fs.lookup ("first" : Str) = none) {xs : List V} {ds : List SpD} (S : SpVs CS H xs ds) : SpVs CS H' xs ds := L2.Paired.mapP S fun _ _ z => z.kp k h nf
theorem RowAt.kp {CR : Addr} {H H' : Hp} {p C dx : Addr} {fs : List (Str × V)} (k : Kp p H H') (h : H p = some (.ins C dx fs)) (nf : fs.lookup ("breakers" : Str) = none) {q B : Addr} {xs : List V} {ts : List Tri} {st ph : Int} (R : RowAt CR H q B xs ts st ph) : RowAt CR H' q B xs ts st ph := by
  obtain ⟨dz, hq⟩ := R.ob
  have ni := NI.of k h
  have nq : q ≠ p := fun z => by
    subst z
    rw [h] at hq
    cases hq
    rw [rowF_b] at nf
    cases nf
  exact ⟨⟨dz, k _ _ nq hq⟩, ni _ _ R.tp (fun _ _ _ z => nomatch z), L2.Paired.mapP R.br fun _ _ ⟨a, e, h⟩ => ⟨a, e, ni _ _ h fun _ _ _ z => nomatch z⟩, R.ok, R.ln, R.s0, R.s1, R.p0, R.p1⟩
/-! ### a Timeline in the heap -/
def tlF (aR aO aS aF aM : Addr) : List (Str × V) := putF "marks" (.ref aM) (putF "firsts" (.ref aF) (putF "spells" (.ref aS) (putF "outages" (.ref aO) (putF "row" (.ref aR) []))))
theorem tlF_row (aR aO aS aF aM : Addr) : (tlF aR aO aS aF aM).lookup ("row" : Str) = some (.ref aR) := by
  unfold tlF
  rw [lookup_putF, if_neg (by decide +kernel), lookup_putF, if_neg (by decide +kernel), lookup_putF, if_neg (by decide +kernel), lookup_putF, if_neg (by decide +kernel), lookup_putF, if_pos rfl]
theorem tlF_out (aR aO aS aF aM : Addr) : (tlF aR aO aS aF aM).lookup ("outages" : Str) = some (.ref aO) := by
  unfold tlF
  rw [lookup_putF, if_neg (by decide +kernel), lookup_putF, if_neg (by decide +kernel), lookup_putF, if_neg (by decide +kernel), lookup_putF, if_pos rfl]
theorem tlF_sp (aR aO aS aF aM : Addr) : (tlF aR aO aS aF aM).lookup ("spells" : Str) = some (.ref aS) := by
  unfold tlF
  rw [lookup_putF, if_neg (by decide +kernel), lookup_putF, if_neg (by decide +kernel), lookup_putF, if_pos rfl]
theorem tlF_fi (aR aO aS aF aM : Addr) : (tlF aR aO aS aF aM).lookup ("firsts" : Str) = some (.ref aF) := by
  unfold tlF
  rw [lookup_putF, if_neg (by decide +kernel), lookup_putF, if_pos rfl]
theorem tlF_ma (aR aO aS aF aM : Addr) : (tlF aR aO aS aF aM).lookup ("marks" : Str) = some (.ref aM) := by
  unfold tlF
  rw [lookup_putF, if_pos rfl]
theorem tlF_no (aR aO aS aF aM : Addr) {m : Str} (h1 : ¬ m = "marks") (h2 : ¬ m = "firsts") (h3 : ¬ m = "spells") (h4 : ¬ m = "outages") (h5 : ¬ m = "row") : (tlF aR aO aS aF aM).lookup m = none := by
  unfold tlF
  rw [lookup_putF, if_neg h1, lookup_putF, if_neg h2, lookup_putF, if_neg h3, lookup_putF, if_neg h4, lookup_putF, if_neg h5]
  all_goals rfl
structure TLAt (CR CS C : Addr) (H : Hp) (p aR B aO aS aF aM : Addr) (xs ys zs ms : List V) (ts : List Tri) (st ph : Int) (os : List (Int × Int)) : Prop where
  ob : ∃ dx, H p = some (.ins C dx (tlF aR aO aS aF aM))
  row : RowAt CR H aR B xs ts st ph
  hO : H aO = some (.tup ys)
  oO : Ots H ys (outs os)
  hS : H aS = some (.lst zs)
  oS : SpVs CS H zs (spsOf ts st ph os)
  hF : H aF = some (.lst (((spsOf ts st ph os).map SpD.first).map V.int))
  hM : H aM = some (.lst ms)
  oM : Mks H ms (mkM ts st (spsOf ts st ph os))
  vo : VOut 0 os
  ol : os.length ≤ 50
theorem TLAt.same {CR CS C : Addr} {H H' : Hp} {p aR B aO aS aF aM : Addr} {xs ys zs ms : List V} {ts : List Tri} {st ph : Int} {os : List (Int × Int)} (T : TLAt CR CS C H p aR B aO aS aF aM xs ys zs ms ts st ph os) (s : Same H H') : TLAt CR CS C H' p aR B aO aS aF aM xs ys zs ms ts st ph os := by
  obtain ⟨dx, e⟩ := T.ob
  exact ⟨⟨dx, s _ _ e⟩, T.row.nl (NL.of s), s _ _ T.hO, T.oO.same s, s _ _ T.hS, T.oS.same s, s _ _ T.hF, s _ _ T.hM, T.oM.nl (NL.of s), T.vo, T.ol⟩
def TLV (CR CS C : Addr) (H : Hp) (p : Addr) (ts : List Tri) (st ph : Int) (os : List (Int × Int)) : Prop := ∃ aR B aO aS aF aM xs ys zs ms, TLAt CR CS C H p aR B aO aS aF aM xs ys zs ms ts st ph os
theorem TLV.same {CR CS C : Addr} {H H' : Hp} {p : Addr} {ts : List Tri} {st ph : Int} {os : List (Int × Int)} (T : TLV CR CS C H p ts st ph os) (s : Same H H') : TLV CR CS C H' p ts st ph os := by
  obtain ⟨aR, B, aO, aS, aF, aM, xs, ys, zs, ms, T⟩ := T
  exact ⟨aR, B, aO, aS, aF, aM, xs, ys, zs, ms, T.same s⟩
def spTLInit (CR CS C : Addr) : Sp := fun vs H Q _ => ∃ p dx r B xs ts st ph a ys os, vs = [.ref p, .ref r, .ref a] ∧ H p = some (.ins C dx []) ∧ RowAt CR H r B xs ts st ph ∧ H a = some (.lst ys) ∧ Ots H ys (outs os) ∧ VOut 0 os ∧ os.length ≤ 50 ∧
  ∀ H', TLV CR CS C (Fr H H') p ts st ph os → Kp p H H' → Q .non H'
section
variable {P : Program} {w : World} {K : PySem.W.Frag} {mg : Str → Option Value} {base : Heap} {L : LA}
end
/-! ### what a spell is -/
theorem RunOk.up {n k n' k' : Nat} {fr : Int} {ts : List Trn} (R : RunOk n k fr ts) (h : n ≤ n') (h' : k ≤ k') : RunOk n' k' fr ts := ⟨R.srt, fun t ht => (R.bt t ht).le h, Nat.le_trans R.ln h', R.en, R.hd⟩
structure ChStep (bs : List Tri) (bg : List StD) (os : List Int) (fr : Int) (i : Nat) (g g' : List Trn) (o : Int) (b : Tri) (s : StD) : Prop where
  ho : os[i]? = some o
  hb : bs[i]? = some b
  hs : bg[i]? = some s
  at_ : At g (ndOf b s - 1) = some o
  fo : fr ≤ o
  eq : g' = passG g (ndOf b s) b.2.1 o
  ps : PassOk g g' o b.2.1
theorem ch_all {N M : Nat} : ∀ {bs : List Tri} {bg : List StD} {n k : Nat} {fr : Int} {ts : List Trn}, RunOk n k fr ts → bg.length = bs.length → (∀ b ∈ bs, OkT b) → 100 ≤ n → n + 44 * bs.length ≤ N → k + bs.length ≤ M →
    (chR bs bg ts).length = bs.length + 1 ∧ (chR bs bg ts)[0]? = some ts ∧ (∀ (i : Nat) (g : List Trn), (chR bs bg ts)[i]? = some g → RunOk N M fr g) ∧ (chR bs bg ts)[bs.length]? = some (chL bs bg ts) ∧
      ∀ (i : Nat) (g g' : List Trn), (chR bs bg ts)[i]? = some g → (chR bs bg ts)[i + 1]? = some g' → ∃ o b s, ChStep bs bg (chO bs bg ts) fr i g g' o b s
  | [], bg, n, k, fr, ts, R, _, _, _, hN, hM => by
    have e : chR [] bg ts = [ts] := by cases bg <;> rfl
    have e2 : chL [] bg ts = ts := by cases bg <;> rfl
    rw [e, e2]
    refine ⟨rfl, rfl, fun i g h => ?_, rfl, fun i g g' h h' => ?_⟩
    · cases i with
      | zero => cases h; exact R.up (by simpa using hN) (by simpa using hM)
      | succ i => cases h
    · cases h'
  | b :: bs, [], n, k, fr, ts, R, hl, _, _, _, _ => by cases hl
  | b :: bs, s :: ss, n, k, fr, ts, R, hl, ho, hn, hN, hM => by
    have okb := ho b (List.mem_cons_self ..)
    have ndl : 1 ≤ ndOf b s ∧ ndOf b s ≤ 1000000000000 := by unfold ndOf; obtain ⟨o1, o2, _⟩ := okb; split <;> omega
    obtain ⟨o, y2, h1, hy2, o0, oB, yB, fo, RG2, PG, _⟩ := pass_ok R ndl.1 (Int.le_trans ndl.2 (PB_of (n := 40) (by decide +kernel))) okb.2.2.1 (Int.le_trans okb.2.2.2.1 (PB_of (n := 100) (by decide +kernel))) hn
    have e1 : chO (b :: bs) (s :: ss) ts = o :: chO bs ss (passG ts (ndOf b s) b.2.1 o) := by
      show (match At ts (ndOf b s - 1) with | some o => _ | none => _) = _
      rw [h1]
    have e2 : chL (b :: bs) (s :: ss) ts = chL bs ss (passG ts (ndOf b s) b.2.1 o) := by
      show (match At ts (ndOf b s - 1) with | some o => _ | none => _) = _
      rw [h1]
    have e3 : chR (b :: bs) (s :: ss) ts = ts :: chR bs ss (passG ts (ndOf b s) b.2.1 o) := by
      show (match At ts (ndOf b s - 1) with | some o => _ | none => _) = _
      rw [h1]
    rw [List.length_cons] at hN hM
    obtain ⟨i1, i2, i3, i4, i5⟩ := ch_all (N := N) (M := M) (bs := bs) (bg := ss) RG2 (by simpa using hl) (fun u hu => ho u (List.mem_cons_of_mem _ hu)) (by omega) (by omega) (by omega)
    rw [e1, e2, e3]
    refine ⟨by rw [List.length_cons, List.length_cons, i1], rfl, fun i g h => ?_, i4, fun i g g' h h' => ?_⟩
    · cases i with
      | zero => cases h; exact R.up (by omega) (by omega)
      | succ i => exact i3 i g h
    · cases i with
      | zero =>
        cases h
        have h' : (chR bs ss (passG ts (ndOf b s) b.2.1 o))[0]? = some g' := h'
        rw [i2] at h'
        cases h'
        exact ⟨o, b, s, rfl, rfl, rfl, h1, fo, rfl, PG⟩
      | succ i =>
        obtain ⟨o', b', s', S⟩ := i5 i g g' h h'
        exact ⟨o', b', s', S.ho, S.hb, S.hs, S.at_, S.fo, S.eq, S.ps⟩
structure SpOk (bs : List Tri) (st : Int) (d : SpD) : Prop where
  bgl : d.bg.length = bs.length
  rl : d.rs.length = bs.length + 1
  ol : d.op.length = bs.length
  r0 : d.rs[0]? = some [(d.first, st, none)]
  run : ∀ (i : Nat) (g : List Trn), d.rs[i]? = some g → RunOk 1000 13 d.first g
  stp : ∀ (i : Nat) (g g' : List Trn), d.rs[i]? = some g → d.rs[i + 1]? = some g' → ∃ os o b s, ChStep bs d.bg os d.first i g g' o b s ∧ d.op[i]? = some (cutO d.rcv o)
  f0 : 0 ≤ d.first
  f1 : d.first ≤ PB 400
theorem spell_ok {bs : List Tri} {st fr : Int} {bg : List StD} {os : List Out} {n : Nat} (ok : ∀ t ∈ bs, OkT t) (ln : bs.length ≤ 12) (s0 : 1 ≤ st) (s1 : st ≤ 1000000000000000000000000000000) (f0 : 0 ≤ fr) (f1 : fr ≤ PB n) (n1 : 104 ≤ n) (n2 : n ≤ 400) (bl : bg.length = bs.length) : SpOk bs st (spellD bs st fr bg os) := by
  obtain ⟨i1, i2, i3, i4, i5⟩ := ch_all (N := 1000) (M := 13) (run0 f0 f1 s0 s1 n1) bl ok (by omega) (by omega) (by omega)
  refine ⟨bl, i1, op_len (run0 f0 f1 s0 s1 n1) bl ok (by omega), i2, i3, fun i g g' h h' => ?_, f0, Int.le_trans f1 (PB_le n2)⟩
  obtain ⟨o, b, s, S⟩ := i5 i g g' h h'
  refine ⟨_, o, b, s, S, ?_⟩
  show (List.map _ _)[i]? = _
  rw [List.getElem?_map, S.ho]
  rfl
theorem sps_all {bs : List Tri} {st ph : Int} (W : RowD bs st ph) {os : List (Int × Int)} (hv : VOut 0 os) (hl : os.length ≤ 50) : ∀ d ∈ spsOf bs st ph os, SpOk bs st d ∧ ∃ r, d.rcv = some r := by
  intro d hd
  have O := osOk_of hv hl
  refine ⟨?_, (sps_ok W hv hl d hd).1⟩
  obtain ⟨b, e, os', bg, F⟩ := spM_mem (nb := 104) (pv := none) W (Nat.le_refl _) (fun o ho => ⟨(O.bd o ho).1, (O.bd o ho).2.1⟩) (fun d e => nomatch e) d hd
  have hm := F.sf.subset (List.mem_cons_self ..)
  obtain ⟨f0, f1, _⟩ := reqA_ok W.s0 W.s1 W.p0 W.p1 (O.bd _ hm).2.1 (Nat.le_refl _)
  rw [F.eq]
  exact spell_ok W.ok W.ln W.s0 W.s1 f0 f1 (by decide) (by decide) F.bl
/-! ### counts -/
def mx2 (i j : Int) : Int := if j > i then j else i
def mn2 (i j : Int) : Int := if j < i then j else i
def cisD (b : Nat) (f a : Int) (d : SpD) : Int :=
  if mx2 f d.first < mn2 a (d.rcv.getD 0) then NB (d.rs[b]?.getD []) (mn2 a (d.rcv.getD 0)) - NB (d.rs[b]?.getD []) (mx2 f d.first) else 0
def cisM (b : Nat) (f a : Int) (ds : List SpD) : Int := (ds.map (cisD b f a)).sum
def topV (f a r : Int) : Option Int → Int
  | none => 0
  | some o => mx2 0 (mn2 a r - mx2 f o)
def topD (b : Nat) (f a : Int) (d : SpD) : Int := topV f a (d.rcv.getD 0) (d.op[b]?.getD none)
def topM (b : Nat) (f a : Int) (ds : List SpD) : Int := (ds.map (topD b f a)).sum
def reqsM (st ph f a : Int) : Int := stepsUp (a - ph) st - stepsUp (f - ph) st
def spCkB : Sp := fun vs H Q _ => ∃ b l, vs = [.int b, .int l] ∧ 0 ≤ b ∧ b ≤ l ∧ Q .non H
def spCkW : Sp := fun vs H Q _ => ∃ f a, vs = [.int f, .int a] ∧ 0 ≤ f ∧ f ≤ a ∧ Q .non H
section
variable {CR CS C : Addr}
def spRq (CR CS C : Addr) : Sp := fun vs H Q _ => ∃ p ts st ph os f a, vs = [.ref p, .int f, .int a] ∧ TLV CR CS C H p ts st ph os ∧ 0 ≤ f ∧ f ≤ a ∧ Q (.int (reqsM st ph f a)) H
def spCis (CR CS C : Addr) : Sp := fun vs H Q _ => ∃ p ts st ph os f a, ∃ b : Nat, vs = [.ref p, .int b, .int f, .int a] ∧ TLV CR CS C H p ts st ph os ∧ b ≤ ts.length ∧ ∀ H', Same H H' → Q (.int (cisM b f a (spsOf ts st ph os))) H'
def spCame (CR CS C : Addr) : Sp := fun vs H Q _ => ∃ p ts st ph os f a, ∃ b : Nat, vs = [.ref p, .int b, .int f, .int a] ∧ TLV CR CS C H p ts st ph os ∧ b ≤ ts.length ∧ 0 ≤ f ∧ f ≤ a ∧ ∀ H', Same H H' → Q (.int (reqsM st ph f a - cisM 0 f a (spsOf ts st ph os) + cisM b f a (spsOf ts st ph os))) H'
def spRej (CR CS C : Addr) : Sp := fun vs H Q _ => ∃ p ts st ph os f a, ∃ b : Nat, vs = [.ref p, .int b, .int f, .int a] ∧ TLV CR CS C H p ts st ph os ∧ b < ts.length ∧ 0 ≤ f ∧ f ≤ a ∧ ∀ H', Same H H' → Q (.int (cisM b f a (spsOf ts st ph os) - cisM (b + 1) f a (spsOf ts st ph os))) H'
def spFail (CR CS C : Addr) : Sp := fun vs H Q _ => ∃ p ts st ph os f a, vs = [.ref p, .int f, .int a] ∧ TLV CR CS C H p ts st ph os ∧ 0 ≤ f ∧ f ≤ a ∧ ∀ H', Same H H' → Q (.int (cisM 0 f a (spsOf ts st ph os))) H'
def spSucc (CR CS C : Addr) : Sp := fun vs H Q _ => ∃ p ts st ph os f a, vs = [.ref p, .int f, .int a] ∧ TLV CR CS C H p ts st ph os ∧ 0 ≤ f ∧ f ≤ a ∧ ∀ H', Same H H' → Q (.int (reqsM st ph f a - cisM 0 f a (spsOf ts st ph os))) H'
def spTop (CR CS C : Addr) : Sp := fun vs H Q _ => ∃ p ts st ph os f a, ∃ b : Nat, vs = [.ref p, .int b, .int f, .int a] ∧ TLV CR CS C H p ts st ph os ∧ b < ts.length ∧ 0 ≤ f ∧ f ≤ a ∧ ∀ H', Same H H' → Q (.int (topM b f a (spsOf ts st ph os))) H'
def spBaseR (CR CS C : Addr) : Sp := fun vs H Q _ => ∃ p ts st ph os, vs = [.ref p] ∧ TLV CR CS C H p ts st ph os ∧ ∀ r B xs, RowAt CR H r B xs ts st ph → Q (.ref r) H
end
section
variable {P : Program} {w : World} {K : PySem.W.Frag} {mg : Str → Option Value} {base : Heap} {L : LA}
end
section
variable {P : Program} {w : World} {K : PySem.W.Frag} {mg : Str → Option Value} {base : Heap} {L : LA}
end
section
variable {X : Cx} {L : LA}
end
theorem timeline_made {CR CS C : Addr} {H : Hp} {Q : Addr → Hp → Prop} {r B a : Addr} {xs ys : List V} {ts : List Tri} {st ph : Int} {os : List (Int × Int)} (R : RowAt CR H r B xs ts st ph) (ha : H a = some (.lst ys)) (hy : Ots H ys (outs os)) (hv : VOut 0 os) (hl : os.length ≤ 50)
    (k : ∀ p H', TLV CR CS C (Fr H H') p ts st ph os → Same H H' → H p = none → Q p H') :
    ∀ x dx, H x = none → H dx = none → dx ≠ x → spTLInit CR CS C [.ref x, .ref r, .ref a] (upd (upd H dx (.own x)) x (.ins C dx [])) (fun v H3 => v = .non ∧ Q x H3) E0 := by
  intro x dx hx hd hne
  have s0 : Same H (upd (upd H dx (.own x)) x (.ins C dx [])) := fun b o e => by
    rw [upd_ne (ne_of_none e hx), upd_ne (ne_of_none e hd)]
    exact e
  exact ⟨x, dx, r, B, xs, ts, st, ph, a, ys, os, rfl, upd_same, R.nl (NL.of s0), s0 _ _ ha, hy.same s0, hv, hl, fun H' Y kp => ⟨rfl, k x H' (Y.same (Fr.base s0)) (fun b o e => kp b o (ne_of_none e hx) (s0 b o e)) hx⟩⟩
/-! ### spells follow one another; counts add up -/
theorem NB_one {g : List Trn} (h : Srt g) (x : Int) : (inL g x ∧ NB g (x + 1) = NB g x + 1) ∨ (¬ inL g x ∧ NB g (x + 1) = NB g x) := by
  have h1 := in_mem h.1 x
  have h2 := NB_step h x
  have h3 := NB_mono h.1 (show x ≤ x + 1 by omega)
  by_cases c : NB g x < NB g (x + 1)
  · exact .inl ⟨h1.mpr c, by omega⟩
  · exact .inr ⟨fun z => c (h1.mp z), by omega⟩
theorem NB_diff {g g' : List Trn} (h : Srt g) (h' : Srt g') (lo : Int) : ∀ n : Nat, (∃ x, lo ≤ x ∧ x < lo + n ∧ inL g x ∧ ¬ inL g' x) ∨ NB g (lo + n) - NB g lo ≤ NB g' (lo + n) - NB g' lo
  | 0 => .inr (by simp)
  | n + 1 => by
    rcases NB_diff h h' lo n with ⟨x, a, b, c⟩ | hh
    · exact .inl ⟨x, a, by omega, c⟩
    · have e : lo + ((n + 1 : Nat) : Int) = lo + n + 1 := by omega
      rw [e]
      rcases NB_one h (lo + n) with ⟨i1, i2⟩ | ⟨i1, i2⟩
      · rcases NB_one h' (lo + n) with ⟨j1, j2⟩ | ⟨j1, j2⟩
        · exact .inr (by omega)
        · exact .inl ⟨lo + n, by omega, by omega, i1, j1⟩
      · have := NB_mono h'.1 (show lo + n ≤ lo + n + 1 by omega)
        exact .inr (by omega)
theorem NB_diff' {g g' : List Trn} (h : Srt g) (h' : Srt g') {lo hi : Int} (l : lo ≤ hi) : (∃ x, lo ≤ x ∧ x < hi ∧ inL g x ∧ ¬ inL g' x) ∨ NB g hi - NB g lo ≤ NB g' hi - NB g' lo := by
  have := NB_diff h h' lo (hi - lo).toNat
  rw [show lo + ((hi - lo).toNat : Int) = hi by omega] at this
  exact this
theorem NB_sub {g g' : List Trn} (h : Srt g) (h' : Srt g') (s : ∀ x, inL g' x → inL g x) {lo hi : Int} (l : lo ≤ hi) : NB g' hi - NB g' lo ≤ NB g hi - NB g lo := by
  rcases NB_diff' h' h l with ⟨x, _, _, a, b⟩ | k
  · exact absurd (s x a) b
  · exact k
theorem up_ge {d s : Int} (hs : 0 < s) : d ≤ stepsUp d s * s := by
  rw [stepsUp_cl]
  have h := (cl_le hs).mp (Int.le_refl (cl d s))
  by_cases c : 0 < cl d s
  · rw [if_pos c]
    exact h
  · rw [if_neg c, Int.zero_mul]
    have : cl d s * s ≤ 0 * s := Int.mul_le_mul_of_nonneg_right (by omega) (by omega)
    omega
theorem reqA_ge {ph st : Int} (s : 0 < st) (b : Int) : b ≤ reqA ph st b := by
  have := up_ge (d := b - ph) s
  unfold reqA
  omega
def SpSeq : Int → List SpD → Prop
  | _, [] => True
  | m, d :: r => m ≤ d.first ∧ ∃ v, d.rcv = some v ∧ d.first ≤ v ∧ SpSeq v r
theorem VOut.mono {m m' : Int} : ∀ {os : List (Int × Int)}, VOut m os → m' ≤ m → VOut m' os
  | [], _, _ => True.intro
  | o :: r, ⟨h1, h2⟩, l => ⟨by omega, h2⟩
theorem rec_next {g : List Trn} (hs : Srt g) (hT : Tot g = none) : ∀ {os : List (Int × Int)} {m r : Int}, VOut m os → (recM g (outs os)).1 = some r → ∃ m', r < m' ∧ VOut m' (os.drop (recM g (outs os)).2)
  | [], m, r, _, e => by cases e
  | [o], m, r, v, e => ⟨r + 1, by omega, True.intro⟩
  | o :: p :: os, m, r, v, e => by
    obtain ⟨y, hy⟩ := nx_end hs hT o.2
    have er : recM g (outs (o :: p :: os)) = if (nxT g o.2).getD 0 < p.1 then (nxT g o.2, 1) else ((recM g (outs (p :: os))).1, (recM g (outs (p :: os))).2 + 1) := rfl
    rw [er] at e ⊢
    obtain ⟨v1, v2, v3, v4⟩ := v
    by_cases c : (nxT g o.2).getD 0 < p.1
    · rw [if_pos c] at e ⊢
      have e : nxT g o.2 = some r := e
      rw [e] at c
      have c : r < p.1 := c
      exact ⟨p.1, c, Int.le_refl _, v4.2⟩
    · rw [if_neg c] at e ⊢
      exact rec_next hs hT v4 e
theorem rec_in {g : List Trn} (hs : Srt g) : ∀ {l : List Out} {r : Int}, (recM g l).1 = some r → inL g r
  | [], r, e => by cases e
  | [(b, none)], r, e => by cases e
  | [(b, some z)], r, e => ((nx_iff hs).mp e).1
  | (b, none) :: o :: os, r, e => by cases e
  | (b, some z) :: (b2, e2) :: os, r, e => by
    have er : recM g ((b, some z) :: (b2, e2) :: os) = if (nxT g z).getD 0 < b2 then (nxT g z, 1) else ((recM g ((b2, e2) :: os)).1, (recM g ((b2, e2) :: os)).2 + 1) := rfl
    rw [er] at e
    by_cases c : (nxT g z).getD 0 < b2
    · rw [if_pos c] at e
      exact ((nx_iff hs).mp e).1
    · rw [if_neg c] at e
      exact rec_in hs e
theorem run_ge {n k : Nat} {fr : Int} {g : List Trn} (R : RunOk n k fr g) {x : Int} (h : inL g x) : fr ≤ x := at_le R.srt (Int.le_refl 0) (NB_nn R.srt.1 x) R.hd (in_at R.srt h)
theorem spM_seq {bs : List Tri} {st ph : Int} (W : RowD bs st ph) : ∀ {n : Nat} {pv : Option SpD} {os : List (Int × Int)} {m : Int}, 0 ≤ m → VOut m os → (∀ d, pv = some d → d.op.length = bs.length) → SpSeq m (spM bs st ph n pv (outs os))
  | 0, pv, os, m, _, _, _ => True.intro
  | n + 1, pv, [], m, _, _, _ => True.intro
  | n + 1, pv, o :: os, m, m0, v, hp => by
    obtain ⟨v1, v2, v3, v4⟩ := v
    have e0 : outs (o :: os) = (o.1, some o.2) :: outs os := rfl
    have s0 := W.s0
    have rg := reqA_ge (ph := ph) (st := st) (by omega) o.1
    by_cases c : o.2 ≤ reqA ph st o.1
    · rw [e0, spM_skip c]
      exact spM_seq W m0 (v4.mono (by omega)) hp
    · have c' : ∀ z, some o.2 = some z → ¬ z ≤ reqA ph st o.1 := fun z e => by cases e; exact c
      rw [e0, spM_take c']
      have e104 : (1000000000000000000000000000000 : Int) ≤ PB 104 := PB_of (by decide +kernel)
      obtain ⟨f0, f1, _⟩ := reqA_ok (nb := 104) W.s0 W.s1 W.p0 W.p1 (b := o.1) (by omega) (Nat.le_refl _)
      have bl := bgOf_len (st := st) (z := reqA ph st o.1 - 1) hp
      have R0 := run0 f0 f1 W.s0 W.s1 (by decide)
      obtain ⟨g1, g2⟩ := ch_ok R0 bl W.ok (by decide)
      obtain ⟨r, hr⟩ := rec_some g2.srt g2.en (l := outs (o :: os)) (fun z => nomatch z) (fun o' ho => by
        obtain ⟨z, hz, rfl⟩ := outs_mem ho
        exact ⟨z.2, rfl⟩)
      obtain ⟨m', rm, vm⟩ := rec_next g2.srt g2.en (os := o :: os) (m := m) ⟨v1, v2, v3, v4⟩ hr
      have hin := rec_in g2.srt hr
      have hge := run_ge g2 hin
      refine ⟨by show m ≤ reqA ph st o.1; omega, r, hr, hge, ?_⟩
      have ed : (((o.1, some o.2) : Out) :: outs os).drop (spellN bs st (reqA ph st o.1) (bgOf bs st pv (reqA ph st o.1 - 1)) ((o.1, some o.2) :: outs os)) = outs ((o :: os).drop (spellN bs st (reqA ph st o.1) (bgOf bs st pv (reqA ph st o.1 - 1)) ((o.1, some o.2) :: outs os))) := by
        unfold outs
        rw [List.map_drop]
        rfl
      rw [ed]
      have hge' : reqA ph st o.1 ≤ r := hge
      exact spM_seq W (by omega) (VOut.mono vm (by omega)) (fun d e => by cases e; exact op_len R0 bl W.ok (by decide))
theorem sps_seq {bs : List Tri} {st ph : Int} (W : RowD bs st ph) {os : List (Int × Int)} (hv : VOut 0 os) : SpSeq 0 (spsOf bs st ph os) := spM_seq W (Int.le_refl 0) hv fun d e => nomatch e
/-! counts -/
def clp (lo hi x : Int) : Int := if x < lo then lo else if hi < x then hi else x
theorem cisD_cl (b : Nat) {f a r : Int} {d : SpD} (hr : d.rcv = some r) (h : d.first ≤ r) (fa : f ≤ a) : cisD b f a d = NB (d.rs[b]?.getD []) (clp d.first r a) - NB (d.rs[b]?.getD []) (clp d.first r f) := by
  unfold cisD
  rw [hr]
  show (if mx2 f d.first < mn2 a r then NB (d.rs[b]?.getD []) (mn2 a r) - NB (d.rs[b]?.getD []) (mx2 f d.first) else 0) = _
  generalize NB (d.rs[b]?.getD []) = N
  by_cases c : mx2 f d.first < mn2 a r
  · have e1 : clp d.first r a = mn2 a r := by
      unfold clp mx2 mn2 at *
      (repeat' split) <;> (repeat' split at c) <;> omega
    have e2 : clp d.first r f = mx2 f d.first := by
      unfold clp mx2 mn2 at *
      (repeat' split) <;> (repeat' split at c) <;> omega
    rw [if_pos c, e1, e2]
  · have e1 : clp d.first r a = clp d.first r f := by
      unfold clp mx2 mn2 at *
      (repeat' split) <;> (repeat' split at c) <;> omega
    rw [if_neg c, e1]
    omega
theorem cisM_add (b : Nat) {f m a : Int} (h1 : f ≤ m) (h2 : m ≤ a) : ∀ {ds : List SpD} {z : Int}, SpSeq z ds → cisM b f m ds + cisM b m a ds = cisM b f a ds
  | [], _, _ => rfl
  | d :: ds, z, ⟨q1, v, q2, q3, q4⟩ => by
    have := cisM_add b h1 h2 q4
    have a1 := cisD_cl b q2 q3 h1
    have a2 := cisD_cl b q2 q3 h2
    have a3 := cisD_cl b q2 q3 (Int.le_trans h1 h2)
    unfold cisM at this ⊢
    rw [List.map_cons, List.map_cons, List.map_cons, List.sum_cons, List.sum_cons, List.sum_cons]
    omega
theorem topV_add {f m a r : Int} (o : Option Int) (h1 : f ≤ m) (h2 : m ≤ a) : topV f m r o + topV m a r o = topV f a r o := by
  cases o with
  | none => rfl
  | some o =>
    show mx2 0 (mn2 m r - mx2 f o) + mx2 0 (mn2 a r - mx2 m o) = mx2 0 (mn2 a r - mx2 f o)
    unfold mx2 mn2
    (repeat' split) <;> omega
theorem topM_add (b : Nat) {f m a : Int} (h1 : f ≤ m) (h2 : m ≤ a) : ∀ ds : List SpD, topM b f m ds + topM b m a ds = topM b f a ds
  | [] => rfl
  | d :: ds => by
    have := topM_add b h1 h2 ds
    have h : topD b f m d + topD b m a d = topD b f a d := topV_add _ h1 h2
    unfold topM at this ⊢
    rw [List.map_cons, List.map_cons, List.map_cons, List.sum_cons, List.sum_cons, List.sum_cons]
    omega
theorem topV_nn (f a r : Int) (o : Option Int) : 0 ≤ topV f a r o := by
  cases o with
  | none => exact Int.le_refl _
  | some o =>
    show 0 ≤ mx2 0 _
    unfold mx2
    split <;> omega
theorem topM_nn (b : Nat) (f a : Int) : ∀ ds : List SpD, 0 ≤ topM b f a ds
  | [] => Int.le_refl _
  | d :: ds => by
    have := topM_nn b f a ds
    have h : 0 ≤ topD b f a d := topV_nn _ _ _ _
    unfold topM at this ⊢
    rw [List.map_cons, List.sum_cons]
    omega
theorem op_first {bs : List Tri} {st : Int} {d : SpD} (S : SpOk bs st d) {b : Nat} {o : Int} (h : d.op[b]? = some (some o)) : d.first ≤ o := by
  have hb := (List.getElem?_eq_some_iff.mp h).1
  have hl := S.ol
  have rl := S.rl
  obtain ⟨g, hg⟩ : ∃ g, d.rs[b]? = some g := ⟨_, List.getElem?_eq_getElem (by omega)⟩
  obtain ⟨g', hg'⟩ : ∃ g', d.rs[b + 1]? = some g' := ⟨_, List.getElem?_eq_getElem (by omega)⟩
  obtain ⟨os, o', t, s, C, e⟩ := S.stp b g g' hg hg'
  rw [h] at e
  have := C.fo
  unfold cutO at e
  cases hr : d.rcv with
  | none => rw [hr] at e; cases e; exact this
  | some r =>
    rw [hr] at e
    have e : some (some o) = some (if o' < r then some o' else none) := e
    split at e
    · cases e; exact this
    · cases e
theorem topM_le {bs : List Tri} {st : Int} (b : Nat) (f a : Int) : ∀ {ds : List SpD} {m : Int}, SpSeq m ds → (∀ d ∈ ds, SpOk bs st d) → topM b f a ds ≤ mx2 0 (a - mx2 f m)
  | [], m, _, _ => by
    show 0 ≤ mx2 0 _
    unfold mx2
    split <;> omega
  | d :: ds, m, ⟨h1, v, h2, h3, h4⟩, ok => by
    have ih := topM_le (bs := bs) (st := st) b f a h4 (fun u hu => ok u (List.mem_cons_of_mem _ hu))
    have S := ok d (List.mem_cons_self ..)
    have hd : topD b f a d ≤ mx2 0 (mn2 a v - mx2 f d.first) := by
      unfold topD
      rw [h2]
      show topV f a v _ ≤ _
      cases ho : d.op[b]? with
      | none =>
        show 0 ≤ mx2 0 _
        unfold mx2
        split <;> omega
      | some o =>
        cases o with
        | none =>
          show 0 ≤ mx2 0 _
          unfold mx2
          split <;> omega
        | some o =>
          have := op_first S ho
          show mx2 0 (mn2 a v - mx2 f o) ≤ mx2 0 (mn2 a v - mx2 f d.first)
          unfold mx2 mn2
          (repeat' split) <;> omega
    have e : topM b f a (d :: ds) = topD b f a d + topM b f a ds := by
      unfold topM
      rw [List.map_cons, List.sum_cons]
    rw [e]
    refine Int.le_trans (Int.add_le_add hd ih) ?_
    unfold mx2 mn2
    (repeat' split) <;> omega
theorem cisD_le {bs : List Tri} {st : Int} {d : SpD} (S : SpOk bs st d) {b : Nat} (hb : b < bs.length) (f a : Int) : cisD (b + 1) f a d ≤ cisD b f a d := by
  have rl := S.rl
  obtain ⟨g, hg⟩ : ∃ g, d.rs[b]? = some g := ⟨_, List.getElem?_eq_getElem (by omega)⟩
  obtain ⟨g', hg'⟩ : ∃ g', d.rs[b + 1]? = some g' := ⟨_, List.getElem?_eq_getElem (by omega)⟩
  obtain ⟨os, o', t, s, C, e⟩ := S.stp b g g' hg hg'
  unfold cisD
  rw [hg, hg']
  show (if _ then NB g' _ - NB g' _ else 0) ≤ (if _ then NB g _ - NB g _ else 0)
  split
  · rename_i c
    exact NB_sub (S.run b g hg).srt (S.run _ g' hg').srt C.ps.sub (by omega)
  · exact Int.le_refl _
theorem cisD_nn {bs : List Tri} {st : Int} {d : SpD} (S : SpOk bs st d) {b : Nat} (hb : b ≤ bs.length) (f a : Int) : 0 ≤ cisD b f a d := by
  have rl := S.rl
  obtain ⟨g, hg⟩ : ∃ g, d.rs[b]? = some g := ⟨_, List.getElem?_eq_getElem (by omega)⟩
  unfold cisD
  rw [hg]
  show 0 ≤ (if _ then NB g _ - NB g _ else 0)
  split
  · rename_i c
    exact Int.sub_nonneg.mpr (NB_mono (S.run b g hg).srt.1 (show mx2 f d.first ≤ mn2 a (d.rcv.getD 0) by omega))
  · exact Int.le_refl _
theorem cisM_le {bs : List Tri} {st : Int} {b : Nat} (hb : b < bs.length) (f a : Int) : ∀ {ds : List SpD}, (∀ d ∈ ds, SpOk bs st d) → cisM (b + 1) f a ds ≤ cisM b f a ds
  | [], _ => Int.le_refl _
  | d :: ds, h => by
    have := cisM_le hb f a (ds := ds) fun u hu => h u (List.mem_cons_of_mem _ hu)
    have hd := cisD_le (h d (List.mem_cons_self ..)) hb f a
    unfold cisM at this ⊢
    rw [List.map_cons, List.map_cons, List.sum_cons, List.sum_cons]
    omega
theorem cisM_nn {bs : List Tri} {st : Int} {b : Nat} (hb : b ≤ bs.length) (f a : Int) : ∀ {ds : List SpD}, (∀ d ∈ ds, SpOk bs st d) → 0 ≤ cisM b f a ds
  | [], _ => Int.le_refl _
  | d :: ds, h => by
    have := cisM_nn hb f a (ds := ds) fun u hu => h u (List.mem_cons_of_mem _ hu)
    have hd := cisD_nn (h d (List.mem_cons_self ..)) hb f a
    unfold cisM at this ⊢
    rw [List.map_cons, List.sum_cons]
    omega
theorem rej_open {bs : List Tri} {st : Int} {d : SpD} (S : SpOk bs st d) {b : Nat} (hb : b < bs.length) {f a f' : Int} {v : Int} (hv : d.rcv = some v) (ff : f' ≤ f) (h : cisD (b + 1) f a d < cisD b f a d) : 0 < topD b f' a d := by
  have rl := S.rl
  obtain ⟨g, hg⟩ : ∃ g, d.rs[b]? = some g := ⟨_, List.getElem?_eq_getElem (by omega)⟩
  obtain ⟨g', hg'⟩ : ∃ g', d.rs[b + 1]? = some g' := ⟨_, List.getElem?_eq_getElem (by omega)⟩
  obtain ⟨os, o, t, s, C, e⟩ := S.stp b g g' hg hg'
  unfold cisD at h
  rw [hg, hg', hv] at h
  have h : (if mx2 f d.first < mn2 a v then NB g' (mn2 a v) - NB g' (mx2 f d.first) else 0) < (if mx2 f d.first < mn2 a v then NB g (mn2 a v) - NB g (mx2 f d.first) else 0) := h
  by_cases c : mx2 f d.first < mn2 a v
  · rw [if_pos c, if_pos c] at h
    rcases NB_diff' (S.run b g hg).srt (S.run _ g' hg').srt (Int.le_of_lt c) with ⟨x, x1, x2, i1, i2⟩ | k
    · have ox : o < x := by
        by_cases q : x ≤ o
        · exact absurd (C.ps.low x q i1) i2
        · omega
      have e2 : d.op[b]? = some (some o) := by
        rw [e, hv]
        have : o < v := by
          unfold mn2 at x2
          split at x2 <;> omega
        exact congrArg some (if_pos this)
      unfold topD
      rw [e2, hv]
      show 0 < mx2 0 (mn2 a v - mx2 f' o)
      unfold mx2 mn2 at *
      (repeat' split) <;> (repeat' split at *) <;> omega
    · omega
  · rw [if_neg c, if_neg c] at h
    omega
theorem rejM_open {bs : List Tri} {st : Int} {b : Nat} (hb : b < bs.length) {f a f' : Int} (ff : f' ≤ f) : ∀ {ds : List SpD}, (∀ d ∈ ds, SpOk bs st d ∧ ∃ v, d.rcv = some v) → cisM (b + 1) f a ds < cisM b f a ds → 0 < topM b f' a ds
  | [], _, h => absurd h (Int.lt_irrefl _)
  | d :: ds, ok, h => by
    obtain ⟨S, v, hv⟩ := ok d (List.mem_cons_self ..)
    have e : topM b f' a (d :: ds) = topD b f' a d + topM b f' a ds := by
      unfold topM
      rw [List.map_cons, List.sum_cons]
    have e1 : cisM b f a (d :: ds) = cisD b f a d + cisM b f a ds := by
      unfold cisM
      rw [List.map_cons, List.sum_cons]
    have e2 : cisM (b + 1) f a (d :: ds) = cisD (b + 1) f a d + cisM (b + 1) f a ds := by
      unfold cisM
      rw [List.map_cons, List.sum_cons]
    have n1 := topM_nn b f' a ds
    have n2 : 0 ≤ topD b f' a d := topV_nn _ _ _ _
    rw [e]
    rw [e1, e2] at h
    by_cases c : cisD (b + 1) f a d < cisD b f a d
    · have := rej_open S hb hv ff c
      omega
    · have := cisD_le S hb f a
      have := rejM_open (a := a) hb ff (ds := ds) (fun u hu => ok u (List.mem_cons_of_mem _ hu)) (by omega)
      omega
/-! ### requests and outages -/
def dn (os : List (Int × Int)) (x : Int) : Prop := ∃ o ∈ os, o.1 ≤ x ∧ x < o.2
def isRq (st ph x : Int) : Prop := ph ≤ x ∧ (x - ph) % st = 0
theorem isRq_iff {st ph x : Int} (s : 0 < st) : isRq st ph x ↔ ∃ m, 0 ≤ m ∧ x = ph + m * st := by
  constructor
  · rintro ⟨h1, h2⟩
    refine ⟨(x - ph) / st, Int.ediv_nonneg (by omega) (by omega), ?_⟩
    have := Int.mul_ediv_add_emod (x - ph) st
    rw [h2, Int.mul_comm] at this
    omega
  · rintro ⟨m, h1, rfl⟩
    have : 0 ≤ m * st := Int.mul_nonneg h1 (by omega)
    refine ⟨by omega, ?_⟩
    rw [show ph + m * st - ph = m * st by omega]
    exact Int.mul_emod_left m st
theorem stepsUp_nn (d s : Int) : 0 ≤ stepsUp d s := by
  unfold stepsUp
  split <;> omega
theorem reqA_rq {st ph : Int} (s : 0 < st) (b : Int) : isRq st ph (reqA ph st b) := (isRq_iff s).mpr ⟨stepsUp (b - ph) st, stepsUp_nn _ _, rfl⟩
theorem reqA_least {st ph b x : Int} (s : 0 < st) (h : isRq st ph x) (l : b ≤ x) : reqA ph st b ≤ x := by
  obtain ⟨m, m0, rfl⟩ := (isRq_iff s).mp h
  unfold reqA
  have h1 : stepsUp (b - ph) st ≤ m := by
    rw [stepsUp_cl]
    have : cl (b - ph) st ≤ m := (cl_le s).mpr (by omega)
    split <;> omega
  have := Int.mul_le_mul_of_nonneg_right h1 (show 0 ≤ st by omega)
  omega
theorem mul_lt_of {a b s : Int} (s0 : 0 < s) (h : a * s ≤ b * s) : a ≤ b := by
  by_cases c : a ≤ b
  · exact c
  · have : (b + 1) * s ≤ a * s := Int.mul_le_mul_of_nonneg_right (by omega) (by omega)
    rw [Int.add_mul] at this
    omega
theorem in_end {st ph f x : Int} (s : 0 < st) (hf : isRq st ph f) : inL [(f, st, none)] x ↔ isRq st ph x ∧ f ≤ x := by
  rw [in_one]
  obtain ⟨m, m0, rfl⟩ := (isRq_iff s).mp hf
  constructor
  · rintro ⟨i, i0, _, rfl⟩
    have h1 : 0 ≤ i * st := Int.mul_nonneg i0 (by omega)
    refine ⟨(isRq_iff s).mpr ⟨m + i, by omega, ?_⟩, ?_⟩
    · show ph + m * st + i * st = _
      rw [Int.add_mul]
      omega
    · show ph + m * st ≤ ph + m * st + i * st
      omega
  · rintro ⟨h, l⟩
    obtain ⟨q, q0, rfl⟩ := (isRq_iff s).mp h
    have := mul_lt_of (a := m) (b := q) s (by omega)
    refine ⟨q - m, by omega, (fun c e => nomatch e), ?_⟩
    show ph + q * st = ph + m * st + (q - m) * st
    rw [Int.sub_mul]
    omega
theorem rq_gap {st ph x y : Int} (s : 0 < st) (hx : isRq st ph x) (hy : isRq st ph y) (l : x < y) : x + st ≤ y := by
  obtain ⟨m, m0, rfl⟩ := (isRq_iff s).mp hx
  obtain ⟨q, q0, rfl⟩ := (isRq_iff s).mp hy
  by_cases c : q ≤ m
  · have := Int.mul_le_mul_of_nonneg_right c (show 0 ≤ st by omega)
    omega
  · have := Int.mul_le_mul_of_nonneg_right (show m + 1 ≤ q by omega) (show 0 ≤ st by omega)
    rw [Int.add_mul] at this
    omega
theorem rec_fact {g : List Trn} (hs : Srt g) (hT : Tot g = none) : ∀ {os : List (Int × Int)} {m r : Int}, VOut m os → (recM g (outs os)).1 = some r →
    (∀ o, os.head? = some o → o.2 ≤ r) ∧ (∀ x, inL g x → (∀ o, os.head? = some o → o.1 ≤ x) → x < r → dn os x) ∧ ¬ dn os r ∧ VOut (r + 1) (os.drop (recM g (outs os)).2) ∧ ∀ x, r < x → dn os x → dn (os.drop (recM g (outs os)).2) x
  | [], m, r, _, e => by cases e
  | [o], m, r, v, e => by
    obtain ⟨h1, h2, h3⟩ := (nx_iff hs).mp (show nxT g o.2 = some r from e)
    refine ⟨fun o' e' => by cases e'; exact h2, fun x hx hb hr => ?_, ?_, True.intro, ?_⟩
    · have := hb o rfl
      refine ⟨o, List.mem_cons_self .., this, ?_⟩
      by_cases c : x < o.2
      · exact c
      · have := h3 x hx (by omega)
        omega
    · rintro ⟨o', ho', a, b⟩
      rw [List.mem_singleton.mp ho'] at b
      omega
    · rintro x hx ⟨o', ho', a, b⟩
      rw [List.mem_singleton.mp ho'] at b
      omega
  | o :: p :: os, m, r, v, e => by
    obtain ⟨y, hy⟩ := nx_end hs hT o.2
    obtain ⟨y1, y2, y3⟩ := (nx_iff hs).mp hy
    have er : recM g (outs (o :: p :: os)) = if (nxT g o.2).getD 0 < p.1 then (nxT g o.2, 1) else ((recM g (outs (p :: os))).1, (recM g (outs (p :: os))).2 + 1) := rfl
    rw [er] at e ⊢
    obtain ⟨v1, v2, v3, v4⟩ := v
    have later : ∀ o' ∈ p :: os, p.1 ≤ o'.1 := fun o' ho' => by
      obtain ⟨w1, w2, w3, w4⟩ := v4
      rcases List.mem_cons.mp ho' with rfl | ho'
      · exact Int.le_refl _
      · have := (vout_mem w4 o' ho').1
        omega
    have v4' := v4
    obtain ⟨w1, w2, w3, w4⟩ := v4
    by_cases c : (nxT g o.2).getD 0 < p.1
    · rw [if_pos c] at e ⊢
      have e : nxT g o.2 = some r := e
      rw [hy] at e c
      cases e
      have c : r < p.1 := c
      refine ⟨fun o' e' => by cases e'; exact y2, fun x hx hb hr => ?_, ?_, ⟨by omega, w2, w3, w4⟩, ?_⟩
      · have := hb o rfl
        refine ⟨o, List.mem_cons_self .., this, ?_⟩
        by_cases c : x < o.2
        · exact c
        · have := y3 x hx (by omega)
          omega
      · rintro ⟨o', ho', a, b⟩
        rcases List.mem_cons.mp ho' with rfl | ho'
        · omega
        · have := later o' ho'
          omega
      · rintro x hx ⟨o', ho', a, b⟩
        rcases List.mem_cons.mp ho' with rfl | ho'
        · omega
        · exact ⟨o', ho', a, b⟩
    · rw [if_neg c] at e ⊢
      rw [hy] at c
      have c : ¬ y < p.1 := c
      obtain ⟨i1, i2, i3, i4, i5⟩ := rec_fact hs hT v4' e
      have i1 := i1 p rfl
      refine ⟨fun o' e' => by cases e'; omega, fun x hx hb hr => ?_, ?_, i4, ?_⟩
      · have := hb o rfl
        by_cases c2 : x < o.2
        · exact ⟨o, List.mem_cons_self .., this, c2⟩
        · have := y3 x hx (by omega)
          obtain ⟨o', ho', a, b⟩ := i2 x hx (fun o' e' => by cases e'; omega) hr
          exact ⟨o', List.mem_cons_of_mem _ ho', a, b⟩
      · rintro ⟨o', ho', a, b⟩
        rcases List.mem_cons.mp ho' with rfl | ho'
        · omega
        · exact i3 ⟨o', ho', a, b⟩
      · rintro x hx ⟨o', ho', a, b⟩
        rcases List.mem_cons.mp ho' with rfl | ho'
        · omega
        · exact i5 x hx ⟨o', ho', a, b⟩
/-! ### the chain of spells -/
structure SpX (os : List (Int × Int)) (bs : List Tri) (st ph : Int) (pv : Option SpD) (m : Int) (d : SpD) (v : Int) (g : List Trn) : Prop where
  lo : m ≤ d.first
  up : ∀ x, isRq st ph x → m ≤ x → x < d.first → ¬ dn os x
  dn : dn os d.first
  rq : isRq st ph d.first
  bg : d.bg = bgOf bs st pv (d.first - 1)
  rcv : d.rcv = some v
  lt : d.first < v
  vq : isRq st ph v
  vu : ¬ Toy.dn os v
  rl : d.rs[bs.length]? = some g
  vi : inL g v
  ins : ∀ x, inL g x → x < v → Toy.dn os x
def SpCh (os : List (Int × Int)) (bs : List Tri) (st ph : Int) : Option SpD → Int → List SpD → Prop
  | _, m, [] => ∀ x, isRq st ph x → m ≤ x → ¬ dn os x
  | pv, m, d :: r => ∃ v g, SpX os bs st ph pv m d v g ∧ SpCh os bs st ph (some d) (v + 1) r
theorem sub_chain {bs : List Tri} {st : Int} {d : SpD} (S : SpOk bs st d) : ∀ (n i : Nat) (g g' : List Trn), d.rs[i]? = some g → d.rs[i + n]? = some g' → ∀ x, inL g' x → inL g x
  | 0, i, g, g', h, h', x, k => by
    rw [Nat.add_zero] at h'
    rw [h] at h'
    cases h'
    exact k
  | n + 1, i, g, g', h, h', x, k => by
    have hl := (List.getElem?_eq_some_iff.mp h').1
    obtain ⟨u, hu⟩ : ∃ u, d.rs[i + n]? = some u := ⟨_, List.getElem?_eq_getElem (by omega)⟩
    obtain ⟨os, o, b, s, C, _⟩ := S.stp (i + n) u g' hu h'
    exact sub_chain S n i g u h hu x (C.ps.sub x k)
theorem spM_ch {os0 : List (Int × Int)} {bs : List Tri} {st ph : Int} (W : RowD bs st ph) : ∀ {n : Nat} {pv : Option SpD} {os : List (Int × Int)} {m : Int}, 0 ≤ m → VOut m os → os.length ≤ n → (∀ o ∈ os, o ∈ os0) → (∀ x, isRq st ph x → m ≤ x → dn os0 x → dn os x) → (∀ d, pv = some d → d.op.length = bs.length) → SpCh os0 bs st ph pv m (spM bs st ph n pv (outs os))
  | 0, pv, os, m, _, _, hn, _, hd, _ => by
    intro x hx hm k
    obtain ⟨o, ho, _⟩ := hd x hx hm k
    cases os with
    | nil => cases ho
    | cons _ _ => simp at hn
  | n + 1, pv, [], m, _, _, _, _, hd, _ => by
    intro x hx hm k
    obtain ⟨o, ho, _⟩ := hd x hx hm k
    cases ho
  | n + 1, pv, o :: os, m, m0, v, hn, hin, hd, hp => by
    have vv := v
    obtain ⟨v1, v2, v3, v4⟩ := v
    have e0 : outs (o :: os) = (o.1, some o.2) :: outs os := rfl
    have s0 : 0 < st := by have := W.s0; omega
    have rg := reqA_ge (ph := ph) s0 o.1
    rw [List.length_cons] at hn
    by_cases c : o.2 ≤ reqA ph st o.1
    · rw [e0, spM_skip c]
      refine spM_ch W m0 (v4.mono (by omega)) (by omega) (fun o' ho' => hin o' (List.mem_cons_of_mem _ ho')) (fun x hx hm k => ?_) hp
      obtain ⟨o', ho', a, b⟩ := hd x hx hm k
      rcases List.mem_cons.mp ho' with rfl | ho'
      · have := reqA_least s0 hx a
        omega
      · exact ⟨o', ho', a, b⟩
    · have c' : ∀ z, some o.2 = some z → ¬ z ≤ reqA ph st o.1 := fun z e => by cases e; exact c
      rw [e0, spM_take c']
      have e104 : (1000000000000000000000000000000 : Int) ≤ PB 104 := PB_of (by decide +kernel)
      obtain ⟨f0, f1, _⟩ := reqA_ok (nb := 104) W.s0 W.s1 W.p0 W.p1 (b := o.1) (by omega) (Nat.le_refl _)
      have bl := bgOf_len (st := st) (z := reqA ph st o.1 - 1) hp
      have R0 := run0 f0 f1 W.s0 W.s1 (by decide)
      obtain ⟨g1, g2⟩ := ch_ok R0 bl W.ok (by decide)
      have ln := W.ln
      obtain ⟨_, _, _, i4, _⟩ := ch_all (N := 1000) (M := 13) R0 bl W.ok (by decide) (by omega) (by omega)
      have S := spell_ok (os := outs (o :: os)) W.ok W.ln W.s0 W.s1 f0 f1 (by decide) (by decide) bl
      obtain ⟨r, hr⟩ := rec_some g2.srt g2.en (l := outs (o :: os)) (fun z => nomatch z) (fun o' ho => by
        obtain ⟨z, hz, rfl⟩ := outs_mem ho
        exact ⟨z.2, rfl⟩)
      obtain ⟨q1, q2, q3, q4, q5⟩ := rec_fact g2.srt g2.en (os := o :: os) (m := m) vv hr
      have q1 := q1 o rfl
      have hk := rec_ok (g := chL bs (bgOf bs st pv (reqA ph st o.1 - 1)) [(reqA ph st o.1, st, none)]) (l := outs (o :: os)) (fun z => nomatch z)
      have hri := rec_in g2.srt hr
      have fq := reqA_rq (ph := ph) s0 o.1
      have sub : ∀ x, inL (chL bs (bgOf bs st pv (reqA ph st o.1 - 1)) [(reqA ph st o.1, st, none)]) x → inL [(reqA ph st o.1, st, none)] x := sub_chain S bs.length 0 _ _ S.r0 (by rw [Nat.zero_add]; exact i4)
      obtain ⟨rq, rf⟩ := (in_end s0 fq).mp (sub r hri)
      have ed : (((o.1, some o.2) : Out) :: outs os).drop (spellN bs st (reqA ph st o.1) (bgOf bs st pv (reqA ph st o.1 - 1)) ((o.1, some o.2) :: outs os)) = outs ((o :: os).drop (spellN bs st (reqA ph st o.1) (bgOf bs st pv (reqA ph st o.1 - 1)) ((o.1, some o.2) :: outs os))) := by
        unfold outs
        rw [List.map_drop]
        rfl
      rw [ed]
      refine ⟨r, chL bs (bgOf bs st pv (reqA ph st o.1 - 1)) [(reqA ph st o.1, st, none)], ⟨?_, ?_, ?_, fq, rfl, hr, ?_, rq, ?_, i4, hri, ?_⟩, ?_⟩
      · show m ≤ reqA ph st o.1
        omega
      · intro x hx hm hl k
        have hl : x < reqA ph st o.1 := hl
        obtain ⟨o', ho', a, b⟩ := hd x hx hm k
        rcases List.mem_cons.mp ho' with rfl | ho'
        · have := reqA_least s0 hx a
          omega
        · have := (vout_mem v4 o' ho').1
          omega
      · exact ⟨o, hin o (List.mem_cons_self ..), rg, by show reqA ph st o.1 < o.2; omega⟩
      · show reqA ph st o.1 < r
        omega
      · exact fun k => q3 (hd r rq (by omega) k)
      · intro x hx hl
        have := ((in_end s0 fq).mp (sub x hx)).2
        obtain ⟨o', ho', a, b⟩ := q2 x hx (fun o' e => by cases e; omega) hl
        exact ⟨o', hin o' ho', a, b⟩
      · refine spM_ch W (by omega) q4 ?_ (fun o' ho' => hin o' (List.mem_of_mem_drop ho')) (fun x hx hm k => ?_) (fun d e => by cases e; exact op_len R0 bl W.ok (by decide))
        · rw [List.length_drop, List.length_cons]
          have := hk.1
          show os.length + 1 - (recM (chL bs (bgOf bs st pv (reqA ph st o.1 - 1)) [(reqA ph st o.1, st, none)]) (outs (o :: os))).2 ≤ n
          omega
        · exact q5 x (by omega) (hd x hx (by omega) k)
theorem sps_ch {bs : List Tri} {st ph : Int} (W : RowD bs st ph) {os : List (Int × Int)} (hv : VOut 0 os) : SpCh os bs st ph none 0 (spsOf bs st ph os) := spM_ch W (Int.le_refl 0) hv (Nat.le_refl _) (fun _ h => h) (fun _ _ _ k => k) fun d e => nomatch e
/-! ### the states, and how a request changes them -/
def luT (g : List Trn) (x : Int) : Option Int := if 0 < NB g (x + 1) then At g (NB g (x + 1) - 1) else none
theorem luT_spec {g : List Trn} (hs : Srt g) {x y : Int} (h : luT g x = some y) : inL g y ∧ y ≤ x ∧ ∀ z, inL g z → z ≤ x → z ≤ y := by
  unfold luT at h
  split at h
  · rename_i c
    have hy := at_in hs (by omega) h
    have h1 := (At_lt hs (by omega) h (x + 1)).mp (by omega)
    refine ⟨hy, by omega, fun z hz l => ?_⟩
    have hz2 := in_at hs hz
    have h2 := (in_mem hs.1 z).mp hz
    have h3 := NB_mono hs.1 (show z + 1 ≤ x + 1 by omega)
    exact at_le hs (NB_nn hs.1 z) (by omega) hz2 h
  · cases h
theorem luT_some {g : List Trn} (hs : Srt g) {x y : Int} (hy : inL g y) (l : y ≤ x) : ∃ z, luT g x = some z := by
  unfold luT
  have h2 := (in_mem hs.1 y).mp hy
  have h3 := NB_mono hs.1 (show y + 1 ≤ x + 1 by omega)
  have h4 := NB_nn hs.1 y
  rw [if_pos (by omega)]
  cases q : At g (NB g (x + 1) - 1) with
  | some z => exact ⟨z, rfl⟩
  | none =>
    obtain ⟨n, e, h5⟩ := (At_none hs.1 (by omega)).mp q
    have := NB_tot hs.1 e (x + 1)
    omega
theorem luT_is {g : List Trn} (hs : Srt g) {x y : Int} (hy : inL g y) (l : y ≤ x) (m : ∀ z, inL g z → z ≤ x → z ≤ y) : luT g x = some y := by
  obtain ⟨z, hz⟩ := luT_some hs hy l
  obtain ⟨h1, h2, h3⟩ := luT_spec hs hz
  have := m z h1 h2
  have := h3 y hy l
  rw [hz]
  congr 1
  omega
theorem nb_out {g : List Trn} (hs : Srt g) {x : Int} (h : ¬ inL g x) : NB g (x + 1) = NB g x := by
  rcases NB_one hs x with ⟨a, _⟩ | ⟨_, b⟩
  · exact absurd a h
  · exact b
theorem nb_in {g : List Trn} (hs : Srt g) {x : Int} (h : inL g x) : NB g (x + 1) = NB g x + 1 := by
  rcases NB_one hs x with ⟨_, b⟩ | ⟨a, _⟩
  · exact b
  · exact absurd h a
def lat : Option SpD → List SpD → Int → Option SpD
  | pv, [], _ => pv
  | pv, d :: r, x => if d.first ≤ x then lat (some d) r x else pv
def stW (d : SpD) (i : Nat) (x : Int) : StD := match d.op[i]?.getD none with
  | some o => if o ≤ x then ("open", (luT (d.rs[i + 1]?.getD []) x).getD 0) else ("closed", NB (d.rs[i]?.getD []) (x + 1))
  | none => ("closed", NB (d.rs[i]?.getD []) (x + 1))
def stWs (n : Nat) (d : SpD) (x : Int) : List StD := (List.range n).map fun i => stW d i x
def stAt (bs : List Tri) (st : Int) (o : Option SpD) (x : Int) : List StD := match o with
  | none => List.replicate bs.length ("closed", 0)
  | some d => if d.rcv.getD 0 ≤ x then stBeh bs st d x else stWs bs.length d x
def stM (bs : List Tri) (st ph : Int) (os : List (Int × Int)) (x : Int) : List StD := stAt bs st (lat none (spsOf bs st ph os) x) x
structure StepR (bs : List Tri) (D : Prop) (r : Int) (old new : List StD) (k : Nat) : Prop where
  kn : k ≤ bs.length
  ol : old.length = bs.length
  nl : new.length = bs.length
  ps : ∀ (i : Nat) (b : Tri) (s : StD), i < k → bs[i]? = some b → old[i]? = some s → psB b s r
  rj : ∀ (b : Tri) (s : StD), bs[k]? = some b → old[k]? = some s → ¬ psB b s r
  ok : k = bs.length → ¬ D → ∀ (i : Nat) (b : Tri) (s : StD), bs[i]? = some b → old[i]? = some s → new[i]? = some (okS b s)
  bd : k < bs.length ∨ D → ∀ (i : Nat) (b : Tri) (s : StD), i < k → bs[i]? = some b → old[i]? = some s → new[i]? = some (badS b s r)
  kp : k < bs.length → ∀ i : Nat, k ≤ i → new[i]? = old[i]?
theorem ok_closed (b : Tri) (n : Int) : okS b (("closed" : Str), n) = (("closed" : Str), 0) := by
  unfold okS
  rw [hf_closed]
  exact if_neg fun h => sC_H h.1
theorem ok_half (b : Tri) (n : Int) : okS b (("half" : Str), n) = if n + 1 < b.2.2 then (("half" : Str), n + 1) else (("closed" : Str), 0) := by
  unfold okS
  rw [hf_half]
  by_cases c : n + 1 < b.2.2
  · rw [if_pos c]
    exact if_pos ⟨rfl, c⟩
  · rw [if_neg c]
    exact if_neg fun h => c h.2
theorem ok_open (b : Tri) (n : Int) : okS b (("open" : Str), n) = if 1 < b.2.2 then (("half" : Str), 1) else (("closed" : Str), 0) := by
  have := ok_half b 0
  unfold okS at this ⊢
  rw [hf_open]
  rw [hf_half] at this
  exact this
theorem bad_closed (b : Tri) (n t : Int) : badS b (("closed" : Str), n) t = if n + 1 < b.1 then (("closed" : Str), n + 1) else (("open" : Str), t) := by
  unfold badS
  rw [hf_closed]
  by_cases c : n + 1 < b.1
  · rw [if_pos c]
    exact if_pos ⟨rfl, c⟩
  · rw [if_neg c]
    exact if_neg fun h => c h.2
theorem bad_half (b : Tri) (n t : Int) : badS b (("half" : Str), n) t = (("open" : Str), t) := by
  unfold badS
  rw [hf_half]
  exact if_neg fun h => sH_C h.1
theorem bad_open (b : Tri) (n t : Int) : badS b (("open" : Str), n) t = (("open" : Str), t) := by
  unfold badS
  rw [hf_open]
  exact if_neg fun h => sH_C h.1
theorem ps_closed (b : Tri) (n t : Int) : psB b (("closed" : Str), n) t := fun e => absurd e sC_O
theorem ps_half (b : Tri) (n t : Int) : psB b (("half" : Str), n) t := fun e => absurd e sH_O
/-- a breaker of a spell: what comes to it, what it passes, and when it opens -/
structure BrOf (bs : List Tri) (d : SpD) (v : Int) (i : Nat) (b : Tri) (s : StD) (g g' : List Trn) (o : Int) : Prop where
  hg : d.rs[i]? = some g
  hg' : d.rs[i + 1]? = some g'
  hb : bs[i]? = some b
  hs : d.bg[i]? = some s
  sg : Srt g
  sg' : Srt g'
  h0 : At g 0 = some d.first
  ho : d.op[i]? = some (if o < v then some o else none)
  at_ : At g (ndOf b s - 1) = some o
  fo : d.first ≤ o
  ps : PassOk g g' o b.2.1
  n1 : 1 ≤ ndOf b s
theorem br_of {bs : List Tri} {st v : Int} {d : SpD} (ok : ∀ t ∈ bs, OkT t) (S : SpOk bs st d) (hv : d.rcv = some v) {i : Nat} (hi : i < bs.length) : ∃ b s g g' o, BrOf bs d v i b s g g' o := by
  have rl := S.rl
  obtain ⟨g, hg⟩ : ∃ g, d.rs[i]? = some g := ⟨_, List.getElem?_eq_getElem (by omega)⟩
  obtain ⟨g', hg'⟩ : ∃ g', d.rs[i + 1]? = some g' := ⟨_, List.getElem?_eq_getElem (by omega)⟩
  obtain ⟨os, o, b, s, C, e⟩ := S.stp i g g' hg hg'
  have e2 : cutO d.rcv o = if o < v then some o else none := by rw [hv]; rfl
  rw [e2] at e
  refine ⟨b, s, g, g', o, hg, hg', C.hb, C.hs, (S.run i g hg).srt, (S.run _ g' hg').srt, (S.run i g hg).hd, e, C.at_, C.fo, C.ps, ?_⟩
  obtain ⟨o1, _⟩ := ok b (List.mem_of_getElem? C.hb)
  unfold ndOf
  split <;> omega
theorem BrOf.st {bs : List Tri} {d : SpD} {v : Int} {i : Nat} {b : Tri} {s : StD} {g g' : List Trn} {o : Int} (B : BrOf bs d v i b s g g' o) {x : Int} (l : x < v) :
    stW d i x = if o ≤ x then (("open" : Str), (luT g' x).getD 0) else (("closed" : Str), NB g (x + 1)) := by
  unfold stW
  rw [B.ho, B.hg, B.hg']
  by_cases c : o < v
  · rw [if_pos c]
    rfl
  · rw [if_neg c, if_neg (show ¬ o ≤ x by omega)]
    rfl
/-- within a spell -/
theorem BrOf.pass {bs : List Tri} {d : SpD} {v : Int} {i : Nat} {b : Tri} {s : StD} {g g' : List Trn} {o : Int} (B : BrOf bs d v i b s g g' o) {r : Int} (r1 : d.first < r) (r2 : r < v) (h : inL g r) (h' : inL g' r) :
    psB b (stW d i (r - 1)) r ∧ stW d i r = badS b (stW d i (r - 1)) r := by
  rw [B.st (show r - 1 < v by omega), B.st r2, show r - 1 + 1 = r by omega]
  by_cases c : o ≤ r - 1
  · rw [if_pos c, if_pos (show o ≤ r by omega), bad_open]
    obtain ⟨y, hy⟩ := luT_some B.sg' B.ps.op c
    obtain ⟨y1, y2, y3⟩ := luT_spec B.sg' hy
    have oy := y3 o B.ps.op c
    have hn := B.ps.nxt y y1 oy
    have hz : nxT g' (y + 1) = some r := (nx_iff B.sg').mpr ⟨h', by omega, fun z hz hl => by
      by_cases q : z ≤ r - 1
      · have := y3 z hz q
        omega
      · omega⟩
    rw [hn] at hz
    have := ((nx_iff B.sg).mp hz).2.1
    rw [hy]
    refine ⟨fun _ => by show b.2.1 ≤ r - y; omega, ?_⟩
    rw [luT_is B.sg' h' (Int.le_refl r) fun z _ l => l]
    rfl
  · rw [if_neg c, bad_closed]
    refine ⟨ps_closed _ _ _, ?_⟩
    have hr := in_at B.sg h
    have nn := NB_nn B.sg.1 r
    have n1 := B.n1
    -- not half open at the beginning: it would have opened with the first request
    have hs : s.1 = "closed" := by
      by_cases q : s.1 = "closed"
      · exact q
      · have e : ndOf b s = 1 := if_neg q
        have := B.at_
        rw [e] at this
        have := this.symm.trans B.h0
        cases this
        omega
    have nd : ndOf b s = b.1 := if_pos hs
    have hat := B.at_
    rw [nd] at hat
    rw [nd] at n1
    by_cases c2 : o ≤ r
    · have e : o = r := by omega
      subst e
      have e2 : NB g o = b.1 - 1 := ((At_iff B.sg (by omega)).mp hat).1
      rw [if_pos (Int.le_refl _), if_neg (by omega), luT_is B.sg' h' (Int.le_refl o) fun z _ l => l]
      rfl
    · have h2 := (At_lt B.sg (by omega) hat r)
      have h3 := ((At_iff B.sg (by omega)).mp hat).1
      have h4 := NB_mono B.sg.1 (show r + 1 ≤ o by omega)
      have h5 := nb_in B.sg h
      rw [if_neg c2, if_pos (by omega), h5]
theorem BrOf.rej {bs : List Tri} {d : SpD} {v : Int} {i : Nat} {b : Tri} {s : StD} {g g' : List Trn} {o : Int} (B : BrOf bs d v i b s g g' o) {r : Int} (r1 : d.first < r) (r2 : r < v) (h : inL g r) (h' : ¬ inL g' r) :
    ¬ psB b (stW d i (r - 1)) r := by
  have c : o ≤ r - 1 := by
    by_cases q : r ≤ o
    · exact absurd (B.ps.low r q h) h'
    · omega
  rw [B.st (show r - 1 < v by omega), if_pos c]
  obtain ⟨y, hy⟩ := luT_some B.sg' B.ps.op c
  obtain ⟨y1, y2, y3⟩ := luT_spec B.sg' hy
  have oy := y3 o B.ps.op c
  have hn := B.ps.nxt y y1 oy
  rw [hy]
  intro p
  have p : b.2.1 ≤ r - y := p rfl
  -- the first one that is late enough is before r
  have tot : ∃ z, nxT g (y + b.2.1) = some z := by
    cases q : nxT g (y + b.2.1) with
    | some z => exact ⟨z, rfl⟩
    | none =>
      have := (nx_none B.sg (y + b.2.1)).mp q
      have h1 := NB_tot B.sg.1 this (r + 1)
      have h2 := nb_in B.sg h
      have h3 := NB_mono B.sg.1 (show y + b.2.1 ≤ r by omega)
      omega
  obtain ⟨z, hz⟩ := tot
  obtain ⟨z1, z2, z3⟩ := (nx_iff B.sg).mp hz
  have zr := z3 r h (by omega)
  rw [← hn] at hz
  obtain ⟨w1, w2, w3⟩ := (nx_iff B.sg').mp hz
  by_cases e : z = r
  · subst e
    exact h' w1
  · have := y3 z w1 (by omega)
    omega
theorem BrOf.stay {bs : List Tri} {d : SpD} {v : Int} {i : Nat} {b : Tri} {s : StD} {g g' : List Trn} {o : Int} (B : BrOf bs d v i b s g g' o) {r : Int} (r1 : d.first < r) (r2 : r < v) (h' : ¬ inL g' r) (hh : inL g r → o < r) :
    stW d i r = stW d i (r - 1) := by
  rw [B.st (show r - 1 < v by omega), B.st r2, show r - 1 + 1 = r by omega]
  have ne : o ≠ r := fun e => by
    subst e
    exact h' B.ps.op
  by_cases c : o ≤ r - 1
  · rw [if_pos c, if_pos (show o ≤ r by omega)]
    congr 2
    unfold luT
    rw [nb_out B.sg' h', show r - 1 + 1 = r by omega]
  · rw [if_neg c, if_neg (show ¬ o ≤ r by omega)]
    by_cases q : inL g r
    · have := hh q
      omega
    · rw [nb_out B.sg q]
/-- the first request of a spell -/
theorem BrOf.first {bs : List Tri} {d : SpD} {v : Int} {i : Nat} {b : Tri} {s : StD} {g g' : List Trn} {o : Int} (B : BrOf bs d v i b s g g' o) (h0' : At g' 0 = some d.first) (lv : d.first < v) (hs : s = (("closed" : Str), 0) ∨ s.1 = "half") :
    psB b s d.first ∧ stW d i d.first = badS b s d.first := by
  rw [B.st lv]
  have hi := at_in B.sg (Int.le_refl 0) B.h0
  have hi' := at_in B.sg' (Int.le_refl 0) h0'
  have e1 := ((At_iff B.sg (Int.le_refl 0)).mp B.h0).2
  have hat := B.at_
  have n1 := B.n1
  obtain ⟨sw, sn⟩ := s
  rcases hs with hs | hs
  · cases hs
    have nd : ndOf b (("closed" : Str), 0) = b.1 := if_pos rfl
    rw [nd] at hat n1
    refine ⟨ps_closed _ _ _, ?_⟩
    rw [bad_closed]
    have h2 := (At_lt B.sg (by omega) hat (d.first + 1))
    by_cases c : 0 + 1 < b.1
    · rw [if_pos c, if_neg (by omega), e1]
    · have fo := B.fo
      rw [if_neg c, if_pos (by omega), luT_is B.sg' hi' (Int.le_refl _) fun z _ l => l]
      rfl
  · have hs : sw = "half" := hs
    subst hs
    have nd : ndOf b (("half" : Str), sn) = 1 := if_neg sH_C
    rw [nd] at hat
    have := hat.symm.trans B.h0
    cases this
    refine ⟨ps_half _ _ _, ?_⟩
    rw [bad_half, if_pos (Int.le_refl _), luT_is B.sg' hi' (Int.le_refl _) fun z _ l => l]
    rfl
/-- the request that succeeds again -/
theorem BrOf.recov {bs : List Tri} {d : SpD} {v : Int} {i : Nat} {b : Tri} {s : StD} {g g' : List Trn} {o : Int} (B : BrOf bs d v i b s g g' o) (lv : d.first < v) (h : inL g v) (h' : inL g' v) :
    psB b (stW d i (v - 1)) v ∧ stB 1 b (if o < v then some o else none) = okS b (stW d i (v - 1)) := by
  rw [B.st (show v - 1 < v by omega)]
  by_cases c : o < v
  · rw [if_pos c, if_pos (show o ≤ v - 1 by omega), ok_open]
    obtain ⟨y, hy⟩ := luT_some B.sg' B.ps.op (show o ≤ v - 1 by omega)
    obtain ⟨y1, y2, y3⟩ := luT_spec B.sg' hy
    have oy := y3 o B.ps.op (by omega)
    have hn := B.ps.nxt y y1 oy
    have hz : nxT g' (y + 1) = some v := (nx_iff B.sg').mpr ⟨h', by omega, fun z hz hl => by
      by_cases q : z ≤ v - 1
      · have := y3 z hz q
        omega
      · omega⟩
    rw [hn] at hz
    have := ((nx_iff B.sg).mp hz).2.1
    rw [hy]
    refine ⟨fun _ => by show b.2.1 ≤ v - y; omega, ?_⟩
    unfold stB
    by_cases q : 1 < b.2.2
    · rw [if_pos q]
      exact if_pos ⟨rfl, q⟩
    · rw [if_neg q]
      exact if_neg fun z => q z.2
  · rw [if_neg c, if_neg (show ¬ o ≤ v - 1 by omega), ok_closed]
    exact ⟨ps_closed _ _ _, if_neg fun z => nomatch z.1⟩
/-- between spells -/
theorem beh_step {b : Tri} {o : Option Int} {q r : Int} : psB b (stB q b o) r ∧ stB (q + 1) b o = okS b (stB q b o) := by
  unfold stB
  cases o with
  | none =>
    rw [if_neg (fun z => nomatch z.1), if_neg (fun z => nomatch z.1), ok_closed]
    exact ⟨ps_closed _ _ _, rfl⟩
  | some o =>
    by_cases c : q < b.2.2
    · rw [if_pos ⟨rfl, c⟩, ok_half]
      refine ⟨ps_half _ _ _, ?_⟩
      by_cases c2 : q + 1 < b.2.2
      · rw [if_pos ⟨rfl, c2⟩, if_pos c2]
      · rw [if_neg (fun z => c2 z.2), if_neg c2]
    · rw [if_neg (fun z => c z.2), ok_closed, if_neg (fun z => c (by have := z.2; omega))]
      exact ⟨ps_closed _ _ _, rfl⟩
/-! ### each request by the rules -/
theorem first_not (p : Nat → Prop) : ∀ n : Nat, ∃ k, k ≤ n ∧ (∀ i, i < k → p i) ∧ (k < n → ¬ p k)
  | 0 => ⟨0, Nat.le_refl _, fun i h => absurd h (Nat.not_lt_zero i), fun h => absurd h (Nat.lt_irrefl 0)⟩
  | n + 1 => by
    obtain ⟨k, h1, h2, h3⟩ := first_not p n
    by_cases c : k < n
    · exact ⟨k, by omega, h2, fun _ => h3 c⟩
    · have e : k = n := by omega
      subst e
      by_cases q : p k
      · exact ⟨k + 1, Nat.le_refl _, fun i hi => by
          by_cases z : i < k
          · exact h2 i z
          · have : i = k := by omega
            subst this
            exact q, fun h => absurd h (Nat.lt_irrefl _)⟩
      · exact ⟨k, by omega, h2, fun _ => q⟩
def PvOk (bs : List Tri) (st ph : Int) (pv : Option SpD) (m : Int) : Prop := ∀ d, pv = some d → ∃ v, d.rcv = some v ∧ v < m ∧ isRq st ph v ∧ d.op.length = bs.length
/-- what happens to a request: k breakers pass it -/
def OutK (n : Nat) (D : Prop) (o : Option SpD) (r : Int) (k : Nat) : Prop := match o with
  | none => k = n ∧ ¬ D
  | some d => if d.rcv.getD 0 ≤ r then k = n ∧ ¬ D else (∀ i g, i < k → d.rs[i + 1]? = some g → inL g r) ∧ (k < n → ∀ g, d.rs[k + 1]? = some g → ¬ inL g r) ∧ (k = n → D)
theorem lat_lt {os : List (Int × Int)} {bs : List Tri} {st ph : Int} {pv : Option SpD} {m : Int} {ds : List SpD} (C : SpCh os bs st ph pv m ds) {x : Int} (l : x < m) : lat pv ds x = pv := by
  cases ds with
  | nil => rfl
  | cons d r =>
    obtain ⟨v, g, X, _⟩ := C
    have := X.lo
    exact if_neg (by omega)
theorem beh_len {bs : List Tri} {st : Int} {d : SpD} {x : Int} (h : d.op.length = bs.length) : (stBeh bs st d x).length = bs.length := by
  unfold stBeh
  rw [List.length_zipWith, h, Nat.min_self]
theorem beh_get {bs : List Tri} {st : Int} {d : SpD} {x : Int} {i : Nat} {b : Tri} {o : Option Int} (hb : bs[i]? = some b) (ho : d.op[i]? = some o) : (stBeh bs st d x)[i]? = some (stB ((x - d.rcv.getD 0) / st + 1) b o) := by
  unfold stBeh
  rw [List.getElem?_zipWith, hb, ho]
theorem ws_len {n : Nat} {d : SpD} {x : Int} : (stWs n d x).length = n := by
  unfold stWs
  rw [List.length_map, List.length_range]
theorem ws_get {n : Nat} {d : SpD} {x : Int} {i : Nat} (h : i < n) : (stWs n d x)[i]? = some (stW d i x) := by
  unfold stWs
  rw [List.getElem?_map, List.getElem?_range h]
  rfl
theorem rep_get {n : Nat} {s : StD} {i : Nat} (h : i < n) : (List.replicate n s)[i]? = some s := by
  rw [List.getElem?_replicate, if_pos h]
theorem quo_step {st ph v r : Int} (s : 0 < st) (hv : isRq st ph v) (hr : isRq st ph r) (l : v < r) : (r - v) / st = (r - 1 - v) / st + 1 := by
  obtain ⟨m, m0, rfl⟩ := (isRq_iff s).mp hv
  obtain ⟨q, q0, rfl⟩ := (isRq_iff s).mp hr
  have e : ph + q * st - (ph + m * st) = (q - m) * st := by rw [Int.sub_mul]; omega
  have h1 : ph + q * st - 1 - (ph + m * st) = (st - 1) + (q - m - 1) * st := by
    rw [Int.sub_mul, Int.sub_mul]
    omega
  rw [h1, Int.add_mul_ediv_right _ _ (by omega), e, Int.mul_ediv_cancel _ (by omega), Int.ediv_eq_zero_of_lt (by omega) (by omega)]
  omega
theorem step_base {bs : List Tri} {st ph : Int} {pv : Option SpD} {m r : Int} {D : Prop} (s0 : 0 < st) (P : PvOk bs st ph pv m) (hr : isRq st ph r) (l : m ≤ r) (nd : ¬ D) :
    StepR bs D r (stAt bs st pv (r - 1)) (stAt bs st pv r) bs.length ∧ OutK bs.length D pv r bs.length := by
  cases pv with
  | none =>
    refine ⟨⟨Nat.le_refl _, List.length_replicate, List.length_replicate, fun i b s hi hb hs => ?_, fun b s hb _ => ?_, fun _ _ i b s hb hs => ?_, fun h => ?_, fun h => absurd h (Nat.lt_irrefl _)⟩, rfl, nd⟩
    · have hs : (List.replicate bs.length (("closed" : Str), (0 : Int)))[i]? = some s := hs
      rw [rep_get hi] at hs
      cases hs
      exact ps_closed _ _ _
    · have := (List.getElem?_eq_some_iff.mp hb).1
      omega
    · have hi := (List.getElem?_eq_some_iff.mp hb).1
      have hs : (List.replicate bs.length (("closed" : Str), (0 : Int)))[i]? = some s := hs
      rw [rep_get hi] at hs
      cases hs
      show (List.replicate bs.length (("closed" : Str), (0 : Int)))[i]? = _
      rw [rep_get hi, ok_closed]
    · rcases h with h | h
      · exact absurd h (Nat.lt_irrefl _)
      · exact absurd h nd
  | some d =>
    obtain ⟨v, hv, lv, vq, ol⟩ := P d rfl
    have g0 : d.rcv.getD 0 = v := by rw [hv]; rfl
    have e1 : stAt bs st (some d) (r - 1) = stBeh bs st d (r - 1) := if_pos (by rw [g0]; omega)
    have e2 : stAt bs st (some d) r = stBeh bs st d r := if_pos (by rw [g0]; omega)
    rw [e1, e2]
    have get : ∀ {i b}, bs[i]? = some b → ∃ o, d.op[i]? = some o := fun {i b} hb => by
      have := (List.getElem?_eq_some_iff.mp hb).1
      exact ⟨_, List.getElem?_eq_getElem (by omega)⟩
    have eq := quo_step s0 vq hr (show v < r by omega)
    refine ⟨⟨Nat.le_refl _, beh_len ol, beh_len ol, fun i b s hi hb hs => ?_, fun b s hb _ => ?_, fun _ _ i b s hb hs => ?_, fun h => ?_, fun h => absurd h (Nat.lt_irrefl _)⟩, ?_⟩
    · obtain ⟨o, ho⟩ := get hb
      rw [beh_get hb ho] at hs
      cases hs
      exact beh_step.1
    · have := (List.getElem?_eq_some_iff.mp hb).1
      omega
    · obtain ⟨o, ho⟩ := get hb
      rw [beh_get hb ho] at hs
      cases hs
      rw [beh_get hb ho, g0, eq]
      exact congrArg some (beh_step (r := r)).2
    · rcases h with h | h
      · exact absurd h (Nat.lt_irrefl _)
      · exact absurd h nd
    · show if d.rcv.getD 0 ≤ r then _ else _
      rw [if_pos (by rw [g0]; omega)]
      exact ⟨rfl, nd⟩
theorem bgOf_mem {bs : List Tri} {st : Int} {pv : Option SpD} {z : Int} {i : Nat} {s : StD} (h : (bgOf bs st pv z)[i]? = some s) : s = (("closed" : Str), 0) ∨ s.1 = "half" := by
  cases pv with
  | none =>
    have h : (List.replicate bs.length (("closed" : Str), (0 : Int)))[i]? = some s := h
    have := List.eq_of_mem_replicate (List.mem_of_getElem? h)
    exact .inl this
  | some d =>
    have h : (List.zipWith (stB ((z - d.rcv.getD 0) / st + 1)) bs d.op)[i]? = some s := h
    rw [List.getElem?_zipWith] at h
    cases hb : bs[i]? with
    | none => rw [hb] at h; cases h
    | some b =>
      cases ho : d.op[i]? with
      | none => rw [hb, ho] at h; cases h
      | some o =>
        rw [hb, ho] at h
        have h : stB ((z - d.rcv.getD 0) / st + 1) b o = s := Option.some.inj h
        rw [← h]
        unfold stB
        split
        · exact .inr rfl
        · exact .inl rfl
theorem step_ch {os : List (Int × Int)} {bs : List Tri} {st ph : Int} (s0 : 0 < st) (okb : ∀ t ∈ bs, OkT t) : ∀ {ds : List SpD} {pv : Option SpD} {m : Int}, SpCh os bs st ph pv m ds → (∀ d ∈ ds, SpOk bs st d) → PvOk bs st ph pv m → ∀ {r : Int}, isRq st ph r → m ≤ r →
    ∃ k, StepR bs (dn os r) r (stAt bs st (lat pv ds (r - 1)) (r - 1)) (stAt bs st (lat pv ds r) r) k ∧ OutK bs.length (dn os r) (lat pv ds r) r k
  | [], pv, m, C, _, P, r, hr, l => ⟨_, step_base s0 P hr l (C r hr l)⟩
  | d :: ds, pv, m, ⟨v, g, X, C⟩, A, P, r, hr, l => by
    have S := A d (List.mem_cons_self ..)
    have xlo := X.lo
    have lv := X.lt
    have g0 : d.rcv.getD 0 = v := by rw [X.rcv]; rfl
    have latc : ∀ x, lat pv (d :: ds) x = if d.first ≤ x then lat (some d) ds x else pv := fun _ => rfl
    by_cases c1 : r < d.first
    · rw [latc, latc, if_neg (by omega), if_neg (by omega)]
      exact ⟨_, step_base s0 P hr l (X.up r hr l c1)⟩
    by_cases c3 : r < v
    · rw [latc r, if_pos (by omega), lat_lt C (by omega)]
      have en : stAt bs st (some d) r = stWs bs.length d r := if_neg (by rw [g0]; omega)
      rw [en]
      by_cases c2 : r = d.first
      · -- the first request of the spell
        subst c2
        rw [latc, if_neg (by omega)]
        have eo : stAt bs st pv (d.first - 1) = d.bg := by
          rw [X.bg]
          cases pv with
          | none => rfl
          | some d' =>
            obtain ⟨v', hv', lv', _, _⟩ := P d' rfl
            exact if_pos (by rw [hv']; show v' ≤ _; omega)
        rw [eo]
        refine ⟨bs.length, ⟨Nat.le_refl _, S.bgl, ws_len, fun i b s hi hb hs => ?_, fun b s hb _ => ?_, fun _ h => absurd X.dn h, fun _ i b s hi hb hs => ?_, fun h => absurd h (Nat.lt_irrefl _)⟩, ?_⟩
        · obtain ⟨b', s', g1, g2, o, B⟩ := br_of okb S X.rcv hi
          have := B.hb.symm.trans hb
          cases this
          have := B.hs.symm.trans hs
          cases this
          exact (B.first (S.run _ _ B.hg').hd lv (bgOf_mem (by rw [← X.bg]; exact hs))).1
        · have := (List.getElem?_eq_some_iff.mp hb).1
          omega
        · obtain ⟨b', s', g1, g2, o, B⟩ := br_of okb S X.rcv hi
          have := B.hb.symm.trans hb
          cases this
          have := B.hs.symm.trans hs
          cases this
          rw [ws_get hi, (B.first (S.run _ _ B.hg').hd lv (bgOf_mem (by rw [← X.bg]; exact hs))).2]
        · show if d.rcv.getD 0 ≤ d.first then _ else _
          rw [if_neg (by rw [g0]; omega)]
          exact ⟨fun i g hi hg => at_in (S.run _ _ hg).srt (Int.le_refl 0) (S.run _ _ hg).hd, fun h => absurd h (Nat.lt_irrefl _), fun _ => X.dn⟩
      · -- within the spell
        have r1 : d.first < r := by omega
        rw [latc, if_pos (by omega), lat_lt C (by omega)]
        have eo : stAt bs st (some d) (r - 1) = stWs bs.length d (r - 1) := if_neg (by rw [g0]; omega)
        rw [eo]
        obtain ⟨k, kn, k1, k2⟩ := first_not (fun i => ∀ g, d.rs[i + 1]? = some g → inL g r) bs.length
        have r0 : inL [(d.first, st, none)] r := (in_end s0 X.rq).mpr ⟨hr, by omega⟩
        have reach : ∀ i g, i ≤ k → d.rs[i]? = some g → inL g r := fun i g hi hg => by
          cases i with
          | zero =>
            have := S.r0.symm.trans hg
            cases this
            exact r0
          | succ i => exact k1 i (by omega) g hg
        have kd : k = bs.length → dn os r := fun e => by
          subst e
          exact X.ins r (reach _ _ (Nat.le_refl _) X.rl) c3
        refine ⟨k, ⟨kn, ws_len, ws_len, fun i b s hi hb hs => ?_, fun b s hb hs => ?_, fun e h => absurd (kd e) h, fun _ i b s hi hb hs => ?_, fun kl i hi => ?_⟩, ?_⟩
        · obtain ⟨b', s', g1, g2, o, B⟩ := br_of okb S X.rcv (show i < bs.length by omega)
          have := B.hb.symm.trans hb
          cases this
          rw [ws_get (by omega)] at hs
          cases hs
          exact (B.pass r1 c3 (reach i _ (by omega) B.hg) (reach (i + 1) _ (by omega) B.hg')).1
        · have hk := (List.getElem?_eq_some_iff.mp hb).1
          obtain ⟨b', s', g1, g2, o, B⟩ := br_of okb S X.rcv hk
          have := B.hb.symm.trans hb
          cases this
          rw [ws_get hk] at hs
          cases hs
          refine B.rej r1 c3 (reach k _ (Nat.le_refl _) B.hg) fun q => k2 hk fun g hg => ?_
          have := B.hg'.symm.trans hg
          cases this
          exact q
        · obtain ⟨b', s', g1, g2, o, B⟩ := br_of okb S X.rcv (show i < bs.length by omega)
          have := B.hb.symm.trans hb
          cases this
          rw [ws_get (by omega)] at hs
          cases hs
          rw [ws_get (by omega), (B.pass r1 c3 (reach i _ (by omega) B.hg) (reach (i + 1) _ (by omega) B.hg')).2]
        · by_cases hn : i < bs.length
          · obtain ⟨b', s', g1, g2, o, B⟩ := br_of okb S X.rcv hn
            have no : ¬ inL g2 r := fun q => k2 kl fun g hg => sub_chain S (i - k) (k + 1) g g2 hg (by rw [show k + 1 + (i - k) = i + 1 by omega]; exact B.hg') r q
            rw [ws_get hn, ws_get hn, B.stay r1 c3 no fun q => by
              by_cases z : r ≤ o
              · exact absurd (B.ps.low r z q) no
              · omega]
          · rw [List.getElem?_eq_none (by rw [ws_len]; omega), List.getElem?_eq_none (by rw [ws_len]; omega)]
        · show if d.rcv.getD 0 ≤ r then _ else _
          rw [if_neg (by rw [g0]; omega)]
          refine ⟨fun i g hi hg => reach (i + 1) g (by omega) hg, fun kl g hg q => k2 kl fun g' hg' => ?_, kd⟩
          have := hg.symm.trans hg'
          cases this
          exact q
    by_cases c4 : r = v
    · -- the recovery
      subst c4
      rw [latc, latc, if_pos (by omega), if_pos (by omega), lat_lt C (by omega), lat_lt C (by omega)]
      have eo : stAt bs st (some d) (r - 1) = stWs bs.length d (r - 1) := if_neg (by rw [g0]; omega)
      have en : stAt bs st (some d) r = stBeh bs st d r := if_pos (by rw [g0]; omega)
      rw [eo, en]
      have all : ∀ i g', i ≤ bs.length → d.rs[i]? = some g' → inL g' r := fun i g' hi hg => sub_chain S (bs.length - i) i g' g hg (by rw [show i + (bs.length - i) = bs.length by omega]; exact X.rl) r X.vi
      have one : (r - d.rcv.getD 0) / st + 1 = 1 := by
        rw [g0, Int.sub_self, Int.zero_ediv]
        rfl
      refine ⟨bs.length, ⟨Nat.le_refl _, ws_len, beh_len S.ol, fun i b s hi hb hs => ?_, fun b s hb _ => ?_, fun _ _ i b s hb hs => ?_, fun h => ?_, fun h => absurd h (Nat.lt_irrefl _)⟩, ?_⟩
      · obtain ⟨b', s', g1, g2, o, B⟩ := br_of okb S X.rcv hi
        have := B.hb.symm.trans hb
        cases this
        rw [ws_get hi] at hs
        cases hs
        exact (B.recov lv (all i _ (by omega) B.hg) (all (i + 1) _ (by omega) B.hg')).1
      · have := (List.getElem?_eq_some_iff.mp hb).1
        omega
      · have hi := (List.getElem?_eq_some_iff.mp hb).1
        obtain ⟨b', s', g1, g2, o, B⟩ := br_of okb S X.rcv hi
        have := B.hb.symm.trans hb
        cases this
        rw [ws_get hi] at hs
        cases hs
        rw [beh_get hb B.ho, one]
        exact congrArg some (B.recov lv (all i _ (by omega) B.hg) (all (i + 1) _ (by omega) B.hg')).2
      · rcases h with h | h
        · exact absurd h (Nat.lt_irrefl _)
        · exact absurd h X.vu
      · show if d.rcv.getD 0 ≤ r then _ else _
        rw [if_pos (by rw [g0]; omega)]
        exact ⟨rfl, X.vu⟩
    · rw [latc, latc, if_pos (by omega), if_pos (by omega)]
      exact step_ch s0 okb C (fun d' hd => A d' (List.mem_cons_of_mem _ hd)) (fun d' e => by cases e; exact ⟨v, X.rcv, by omega, X.vq, S.ol⟩) hr (by omega)
theorem step_sp {os : List (Int × Int)} {bs : List Tri} {st ph : Int} (W : RowD bs st ph) (hv : VOut 0 os) (hl : os.length ≤ 50) {r : Int} (hr : isRq st ph r) :
    ∃ k, StepR bs (dn os r) r (stM bs st ph os (r - 1)) (stM bs st ph os r) k ∧ OutK bs.length (dn os r) (lat none (spsOf bs st ph os) r) r k :=
  step_ch (by have := W.s0; omega) W.ok (sps_ch W hv) (fun d hd => (sps_all W hv hl d hd).1) (fun d e => nomatch e) hr (by have := W.p0; have := hr.1; omega)
/-! ### the last spell that has begun; the last time of trains -/
theorem ch_asc {os : List (Int × Int)} {bs : List Tri} {st ph : Int} : ∀ {ds : List SpD} {pv : Option SpD} {m : Int}, SpCh os bs st ph pv m ds → (ds.map SpD.first).Pairwise (· < ·) ∧ ∀ d ∈ ds, m ≤ d.first
  | [], _, _, _ => ⟨.nil, fun d h => nomatch h⟩
  | d :: r, pv, m, ⟨v, g, X, C⟩ => by
    obtain ⟨i1, i2⟩ := ch_asc C
    have h1 := X.lo
    have h2 := X.lt
    refine ⟨List.pairwise_cons.mpr ⟨fun x hx => ?_, i1⟩, fun e he => ?_⟩
    · obtain ⟨e, he, rfl⟩ := List.mem_map.mp hx
      have := i2 e he
      omega
    · rcases List.mem_cons.mp he with rfl | he
      · exact h1
      · have := i2 e he
        omega
theorem lat_idx : ∀ (ds : List SpD) (pv : Option SpD) (k : Nat) (z : Int), k ≤ ds.length → (∀ (j : Nat) (d : SpD), ds[j]? = some d → (j < k ↔ d.first ≤ z)) → lat pv ds z = match k with | 0 => pv | i + 1 => ds[i]?
  | [], pv, k, z, hk, _ => by
    have : k = 0 := by simpa using hk
    subst this
    rfl
  | d :: r, pv, 0, z, _, h => by
    have h0 := h 0 d rfl
    exact if_neg fun q => absurd (h0.mpr q) (Nat.lt_irrefl 0)
  | d :: r, pv, k + 1, z, hk, h => by
    have h0 := (h 0 d rfl).mp (Nat.succ_pos k)
    have e : lat pv (d :: r) z = lat (some d) r z := if_pos h0
    rw [e, lat_idx r (some d) k z (by simpa using hk) fun j d' hj => by
      have := h (j + 1) d' hj
      rw [← this]
      omega]
    cases k with
    | zero => rfl
    | succ i => rfl
theorem luT_zero {g : List Trn} (hs : Srt g) {x : Int} (h : luT g x = none) : NB g (x + 1) = 0 := by
  unfold luT at h
  have nn := NB_nn hs.1 (x + 1)
  by_cases c : 0 < NB g (x + 1)
  · rw [if_pos c] at h
    obtain ⟨n, e, h5⟩ := (At_none hs.1 (by omega)).mp h
    have := NB_tot hs.1 e (x + 1)
    omega
  · omega
theorem luT_app {g : List Trn} {t : Trn} (hs : Srt (g ++ [t])) (z : Int) : luT (g ++ [t]) z = if 0 < nbT t (z + 1) then some (t.1 + (nbT t (z + 1) - 1) * t.2.1) else luT g z := by
  have hg : Srt g := ⟨fun u hu => hs.1 u (List.mem_append_left _ hu), (List.pairwise_append.mp hs.2).1⟩
  have ht : OkTr t := hs.1 t (List.mem_append_right _ (List.mem_cons_self ..))
  have hlt : ∀ u ∈ g, Lt u t := fun u hu => (List.pairwise_append.mp hs.2).2.2 u hu t (List.mem_cons_self ..)
  have hend : ∀ x, inL g x → x < t.1 := by
    rintro x ⟨u, hu, k⟩
    obtain ⟨c, hc, l⟩ := hlt u hu
    have := in_le (hg.1 u hu) hc k
    omega
  by_cases c : 0 < nbT t (z + 1)
  · rw [if_pos c]
    have hi : inT t (t.1 + (nbT t (z + 1) - 1) * t.2.1) := ⟨nbT t (z + 1) - 1, by omega, fun c' e => by have := nbT_le (x := z + 1) e; omega, rfl⟩
    have hl := (nbT_lt ht (x := z + 1) (i := nbT t (z + 1) - 1) (by omega) (fun c' e => by have := nbT_le (x := z + 1) e; omega)).mp (by omega)
    refine luT_is hs (in_app.mpr (.inr (in_one.mpr hi))) (by omega) fun y hy ly => ?_
    rcases in_app.mp hy with hy | hy
    · have := hend y hy
      have := in_ge ht hi
      omega
    · obtain ⟨j, j0, jc, rfl⟩ := in_one.mp hy
      have h1 := (nbT_lt ht (x := z + 1) j0 jc).mpr (by omega)
      have := Int.mul_le_mul_of_nonneg_right (show j ≤ nbT t (z + 1) - 1 by omega) (show 0 ≤ t.2.1 by have := ht.2.1; omega)
      omega
  · rw [if_neg c]
    have c0 : nbT t (z + 1) = 0 := by have := nbT_nn ht (z + 1); omega
    have no : ∀ y, inT t y → y ≤ z → False := by
      rintro y ⟨j, j0, jc, rfl⟩ l
      have h1 := (nbT_lt ht (x := z + 1) j0 jc).mpr (by omega)
      omega
    cases q : luT g z with
    | some y =>
      obtain ⟨y1, y2, y3⟩ := luT_spec hg q
      refine luT_is hs (in_app.mpr (.inl y1)) y2 fun x hx lx => ?_
      rcases in_app.mp hx with hx | hx
      · exact y3 x hx lx
      · exact (no x (in_one.mp hx) lx).elim
    | none =>
      have := luT_zero hg q
      unfold luT
      rw [NB_app]
      have e1 : NB [t] (z + 1) = 0 := by
        show nbT t (z + 1) + 0 = 0
        omega
      rw [if_neg (by omega)]
theorem st_turn2 {H Hc H4 : Hp} {D1 t : Addr} {ys : List V} {ss : List StD} {d : StD} (hD : Hc D1 = some (.lst ys)) (ty : Sts (Fr H Hc) ys ss) (sc : Same H Hc) (s4 : Same Hc H4) (hb : H D1 = none) (ht : H4 t = some (.tup [.str d.1, .int d.2])) (hl : ys.length ≤ 1000) :
    ∃ acc, H4 D1 = some (.lst acc) ∧ acc.length < sizeLine ∧ ∃ ys', (upd H4 D1 (.lst (acc ++ [.ref t]))) D1 = some (.lst ys') ∧ Sts (Fr H (upd H4 D1 (.lst (acc ++ [.ref t])))) ys' (ss ++ [d]) ∧ Same H (upd H4 D1 (.lst (acc ++ [.ref t]))) := by
  have hD1 := s4 _ _ hD
  have n2 := NL.upd (o := .lst (ys ++ [.ref t])) hD1
  refine ⟨ys, hD1, small1 (by omega), _, upd_same, ?_, fun b o e => ?_⟩
  · exact paired_app ((ty.same (Fr.same s4)).nl (Fr.nl n2)) (.cons ⟨t, rfl, Fr.nol (n2 _ _ ht fun _ z => nomatch z) fun _ z => nomatch z⟩ .nil)
  · rw [upd_ne (ne_of_none e hb)]
    exact s4 _ _ (sc _ _ e)
/-! ### what the program says of states -/
def spCb : Sp := fun vs H Q _ => ∃ (a : Addr) (ns : List Int) (b : Int), vs = [.ref a, .int b] ∧ H a = some (.lst (ns.map V.int)) ∧ ns.Pairwise (· < ·) ∧ ns.length ≤ 100000 ∧ ∀ k : Nat, k ≤ ns.length → (∀ j v, ns[j]? = some v → (j < k ↔ v < b)) → Q (.int k) H
def idxV : Option Nat → V
  | none => .non
  | some i => .int i
def LatI (ds : List SpD) (z : Int) : Option Nat → Prop
  | none => lat none ds z = none
  | some i => ∃ d, ds[i]? = some d ∧ lat none ds z = some d
def SpI (ds : List SpD) (z : Int) : Option Nat → Prop
  | none => ∀ d, lat none ds z = some d → d.rcv.getD 0 ≤ z
  | some i => ∃ d, ds[i]? = some d ∧ lat none ds z = some d ∧ z < d.rcv.getD 0
def spLatest (CR CS C : Addr) : Sp := fun vs H Q _ => ∃ p ts st ph os z, vs = [.ref p, .int z] ∧ TLV CR CS C H p ts st ph os ∧ ∀ o, LatI (spsOf ts st ph os) z o → Q (idxV o) H
def spSpAt (CR CS C : Addr) : Sp := fun vs H Q _ => ∃ p ts st ph os z, vs = [.ref p, .int z] ∧ TLV CR CS C H p ts st ph os ∧ 0 ≤ z ∧ ∀ o, SpI (spsOf ts st ph os) z o → Q (idxV o) H
def spTu : Sp := fun vs H Q _ => ∃ a xs ts z, vs = [.ref a, .int z] ∧ H a = some (.lst xs) ∧ Trs H xs ts ∧ Srt ts ∧ (∀ t ∈ ts, BT 4900 t) ∧ ts.length ≤ 5000 ∧ z ≤ PB 4900 ∧ Q (cV (luT ts z)) H
def spSw (CS : Addr) : Sp := fun vs H Q _ => ∃ x d bs st v z, ∃ i : Nat, vs = [x, .int i, .int z] ∧ SpV CS H x d ∧ SpOk bs st d ∧ d.rcv = some v ∧ i < bs.length ∧ (∀ t ∈ bs, OkT t) ∧ z < v ∧ z ≤ PB 4800 ∧ ∀ t H', H' t = some (.tup [.str (stW d i z).1, .int (stW d i z).2]) → Same H H' → H t = none → Q (.ref t) H'
def spSta (CR CS C : Addr) : Sp := fun vs H Q _ => ∃ p ts st ph os z, vs = [.ref p, .int z] ∧ TLV CR CS C H p ts st ph os ∧ 0 ≤ z ∧ z ≤ PB 4800 ∧ ∀ l ys H', H' l = some (.lst ys) → Sts (Fr H H') ys (stM ts st ph os z) → Same H H' → H l = none → Q (.ref l) H'
def inSp (ds : List SpD) (z : Int) : Bool := match lat none ds z with
  | none => false
  | some d => decide (z < d.rcv.getD 0)
def spOut (CR CS C : Addr) : Sp := fun vs H Q _ => ∃ p ts st ph os z, vs = [.ref p, .int z] ∧ TLV CR CS C H p ts st ph os ∧ isRq st ph z ∧ z ≤ PB 4800 ∧ ∀ (k : Nat) t H', k ≤ ts.length → OutK ts.length (dn os z) (lat none (spsOf ts st ph os) z) z k → H' t = some (.tup (outV ts.length k (inSp (spsOf ts st ph os) z))) → Same H H' → H t = none → Q (.ref t) H'
section
variable {P : Program} {w : World} {K : PySem.W.Frag} {mg : Str → Option Value} {base : Heap} {L : LA}
end
/-! ### one request, by the law -/
def mixE (bs : List Tri) (ss : List StD) (t : Int) (f : Bool) (j k i : Nat) : StD := match bs[i]?, ss[i]? with
  | some b, some s => if i < j then (if f = true then okS b s else badS b s t) else if i < k then hfS s else s
  | _, _ => ("closed", 0)
def mixS (bs : List Tri) (ss : List StD) (t : Int) (f : Bool) (j k : Nat) : List StD := (List.range bs.length).map (mixE bs ss t f j k)
theorem mixE_is {bs : List Tri} {ss : List StD} {t : Int} {f : Bool} {j k i : Nat} {b : Tri} {s : StD} (hb : bs[i]? = some b) (hs : ss[i]? = some s) : mixE bs ss t f j k i = if i < j then (if f = true then okS b s else badS b s t) else if i < k then hfS s else s := by
  unfold mixE
  rw [hb, hs]
theorem mixS_get {bs : List Tri} {ss : List StD} {t : Int} {f : Bool} {j k i : Nat} (h : i < bs.length) : (mixS bs ss t f j k)[i]? = some (mixE bs ss t f j k i) := by
  unfold mixS
  rw [List.getElem?_map, List.getElem?_range h]
  rfl
theorem mixS_len {bs : List Tri} {ss : List StD} {t : Int} {f : Bool} {j k : Nat} : (mixS bs ss t f j k).length = bs.length := by
  unfold mixS
  rw [List.length_map, List.length_range]
theorem map_set {α : Type} {n : Nat} {f g : Nat → α} {i : Nat} {v : α} (hi : i < n) (h1 : v = g i) (h2 : ∀ j, j ≠ i → j < n → f j = g j) : ((List.range n).map f).set i v = (List.range n).map g := by
  refine List.ext_getElem? fun j => ?_
  rw [List.getElem?_set, List.length_map, List.length_range, List.getElem?_map, List.getElem?_map]
  by_cases c : i = j
  · subst c
    rw [if_pos rfl, if_pos hi, List.getElem?_range hi, h1]
    rfl
  · rw [if_neg c]
    by_cases d : j < n
    · rw [List.getElem?_range d]
      exact congrArg some (h2 j (fun e => c e.symm) d)
    · rw [List.getElem?_eq_none (by rw [List.length_range]; omega)]
      rfl
theorem mixS_0 {bs : List Tri} {ss : List StD} {t : Int} {f : Bool} (h : ss.length = bs.length) : mixS bs ss t f 0 0 = ss := by
  refine List.ext_getElem? fun j => ?_
  by_cases c : j < bs.length
  · have hb : bs[j]? = some bs[j] := List.getElem?_eq_getElem c
    have hs : ss[j]? = some (ss[j]'(by omega)) := List.getElem?_eq_getElem (by omega)
    rw [mixS_get c, mixE_is hb hs, hs, if_neg (Nat.not_lt_zero j), if_neg (Nat.not_lt_zero j)]
  · rw [List.getElem?_eq_none (by rw [mixS_len]; omega), List.getElem?_eq_none (by omega)]
theorem mixS_half {bs : List Tri} {ss : List StD} {t : Int} {f : Bool} {i : Nat} {b : Tri} {s : StD} (hb : bs[i]? = some b) (hs : ss[i]? = some s) : (mixS bs ss t f 0 i).set i (hfS s) = mixS bs ss t f 0 (i + 1) := by
  refine map_set (List.getElem?_eq_some_iff.mp hb).1 ?_ fun j ne hj => ?_
  · rw [mixE_is hb hs, if_neg (Nat.not_lt_zero i), if_pos (Nat.lt_succ_self i)]
  · unfold mixE
    cases bs[j]? with
    | none => rfl
    | some b' =>
      cases ss[j]? with
      | none => rfl
      | some s' =>
        show (if j < 0 then _ else if j < i then _ else _) = (if j < 0 then _ else if j < i + 1 then _ else _)
        rw [if_neg (Nat.not_lt_zero j), if_neg (Nat.not_lt_zero j)]
        by_cases c : j < i
        · rw [if_pos c, if_pos (show j < i + 1 by omega)]
        · rw [if_neg c, if_neg (show ¬ j < i + 1 by omega)]
theorem mixS_fin {bs : List Tri} {ss : List StD} {t : Int} {f : Bool} {j k : Nat} {b : Tri} {s : StD} (hb : bs[j]? = some b) (hs : ss[j]? = some s) : (mixS bs ss t f j k).set j (if f = true then okS b s else badS b s t) = mixS bs ss t f (j + 1) k := by
  refine map_set (List.getElem?_eq_some_iff.mp hb).1 ?_ fun i ne hi => ?_
  · rw [mixE_is hb hs, if_pos (Nat.lt_succ_self j)]
  · unfold mixE
    cases bs[i]? with
    | none => rfl
    | some b' =>
      cases ss[i]? with
      | none => rfl
      | some s' =>
        show (if i < j then _ else _) = (if i < j + 1 then _ else _)
        by_cases c : i < j
        · rw [if_pos c, if_pos (show i < j + 1 by omega)]
        · rw [if_neg c, if_neg (show ¬ i < j + 1 by omega)]
theorem mixS_same {bs : List Tri} {ss : List StD} {t : Int} {f g : Bool} {k : Nat} : mixS bs ss t f 0 k = mixS bs ss t g 0 k := by
  refine List.map_congr_left fun i _ => ?_
  unfold mixE
  cases bs[i]? with
  | none => rfl
  | some b' =>
    cases ss[i]? with
    | none => rfl
    | some s' => rfl
theorem mixS_keep {bs : List Tri} {ss : List StD} {t : Int} {f : Bool} {i : Nat} {b : Tri} {s : StD} (hb : bs[i]? = some b) (hs : ss[i]? = some s) (h : hfS s = s) : mixS bs ss t f 0 i = mixS bs ss t f 0 (i + 1) := by
  have hi := (List.getElem?_eq_some_iff.mp hb).1
  rw [← mixS_half hb hs, h]
  refine (List.ext_getElem? fun j => ?_)
  rw [List.getElem?_set, mixS_len]
  by_cases c : i = j
  · subst c
    rw [if_pos rfl, if_pos hi, mixS_get hi, mixE_is hb hs, if_neg (Nat.not_lt_zero i), if_neg (Nat.lt_irrefl i)]
  · rw [if_neg c]
theorem paired_set {α β : Type} {F : α → β → Prop} : ∀ {xs : List α} {ys : List β} (i : Nat) {x : α} {y : β}, Paired F xs ys → F x y → Paired F (xs.set i x) (ys.set i y)
  | _, _, _, _, _, .nil, _ => .nil
  | _, _, 0, _, _, .cons _ t, h => .cons h t
  | _, _, i + 1, _, _, .cons r t, h => .cons r (paired_set i t h)
theorem sts_kp {H H' : Hp} (k : ∀ b xs, H b = some (.tup xs) → H' b = some (.tup xs)) {xs : List V} {ss : List StD} (h : Sts H xs ss) : Sts H' xs ss := L2.Paired.mapP h fun _ _ ⟨a, e, h⟩ => ⟨a, e, k _ _ h⟩
theorem ixN_of {n j : Nat} (h : j < n) : ixN n (j : Int) = some j := by
  unfold ixN
  rw [if_pos (show (0 : Int) ≤ j by omega), if_pos (show (j : Int) < n by omega)]
  congr 1
theorem outV_n (n : Nat) (b : Bool) : outV n n b = if b = true then [.str "failed"] else [.str "served"] := by
  unfold outV
  rw [if_neg (Nat.lt_irrefl n)]
theorem outV_k {n k : Nat} (h : k < n) (b : Bool) : outV n k b = [.str "rejected", .int k] := if_pos h
def outD (n k : Nat) (inS : Bool) : PyData := if k < n then .tuple [.str "rejected", .int k] else if inS then .tuple [.str "failed"] else .tuple [.str "served"]
theorem outV_dp {K : PySem.W.Frag} {H : Hp} {p : Addr} {n k : Nat} {b : Bool} (h : H p = some (.tup (outV n k b))) : Dp K H (.ref p) (outD n k b) := by
  unfold outV at h
  unfold outD
  split
  · rename_i c
    rw [if_pos c] at h
    exact .tup (SqT.of h) (.cons (.str _) (.cons (.int _) .nil))
  · rename_i c
    rw [if_neg c] at h
    cases b with
    | true => exact .tup (SqT.of h) (.cons (.str _) .nil)
    | false => exact .tup (SqT.of h) (.cons (.str _) .nil)
theorem tup_sh {ds : List PyData} (h1 : PyData.canLayAll0 ds = true) (h2 : PyData.depthAll ds ≤ 10) : SeqAt.shaped (.tuple ds) = true := by
  refine Bool.and_eq_true_iff.mpr ⟨?_, decide_eq_true ?_⟩
  · rw [PyData.canLay0]
    exact h1
  · rw [PyData.depth]
    omega
theorem sok_R : PyData.strOk "rejected" = true := by decide +kernel
theorem sok_S : PyData.strOk "served" = true := by decide +kernel
theorem sok_F : PyData.strOk "failed" = true := by decide +kernel
theorem outD_sh (n k : Nat) (b : Bool) : SeqAt.shaped (outD n k b) = true := by
  unfold outD
  split
  · exact tup_sh (by simp [PyData.canLayAll0, PyData.canLay0, sok_R]) (by simp [PyData.depthAll, PyData.depth])
  · cases b <;> exact tup_sh (by simp [PyData.canLayAll0, PyData.canLay0, sok_S, sok_F]) (by simp [PyData.depthAll, PyData.depth])
theorem served_sh : SeqAt.shaped (.tuple [.str "served"]) = true := tup_sh (by simp [PyData.canLayAll0, PyData.canLay0, sok_S]) (by simp [PyData.depthAll, PyData.depth])
theorem outD_served (n k : Nat) (b : Bool) (h : k ≤ n) : PyData.eqv (outD n k b) (.tuple [.str "served"]) = (decide (k = n) && !b) := by
  unfold outD
  split
  · rename_i c
    rw [decide_eq_false (show ¬ k = n by omega)]
    rfl
  · rw [decide_eq_true (show k = n by omega)]
    cases b <;> rfl
theorem outD_eq (n k : Nat) (b : Bool) : PyData.eqv (outD n k b) (outD n k b) = true := by
  unfold outD
  split
  · simp [PyData.eqv, PyData.eqvAll]
  · cases b <;> simp [PyData.eqv, PyData.eqvAll]
def spOne1 : Sp := fun vs H Q _ => ∃ a l xs ys bs ss t good, vs = [.ref a, .ref l, .int t, .bl good] ∧ H a = some (.lst xs) ∧ Brs H xs bs ∧ H l = some (.lst ys) ∧ Sts H ys ss ∧ a ≠ l ∧ ss.length = bs.length ∧ bs.length ≤ 12 ∧ ∀ (k : Nat) td H' ys', k ≤ bs.length → (∀ (i : Nat) (b : Tri) (s : StD), i < k → bs[i]? = some b → ss[i]? = some s → psB b s t) → (∀ (b : Tri) (s : StD), bs[k]? = some b → ss[k]? = some s → ¬ psB b s t) →
  H' td = some (.tup (outV bs.length k (!good))) → H' l = some (.lst ys') → Sts H' ys' (mixS bs ss t (decide (k = bs.length) && good) k k) → Kp l H H' → H td = none → Q (.ref td) H'
/-! ### windows of one request -/
def valF (f : SpD → Int) (r : Int) : Option SpD → Int
  | none => 0
  | some d => if d.rcv.getD 0 ≤ r then 0 else f d
theorem sum_zero {f : SpD → Int} : ∀ {ds : List SpD}, (∀ d ∈ ds, f d = 0) → (ds.map f).sum = 0
  | [], _ => rfl
  | d :: ds, h => by
    rw [List.map_cons, List.sum_cons, h d (List.mem_cons_self ..), sum_zero fun e he => h e (List.mem_cons_of_mem _ he)]
    rfl
theorem sum_sp {os : List (Int × Int)} {bs : List Tri} {st ph : Int} {f : SpD → Int} {r : Int} : ∀ {ds : List SpD} {pv : Option SpD} {m : Int}, SpCh os bs st ph pv m ds → (∀ d ∈ ds, r < d.first → f d = 0) → (∀ d ∈ ds, d.rcv.getD 0 ≤ r → f d = 0) → (∀ d, pv = some d → d.rcv.getD 0 ≤ r) → (ds.map f).sum = valF f r (lat pv ds r)
  | [], pv, m, _, _, _, hp => by
    cases pv with
    | none => rfl
    | some d =>
      show (0 : Int) = if d.rcv.getD 0 ≤ r then 0 else f d
      rw [if_pos (hp d rfl)]
  | d :: ds, pv, m, ⟨v, g, X, C⟩, h1, h2, hp => by
    have lv := X.lt
    have g0 : d.rcv.getD 0 = v := by rw [X.rcv]; rfl
    have later := (ch_asc C).2
    rw [List.map_cons, List.sum_cons]
    by_cases c : d.first ≤ r
    · have el : lat pv (d :: ds) r = lat (some d) ds r := if_pos c
      rw [el]
      by_cases c2 : v ≤ r
      · rw [h2 d (List.mem_cons_self ..) (by omega), sum_sp C (fun e he => h1 e (List.mem_cons_of_mem _ he)) (fun e he => h2 e (List.mem_cons_of_mem _ he)) (fun d' e => by cases e; omega), Int.zero_add]
      · rw [lat_lt C (by omega), sum_zero fun e he => h1 e (List.mem_cons_of_mem _ he) (by have := later e he; omega)]
        show f d + 0 = if d.rcv.getD 0 ≤ r then 0 else f d
        rw [if_neg (by omega), Int.add_zero]
    · have el : lat pv (d :: ds) r = pv := if_neg c
      rw [el, h1 d (List.mem_cons_self ..) (by omega), sum_zero fun e he => h1 e (List.mem_cons_of_mem _ he) (by have := later e he; omega)]
      cases pv with
      | none => rfl
      | some d' =>
        show (0 : Int) + 0 = if d'.rcv.getD 0 ≤ r then 0 else f d'
        rw [if_pos (hp d' rfl)]
        rfl
theorem lat_mem {x : Int} : ∀ {ds : List SpD} {pv : Option SpD} {d : SpD}, lat pv ds x = some d → d ∈ ds ∨ pv = some d
  | [], pv, d, h => .inr h
  | e :: ds, pv, d, h => by
    by_cases c : e.first ≤ x
    · have el : lat pv (e :: ds) x = lat (some e) ds x := if_pos c
      rw [el] at h
      rcases lat_mem h with h | h
      · exact .inl (List.mem_cons_of_mem _ h)
      · cases h
        exact .inl (List.mem_cons_self ..)
    · have el : lat pv (e :: ds) x = pv := if_neg c
      rw [el] at h
      exact .inr h
theorem lat_first {x : Int} : ∀ {ds : List SpD} {pv : Option SpD} {d : SpD}, (∀ e, pv = some e → e.first ≤ x) → lat pv ds x = some d → d.first ≤ x
  | [], pv, d, hp, h => hp d h
  | e :: ds, pv, d, hp, h => by
    by_cases c : e.first ≤ x
    · have el : lat pv (e :: ds) x = lat (some e) ds x := if_pos c
      rw [el] at h
      exact lat_first (fun e' q => by cases q; exact c) h
    · have el : lat pv (e :: ds) x = pv := if_neg c
      rw [el] at h
      exact hp d h
theorem req_one {st ph r : Int} (s : 0 < st) (h : isRq st ph r) : reqsM st ph r (r + 1) = 1 := by
  obtain ⟨m, m0, rfl⟩ := (isRq_iff s).mp h
  unfold reqsM
  rw [show ph + m * st + 1 - ph = m * st + 1 by omega, show ph + m * st - ph = m * st by omega, stepsUp_cl, stepsUp_cl]
  have a1 := (cl_le (d := m * st) (n := m) s).mpr (Int.le_refl _)
  have a2 : m - 1 < cl (m * st) st := (cl_gt s).mpr (by rw [Int.sub_mul]; omega)
  have b1 := (cl_le (d := m * st + 1) (n := m + 1) s).mpr (by rw [Int.add_mul]; omega)
  have b2 : m < cl (m * st + 1) st := (cl_gt s).mpr (by omega)
  split <;> split <;> omega
theorem outK_lat {n : Nat} {D : Prop} {ds : List SpD} {r : Int} {k : Nat} (O : OutK n D (lat none ds r) r k) :
    (inSp ds r = false ∧ k = n ∧ ¬ D) ∨ ∃ d, lat none ds r = some d ∧ r < d.rcv.getD 0 ∧ inSp ds r = true ∧ (∀ i g, i < k → d.rs[i + 1]? = some g → inL g r) ∧ (k < n → ∀ g, d.rs[k + 1]? = some g → ¬ inL g r) ∧ (k = n → D) := by
  unfold inSp
  unfold OutK at O
  cases q : lat none ds r with
  | none => rw [q] at O; exact .inl ⟨rfl, O⟩
  | some d =>
    rw [q] at O
    have O : if d.rcv.getD 0 ≤ r then k = n ∧ ¬ D else (∀ i g, i < k → d.rs[i + 1]? = some g → inL g r) ∧ (k < n → ∀ g, d.rs[k + 1]? = some g → ¬ inL g r) ∧ (k = n → D) := O
    by_cases c : d.rcv.getD 0 ≤ r
    · rw [if_pos c] at O
      exact .inl ⟨decide_eq_false (by omega), O⟩
    · rw [if_neg c] at O
      exact .inr ⟨d, rfl, by omega, decide_eq_true (by omega), O⟩
/-- where a request of a spell comes -/
theorem sp_reach {bs : List Tri} {st ph r : Int} {d : SpD} (s0 : 0 < st) (S : SpOk bs st d) (rq : isRq st ph d.first) (hr : isRq st ph r) (fr : d.first ≤ r) {k : Nat} (kn : k ≤ bs.length) (o1 : ∀ i g, i < k → d.rs[i + 1]? = some g → inL g r) (o2 : k < bs.length → ∀ g, d.rs[k + 1]? = some g → ¬ inL g r)
    {b : Nat} {g : List Trn} (hg : d.rs[b]? = some g) : inL g r ↔ b ≤ k := by
  have hb := (List.getElem?_eq_some_iff.mp hg).1
  have rl := S.rl
  constructor
  · intro h
    by_cases c : b ≤ k
    · exact c
    · obtain ⟨g', hg'⟩ : ∃ g', d.rs[k + 1]? = some g' := ⟨_, List.getElem?_eq_getElem (by omega)⟩
      exact absurd (sub_chain S (b - (k + 1)) (k + 1) g' g hg' (by rw [show k + 1 + (b - (k + 1)) = b by omega]; exact hg) r h) (o2 (by omega) g' hg')
  · intro h
    cases b with
    | zero =>
      have := S.r0.symm.trans hg
      cases this
      exact (in_end s0 rq).mpr ⟨hr, fr⟩
    | succ i => exact o1 i g (by omega) hg
theorem ch_rq {os : List (Int × Int)} {bs : List Tri} {st ph : Int} : ∀ {ds : List SpD} {pv : Option SpD} {m : Int}, SpCh os bs st ph pv m ds → ∀ d ∈ ds, isRq st ph d.first ∧ dn os d.first ∧ ∃ v, d.rcv = some v ∧ d.first < v ∧ isRq st ph v ∧ ¬ dn os v
  | [], _, _, _, d, h => nomatch h
  | e :: r, _, _, ⟨v, g, X, C⟩, d, h => by
    rcases List.mem_cons.mp h with rfl | h
    · exact ⟨X.rq, X.dn, v, X.rcv, X.lt, X.vq, X.vu⟩
    · exact ch_rq C d h
section
variable {os : List (Int × Int)} {bs : List Tri} {st ph r : Int}
theorem cis_at (W : RowD bs st ph) (hv : VOut 0 os) (hl : os.length ≤ 50) (hr : isRq st ph r) {k : Nat} (kn : k ≤ bs.length) (O : OutK bs.length (dn os r) (lat none (spsOf bs st ph os) r) r k) {b : Nat} (hb : b ≤ bs.length) :
    cisM b r (r + 1) (spsOf bs st ph os) = if inSp (spsOf bs st ph os) r = true ∧ b ≤ k then 1 else 0 := by
  have C := sps_ch W hv
  have s0 : 0 < st := by have := W.s0; omega
  have hs : cisM b r (r + 1) (spsOf bs st ph os) = valF (cisD b r (r + 1)) r (lat none (spsOf bs st ph os) r) := by
    refine sum_sp C (fun d _ h => ?_) (fun d _ h => ?_) (fun d e => nomatch e)
    · unfold cisD mx2 mn2
      rw [if_neg (by (repeat' split) <;> omega)]
    · unfold cisD mx2 mn2
      rw [if_neg (by (repeat' split) <;> omega)]
  rw [hs]
  rcases outK_lat O with ⟨e, _, _⟩ | ⟨d, hd, hz, e, o1, o2, _⟩
  · rw [e, if_neg (fun z => Bool.false_ne_true z.1)]
    unfold inSp at e
    cases q : lat none (spsOf bs st ph os) r with
    | none => rfl
    | some d =>
      rw [q] at e
      have e : ¬ r < d.rcv.getD 0 := of_decide_eq_false e
      exact if_pos (by omega)
  · rw [e, hd]
    have hm : d ∈ spsOf bs st ph os := (lat_mem hd).resolve_right fun z => nomatch z
    have S := (sps_all W hv hl d hm).1
    have hf := lat_first (pv := none) (fun e z => nomatch z) hd
    have rl := S.rl
    obtain ⟨g, hg⟩ : ∃ g, d.rs[b]? = some g := ⟨_, List.getElem?_eq_getElem (by omega)⟩
    have hi := sp_reach s0 S (ch_rq C d hm).1 hr hf kn o1 o2 hg
    have sg := (S.run b g hg).srt
    show (if d.rcv.getD 0 ≤ r then 0 else cisD b r (r + 1) d) = _
    rw [if_neg (by omega)]
    unfold cisD
    have m1 : mx2 r d.first = r := by unfold mx2; split <;> omega
    have m2 : mn2 (r + 1) (d.rcv.getD 0) = r + 1 := by unfold mn2; split <;> omega
    rw [m1, m2, if_pos (by omega), hg]
    show NB g (r + 1) - NB g r = _
    by_cases c : b ≤ k
    · rw [if_pos ⟨rfl, c⟩, nb_in sg (hi.mpr c)]
      omega
    · rw [if_neg (fun z => c z.2), nb_out sg (fun z => c (hi.mp z))]
      omega
theorem top_at (W : RowD bs st ph) (hv : VOut 0 os) (hl : os.length ≤ 50) {b : Nat} (hb : b < bs.length) {s : StD} (hs : (stM bs st ph os r)[b]? = some s) :
    topM b r (r + 1) (spsOf bs st ph os) = if s.1 = "open" then 1 else 0 := by
  have C := sps_ch W hv
  have hs1 : topM b r (r + 1) (spsOf bs st ph os) = valF (topD b r (r + 1)) r (lat none (spsOf bs st ph os) r) := by
    refine sum_sp C (fun d hd h => ?_) (fun d hd h => ?_) (fun d e => nomatch e)
    · unfold topD
      cases ho : d.op[b]? with
      | none => rfl
      | some oo =>
        cases oo with
        | none => rfl
        | some o =>
          have := op_first (sps_all W hv hl d hd).1 ho
          show mx2 0 _ = 0
          unfold mx2 mn2
          (repeat' split) <;> omega
    · unfold topD
      cases ho : d.op[b]? with
      | none => rfl
      | some oo =>
        cases oo with
        | none => rfl
        | some o =>
          show mx2 0 _ = 0
          unfold mx2 mn2
          (repeat' split) <;> omega
  rw [hs1]
  unfold stM at hs
  cases q : lat none (spsOf bs st ph os) r with
  | none =>
    rw [q] at hs
    have hs : (List.replicate bs.length (("closed" : Str), (0 : Int)))[b]? = some s := hs
    rw [rep_get hb] at hs
    cases hs
    exact (if_neg sC_O).symm
  | some d =>
    rw [q] at hs
    have hm : d ∈ spsOf bs st ph os := (lat_mem q).resolve_right fun z => nomatch z
    obtain ⟨S, v, hv2⟩ := sps_all W hv hl d hm
    have g0 : d.rcv.getD 0 = v := by rw [hv2]; rfl
    by_cases c : d.rcv.getD 0 ≤ r
    · have e1 : stAt bs st (some d) r = stBeh bs st d r := if_pos c
      rw [e1] at hs
      have ol := S.ol
      obtain ⟨t, ht⟩ : ∃ t, bs[b]? = some t := ⟨_, List.getElem?_eq_getElem hb⟩
      obtain ⟨o, ho⟩ : ∃ o, d.op[b]? = some o := ⟨_, List.getElem?_eq_getElem (by omega)⟩
      rw [beh_get ht ho] at hs
      cases hs
      have e2 : valF (topD b r (r + 1)) r (some d) = 0 := if_pos c
      rw [e2]
      refine (if_neg ?_).symm
      unfold stB
      split
      · exact sH_O
      · exact sC_O
    · have e1 : stAt bs st (some d) r = stWs bs.length d r := if_neg c
      rw [e1, ws_get hb] at hs
      cases hs
      have e2 : valF (topD b r (r + 1)) r (some d) = topD b r (r + 1) d := if_neg c
      rw [e2]
      obtain ⟨t, s, g, g', o, B⟩ := br_of W.ok S hv2 hb
      rw [B.st (show r < v by omega)]
      unfold topD
      rw [B.ho, g0]
      by_cases c2 : o < v
      · rw [if_pos c2]
        show mx2 0 (mn2 (r + 1) v - mx2 r o) = _
        by_cases c3 : o ≤ r
        · rw [if_pos c3, if_pos rfl]
          unfold mx2 mn2
          (repeat' split) <;> omega
        · rw [if_neg c3, if_neg sC_O]
          unfold mx2 mn2
          (repeat' split) <;> omega
      · rw [if_neg c2, if_neg (show ¬ o ≤ r by omega), if_neg sC_O]
        rfl
end
/-! ### states between requests -/
theorem nb_gap {g : List Trn} (hs : Srt g) {a : Int} : ∀ n : Nat, (∀ y, a ≤ y → y < a + n → ¬ inL g y) → NB g (a + n) = NB g a
  | 0, _ => by rw [show a + ((0 : Nat) : Int) = a by omega]
  | n + 1, h => by
    have e : a + ((n + 1 : Nat) : Int) = a + n + 1 := by omega
    rw [e, nb_out hs (h (a + n) (by omega) (by omega)), nb_gap hs n fun y l1 l2 => h y l1 (by omega)]
theorem lat_same {x y : Int} : ∀ {ds : List SpD} {pv : Option SpD}, (∀ d ∈ ds, d.first ≤ x ↔ d.first ≤ y) → lat pv ds x = lat pv ds y
  | [], _, _ => rfl
  | d :: r, pv, h => by
    have h0 := h d (List.mem_cons_self ..)
    show (if d.first ≤ x then lat (some d) r x else pv) = (if d.first ≤ y then lat (some d) r y else pv)
    by_cases c : d.first ≤ x
    · rw [if_pos c, if_pos (h0.mp c), lat_same fun e he => h e (List.mem_cons_of_mem _ he)]
    · rw [if_neg c, if_neg fun z => c (h0.mpr z)]
theorem run_rq {bs : List Tri} {st ph : Int} {d : SpD} (s0 : 0 < st) (S : SpOk bs st d) (rq : isRq st ph d.first) {i : Nat} {g : List Trn} (hg : d.rs[i]? = some g) {x : Int} (h : inL g x) : isRq st ph x :=
  ((in_end s0 rq).mp (sub_chain S i 0 _ g S.r0 (by rw [Nat.zero_add]; exact hg) x h)).1
theorem rq_le {st ph a x y : Int} (s0 : 0 < st) (ha : isRq st ph a) (hx : isRq st ph x) (l1 : x ≤ y) (l2 : y < x + st) : a ≤ y ↔ a ≤ x := by
  constructor
  · intro h
    by_cases c : a ≤ x
    · exact c
    · have := rq_gap s0 hx ha (by omega)
      omega
  · intro h
    omega
theorem quo_gap {st ph v x y : Int} (s : 0 < st) (hv : isRq st ph v) (hx : isRq st ph x) (l1 : x ≤ y) (l2 : y < x + st) : (y - v) / st = (x - v) / st := by
  obtain ⟨m, m0, rfl⟩ := (isRq_iff s).mp hv
  obtain ⟨q, q0, rfl⟩ := (isRq_iff s).mp hx
  have e : ph + q * st - (ph + m * st) = (q - m) * st := by rw [Int.sub_mul]; omega
  have h1 : y - (ph + m * st) = (y - (ph + q * st)) + (q - m) * st := by
    rw [Int.sub_mul]
    omega
  rw [h1, Int.add_mul_ediv_right _ _ (by omega), e, Int.mul_ediv_cancel _ (by omega), Int.ediv_eq_zero_of_lt (by omega) (by omega), Int.zero_add]
theorem stM_gap {os : List (Int × Int)} {bs : List Tri} {st ph : Int} (W : RowD bs st ph) (hv : VOut 0 os) (hl : os.length ≤ 50) {x y : Int} (hx : isRq st ph x) (l1 : x ≤ y) (l2 : y < x + st) : stM bs st ph os y = stM bs st ph os x := by
  have s0 : 0 < st := by have := W.s0; omega
  have C := sps_ch W hv
  have e1 : lat none (spsOf bs st ph os) y = lat none (spsOf bs st ph os) x := lat_same fun d hd => rq_le s0 (ch_rq C d hd).1 hx l1 l2
  unfold stM
  rw [e1]
  cases q : lat none (spsOf bs st ph os) x with
  | none => rfl
  | some d =>
    have hm : d ∈ spsOf bs st ph os := (lat_mem q).resolve_right fun z => nomatch z
    obtain ⟨S, _⟩ := sps_all W hv hl d hm
    obtain ⟨rq, _, v, hrv, lv, vq, _⟩ := ch_rq C d hm
    have g0 : d.rcv.getD 0 = v := by rw [hrv]; rfl
    have iv := rq_le s0 vq hx l1 l2
    by_cases c : v ≤ x
    · have a1 : stAt bs st (some d) y = stBeh bs st d y := if_pos (by omega)
      have a2 : stAt bs st (some d) x = stBeh bs st d x := if_pos (by omega)
      rw [a1, a2]
      unfold stBeh
      rw [g0, quo_gap s0 vq hx l1 l2]
    · have a1 : stAt bs st (some d) y = stWs bs.length d y := if_neg (by omega)
      have a2 : stAt bs st (some d) x = stWs bs.length d x := if_neg (by omega)
      rw [a1, a2]
      unfold stWs
      refine List.map_congr_left fun i hi => ?_
      have hi : i < bs.length := List.mem_range.mp hi
      obtain ⟨b, s, g, g', o, B⟩ := br_of W.ok S hrv hi
      have no : ∀ {j : Nat} {g : List Trn}, d.rs[j]? = some g → NB g (y + 1) = NB g (x + 1) := fun {j g} hg => by
        have := nb_gap (S.run j g hg).srt (a := x + 1) (y - x).toNat fun z z1 z2 k => by
          have := rq_gap s0 hx (run_rq s0 S rq hg k) (by omega)
          omega
        rw [show x + 1 + ((y - x).toNat : Int) = y + 1 by omega] at this
        exact this
      have io := rq_le s0 (run_rq s0 S rq B.hg' B.ps.op) hx l1 l2
      rw [B.st (show x < v by omega), B.st (show y < v by omega)]
      by_cases c2 : o ≤ x
      · rw [if_pos c2, if_pos (io.mpr c2)]
        unfold luT
        rw [no B.hg']
      · rw [if_neg c2, if_neg (fun z => c2 (io.mp z)), no B.hg]
theorem stM_before {os : List (Int × Int)} {bs : List Tri} {st ph : Int} (W : RowD bs st ph) (hv : VOut 0 os) {x : Int} (l : x < ph) : stM bs st ph os x = List.replicate bs.length (("closed" : Str), (0 : Int)) := by
  have C := sps_ch W hv
  have e : lat none (spsOf bs st ph os) x = none := by
    cases q : spsOf bs st ph os with
    | nil => rfl
    | cons d r =>
      have := (ch_rq C d (by rw [q]; exact List.mem_cons_self ..)).1.1
      exact if_neg (by omega)
  unfold stM
  rw [e]
  rfl
theorem stM_ok {os : List (Int × Int)} {bs : List Tri} {st ph x : Int} : ∀ s ∈ stM bs st ph os x, okW s := by
  intro s hs
  unfold stM at hs
  cases q : lat none (spsOf bs st ph os) x with
  | none =>
    rw [q] at hs
    have := List.eq_of_mem_replicate hs
    rw [this]
    exact .inl rfl
  | some d =>
    rw [q] at hs
    by_cases c : d.rcv.getD 0 ≤ x
    · have a1 : stAt bs st (some d) x = stBeh bs st d x := if_pos c
      rw [a1] at hs
      obtain ⟨i, hi⟩ := List.mem_iff_getElem?.mp hs
      unfold stBeh at hi
      rw [List.getElem?_zipWith] at hi
      split at hi
      · cases hi
        unfold stB
        split
        · exact .inr (.inr rfl)
        · exact .inl rfl
      · cases hi
    · have a1 : stAt bs st (some d) x = stWs bs.length d x := if_neg c
      rw [a1] at hs
      obtain ⟨i, _, rfl⟩ := List.mem_map.mp hs
      unfold stW
      split
      · split
        · exact .inr (.inl rfl)
        · exact .inl rfl
      · exact .inl rfl
theorem stM_len {os : List (Int × Int)} {bs : List Tri} {st ph : Int} (W : RowD bs st ph) (hv : VOut 0 os) (hl : os.length ≤ 50) (x : Int) : (stM bs st ph os x).length = bs.length := by
  unfold stM
  cases q : lat none (spsOf bs st ph os) x with
  | none => exact List.length_replicate
  | some d =>
    have hm : d ∈ spsOf bs st ph os := (lat_mem q).resolve_right fun z => nomatch z
    obtain ⟨S, _⟩ := sps_all W hv hl d hm
    by_cases c : d.rcv.getD 0 ≤ x
    · have a1 : stAt bs st (some d) x = stBeh bs st d x := if_pos c
      rw [a1]
      exact beh_len S.ol
    · have a1 : stAt bs st (some d) x = stWs bs.length d x := if_neg c
      rw [a1]
      exact ws_len
/-! data -/
/-- the states that the rules give are the program's -/
theorem mix_step {bs : List Tri} {D : Prop} {r : Int} {old new : List StD} {k : Nat} (R : StepR bs D r old new k) {good : Bool} (hg : good = true ↔ ¬ D) : mixS bs old r (decide (k = bs.length) && good) k k = new := by
  have kn := R.kn
  have ol := R.ol
  have nl := R.nl
  refine List.ext_getElem? fun i => ?_
  by_cases c : i < bs.length
  · have hb : bs[i]? = some bs[i] := List.getElem?_eq_getElem c
    have hs : old[i]? = some (old[i]'(by omega)) := List.getElem?_eq_getElem (by omega)
    rw [mixS_get c, mixE_is hb hs]
    by_cases c1 : i < k
    · rw [if_pos c1]
      by_cases c2 : k = bs.length ∧ ¬ D
      · rw [if_pos (by rw [decide_eq_true c2.1, hg.mpr c2.2]; rfl), R.ok c2.1 c2.2 i _ _ hb hs]
      · have hd : k < bs.length ∨ D := by
          by_cases z : k = bs.length
          · by_cases d : D
            · exact .inr d
            · exact absurd ⟨z, d⟩ c2
          · exact .inl (by omega)
        rw [if_neg (fun z => c2 (by
          rw [Bool.and_eq_true, decide_eq_true_eq] at z
          exact ⟨z.1, hg.mp z.2⟩)), R.bd hd i _ _ c1 hb hs]
    · rw [if_neg c1, if_neg c1, R.kp (by omega) i (by omega), hs]
  · rw [List.getElem?_eq_none (by rw [mixS_len]; omega), List.getElem?_eq_none (by omega)]
theorem k_uniq {bs : List Tri} {D : Prop} {r : Int} {old new : List StD} {k k' : Nat} (R : StepR bs D r old new k) (kn : k' ≤ bs.length) (h1 : ∀ (i : Nat) (b : Tri) (s : StD), i < k' → bs[i]? = some b → old[i]? = some s → psB b s r) (h2 : ∀ (b : Tri) (s : StD), bs[k']? = some b → old[k']? = some s → ¬ psB b s r) : k' = k := by
  have ol := R.ol
  have kk := R.kn
  have get : ∀ i, i < bs.length → ∃ b s, bs[i]? = some b ∧ old[i]? = some s := fun i h => ⟨_, _, List.getElem?_eq_getElem h, List.getElem?_eq_getElem (by omega)⟩
  by_cases c : k' < k
  · obtain ⟨b, s, e1, e2⟩ := get k' (by omega)
    exact absurd (R.ps k' b s c e1 e2) (h2 b s e1 e2)
  · by_cases c2 : k < k'
    · obtain ⟨b, s, e1, e2⟩ := get k (by omega)
      exact absurd (h1 k b s c2 e1 e2) (R.rj b s e1 e2)
    · omega
theorem outK_uniq {os : List (Int × Int)} {bs : List Tri} {st ph r : Int} {D : Prop} {k k' : Nat} (W : RowD bs st ph) (hv : VOut 0 os) (hl : os.length ≤ 50) (kn : k ≤ bs.length) (kn' : k' ≤ bs.length) (O : OutK bs.length D (lat none (spsOf bs st ph os) r) r k) (O' : OutK bs.length D (lat none (spsOf bs st ph os) r) r k') : k' = k := by
  rcases outK_lat O with ⟨e, h, _⟩ | ⟨d, hd, hz, e, o1, o2, _⟩
  · rcases outK_lat O' with ⟨e', h', _⟩ | ⟨_, _, _, e', _⟩
    · omega
    · rw [e] at e'
      cases e'
  · rcases outK_lat O' with ⟨e', h', _⟩ | ⟨d', hd', _, e', p1, p2, _⟩
    · rw [e] at e'
      cases e'
    · rw [hd] at hd'
      cases hd'
      have hm : d ∈ spsOf bs st ph os := (lat_mem hd).resolve_right fun z => nomatch z
      have rl := (sps_all W hv hl d hm).1.rl
      have get : ∀ i, i < bs.length → ∃ g, d.rs[i + 1]? = some g := fun i h => ⟨_, List.getElem?_eq_getElem (by omega)⟩
      by_cases c : k' < k
      · obtain ⟨g, hg⟩ := get k' (by omega)
        exact absurd (o1 k' g c hg) (p2 (by omega) g hg)
      · by_cases c2 : k < k'
        · obtain ⟨g, hg⟩ := get k (by omega)
          exact absurd (p1 k g c2 hg) (o2 (by omega) g hg)
        · omega
theorem outD_flag {n k : Nat} {a b : Bool} (kn : k ≤ n) (h : k = n → a = b) : outD n k a = outD n k b := by
  unfold outD
  by_cases c : k < n
  · rw [if_pos c, if_pos c]
  · rw [if_neg c, if_neg c, h (by omega)]
theorem dn_app {a : List (Int × Int)} {o : Int × Int} {x : Int} : dn (a ++ [o]) x ↔ dn a x ∨ (o.1 ≤ x ∧ x < o.2) := by
  constructor
  · rintro ⟨u, hu, h⟩
    rcases List.mem_append.mp hu with hu | hu
    · exact .inl ⟨u, hu, h⟩
    · rw [List.mem_singleton.mp hu] at h
      exact .inr h
  · rintro (⟨u, hu, h⟩ | h)
    · exact ⟨u, List.mem_append_left _ hu, h⟩
    · exact ⟨o, List.mem_append_right _ (List.mem_cons_self ..), h⟩
/-! ### parts of a timeline -/
theorem TLV.row {CR CS C : Addr} {H : Hp} {p : Addr} {ts : List Tri} {st ph : Int} {os : List (Int × Int)} (Y : TLV CR CS C H p ts st ph os) : ∃ r B xs, RowAt CR H r B xs ts st ph := by
  obtain ⟨aR, B, aO, aS, aF, aM, xs, ys, zs, ms, X⟩ := Y
  exact ⟨aR, B, xs, X.row⟩
theorem TLV.vo {CR CS C : Addr} {H : Hp} {p : Addr} {ts : List Tri} {st ph : Int} {os : List (Int × Int)} (Y : TLV CR CS C H p ts st ph os) : VOut 0 os ∧ os.length ≤ 50 := by
  obtain ⟨aR, B, aO, aS, aF, aM, xs, ys, zs, ms, X⟩ := Y
  exact ⟨X.vo, X.ol⟩
theorem TLV.has {CR CS C : Addr} {H : Hp} {p : Addr} {ts : List Tri} {st ph : Int} {os : List (Int × Int)} (Y : TLV CR CS C H p ts st ph os) : ∃ dx aR aO aS aF aM, H p = some (.ins C dx (tlF aR aO aS aF aM)) := by
  obtain ⟨aR, B, aO, aS, aF, aM, xs, ys, zs, ms, X⟩ := Y
  obtain ⟨dx, h⟩ := X.ob
  exact ⟨dx, aR, aO, aS, aF, aM, h⟩
/-! ### the marks of a timeline -/
def spTLen (CR CS C : Addr) : Sp := fun vs H Q _ => ∃ p ts st ph os, vs = [.ref p] ∧ TLV CR CS C H p ts st ph os ∧ Q (.int ((spsOf ts st ph os).length : Nat)) H
def spTGet (CR CS C : Addr) : Sp := fun vs H Q _ => ∃ p ts st ph os, ∃ i : Nat, vs = [.ref p, .int i] ∧ TLV CR CS C H p ts st ph os ∧ ∃ m, (mkM ts st (spsOf ts st ph os))[i]? = some m ∧ ∀ x, MkAt H x m → Q x H
section
variable {P : Program} {w : World} {K : PySem.W.Frag} {mg : Str → Option Value} {base : Heap} {L : LA}
end
/-! ### facts of each spell -/
theorem no_open {os : List (Int × Int)} {bs : List Tri} {st ph x : Int} (h : inSp (spsOf bs st ph os) x = false) : ∀ s ∈ stM bs st ph os x, s.1 ≠ "open" := by
  intro s hs
  unfold inSp at h
  unfold stM at hs
  cases q : lat none (spsOf bs st ph os) x with
  | none =>
    rw [q] at hs
    have := List.eq_of_mem_replicate hs
    rw [this]
    exact sC_O
  | some d =>
    rw [q] at hs h
    have c : d.rcv.getD 0 ≤ x := by
      have h : decide (x < d.rcv.getD 0) = false := h
      have := of_decide_eq_false h
      omega
    have a1 : stAt bs st (some d) x = stBeh bs st d x := if_pos c
    rw [a1] at hs
    obtain ⟨i, hi⟩ := List.mem_iff_getElem?.mp hs
    unfold stBeh at hi
    rw [List.getElem?_zipWith] at hi
    split at hi
    · cases hi
      unfold stB
      split
      · exact sH_O
      · exact sC_O
    · cases hi
theorem ch_next {os : List (Int × Int)} {bs : List Tri} {st ph : Int} : ∀ {ds : List SpD} {pv : Option SpD} {m : Int}, SpCh os bs st ph pv m ds → ∀ {i : Nat} {d e : SpD}, ds[i]? = some d → ds[i + 1]? = some e → d.rcv.getD 0 < e.first
  | [], _, _, _, i, d, e, h, _ => by cases h
  | u :: r, pv, m, ⟨v, g, X, C⟩, 0, d, e, h, h' => by
    cases h
    have g0 : u.rcv.getD 0 = v := by rw [X.rcv]; rfl
    have := (ch_asc C).2 e (List.mem_of_getElem? (show r[0]? = some e from h'))
    omega
  | u :: r, pv, m, ⟨v, g, X, C⟩, i + 1, d, e, h, h' => ch_next C (i := i) h h'
theorem lat_at {os : List (Int × Int)} {bs : List Tri} {st ph : Int} {ds : List SpD} {m : Int} (C : SpCh os bs st ph none m ds) {i : Nat} {d : SpD} (hd : ds[i]? = some d) {x : Int} (h1 : d.first ≤ x) (h2 : ∀ e, ds[i + 1]? = some e → x < e.first) : lat none ds x = some d := by
  have hi := (List.getElem?_eq_some_iff.mp hd).1
  have asc := List.pairwise_iff_getElem.mp (ch_asc C).1
  have ord : ∀ {a b : Nat} {u w : SpD}, ds[a]? = some u → ds[b]? = some w → a < b → u.first < w.first := fun {a b u w} ha hb l => by
    obtain ⟨a1, a2⟩ := List.getElem?_eq_some_iff.mp ha
    obtain ⟨b1, b2⟩ := List.getElem?_eq_some_iff.mp hb
    have := asc a b (by rw [List.length_map]; exact a1) (by rw [List.length_map]; exact b1) l
    rw [List.getElem_map, List.getElem_map, a2, b2] at this
    exact this
  rw [lat_idx ds none (i + 1) x hi fun j u hj => ?_]
  · exact hd
  · constructor
    · intro l
      by_cases e : j = i
      · subst e
        rw [hd] at hj
        cases hj
        exact h1
      · have := ord hj hd (by omega)
        omega
    · intro l
      by_cases c : j < i + 1
      · exact c
      · obtain ⟨e, he⟩ : ∃ e, ds[i + 1]? = some e := ⟨_, List.getElem?_eq_getElem (by have := (List.getElem?_eq_some_iff.mp hj).1; omega)⟩
        have h3 := h2 e he
        by_cases q : j = i + 1
        · subst q
          rw [hj] at he
          cases he
          omega
        · have := ord he hj (by omega)
          omega
theorem sum_one {f : SpD → Int} : ∀ {ds : List SpD} {i : Nat} {d : SpD}, ds[i]? = some d → (∀ j e, ds[j]? = some e → j ≠ i → f e = 0) → (ds.map f).sum = f d
  | [], i, d, h, _ => by cases h
  | u :: r, 0, d, h, z => by
    cases h
    rw [List.map_cons, List.sum_cons, sum_zero fun e he => ?_]
    · omega
    · obtain ⟨j, hj⟩ := List.mem_iff_getElem?.mp he
      exact z (j + 1) e hj (by omega)
  | u :: r, i + 1, d, h, z => by
    rw [List.map_cons, List.sum_cons, z 0 u rfl (by omega), sum_one (i := i) h fun j e hj ne => z (j + 1) e hj (by omega)]
    omega
section
variable {os : List (Int × Int)} {bs : List Tri} {st ph : Int}
theorem sp_lats (W : RowD bs st ph) (hv : VOut 0 os) {i : Nat} {d : SpD} (hd : (spsOf bs st ph os)[i]? = some d) {v : Int} (hr : d.rcv = some v) :
    inSp (spsOf bs st ph os) d.first = true ∧ inSp (spsOf bs st ph os) v = false ∧ inSp (spsOf bs st ph os) (d.first - 1) = false ∧ lat none (spsOf bs st ph os) d.first = some d := by
  have C := sps_ch W hv
  have hm := List.mem_of_getElem? hd
  obtain ⟨rq, _, v', hr', lv, _⟩ := ch_rq C d hm
  rw [hr] at hr'
  cases hr'
  have g0 : d.rcv.getD 0 = v := by rw [hr]; rfl
  have nx : ∀ e, (spsOf bs st ph os)[i + 1]? = some e → v < e.first := fun e he => by
    have := ch_next C hd he
    omega
  have l1 := lat_at C hd (Int.le_refl _) fun e he => by have := nx e he; omega
  have l2 := lat_at C hd (Int.le_of_lt lv) nx
  refine ⟨?_, ?_, ?_, l1⟩
  · unfold inSp
    rw [l1]
    exact decide_eq_true (by omega)
  · unfold inSp
    rw [l2]
    exact decide_eq_false (by omega)
  · unfold inSp
    cases i with
    | zero =>
      have e : lat none (spsOf bs st ph os) (d.first - 1) = none := by
        cases q : spsOf bs st ph os with
        | nil => rfl
        | cons u r =>
          rw [q] at hd
          cases hd
          exact if_neg (by omega)
      rw [e]
    | succ j =>
      have hj := (List.getElem?_eq_some_iff.mp hd).1
      obtain ⟨u, hu⟩ : ∃ u, (spsOf bs st ph os)[j]? = some u := ⟨_, List.getElem?_eq_getElem (by omega)⟩
      have h1 := ch_next C hu hd
      obtain ⟨_, _, vu, hru, lu, _⟩ := ch_rq C u (List.mem_of_getElem? hu)
      have gu : u.rcv.getD 0 = vu := by rw [hru]; rfl
      rw [lat_at C hu (x := d.first - 1) (by omega) fun e he => by
        rw [hd] at he
        cases he
        omega]
      exact decide_eq_false (by omega)
theorem sp_reqs (W : RowD bs st ph) (hv : VOut 0 os) (hl : os.length ≤ 50) {d : SpD} (hd : d ∈ spsOf bs st ph os) {v : Int} (hr : d.rcv = some v) {f a : Int} (hf : f ≤ d.first) (ha : v ≤ a) : cisD 0 f a d = reqsM st ph d.first v := by
  have C := sps_ch W hv
  have s0 : 0 < st := by have := W.s0; omega
  obtain ⟨rq, _, v', hr', lv, vq, _⟩ := ch_rq C d hd
  rw [hr] at hr'
  cases hr'
  have S := (sps_all W hv hl d hd).1
  unfold cisD
  have g0 : d.rcv.getD 0 = v := by rw [hr]; rfl
  have m1 : mx2 f d.first = d.first := by unfold mx2; split <;> omega
  have m2 : mn2 a v = v := by unfold mn2; split <;> omega
  rw [g0, m1, m2, if_pos lv, S.r0]
  obtain ⟨m, m0, em⟩ := (isRq_iff s0).mp rq
  obtain ⟨q, q0, eq⟩ := (isRq_iff s0).mp vq
  have mq : m < q := by
    by_cases c : m < q
    · exact c
    · have := Int.mul_le_mul_of_nonneg_right (show q ≤ m by omega) (show 0 ≤ st by omega)
      omega
  have ups : ∀ z : Int, 0 ≤ z → stepsUp (z * st) st = z := fun z hz => by
    rw [stepsUp_cl]
    have a1 := (cl_le (d := z * st) (n := z) s0).mpr (Int.le_refl _)
    have a2 : z - 1 < cl (z * st) st := (cl_gt s0).mpr (by rw [Int.sub_mul]; omega)
    split <;> omega
  show (nbT (d.first, st, none) v + 0) - (nbT (d.first, st, none) d.first + 0) = _
  have e1 : nbT (d.first, st, none) v = stepsUp (v - d.first) st := rfl
  have e2 : nbT (d.first, st, none) d.first = stepsUp (d.first - d.first) st := rfl
  unfold reqsM
  rw [e1, e2, show v - d.first = (q - m) * st by rw [Int.sub_mul]; omega, show d.first - d.first = 0 * st by omega, show v - ph = q * st by omega, show d.first - ph = m * st by omega, ups _ (by omega), ups _ (by omega), ups _ q0, ups _ m0]
  omega
theorem sp_cis (W : RowD bs st ph) (hv : VOut 0 os) (hl : os.length ≤ 50) {i : Nat} {d : SpD} (hd : (spsOf bs st ph os)[i]? = some d) {v : Int} (hr : d.rcv = some v) : cisM 0 d.first v (spsOf bs st ph os) = reqsM st ph d.first v := by
  have C := sps_ch W hv
  rw [← sp_reqs W hv hl (List.mem_of_getElem? hd) hr (Int.le_refl _) (Int.le_refl _)]
  have asc := List.pairwise_iff_getElem.mp (ch_asc C).1
  have g0 : d.rcv.getD 0 = v := by rw [hr]; rfl
  refine sum_one hd fun j e he ne => ?_
  have ord : ∀ (n a : Nat) {u w : SpD}, (spsOf bs st ph os)[a]? = some u → (spsOf bs st ph os)[a + n + 1]? = some w → u.rcv.getD 0 < w.first := fun n => by
    induction n with
    | zero => exact fun a u w hu hw => ch_next C hu hw
    | succ n ih =>
      intro a u w hu hw
      have hl := (List.getElem?_eq_some_iff.mp hw).1
      obtain ⟨x, hx⟩ : ∃ x, (spsOf bs st ph os)[a + n + 1]? = some x := ⟨_, List.getElem?_eq_getElem (by omega)⟩
      have h1 := ih a hu hx
      have h2 := ch_next C hx hw
      obtain ⟨_, _, vx, hrx, lx, _⟩ := ch_rq C x (List.mem_of_getElem? hx)
      rw [hrx] at h2
      have h2 : vx < w.first := h2
      omega
  unfold cisD
  by_cases c : j < i
  · have := ord (i - j - 1) j he (by rw [show j + (i - j - 1) + 1 = i by omega]; exact hd)
    rw [if_neg]
    unfold mx2 mn2
    (repeat' split) <;> omega
  · have := ord (j - i - 1) i hd (by rw [show i + (j - i - 1) + 1 = j by omega]; exact he)
    rw [if_neg]
    unfold mx2 mn2
    (repeat' split) <;> omega
/-! when all is closed again -/
theorem nd_le {d : SpD} {i : Nat} {b : Tri} {o : Int} (hb : bs[i]? = some b) (ho : d.op[i]? = some (some o)) : b.2.2 ≤ mxL (ndL bs d) := by
  have hm : (b, some o) ∈ bs.zip d.op := by
    refine List.mem_of_getElem? (i := i) ?_
    rw [List.getElem?_zip_eq_some]
    exact ⟨hb, ho⟩
  exact (mxL_fold (ndL bs d) 1).1 _ (List.mem_map.mpr ⟨(b, some o), List.mem_filter.mpr ⟨hm, rfl⟩, rfl⟩)
theorem nd_one {d : SpD} (h : mxL (ndL bs d) ≠ 1) : ∃ (i : Nat) (b : Tri) (o : Int), bs[i]? = some b ∧ d.op[i]? = some (some o) ∧ b.2.2 = mxL (ndL bs d) := by
  rcases (mxL_fold (ndL bs d) 1).2.2 with e | e
  · exact absurd e h
  · obtain ⟨⟨b, oo⟩, hm, e2⟩ := List.mem_map.mp e
    obtain ⟨h1, h2⟩ := List.mem_filter.mp hm
    obtain ⟨i, hi⟩ := List.mem_iff_getElem?.mp h1
    rw [List.getElem?_zip_eq_some] at hi
    cases oo with
    | none => cases h2
    | some o => exact ⟨i, b, o, hi.1, hi.2, e2⟩
theorem whole_closed (W : RowD bs st ph) (hv : VOut 0 os) (hl : os.length ≤ 50) {i : Nat} {d : SpD} (hd : (spsOf bs st ph os)[i]? = some d) {v : Int} (hr : d.rcv = some v) (nx : ∀ e, (spsOf bs st ph os)[i + 1]? = some e → whM bs st d < e.first) :
    v ≤ whM bs st d ∧ stM bs st ph os (whM bs st d) = List.replicate bs.length (("closed" : Str), (0 : Int)) ∧ (whM bs st d ≠ v → v ≤ whM bs st d - st ∧ ∃ s ∈ stM bs st ph os (whM bs st d - st), s.1 = "half") := by
  have C := sps_ch W hv
  have s0 : 0 < st := by have := W.s0; omega
  have hm := List.mem_of_getElem? hd
  obtain ⟨rq, _, v', hr', lv, vq, _⟩ := ch_rq C d hm
  rw [hr] at hr'
  cases hr'
  have S := (sps_all W hv hl d hm).1
  have ol := S.ol
  have g0 : d.rcv.getD 0 = v := by rw [hr]; rfl
  have m1 : 1 ≤ mxL (ndL bs d) := (mxL_fold (ndL bs d) 1).2.1
  obtain ⟨M, hM⟩ : ∃ M, M = mxL (ndL bs d) := ⟨_, rfl⟩
  have ew : whM bs st d = v + (M - 1) * st := by unfold whM; rw [g0, hM]
  have mn : 0 ≤ (M - 1) * st := Int.mul_nonneg (by omega) (by omega)
  have lw : v ≤ whM bs st d := by omega
  have quo : ∀ z : Int, (v + z * st - v) / st = z := fun z => by
    rw [show v + z * st - v = z * st by omega]
    exact Int.mul_ediv_cancel _ (by omega)
  refine ⟨lw, ?_, fun ne => ?_⟩
  · unfold stM
    rw [lat_at C hd (by omega) nx]
    have a1 : stAt bs st (some d) (whM bs st d) = stBeh bs st d (whM bs st d) := if_pos (by omega)
    rw [a1]
    refine List.ext_getElem? fun j => ?_
    by_cases c : j < bs.length
    · have hb : bs[j]? = some bs[j] := List.getElem?_eq_getElem c
      have ho : d.op[j]? = some (d.op[j]'(by omega)) := List.getElem?_eq_getElem (by omega)
      rw [beh_get hb ho, rep_get c, g0, ew, quo]
      refine congrArg some (if_neg fun z => ?_)
      obtain ⟨z1, z2⟩ := z
      obtain ⟨o, eo⟩ := Option.isSome_iff_exists.mp z1
      have := nd_le hb (by rw [ho, eo])
      omega
    · rw [List.getElem?_eq_none (by rw [beh_len ol]; omega), List.getElem?_eq_none (by rw [List.length_replicate]; omega)]
  · have m2 : M ≠ 1 := fun e => ne (by rw [ew, e]; omega)
    obtain ⟨j, b, o, hb, ho, eb⟩ := nd_one (bs := bs) (d := d) (by omega)
    have e2 : whM bs st d - st = v + (M - 2) * st := by rw [ew, Int.sub_mul, Int.sub_mul]; omega
    have mn2 : 0 ≤ (M - 2) * st := Int.mul_nonneg (by omega) (by omega)
    refine ⟨by omega, ("half", M - 1), ?_, rfl⟩
    unfold stM
    rw [lat_at C hd (by omega) fun e he => by have := nx e he; omega]
    have a1 : stAt bs st (some d) (whM bs st d - st) = stBeh bs st d (whM bs st d - st) := if_pos (by omega)
    rw [a1]
    refine List.mem_of_getElem? (i := j) ?_
    rw [beh_get hb ho, g0, e2, quo, show M - 2 + 1 = M - 1 by omega]
    exact congrArg some (if_pos ⟨rfl, by omega⟩)
end
/-! ### how long it takes until the next time -/
def Gap (g : List Trn) (fr G : Int) : Prop := ∀ y x, fr ≤ y → nxT g y = some x → x ≤ y + G
theorem gap_end {fr st : Int} (s : 0 < st) (hs : Srt [(fr, st, none)]) : Gap [(fr, st, none)] fr st := by
  intro y x hy hx
  have r0 : isRq st fr fr := (isRq_iff s).mpr ⟨0, Int.le_refl _, by omega⟩
  obtain ⟨x1, x2, x3⟩ := (nx_iff hs).mp hx
  obtain ⟨q1, q2⟩ := (in_end s r0).mp x1
  by_cases c : x ≤ y + st
  · exact c
  · obtain ⟨m, m0, e⟩ := (isRq_iff s).mp q1
    have m1 : 1 ≤ m := by
      by_cases z : 1 ≤ m
      · exact z
      · have : m = 0 := by omega
        subst this
        omega
    have e2 : x - st = fr + (m - 1) * st := by rw [Int.sub_mul]; omega
    have := x3 (x - st) ((in_end s r0).mpr ⟨(isRq_iff s).mpr ⟨m - 1, by omega, e2⟩, by omega⟩) (by omega)
    omega
theorem gap_step {g g' : List Trn} {fr G o wt : Int} (hs : Srt g) (hs' : Srt g') (hT : Tot g = none) (P : PassOk g g' o wt) (fo : fr ≤ o) (w1 : 0 ≤ wt) (h : Gap g fr G) : Gap g' fr (wt + G) := by
  intro y x hy hx
  obtain ⟨x1, x2, x3⟩ := (nx_iff hs').mp hx
  by_cases c : y ≤ o
  · obtain ⟨z, hz⟩ := nx_end hs hT y
    obtain ⟨z1, z2, z3⟩ := (nx_iff hs).mp hz
    have hzG := h y z hy hz
    by_cases q : z ≤ o
    · have := x3 z (P.low z q z1) z2
      omega
    · have := x3 o P.op c
      omega
  · obtain ⟨p, hp⟩ := luT_some hs' P.op (show o ≤ y - 1 by omega)
    obtain ⟨p1, p2, p3⟩ := luT_spec hs' hp
    have op := p3 o P.op (by omega)
    have e := P.nxt p p1 op
    obtain ⟨z, hz⟩ := nx_end hs hT (p + wt)
    rw [hz] at e
    obtain ⟨z1, z2, z3⟩ := (nx_iff hs').mp e
    have hzG := h (p + wt) z (by omega) hz
    have yz : y ≤ z := by
      by_cases q : y ≤ z
      · exact q
      · have := p3 z z1 (by omega)
        omega
    have := x3 z z1 yz
    omega
theorem gap_run {bs : List Tri} {st : Int} {d : SpD} (S : SpOk bs st d) (s : 0 < st) {B : Int} (hB : ∀ b ∈ bs, 0 ≤ b.2.1 ∧ b.2.1 ≤ B) : ∀ (i : Nat) (g : List Trn), d.rs[i]? = some g → Gap g d.first (st + B * i)
  | 0, g, h => by
    have := S.r0.symm.trans h
    cases this
    have := gap_end (fr := d.first) s (S.run 0 _ h).srt
    rw [show st + B * ((0 : Nat) : Int) = st by simp]
    exact this
  | i + 1, g', h' => by
    have hl := (List.getElem?_eq_some_iff.mp h').1
    obtain ⟨g, h⟩ : ∃ g, d.rs[i]? = some g := ⟨_, List.getElem?_eq_getElem (by omega)⟩
    obtain ⟨os, o, b, s', C, _⟩ := S.stp i g g' h h'
    have R := S.run i g h
    obtain ⟨b0, b1⟩ := hB b (List.mem_of_getElem? C.hb)
    have G := gap_step R.srt (S.run _ g' h').srt R.en C.ps C.fo b0 (gap_run S s hB i g h)
    intro y x hy hx
    have := G y x hy hx
    have e : B * ((i + 1 : Nat) : Int) = B * (i : Int) + B := by rw [Int.natCast_add, Int.mul_add]; simp
    omega
theorem ch_x {os : List (Int × Int)} {bs : List Tri} {st ph : Int} : ∀ {ds : List SpD} {pv : Option SpD} {m : Int}, SpCh os bs st ph pv m ds → ∀ d ∈ ds, ∃ pv m v g, SpX os bs st ph pv m d v g
  | [], _, _, _, d, h => nomatch h
  | e :: r, pv, m, ⟨v, g, X, C⟩, d, h => by
    rcases List.mem_cons.mp h with rfl | h
    · exact ⟨pv, m, v, g, X⟩
    · exact ch_x C d h
theorem rcv_le {os : List (Int × Int)} {bs : List Tri} {st ph : Int} (W : RowD bs st ph) (hv : VOut 0 os) (hl : os.length ≤ 50) {B E : Int} (hB : ∀ b ∈ bs, 0 ≤ b.2.1 ∧ b.2.1 ≤ B) (hE : ∀ o ∈ os, o.2 ≤ E) {d : SpD} (hd : d ∈ spsOf bs st ph os) {v : Int} (hr : d.rcv = some v) : d.first < E ∧ v ≤ E + (st + B * bs.length) := by
  have s0 : 0 < st := by have := W.s0; omega
  have S := (sps_all W hv hl d hd).1
  obtain ⟨_, _, v', g, X⟩ := ch_x (sps_ch W hv) d hd
  have e := X.rcv
  rw [hr] at e
  cases e
  have R := S.run _ g X.rl
  obtain ⟨o, ho, o1, o2⟩ := X.dn
  have := hE o ho
  have fE : d.first ≤ E := by omega
  obtain ⟨x, hx⟩ := nx_end R.srt R.en E
  have hG := gap_run S s0 hB _ g X.rl E x fE hx
  obtain ⟨x1, x2, _⟩ := (nx_iff R.srt).mp hx
  refine ⟨by omega, ?_⟩
  by_cases c : v ≤ x
  · omega
  · obtain ⟨o', ho', a1, a2⟩ := X.ins x x1 (by omega)
    have := hE o' ho'
    omega
theorem wh_le {bs : List Tri} {st ph : Int} (W : RowD bs st ph) {d : SpD} {v M : Int} (hr : d.rcv = some v) (hM : ∀ b ∈ bs, b.2.2 ≤ M) (M1 : 1 ≤ M) : whM bs st d ≤ v + (M - 1) * st := by
  have h := mxL_bd (l := ndL bs d) (B := M) (fun y hy => by
    unfold ndL at hy
    obtain ⟨⟨b, o⟩, hm, e⟩ := List.mem_map.mp hy
    have := (List.of_mem_zip (List.mem_filter.mp hm).1).1
    rw [← e]
    exact hM b this) M1
  unfold whM
  have g0 : d.rcv.getD 0 = v := by rw [hr]; rfl
  rw [g0]
  have := Int.mul_le_mul_of_nonneg_right (show mxL (ndL bs d) - 1 ≤ M - 1 by omega) (show 0 ≤ st by have := W.s0; omega)
  omega
/-! ### rules inside comprehensions -/
theorem call_lenK {X : Cx} {K : PySem.W.Frag} (h : X.K = K) : CallR X (.builtin "len") (fun xs H Q => ∃ p ys, xs = [.ref p] ∧ (SqL K H p ys ∨ SqT K H p ys) ∧ Q (.int ys.length) H) := h ▸ call_len_seq
theorem call_listK {X : Cx} {K : PySem.W.Frag} (h : X.K = K) : CallR X (.type "list") (fun xs H Q => ∃ p ys, xs = [.ref p] ∧ (SqL K H p ys ∨ SqT K H p ys) ∧ ∀ l, H l = none → Q (.ref l) (upd H l (.lst ys))) := h ▸ call_list_of
theorem op_neDK {X : Cx} {K : PySem.W.Frag} (h : X.K = K) (hu : X.A.units + 64 < cLine) : OpR X (compareOp .NotEq) (rNeD K) := h ▸ op_neD hu
theorem op_eqDK {X : Cx} {K : PySem.W.Frag} (h : X.K = K) (hu : X.A.units + 64 < cLine) : OpR X (compareOp .Eq) (rEqD K) := h ▸ op_eqD hu
theorem op_inK {X : Cx} {K : PySem.W.Frag} (h : X.K = K) : OpR X (compareOp CmpOp.In) (rIn K false) := h ▸ op_in_seq
theorem op_notInK {X : Cx} {K : PySem.W.Frag} (h : X.K = K) : OpR X (compareOp CmpOp.NotIn) (rIn K true) := h ▸ op_notIn_seq
/-! ### list.count of strings -/
def eqs (k : Str) (v : Value) : Bool := match v with
  | .str n _ => n == k
  | _ => false
def rCntS (K : PySem.W.Frag) : V → List V → Hp → VK → Prop := fun x xs H Q => ∃ (p : Addr) (ss : List Str) (k : Str), x = .ref p ∧ xs = [.str k] ∧ SqL K H p (ss.map V.str) ∧ Q (.int (ss.countP (fun y => decide (y = k)) : Nat)) H
theorem eqs_at {k : Str} {t : Tok} {A : Around} {s : Shared} : ∀ {ss : List Str} {us : List Value}, Vals (ss.map V.str) us → ∀ y ∈ us, SeqAt.EqAt A s y (.str k t) (eqs k y)
  | [], us, r => by
    rw [List.map_nil] at r
    cases r
    exact fun y hy => nomatch hy
  | n :: ss, us, r => by
    rw [List.map_cons] at r
    cases r with
    | cons r1 r2 =>
      obtain ⟨t', rfl⟩ := r1
      intro y hy
      rcases List.mem_cons.mp hy with q | q
      · rw [q]
        exact SeqAt.EqAt.str_str n t' k t
      · exact eqs_at r2 y q
theorem eqs_count {k : Str} : ∀ {ss : List Str} {us : List Value}, Vals (ss.map V.str) us → us.countP (eqs k) = ss.countP fun y => decide (y = k)
  | [], us, r => by
    rw [List.map_nil] at r
    cases r
    rfl
  | n :: ss, us, r => by
    rw [List.map_cons] at r
    cases r with
    | cons r1 r2 =>
      obtain ⟨t', rfl⟩ := r1
      have ih := eqs_count (k := k) r2
      rw [List.countP_cons, List.countP_cons, ih]
      rfl
theorem mt_scount {X : Cx} : MtR X "list.count" (rCntS X.K) := by
  intro pins s σ H x xs v us Q I rx rxs h
  obtain ⟨p, ns, k, rfl, rfl, hs, q⟩ := h
  cases rx
  obtain ⟨u, rfl, ru⟩ := rxs.one
  obtain ⟨t, rfl⟩ := ru
  obtain ⟨its, rv, ⟨⟨cls, dd, data, sl⟩, n, ho, hc, hdn, hd⟩, hlen⟩ := I.list hs
  simp only at hc hd
  subst hc hd
  refine call_meets PySem.F.slot_list_count ⟨_, ho, rfl⟩ PySem.F.entry_list_count (PySem.F.args_list_count_2 _ _)
    (SeqAt.list_countAt p its.toArray n dd sl (.str k t) (eqs k)) ⟨ho, fun y hy => eqs_at rv y (by simpa using hy), ?_⟩
  have ec : its.toArray.toList.countP (eqs k) = ns.countP fun y => decide (y = k) := eqs_count rv
  refine ⟨.int (ns.countP (fun y => decide (y = k)) : Nat), H, I.tok _, ⟨s.toks, ?_⟩, q⟩
  show Value.int ((its.toArray.toList.countP (eqs k) : Nat) : Int) s.toks = Value.int ((ns.countP (fun y => decide (y = k)) : Nat) : Int) s.toks
  rw [ec]
/-- a comprehension over enumerate -/
theorem lc_enum {K : PySem.W.Frag} {a : Addr} {xs : List V} {g : TG} {tt : TT} {te : TE} {vs : List Nat} {σ : L2.St} {H1 : Hp} {D : Addr} {Qd : Hp → Prop} (Pv : Nat → Hp → Prop) (h0 : Pv 0 (upd H1 D (.lst []))) (hl : ∀ i H, Pv i H → SqL K H a xs)
    (hs : ∀ (i : Nat) (x : V) (T : Addr) (H : Hp), xs[i]? = some x → Pv i H → H T = none → g (.ref T) (wipe σ vs) (upd H T (.tup [.int (i : Nat), x])) fun σ2 H2 => wipe σ2 vs = wipe σ vs ∧ tt σ2 H2 fun b H3 =>
      if b = true then te σ2 H3 fun y H4 => ∃ acc, H4 D = some (.lst acc) ∧ acc.length < sizeLine ∧ Pv (i + 1) (upd H4 D (.lst (acc ++ [y]))) else Pv (i + 1) H3) (hd : ∀ H, Pv xs.length H → Qd H) :
    ∃ W : Nat → Nat → Hp → Prop, (∃ m, W 0 m (upd H1 D (.lst []))) ∧ ∀ i m H, W i m H → ((Ite K a).stop i H ∧ Qd H) ∨ ((Ite K a).go i H ∧ ∃ Nx : Hp → Prop, (∀ H', Nx H' → ∃ m', m' < m ∧ W (i + 1) m' H') ∧ ∀ x H', (Ite K a).yld i H x H' → g x (wipe σ vs) H' fun σ2 H2 => wipe σ2 vs = wipe σ vs ∧ tt σ2 H2 fun b H3 =>
        if b = true then te σ2 H3 fun y H4 => ∃ acc, H4 D = some (.lst acc) ∧ acc.length < sizeLine ∧ Nx (upd H4 D (.lst (acc ++ [y]))) else Nx H3) := by
  refine ⟨fun i m H => m = xs.length - i ∧ i ≤ xs.length ∧ Pv i H, ⟨xs.length, by omega, Nat.zero_le _, h0⟩, ?_⟩
  rintro i m H ⟨rfl, hi, p⟩
  have q := hl i H p
  by_cases hlt : i < xs.length
  · refine .inr ⟨⟨xs, xs[i], q, List.getElem?_eq_getElem hlt⟩, Pv (i + 1), fun H' p' => ⟨xs.length - (i + 1), by omega, rfl, hlt, p'⟩, fun v H' y => ?_⟩
    obtain ⟨T, x', rfl, hT, rfl, f⟩ := y
    exact hs i x' T H (f xs q) p hT
  · have e : i = xs.length := by omega
    subst e
    exact .inl ⟨⟨xs, q, Nat.le_refl _⟩, hd H p⟩
theorem op_powW {X : Cx} : OpR X (binaryOp .Pow) (rI (fun i j => 0 ≤ j ∧ (Builtin.Int.intBits i : Int) * j ≤ 2 ^ 27) fun i j => .int (i ^ j.toNat)) := opI fun _ _ _ _ _ _ _ hc q => PyProof.Rows.pow_int hc.1 hc.2 q
/-! ### max(.., default=..) -/
def rMaxDf (K : PySem.W.Frag) : List V → List V → Hp → VK → Prop := fun vs ws H Q => ∃ a ns c, vs = [V.ref a] ∧ ws = [V.int c] ∧ SqL K H a (ns.map V.int) ∧ ∀ m, (ns = [] → m = c) → (ns ≠ [] → m ∈ ns ∧ ∀ z ∈ ns, z ≤ m) → Q (.int m) H
def tMaxDf (K : PySem.W.Frag) (ta td : TA) : TE := fun σ H Q => ta σ H fun vs H1 => td σ H1 fun ws H2 => rMaxDf K vs ws H2 Q
theorem foldl_max : ∀ (l : List Int) (a : Int), l.foldl max a ∈ a :: l ∧ ∀ z ∈ a :: l, z ≤ l.foldl max a
  | [], a => ⟨List.mem_cons_self .., fun z hz => by rw [List.mem_singleton.mp hz]; exact Int.le_refl _⟩
  | b :: r, a => by
    obtain ⟨h1, h2⟩ := foldl_max r (max a b)
    rw [List.foldl_cons]
    refine ⟨?_, fun z hz => ?_⟩
    · rcases List.mem_cons.mp h1 with e | e
      · rw [e]
        by_cases c : a ≤ b
        · rw [Int.max_eq_right c]
          exact List.mem_cons_of_mem _ (List.mem_cons_self ..)
        · rw [Int.max_eq_left (by omega)]
          exact List.mem_cons_self ..
      · exact List.mem_cons_of_mem _ (List.mem_cons_of_mem _ e)
    · have h3 := h2 (max a b) (List.mem_cons_self ..)
      rcases List.mem_cons.mp hz with rfl | hz
      · have := Int.le_max_left z b
        omega
      · rcases List.mem_cons.mp hz with rfl | hz
        · have := Int.le_max_right a z
          omega
        · exact h2 z (List.mem_cons_of_mem _ hz)
theorem dp_ints_all {K : PySem.W.Frag} {H : Hp} : ∀ ns : List Int, DpAll K H (ns.map V.int) (ns.map PyData.int)
  | [] => .nil
  | n :: r => .cons (.int n) (dp_ints_all r)
theorem alike_ints (ns : List Int) : PySem.W.AlikeAll (ns.map PyData.int) := by
  refine ⟨fun x hx y hy => ?_, fun x hx => ?_⟩
  · obtain ⟨a, _, rfl⟩ := List.mem_map.mp hx
    obtain ⟨b, _, rfl⟩ := List.mem_map.mp hy
    rfl
  · obtain ⟨a, _, rfl⟩ := List.mem_map.mp hx
    exact fun e => nomatch e
theorem depth_ints : ∀ ns : List Int, PyData.depthAll (ns.map PyData.int) ≤ 10
  | [] => Nat.zero_le _
  | n :: r => by
    have := depth_ints r
    rw [List.map_cons, PyData.depthAll, PyData.depth]
    omega
theorem pe_maxDf {X : Cx} {e d : Expr} {ta td : TA} {p pos kpos : Pos} (hc : X.calm = true) (hu : X.A.units + 64 < cLine) (hg : Gl X "max") (hm : X.mg "max" = none) (ha : PA X [e] ta) (hd : PK X [⟨some "default", d, kpos⟩] td)
    (hv : bootBuiltins "max" = some (.builtin "max") := by decide +kernel) (he : backTo pos (starEach [e] X.env) = (false, eval e X.env) :: backTo pos (starEach [] X.env) := by rfl)
    (hall : (backToKw pos (keywordEach [⟨some "default", d, kpos⟩] X.env)).all (·.1.isSome) = true := by rfl) (hks : (backToKw pos (keywordEach [⟨some "default", d, kpos⟩] X.env)).filterMap (·.1) = [Str.ofString "default"] := by rfl)
    (hpl : (backTo pos (starEach [e] X.env)).any (·.1) = false := by rfl) (hkw : (backToKw pos (keywordEach [⟨some "default", d, kpos⟩] X.env)).any (·.1.isNone) = false := by rfl) :
    PE X (.Call (.Name "max" p) [e] [⟨some "default", d, kpos⟩] pos) (tMaxDf X.K ta td) := by
  refine ⟨fun pins s σ H Q I h => ?_⟩
  refine wpAny_Call_Name_kw (ld_blt I hg hm hv ?_ (by decide) (by decide))
  refine PyProof.Rows.callWith_kw ?_ he hpl hall hkw
  refine thn (ha.run pos pins s σ H _ I h) fun us s1 ⟨vs, H1, I1, r1, q1⟩ => ?_
  refine thn (hd.run pos pins s1 σ H1 _ I1 q1) fun ws s2 ⟨zs, H2, I2, rz, q2⟩ => ?_
  rw [hks]
  obtain ⟨a, ns, c, rfl, rfl, hs, k⟩ := q2
  rw [Vals.ref1 r1]
  obtain ⟨u, rfl, ru⟩ := rz.one
  obtain ⟨t, rfl⟩ := ru
  obtain ⟨its, rv, hl, _⟩ := I2.list hs
  obtain ⟨as, hr⟩ := Dp.readsAll I2 (ns.map PyData.int) (ns.map V.int) its (dp_ints_all ns) rv
  have dd := depth_ints ns
  refine PySem.W.max_list_default (I2.ok.hd hc) hl.isList (by simpa using hr) (alike_ints ns) (by omega) (fun e h' tk hk => ?_) (fun y ys i v h' tk bs e hv hr' hk => ?_)
  · have en : ns = [] := List.map_eq_nil_iff.mp e
    exact ⟨.int c, H2, I2.kept hk, ⟨_, rfl⟩, k c (fun _ => rfl) (fun ne => absurd en ne)⟩
  · cases ns with
    | nil => cases e
    | cons n r =>
      cases e
      rw [PySem.W.maxD_ints] at hr'
      obtain ⟨m1, m2⟩ := foldl_max r n
      refine ⟨.int (r.foldl max n), H2, I2.kept hk, ?_, k _ (fun z => nomatch z) (fun _ => ⟨m1, m2⟩)⟩
      cases hr' with
      | _ => exact ⟨_, rfl⟩
/-! ### draws, mixed -/
/-- a source of draws at a: at most n were drawn -/
def Src (H : Hp) (a : Addr) (n : Nat) : Prop := ∃ x y z : Int, H a = some (.lst [.int x, .int y, .int z]) ∧ 0 ≤ x ∧ 0 ≤ z ∧ z ≤ n
theorem Src.mono {H : Hp} {a : Addr} {n m : Nat} (h : Src H a n) (l : n ≤ m) : Src H a m := by
  obtain ⟨x, y, z, e, h1, h2, h3⟩ := h
  exact ⟨x, y, z, e, h1, h2, by omega⟩
theorem Src.same {H H' : Hp} {a : Addr} {n : Nat} (h : Src H a n) (s : Same H H') : Src H' a n := by
  obtain ⟨x, y, z, e, r⟩ := h
  exact ⟨x, y, z, s _ _ e, r⟩
theorem Src.has {H : Hp} {a : Addr} {n : Nat} (h : Src H a n) : ∃ xs, H a = some (.lst xs) := by
  obtain ⟨x, y, z, e, r⟩ := h
  exact ⟨_, e⟩
def spMix : Sp := fun vs H Q _ => ∃ c k, vs = [.int c, .int k] ∧ 0 ≤ k ∧ k ≤ 2000000 ∧ ∀ r, 0 ≤ r → r < 2147483399 → Q (.int r) H
def spWell : Sp := fun vs H Q _ => ∃ c, vs = [.int c] ∧ ∀ a H', H a = none → Same H H' → Src H' a 0 → Q (.ref a) H'
def spNext : Sp := fun vs H Q _ => ∃ (a : Addr) (m : Int) (n : Nat), vs = [.ref a, .int m] ∧ 0 < m ∧ m.natAbs < 2 ^ 1100 ∧ Src H a n ∧ n ≤ 900000 ∧ ∀ (r : Int) H', 0 ≤ r → r < m → Src H' a (n + 1) → Kp a H H' → Q (.int r) H'
def spOne : Sp := fun vs H Q _ => ∃ (a l : Addr) (xs : List V) (n : Nat), vs = [.ref a, .ref l] ∧ a ≠ l ∧ H l = some (.lst xs) ∧ 0 < xs.length ∧ xs.length ≤ 100000 ∧ Src H a n ∧ n ≤ 900000 ∧ ∀ v H', v ∈ xs → Src H' a (n + 1) → Kp a H H' → Q v H'
theorem atI_of {α : Type} {xs : List α} {i : Int} (h0 : 0 ≤ i) (h1 : i < xs.length) : ∃ v, atI xs i = some v ∧ v ∈ xs := by
  have hj : i.toNat < xs.length := by omega
  refine ⟨xs[i.toNat], ?_, List.getElem_mem _⟩
  have e : ((i.toNat : Nat) : Int) = i := by omega
  have := atI_nat (xs := xs) (j := i.toNat) (v := xs[i.toNat]) (List.getElem?_eq_getElem hj)
  rwa [e] at this
section
variable {P : Program} {w : World} {K : PySem.W.Frag} {mg : Str → Option Value} {base : Heap} {L : LA}
abbrev N_wmixed : List Str := ["_law_cell", "_law_k", "_law_figure"]
theorem sc_wmixed : FnScope N_wmixed ["_law_cell", "_law_k"] (defScope st__law_mixed) := ⟨rfl, rfl, rfl, by decide +kernel, rfl, by decide +kernel, by decide +kernel⟩
theorem fn_wmixed (T : LX K mg L) {fd : FuncData} (F : Fun K "_law_mixed" "_law_mixed" st__law_mixed L.f__law_mixed fd) : FnOk P w K mg base CX0 1 L.f__law_mixed fd ["_law_cell", "_law_k"] (spMix) := by
  have nd := sc_wmixed.nd
  refine F.ok sc_wmixed (fun vs H Q E h => ?_) (fun cdv A outer S H vs Q E hr h => ?_)
  · obtain ⟨c, kk, rfl, _⟩ := h
    rfl
  · obtain ⟨c, kk, rfl, k0, k1, k⟩ := h
    refine ⟨_, (pss_cons (ps_set (i := 2) nd rfl (Or.inl rfl) (pe_op op_mod (pe_callTy call_int1 (by rfl) T.b_int (by decide +kernel) (pa_cons (pe_op op_pow (pe_op op_add (pe_op op_add (pe_op op_mod (pe_callTy call_int1 (by rfl) T.b_int (by decide +kernel) (pa_cons (pv 0) pa_nil)) pe_int) (pe_op op_mulW pe_int (pv 1))) pe_int) pe_int) pa_nil)) pe_int))
       (pss_cons (ps_set (i := 2) nd rfl (Or.inl rfl) (pe_op op_mod (pe_callTy call_int1 (by rfl) T.b_int (by decide +kernel) (pa_cons (pe_op op_add (pv 2) (pe_op op_mulW (pe_op op_mod (pe_callTy call_int1 (by rfl) T.b_int (by decide +kernel) (pa_cons (pe_op op_fdivW (pv 0) pe_int) pa_nil)) pe_int) (pe_op op_add (pv 1) pe_int))) pa_nil)) pe_int))
       (pss_cons (ps_set (i := 2) nd rfl (Or.inl rfl) (pe_op op_mod (pe_callTy call_int1 (by rfl) T.b_int (by decide +kernel) (pa_cons (pe_op op_mulW (pv 2) (pe_op op_add (pe_op op_add (pe_op op_fdivW (pv 2) pe_int) pe_int) (pv 1))) pa_nil)) pe_int))
       (pss_one (ps_ret (pe_op op_mod (pe_callTy call_int1 (by rfl) T.b_int (by decide +kernel) (pa_cons (pe_op op_mulW (pv 2) (pe_op op_add (pe_op op_fdivW (pv 2) pe_int) pe_int)) pa_nil)) pe_int)))))), ?_⟩
    have cm1 : CMulW 30011 kk := wide_mul (a := 30) (b := 30) (by decide) (Nat.lt_of_le_of_lt (show kk.natAbs ≤ 2000000 by omega) (by decide)) (by decide) (by decide) (by decide)
    have m0 := Int.emod_nonneg c (show (2147483629 : Int) ≠ 0 by decide)
    have m1 := Int.emod_lt_of_pos c (show (0 : Int) < 2147483629 by decide)
    refine ⟨_, rfl, .inl ⟨_, rfl, _, _, rfl, rfl, (by show (0 : Int) < 2147483629; decide), _, rfl, _, _, rfl, rfl, cm1, _, _, rfl, rfl, _, _, rfl, rfl, _, _, rfl, rfl, ⟨by decide, by decide, ?_⟩, .inl ⟨_, rfl, _, _, rfl, rfl, (by show (0 : Int) < 2147483647; decide), ?_⟩⟩⟩
    · exact Nat.lt_of_le_of_lt (show (c % 2147483629 + 30011 * kk + 7).natAbs ≤ 100000000000 by omega) (by decide)
    have a0 := Int.emod_nonneg ((c % 2147483629 + 30011 * kk + 7) ^ (3 : Int).toNat) (show (2147483647 : Int) ≠ 0 by decide)
    have a1 := Int.emod_lt_of_pos ((c % 2147483629 + 30011 * kk + 7) ^ (3 : Int).toNat) (show (0 : Int) < 2147483647 by decide)
    dsimp only
    generalize (c % 2147483629 + 30011 * kk + 7) ^ (3 : Int).toNat % 2147483647 = f1 at a0 a1 ⊢
    have b0 := Int.emod_nonneg (c / 2147483629) (show (65537 : Int) ≠ 0 by decide)
    have b1 := Int.emod_lt_of_pos (c / 2147483629) (show (0 : Int) < 65537 by decide)
    have cm2 : CMulW (c / 2147483629 % 65537) (kk + 5) := wide_mul (a := 30) (b := 30) (Nat.lt_of_le_of_lt (show (c / 2147483629 % 65537).natAbs ≤ 70000 by omega) (by decide)) (Nat.lt_of_le_of_lt (show (kk + 5).natAbs ≤ 2000005 by omega) (by decide)) (by decide) (by decide) (by decide)
    refine ⟨_, rfl, _, rfl, _, _, rfl, rfl, wide_div (b := 40) (by decide) (by decide) (by decide) (by decide), .inl ⟨_, rfl, _, _, rfl, rfl, (by show (0 : Int) < 65537; decide), _, rfl, _, _, rfl, rfl, _, _, rfl, rfl, cm2, _, _, rfl, rfl, .inl ⟨_, rfl, _, _, rfl, rfl, (by show (0 : Int) < 2147483587; decide), ?_⟩⟩⟩
    have c0 := Int.emod_nonneg (f1 + c / 2147483629 % 65537 * (kk + 5)) (show (2147483587 : Int) ≠ 0 by decide)
    have c1 := Int.emod_lt_of_pos (f1 + c / 2147483629 % 65537 * (kk + 5)) (show (0 : Int) < 2147483587 by decide)
    dsimp only
    generalize (f1 + c / 2147483629 % 65537 * (kk + 5)) % 2147483587 = f2 at c0 c1 ⊢
    have d2 : f2 / 1009 ≤ f2 := Int.ediv_le_self _ c0
    have d3 : 0 ≤ f2 / 1009 := Int.ediv_nonneg c0 (by decide)
    have cm3 : CMulW f2 (f2 / 1009 + 69621 + kk) := wide_mul (a := 40) (b := 40) (Nat.lt_of_le_of_lt (show f2.natAbs ≤ 3000000000 by omega) (by decide)) (Nat.lt_of_le_of_lt (show (f2 / 1009 + 69621 + kk).natAbs ≤ 3000000000 by omega) (by decide)) (by decide) (by decide) (by decide)
    refine ⟨_, rfl, _, rfl, _, _, rfl, rfl, wide_div (b := 40) (by decide) (by decide) (by decide) (by decide), _, _, rfl, rfl, _, rfl, _, _, rfl, rfl, _, _, rfl, rfl, cm3, .inl ⟨_, rfl, _, _, rfl, rfl, (by show (0 : Int) < 2147483563; decide), ?_⟩⟩
    have g0 := Int.emod_nonneg (f2 * (f2 / 1009 + 69621 + kk)) (show (2147483563 : Int) ≠ 0 by decide)
    have g1 := Int.emod_lt_of_pos (f2 * (f2 / 1009 + 69621 + kk)) (show (0 : Int) < 2147483563 by decide)
    dsimp only
    generalize f2 * (f2 / 1009 + 69621 + kk) % 2147483563 = f3 at g0 g1 ⊢
    have h2 : f3 / 2003 ≤ f3 := Int.ediv_le_self _ g0
    have h3 : 0 ≤ f3 / 2003 := Int.ediv_nonneg g0 (by decide)
    have cm4 : CMulW f3 (f3 / 2003 + 40692) := wide_mul (a := 40) (b := 40) (Nat.lt_of_le_of_lt (show f3.natAbs ≤ 3000000000 by omega) (by decide)) (Nat.lt_of_le_of_lt (show (f3 / 2003 + 40692).natAbs ≤ 3000000000 by omega) (by decide)) (by decide) (by decide) (by decide)
    refine ⟨_, rfl, _, rfl, _, _, rfl, rfl, wide_div (b := 40) (by decide) (by decide) (by decide) (by decide), _, _, rfl, rfl, _, _, rfl, rfl, cm4, .inl ⟨_, rfl, _, _, rfl, rfl, (by show (0 : Int) < 2147483399; decide), ?_⟩⟩
    exact k _ (Int.emod_nonneg _ (by decide)) (Int.emod_lt_of_pos _ (by decide))
theorem ok_wmixed (T : LX K mg L) : Cal P w K mg base "_law_mixed" 1 L.f__law_mixed ["_law_cell", "_law_k"] (spMix) := T.d__law_mixed.cal fun fd F => fn_wmixed T F
abbrev N_wwell : List Str := ["_law_cell"]
theorem sc_wwell : FnScope N_wwell ["_law_cell"] (defScope st__law_well) := ⟨rfl, rfl, rfl, by decide +kernel, rfl, by decide +kernel, by decide +kernel⟩
theorem fn_wwell (T : LX K mg L) {fd : FuncData} (F : Fun K "_law_well" "_law_well" st__law_well L.f__law_well fd) : FnOk P w K mg base CX0 1 L.f__law_well fd ["_law_cell"] (spWell) := by
  have nd := sc_wwell.nd
  refine F.ok sc_wwell (fun vs H Q E h => ?_) (fun cdv A outer S H vs Q E hr h => ?_)
  · obtain ⟨c, rfl, _⟩ := h
    rfl
  · obtain ⟨c, rfl, k⟩ := h
    refine ⟨_, (pss_one (ps_ret (pe_lst (pa_cons (pe_op op_mul (pv 0) (pe_callTy call_int1 (by rfl) T.b_int (by decide +kernel) (pa_cons (pe_cmpR op_ge (pv 0) (pe_op op_pow pe_int pe_int) (nomark _)) pa_nil))) (pa_cons (pv 0) (pa_cons pe_int pa_nil)))))), ?_⟩
    refine ⟨_, rfl, _, rfl, _, _, rfl, rfl, ⟨by decide, by decide, by decide⟩, _, _, rfl, rfl, .inr ⟨_, rfl, _, _, rfl, rfl, ?_, ?_⟩⟩
    · refine .inr ?_
      split <;> decide
    · refine ⟨_, rfl, (by show 3 ≤ sizeLine; decide), fun l hl => ?_⟩
      refine k l _ hl (Same.upd hl) ⟨_, _, _, upd_same, ?_, Int.le_refl _, Int.le_refl _⟩
      by_cases hc : (10 : Int) ^ (18 : Int).toNat ≤ c
      · rw [decide_eq_true hc, if_pos rfl, Int.mul_one]
        exact Int.le_trans (by decide) hc
      · rw [decide_eq_false hc, if_neg Bool.false_ne_true, Int.mul_zero]
        exact Int.le_refl _
theorem ok_wwell (T : LX K mg L) : Cal P w K mg base "_law_well" 1 L.f__law_well ["_law_cell"] (spWell) := T.d__law_well.cal fun fd F => fn_wwell T F
abbrev N_wdraw : List Str := ["_law_well_here", "_law_many", "_law_found"]
theorem sc_wdraw : FnScope N_wdraw ["_law_well_here", "_law_many"] (defScope st__law_draw) := ⟨rfl, rfl, rfl, by decide +kernel, rfl, by decide +kernel, by decide +kernel⟩
theorem fn_wdraw (T : LX K mg L) {fd : FuncData} (F : Fun K "_law_draw" "_law_draw" st__law_draw L.f__law_draw fd) : FnOk P w K mg base CX0 2 L.f__law_draw fd ["_law_well_here", "_law_many"] (spNext) := by
  have G_wmixed := ok_wmixed (P := P) (w := w) (base := base) T
  have nd := sc_wdraw.nd
  refine F.ok sc_wdraw (fun vs H Q E h => ?_) (fun cdv A outer S H vs Q E hr h => ?_)
  · obtain ⟨a, m, n, rfl, _⟩ := h
    rfl
  · obtain ⟨a, m, n, rfl, m0, m1, ⟨x, y, z, ha, x0, z0, z1⟩, hn, k⟩ := h
    refine ⟨_, (pss_cons (ps_if (pt_cmpR op_gt (pe_ix (r := rIxL K) ix_list (pv 0) pe_int (fun _ _ => rfl)) pe_int (nomark _)) (pss_cons (ps_set (i := 2) nd rfl (Or.inl rfl) (pe_op op_mod (pe_callTy call_int1 (by rfl) T.b_int (by decide +kernel) (pa_cons (pe_ix (r := rIxL K) ix_list (pv 0) pe_int (fun _ _ => rfl)) pa_nil)) (pv 1)))
       (pss_cons (ps_asg (pe_op op_fdivW (pe_ix (r := rIxL K) ix_list (pv 0) pe_int (fun _ _ => rfl)) (pv 1)) (pg_sub (pv 0) pe_int set_list))
       (pss_one (ps_ret (pv 2))))) pss_nil)
       (pss_cons (ps_asg (pe_op op_add (pe_ix (r := rIxL K) ix_list (pv 0) pe_int (fun _ _ => rfl)) pe_int) (pg_sub (pv 0) pe_int set_list))
       (pss_one (ps_ret (pe_op op_mod (pe_callTy call_int1 (by rfl) T.b_int (by decide +kernel) (pa_cons (pe_c G_wmixed (hr.mono (by decide)) rfl (pa_cons (pe_ix (r := rIxL K) ix_list (pv 0) pe_int (fun _ _ => rfl)) (pa_cons (pe_ix (r := rIxL K) ix_list (pv 0) pe_int (fun _ _ => rfl)) pa_nil))) pa_nil)) (pv 1)))))), ?_⟩
    refine ⟨_, rfl, _, _, _, _, rfl, rfl, SqL.of ha, rfl, _, _, rfl, rfl, _, rfl, ?_⟩
    refine ite2 (fun c => ?_) (fun c => ?_)
    · refine ⟨_, rfl, _, _, _, _, rfl, rfl, SqL.of ha, rfl, .inl ⟨_, rfl, _, rfl, _, _, rfl, rfl, m0, ?_⟩⟩
      refine ⟨_, rfl, _, _, _, _, rfl, rfl, SqL.of ha, rfl, _, rfl, _, _, rfl, rfl, wide_div m0 m1 (by decide) (by decide), ?_⟩
      refine ⟨_, rfl, _, _, _, 0, rfl, rfl, ha, rfl, ?_⟩
      refine ⟨_, rfl, ?_⟩
      exact k _ _ (Int.emod_nonneg _ (by omega)) (Int.emod_lt_of_pos _ m0) ⟨_, _, _, upd_same, Int.ediv_nonneg x0 (by omega), z0, by omega⟩ Kp.upd
    · refine ⟨_, rfl, _, _, _, _, rfl, rfl, SqL.of ha, rfl, _, _, rfl, rfl, ?_⟩
      refine ⟨_, rfl, _, _, _, 2, rfl, rfl, ha, rfl, ?_⟩
      have hA : (upd H a (.lst [.int x, .int y, .int (z + 1)])) a = some (.lst [.int x, .int y, .int (z + 1)]) := upd_same
      refine ⟨_, rfl, _, _, _, _, rfl, rfl, SqL.of hA, rfl, _, rfl, _, _, _, _, rfl, rfl, SqL.of hA, rfl, y, z + 1, rfl, by omega, by omega, fun r r0 r1 => .inl ⟨_, rfl, _, rfl, _, _, rfl, rfl, m0, ?_⟩⟩
      exact k _ _ (Int.emod_nonneg _ (by omega)) (Int.emod_lt_of_pos _ m0) ⟨_, _, _, hA, x0, by omega, by omega⟩ Kp.upd
theorem ok_wdraw (T : LX K mg L) : Cal P w K mg base "_law_draw" 2 L.f__law_draw ["_law_well_here", "_law_many"] (spNext) := T.d__law_draw.cal fun fd F => fn_wdraw T F
abbrev N_wone : List Str := ["_law_well_here", "_law_some"]
theorem sc_wone : FnScope N_wone ["_law_well_here", "_law_some"] (defScope st__law_one) := ⟨rfl, rfl, rfl, by decide +kernel, rfl, by decide +kernel, by decide +kernel⟩
theorem fn_wone (T : LX K mg L) {fd : FuncData} (F : Fun K "_law_one" "_law_one" st__law_one L.f__law_one fd) : FnOk P w K mg base CX0 3 L.f__law_one fd ["_law_well_here", "_law_some"] (spOne) := by
  have G_wdraw := ok_wdraw (P := P) (w := w) (base := base) T
  have nd := sc_wone.nd
  refine F.ok sc_wone (fun vs H Q E h => ?_) (fun cdv A outer S H vs Q E hr h => ?_)
  · obtain ⟨a, l, xs, n, rfl, _⟩ := h
    rfl
  · obtain ⟨a, l, xs, n, rfl, hal, hl, x0, x1, hs, hn, k⟩ := h
    refine ⟨_, (pss_one (ps_ret (pe_ix (r := rIxL K) ix_list (pv 1) (pe_c G_wdraw (hr.mono (by decide)) rfl (pa_cons (pv 0) (pa_cons (pe_callB call_len_seq (by rfl) T.b_len PySem.boot_len (pa_cons (pv 1) pa_nil)) pa_nil))) (fun _ _ => rfl)))), ?_⟩
    refine ⟨_, rfl, _, rfl, _, rfl, l, xs, rfl, .inl (SqL.of hl), a, _, n, rfl, by omega, ?_, hs, hn, fun r H' r0 r1 hs' hk => ?_⟩
    · exact Nat.lt_of_le_of_lt (show ((xs.length : Int)).natAbs ≤ 100000 by omega) (by decide)
    · obtain ⟨v, hv, hm⟩ := atI_of (xs := xs) r0 r1
      exact ⟨l, xs, r, v, rfl, rfl, SqL.of (hk _ _ hal.symm hl), hv, k v H' hm hs' hk⟩
theorem ok_wone (T : LX K mg L) : Cal P w K mg base "_law_one" 3 L.f__law_one ["_law_well_here", "_law_some"] (spOne) := T.d__law_one.cal fun fd F => fn_wone T F
end
/-! ### sources kept -/
theorem src_kp {H H' : Hp} {s l : Addr} {n : Nat} (k : Kp l H H') (h : s ≠ l) (S : Src H s n) : Src H' s n := by
  obtain ⟨x, y, z, e, r⟩ := S
  exact ⟨x, y, z, k _ _ h e, r⟩
/-! ### one outage more -/
theorem vout_app : ∀ {os : List (Int × Int)} {m b e : Int}, VOut m os → (∀ o ∈ os, o.2 + 1 ≤ b) → m ≤ b → b < e → e ≤ 1000000000000000000000000000000 → VOut m (os ++ [(b, e)])
  | [], m, b, e, _, _, h1, h2, h3 => ⟨h1, h2, h3, True.intro⟩
  | o :: r, m, b, e, ⟨a1, a2, a3, a4⟩, h, h1, h2, h3 => ⟨a1, a2, a3, vout_app a4 (fun u hu => h u (List.mem_cons_of_mem _ hu)) (h o (List.mem_cons_self ..)) h2 h3⟩
/-! ### spells in order -/
theorem ch_ord {os : List (Int × Int)} {bs : List Tri} {st ph : Int} {ds : List SpD} {m : Int} (C : SpCh os bs st ph none m ds) {i i' : Nat} {d d' : SpD} {v : Int} (hi : i < i') (h : ds[i]? = some d) (h' : ds[i']? = some d') (hv : d.rcv = some v) : v < d'.first := by
  have ord : ∀ (n a : Nat) {u w : SpD}, ds[a]? = some u → ds[a + n + 1]? = some w → u.rcv.getD 0 < w.first := fun n => by
    induction n with
    | zero => exact fun a u w hu hw => ch_next C hu hw
    | succ n ih =>
      intro a u w hu hw
      have hl := (List.getElem?_eq_some_iff.mp hw).1
      obtain ⟨x, hx⟩ : ∃ x, ds[a + n + 1]? = some x := ⟨_, List.getElem?_eq_getElem (by omega)⟩
      have h1 := ih a hu hx
      have h2 := ch_next C hx hw
      obtain ⟨_, _, vx, hrx, lx, _⟩ := ch_rq C x (List.mem_of_getElem? hx)
      rw [hrx] at h2
      have h2 : vx < w.first := h2
      omega
  have := ord (i' - i - 1) i h (by rw [show i + (i' - i - 1) + 1 = i' by omega]; exact h')
  rw [hv] at this
  exact this
theorem in_spell {os : List (Int × Int)} {bs : List Tri} {st ph : Int} {ds : List SpD} {m : Int} (C : SpCh os bs st ph none m ds) {i : Nat} {d : SpD} {v x : Int} (h : ds[i]? = some d) (hv : d.rcv = some v) (h1 : d.first ≤ x) (h2 : x < v) : inSp ds x = true := by
  unfold inSp
  rw [lat_at C h h1 fun e he => by have := ch_ord C (Nat.lt_succ_self i) h he hv; omega]
  show decide (x < d.rcv.getD 0) = true
  rw [hv]
  exact decide_eq_true h2
theorem of_inSp {ds : List SpD} {x : Int} (h : inSp ds x = true) : ∃ (i : Nat) (d : SpD), ds[i]? = some d ∧ d.first ≤ x ∧ x < d.rcv.getD 0 := by
  unfold inSp at h
  cases q : lat none ds x with
  | none => rw [q] at h; cases h
  | some d =>
    rw [q] at h
    have hm : d ∈ ds := (lat_mem q).resolve_right fun z => nomatch z
    obtain ⟨i, hi⟩ := List.mem_iff_getElem?.mp hm
    exact ⟨i, d, hi, lat_first (pv := none) (fun e z => nomatch z) q, of_decide_eq_true h⟩
/-! ### the first success from a time on -/
def fsM (ts : List Tri) (st ph : Int) (os : List (Int × Int)) (z : Int) : Int := match lat none (spsOf ts st ph os) (reqA ph st z) with
  | none => reqA ph st z
  | some d => if d.rcv.getD 0 ≤ reqA ph st z then reqA ph st z else d.rcv.getD 0
theorem fs_fact {ts : List Tri} {st ph : Int} {os : List (Int × Int)} (W : RowD ts st ph) (hv : VOut 0 os) {z : Int} : isRq st ph (fsM ts st ph os z) ∧ z ≤ fsM ts st ph os z ∧ inSp (spsOf ts st ph os) (fsM ts st ph os z) = false ∧ ∀ x, isRq st ph x → z ≤ x → x < fsM ts st ph os z → inSp (spsOf ts st ph os) x = true := by
  have C := sps_ch W hv
  have s0 : 0 < st := by have := W.s0; omega
  have r1 := reqA_rq (ph := ph) s0 z
  have r2 := reqA_ge (ph := ph) s0 z
  have out : (∀ d, lat none (spsOf ts st ph os) (reqA ph st z) = some d → d.rcv.getD 0 ≤ reqA ph st z) → inSp (spsOf ts st ph os) (reqA ph st z) = false := fun h => by
    unfold inSp
    cases q : lat none (spsOf ts st ph os) (reqA ph st z) with
    | none => rfl
    | some d => exact decide_eq_false (by have := h d q; omega)
  unfold fsM
  cases q : lat none (spsOf ts st ph os) (reqA ph st z) with
  | none =>
    show isRq st ph (reqA ph st z) ∧ z ≤ reqA ph st z ∧ inSp (spsOf ts st ph os) (reqA ph st z) = false ∧ ∀ x, isRq st ph x → z ≤ x → x < reqA ph st z → inSp (spsOf ts st ph os) x = true
    exact ⟨r1, r2, out (fun d e => by rw [q] at e; cases e), fun x hx l1 l2 => by have := reqA_least s0 hx l1; omega⟩
  | some d =>
    show isRq st ph (if d.rcv.getD 0 ≤ reqA ph st z then reqA ph st z else d.rcv.getD 0) ∧ z ≤ (if d.rcv.getD 0 ≤ reqA ph st z then reqA ph st z else d.rcv.getD 0) ∧ inSp (spsOf ts st ph os) (if d.rcv.getD 0 ≤ reqA ph st z then reqA ph st z else d.rcv.getD 0) = false ∧ ∀ x, isRq st ph x → z ≤ x → x < (if d.rcv.getD 0 ≤ reqA ph st z then reqA ph st z else d.rcv.getD 0) → inSp (spsOf ts st ph os) x = true
    by_cases c : d.rcv.getD 0 ≤ reqA ph st z
    · rw [if_pos c]
      exact ⟨r1, r2, out (fun d' e => by rw [q] at e; cases e; exact c), fun x hx l1 l2 => by have := reqA_least s0 hx l1; omega⟩
    · rw [if_neg c]
      have hm : d ∈ spsOf ts st ph os := (lat_mem q).resolve_right fun z => nomatch z
      obtain ⟨i, hi⟩ := List.mem_iff_getElem?.mp hm
      have lf := lat_first (pv := none) (fun e z => nomatch z) q
      obtain ⟨rq, _, v, hr, lv, vq, _⟩ := ch_rq C d hm
      rw [hr] at c ⊢
      have c : ¬ v ≤ reqA ph st z := c
      refine ⟨vq, by show z ≤ v; omega, (sp_lats W hv hi hr).2.1, fun x hx l1 l2 => in_spell C hi hr ?_ l2⟩
      have := reqA_least s0 hx l1
      omega
def spFs (CR CS C : Addr) : Sp := fun vs H Q _ => ∃ p ts st ph os z, vs = [.ref p, .int z] ∧ TLV CR CS C H p ts st ph os ∧ 0 ≤ z ∧ z ≤ PB 4700 ∧ Q (.int (fsM ts st ph os z)) H
section
variable {P : Program} {w : World} {K : PySem.W.Frag} {mg : Str → Option Value} {base : Heap} {L : LA}
end
/-! ### the class Trains over the text as a whole -/
section
variable {P : Program} {w : World} {K : PySem.W.Frag} {mg : Str → Option Value} {base : Heap} {L : LA}
abbrev N_withplainstep : List Str := ["train", "start", "step", "count"]
theorem sc_withplainstep : FnScope N_withplainstep ["train"] (defScope st_with_plain_step) := ⟨rfl, rfl, rfl, by decide +kernel, rfl, by decide +kernel, by decide +kernel⟩
theorem fn_withplainstep (T : LX K mg L) {fd : FuncData} (F : Fun K "with_plain_step" "with_plain_step" st_with_plain_step L.f_with_plain_step fd) : FnOk P w K mg base CX0 1 L.f_with_plain_step fd ["train"] (spPlain) := by
  have nd := sc_withplainstep.nd
  refine F.ok sc_withplainstep (fun vs H Q E h => ?_) (fun cdv A outer S H vs Q E hr h => ?_)
  · obtain ⟨x, t, rfl, _⟩ := h
    rfl
  · obtain ⟨x, t, rfl, ⟨a, rfl, ha⟩, k⟩ := h
    refine ⟨_, (pss_cons (ps_asg (pv 0) (pg_tup rfl (pgs_cons (pg_name (i := 1) nd rfl (Or.inl rfl)) (pgs_cons (pg_name (i := 2) nd rfl (Or.inl rfl)) (pgs_cons (pg_name (i := 3) nd rfl (Or.inl rfl)) pgs_nil)))))
       (pss_cons (ps_if (pt_cmpR op_eq (pv 3) pe_int (nomark _)) (pss_one (ps_ret (pe_tup (pa_cons (pv 1) (pa_cons pe_int (pa_cons pe_int pa_nil)))))) pss_nil)
       (pss_one (ps_ret (pe_tup (pa_cons (pv 1) (pa_cons (pv 2) (pa_cons (pv 3) pa_nil)))))))), ?_⟩
    refine ⟨_, rfl, a, _, rfl, SqT.of ha, rfl, _, _, rfl, _, _, rfl, _, _, rfl, rfl, ?_⟩
    have sc : scal (cV t.2.2) (.int 1) = true := by cases t.2.2 <;> rfl
    refine ⟨_, rfl, sc, _, rfl, ?_⟩
    refine ite2 (fun c => ?_) (fun c => ?_)
    · have c' : t.2.2 = some 1 := by
        have c2 : cV t.2.2 = .int 1 := of_decide_eq_true c
        cases hk : t.2.2 with
        | none => rw [hk] at c2; cases c2
        | some d => rw [hk] at c2; cases c2; rfl
      refine ⟨_, rfl, (by show 3 ≤ sizeLine; decide), fun e he => ?_⟩
      have ep : plainT t = (t.1, 1, some 1) := by unfold plainT; rw [if_pos c']
      have := k e he
      rw [ep] at this
      exact this
    · have c' : ¬ t.2.2 = some 1 := fun e => c (decide_eq_true (by rw [e]; rfl))
      refine ⟨_, rfl, _, rfl, _, rfl, (by show 3 ≤ sizeLine; decide), fun e he => ?_⟩
      have ep : plainT t = t := by unfold plainT; rw [if_neg c']
      have := k e he
      rw [ep] at this
      exact this
theorem ok_withplainstep (T : LX K mg L) : Cal P w K mg base "with_plain_step" 1 L.f_with_plain_step ["train"] (spPlain) := T.d_with_plain_step.cal fun fd F => fn_withplainstep T F
end
/-! ### lists of trains in the heap -/
/-! ### joined and normal_form -/
def spNf : Sp := fun vs H Q _ => ∃ a xs ts n, vs = [.ref a] ∧ H a = some (.lst xs) ∧ Trs H xs ts ∧ Srt ts ∧ (∀ t ∈ ts, BT n t) ∧ n < 5000 ∧ ts.length ≤ 5000 ∧ ∀ l zs H', H' l = some (.lst zs) → Trs H' zs (nfs ts) → Same H H' → H l = none → Q (.ref l) H'
def spCa : Sp := fun vs H Q _ => ∃ a xs ts, vs = [.ref a] ∧ H a = some (.lst xs) ∧ Trs H xs ts ∧ (∀ t ∈ ts, OkTr t) ∧ ts.length ≤ 5000 ∧ ∀ l H', H' l = some (.lst ((ahd 0 ts).map V.int)) → Same H H' → H l = none → Q (.ref l) H'
def spTc : Sp := fun vs H Q _ => ∃ a xs ts, vs = [.ref a] ∧ H a = some (.lst xs) ∧ Trs H xs ts ∧ Srt ts ∧ ts.length ≤ 5000 ∧ ∀ H', Same H H' → Q (cV (Tot ts)) H'
def spCk : Sp := fun vs H Q _ => ∃ a xs ts n, vs = [.ref a] ∧ H a = some (.lst xs) ∧ Trs H xs ts ∧ Srt ts ∧ (∀ t ∈ ts, BT n t) ∧ n < 5000 ∧ ts.length ≤ 1000 ∧ ∀ H', Same H H' → Q .non H'
section
variable {P : Program} {w : World} {K : PySem.W.Frag} {mg : Str → Option Value} {base : Heap} {L : LA}
abbrev N_joined : List Str := ["train", "following", "start", "step", "count"]
theorem sc_joined : FnScope N_joined ["train", "following"] (defScope st_joined) := ⟨rfl, rfl, rfl, by decide +kernel, rfl, by decide +kernel, by decide +kernel⟩
theorem fn_joined (T : LX K mg L) {fd : FuncData} (F : Fun K "joined" "joined" st_joined L.f_joined fd) : FnOk P w K mg base CX0 2 L.f_joined fd ["train", "following"] (spJoin) := by
  have G_partof := ok_partof (P := P) (w := w) (base := base) T
  have nd := sc_joined.nd
  refine F.ok sc_joined (fun vs H Q E h => ?_) (fun cdv A outer S H vs Q E hr h => ?_)
  · obtain ⟨x, t, y, f, c, rfl, _⟩ := h
    rfl
  · obtain ⟨x, t, y, f, c, rfl, ⟨a, rfl, ha⟩, ⟨b, rfl, hb⟩, ht, hf, bt, bf, hc, hl, k⟩ := h
    refine ⟨_, (pss_cons (ps_asg (pv 0) (pg_tup rfl (pgs_cons (pg_name (i := 2) nd rfl (Or.inl rfl)) (pgs_cons (pg_name (i := 3) nd rfl (Or.inl rfl)) (pgs_cons (pg_name (i := 4) nd rfl (Or.inl rfl)) pgs_nil)))))
       (C8.pss_cut (ps_if (pt_cmpR op_eq (pv 4) pe_int (nomark _)) (pss_one (ps_set (i := 3) nd rfl (Or.inl rfl) (pe_op op_sub (pe_ix (r := rIxT K) ix_tup (pv 1) pe_int (fun _ _ => rfl)) (pv 2)))) pss_nil)
       (pss_cons (ps_if (pt_cmpR op_ne (pe_op op_add (pv 2) (pe_op op_mulW (pv 4) (pv 3))) (pe_ix (r := rIxT K) ix_tup (pv 1) pe_int (fun _ _ => rfl)) (nomark _)) (pss_one (ps_ret (pe_lst (pa_cons (pv 0) (pa_cons (pv 1) pa_nil))))) pss_nil)
       (pss_cons (ps_if (pt_cmpR op_ne (pe_ix (r := rIxT K) ix_tup (pv 1) pe_int (fun _ _ => rfl)) (pv 3) (nomark _)) (pss_one (ps_ret (pe_op op_cat (pe_lst (pa_cons (pe_tup (pa_cons (pv 2) (pa_cons (pv 3) (pa_cons (pe_op op_add (pv 4) pe_int) pa_nil)))) pa_nil)) (pe_c G_partof (hr.mono (by decide)) rfl (pa_cons (pv 1) (pa_cons pe_int (pa_cons (pe_ix (r := rIxT K) ix_tup (pv 1) pe_int (fun _ _ => rfl)) pa_nil))))))) pss_nil)
       (pss_cons (ps_if (pt_cmp (pc_isN (pe_ix (r := rIxT K) ix_tup (pv 1) pe_int (fun _ _ => rfl)))) (pss_one (ps_ret (pe_lst (pa_cons (pe_tup (pa_cons (pv 2) (pa_cons (pv 3) (pa_cons pe_non pa_nil)))) pa_nil)))) pss_nil)
       (pss_one (ps_ret (pe_lst (pa_cons (pe_tup (pa_cons (pv 2) (pa_cons (pv 3) (pa_cons (pe_op op_add (pv 4) (pe_ix (r := rIxT K) ix_tup (pv 1) pe_int (fun _ _ => rfl))) pa_nil)))) pa_nil))))))))), ?_⟩
    have c1 := ht.2.2 c hc
    have p1 := ht.2.1
    have q1 := hf.2.1
    have s0 := ht.1
    have start : t.1 < f.1 := lt_start ht hl
    have b1 := BB1
    have bs : t.1 ≤ BB := bt.s
    have bp : t.2.1 ≤ BB := bt.p
    have fs : f.1 ≤ BB := bf.s
    have bc : c ≤ BB + 1 := bt.cnt ht hc
    have ej : joinL t f = joinC t f c := by unfold joinL; rw [hc]
    have js : 1 ≤ joinS t f c ∧ joinS t f c ≤ BB := by
      unfold joinS
      split <;> omega
    rw [ej] at k
    refine ⟨_, rfl, a, _, rfl, SqT.of ha, rfl, _, _, rfl, _, _, rfl, _, _, rfl, rfl, ?_⟩
    refine ⟨fun σ H' => σ = [some (.ref a), some (.ref b), some (.int t.1), some (.int (joinS t f c)), some (cV (some c))] ∧ H' = H, ?_, ?_⟩
    · rw [hc]
      refine ⟨_, rfl, rfl, _, rfl, ?_⟩
      refine ite2 (fun z => ?_) (fun z => ?_)
      · have z' : c = 1 := V.int.inj (of_decide_eq_true z)
        refine ⟨_, rfl, b, _, 0, .int f.1, rfl, rfl, SqT.of hb, rfl, _, rfl, _, _, rfl, rfl, ?_⟩
        unfold joinS
        rw [if_pos z']
        exact ⟨rfl, rfl⟩
      · have z' : ¬ c = 1 := fun e => z (decide_eq_true (by rw [e]; rfl))
        unfold joinS
        rw [if_neg z']
        exact ⟨rfl, rfl⟩
    rintro σ H' ⟨rfl, rfl⟩
    unfold joinC at k
    generalize joinS t f c = st at *
    refine ⟨_, rfl, _, rfl, _, rfl, _, _, rfl, rfl, mulBB (by omega) (by omega) (by omega) (by omega), _, _, rfl, rfl, _, rfl, b, _, 0, .int f.1, rfl, rfl, SqT.of hb, rfl, rfl, _, rfl, ?_⟩
    refine ite2 (fun z => ?_) (fun z => ?_)
    · have z' : ¬ t.1 + c * st = f.1 := fun e => by
        have z2 : (!decide (V.int (t.1 + c * st) = V.int f.1)) = true := z
        rw [e] at z2
        simp at z2
      rw [if_neg z'] at k
      exact ⟨_, rfl, _, rfl, (by show 2 ≤ sizeLine; decide), fun l hl => k l _ _ upd_same (.cons ⟨a, rfl, (Same.upd hl) _ _ ha⟩ (.cons ⟨b, rfl, (Same.upd hl) _ _ hb⟩ .nil)) (Same.upd hl) hl⟩
    · have z' : t.1 + c * st = f.1 := by
        have z2 : ¬ (!decide (V.int (t.1 + c * st) = V.int f.1)) = true := z
        by_cases e : t.1 + c * st = f.1
        · exact e
        · refine absurd ?_ z2
          rw [decide_eq_false (fun w => e (V.int.inj w))]
          rfl
      rw [if_pos z'] at k
      refine ⟨_, rfl, b, _, 1, .int f.2.1, rfl, rfl, SqT.of hb, rfl, _, rfl, rfl, _, rfl, ?_⟩
      refine ite2 (fun w => ?_) (fun w => ?_)
      · have w' : ¬ f.2.1 = st := fun e => by
          rw [e] at w
          simp at w
        rw [if_neg w'] at k
        refine ⟨_, rfl, _, rfl, _, rfl, _, _, rfl, rfl, (by show 3 ≤ sizeLine; decide), fun e he => ⟨(by show 1 ≤ sizeLine; decide), fun l hl => ?_⟩⟩
        have s2 : Same H' (upd (upd H' e (.tup [.int t.1, .int st, .int (c + 1)])) l (.lst [.ref e])) := (Same.upd he).trans (Same.upd hl)
        refine ⟨_, rfl, _, rfl, b, _, 2, cV f.2.2, rfl, rfl, SqT.of (s2 _ _ hb), rfl, _, f, 1, f.2.2, rfl, ⟨b, rfl, s2 _ _ hb⟩, mulBB (by decide) (by omega) (by omega) (by have : f.2.1 ≤ BB := bf.p; omega), fun l2 zs H2 h1 h2 h3 h4 => ?_⟩
        refine ⟨l, l2, _, _, rfl, rfl, h3 _ _ upd_same, h1, ?_, fun p hp => ?_⟩
        · refine small2 (show 1 + zs.length ≤ 100000 from ?_)
          rw [h2.len]
          unfold partL
          cases f.2.2 with
          | none => simp
          | some d =>
            show 1 + (if 1 = d then [] else [(f.1 + 1 * f.2.1, f.2.1, some (d - 1))] : List Trn).length ≤ 100000
            split <;> simp
        · have s3 : Same H' (upd H2 p (.lst ([.ref e] ++ zs))) := (s2.trans h3).trans (Same.upd hp)
          refine k p _ _ upd_same ?_ s3 (none_of (s2.trans h3) hp)
          refine .cons ⟨e, rfl, (Same.upd hp) _ _ (h3 _ _ ?_)⟩ (h2.same (Same.upd hp))
          exact (Same.upd hl) _ _ upd_same
      · have w' : f.2.1 = st := by
          have w2 : ¬ (!decide (V.int f.2.1 = V.int st)) = true := w
          by_cases e : f.2.1 = st
          · exact e
          · refine absurd ?_ w2
            rw [decide_eq_false (fun w => e (V.int.inj w))]
            rfl
        rw [if_pos w'] at k
        refine ⟨_, rfl, b, _, 2, cV f.2.2, rfl, rfl, SqT.of hb, rfl, ?_⟩
        cases hk : f.2.2 with
        | none =>
          rw [hk] at k
          refine ⟨_, rfl, iteT ⟨_, rfl, _, rfl, (by show 3 ≤ sizeLine; decide), fun e he => ⟨(by show 1 ≤ sizeLine; decide), fun l hl => ?_⟩⟩⟩
          exact k l _ _ upd_same (Trs.one ⟨e, rfl, (Same.upd hl) _ _ upd_same⟩) ((Same.upd he).trans (Same.upd hl)) (none_of (Same.upd he) hl)
        | some d =>
          rw [hk] at k
          have hb2 : H' b = some (.tup [.int f.1, .int f.2.1, .int d]) := by
            rw [hb]
            unfold TrV
            rw [hk]
            rfl
          refine ⟨_, rfl, iteF ⟨_, rfl, _, rfl, _, rfl, _, rfl, b, _, 2, .int d, rfl, rfl, SqT.of hb2, rfl, _, _, rfl, rfl, (by show 3 ≤ sizeLine; decide), fun e he => ⟨(by show 1 ≤ sizeLine; decide), fun l hl => ?_⟩⟩⟩
          exact k l _ _ upd_same (Trs.one ⟨e, rfl, (Same.upd hl) _ _ upd_same⟩) ((Same.upd he).trans (Same.upd hl)) (none_of (Same.upd he) hl)
theorem ok_joined (T : LX K mg L) : Cal P w K mg base "joined" 2 L.f_joined ["train", "following"] (spJoin) := T.d_joined.cal fun fd F => fn_joined T F
end
/-! ### normal_form -/
theorem drop_of {α : Type} {xs : List α} {i : Nat} {x : α} (h : xs[i]? = some x) : xs.drop i = x :: xs.drop (i + 1) := by
  have hi := (List.getElem?_eq_some_iff.mp h).1
  rw [List.drop_eq_getElem_cons hi]
  congr 1
  exact (List.getElem?_eq_some_iff.mp h).2
structure NfW (n : Nat) (ts : List Trn) (i : Nat) (cl : List Trn) (h : Option Trn) : Prop where
  eq : nfs ts = nfG cl h (ts.drop i)
  srt : Srt (cl ++ h.toList ++ ts.drop i)
  bg : ∀ u ∈ cl ++ h.toList, BG n u
  br : ∀ u ∈ ts, BT n u
  ln : cl.length ≤ i + i
theorem NfW.start {n : Nat} {ts : List Trn} (hs : Srt ts) (hb : ∀ t ∈ ts, BT n t) : NfW n ts 0 [] none := ⟨rfl, by simpa using hs, fun u hu => by simp at hu, hb, Nat.le_refl _⟩
theorem NfW.first {n : Nat} {ts : List Trn} {i : Nat} {cl : List Trn} {f : Trn} (W : NfW n ts i cl none) (e : ts[i]? = some f) : NfW n ts (i + 1) cl (some f) := by
  have hd := drop_of e
  have h1 := W.srt
  have h2 := W.eq
  rw [hd] at h1 h2
  refine ⟨h2, ?_, fun u hu => ?_, W.br, by have := W.ln; omega⟩
  · have e2 : cl ++ (none : Option Trn).toList ++ f :: ts.drop (i + 1) = cl ++ (some f).toList ++ ts.drop (i + 1) := by simp
    rw [← e2]; exact h1
  · rcases List.mem_append.mp hu with hu | hu
    · exact W.bg u (List.mem_append_left _ hu)
    · have e3 : u = f := by simpa using hu
      rw [e3]
      exact BG.of (W.br f (List.mem_of_getElem? e))
structure NfS (n : Nat) (ts : List Trn) (i : Nat) (cl : List Trn) (t f : Trn) : Prop where
  ht : OkTr t
  hf : OkTr f
  hl : Lt t f
  bt : BT n t
  bf : BT n f
  nx : NfW n ts (i + 1) (cl ++ (joinL t f).dropLast) (joinL t f).getLast?
  ln : (joinL t f).length ≤ 2
theorem NfW.step {n : Nat} {ts : List Trn} {i : Nat} {cl : List Trn} {t f : Trn} (W : NfW n ts i cl (some t)) (e : ts[i]? = some f) : NfS n ts i cl t f := by
  have hd := drop_of e
  have hs := W.srt
  have h2 := W.eq
  rw [hd] at hs h2
  have e0 : cl ++ (some t).toList ++ f :: ts.drop (i + 1) = cl ++ (t :: f :: ts.drop (i + 1)) := by simp
  rw [e0] at hs
  obtain ⟨a1, a2, a3⟩ := List.pairwise_append.mp hs.2
  obtain ⟨b1, b2⟩ := List.pairwise_cons.mp a2
  obtain ⟨c1, c2⟩ := List.pairwise_cons.mp b2
  have ht : OkTr t := hs.1 t (by simp)
  have hf : OkTr f := hs.1 f (by simp)
  have hl := b1 f (List.mem_cons_self ..)
  have J := joinL_ok ht hf hl
  have bg : BG n t := W.bg t (by simp)
  have bf : BT n f := W.br f (List.mem_of_getElem? e)
  have hl0 := hl
  obtain ⟨c, hc, _⟩ := hl
  have k1 := ht.2.2 c hc
  obtain ⟨eg, es⟩ := joinL_split (f := f) hc k1
  obtain ⟨v, zs, ev, _, _, ez⟩ := joinL_head (f := f) hc k1
  have hlen : (joinL t f).length ≤ 2 := by
    rw [ev]
    rcases ez with rfl | ⟨u, rfl⟩ <;> simp
  have e1 : cl ++ (joinL t f).dropLast ++ ((joinL t f).getLast?).toList ++ ts.drop (i + 1) = cl ++ (joinL t f ++ ts.drop (i + 1)) := by
    rw [List.append_assoc cl, eg, List.append_assoc]
  refine ⟨ht, hf, hl0, bg.1 (by rw [hc]; intro z; cases z), bf, ⟨h2, ?_, fun u hu => ?_, W.br, ?_⟩, hlen⟩
  · rw [e1]
    refine ⟨fun u hu => ?_, List.pairwise_append.mpr ⟨a1, List.pairwise_append.mpr ⟨J.pw, c2, fun u hu v hv => J.hi v (c1 v hv) u hu⟩, fun u hu v hv => ?_⟩⟩
    · rcases List.mem_append.mp hu with hu | hu
      · exact hs.1 u (List.mem_append_left _ hu)
      · rcases List.mem_append.mp hu with hu | hu
        · exact J.ok u hu
        · exact hs.1 u (List.mem_append_right _ (List.mem_cons_of_mem _ (List.mem_cons_of_mem _ hu)))
    · have l := a3 u hu t (List.mem_cons_self ..)
      rcases List.mem_append.mp hv with hv | hv
      · exact lt_of_start l (J.lo v hv)
      · exact a3 u hu v (List.mem_cons_of_mem _ (List.mem_cons_of_mem _ hv))
  · rw [List.append_assoc, eg] at hu
    rcases List.mem_append.mp hu with hu | hu
    · exact W.bg u (List.mem_append_left _ hu)
    · exact joinL_bg ht hf hl0 bg bf u hu
  · have := W.ln
    rw [List.length_append, List.length_dropLast]
    omega
theorem NfW.all {n : Nat} {ts : List Trn} : ∀ (k i : Nat) (cl : List Trn) (h : Option Trn), k + i = ts.length → NfW n ts i cl h → ∃ cl' h', NfW n ts ts.length cl' h'
  | 0, i, cl, h, e, W => by
    have : i = ts.length := by omega
    subst this
    exact ⟨cl, h, W⟩
  | k + 1, i, cl, h, e, W => by
    have hi : i < ts.length := by omega
    have e2 := List.getElem?_eq_getElem hi
    cases h with
    | none => exact NfW.all k (i + 1) _ _ (by omega) (W.first e2)
    | some t => exact NfW.all k (i + 1) _ _ (by omega) (W.step e2).nx
theorem nfs_bt {n : Nat} {ts : List Trn} (hs : Srt ts) (hb : ∀ t ∈ ts, BT n t) : ∀ t ∈ nfs ts, BT (n + 1) t := by
  obtain ⟨cl, h, W⟩ := NfW.all ts.length 0 [] none (by omega) (NfW.start hs hb)
  intro t ht
  rw [W.eq, List.drop_length] at ht
  have ht : t ∈ cl ++ (h.map plainT).toList := ht
  rcases List.mem_append.mp ht with ht | ht
  · exact (W.bg t (List.mem_append_left _ ht)).2
  · cases h with
    | none => simp at ht
    | some u =>
      have e : t = plainT u := by simpa using ht
      rw [e]
      exact plainT_bg (W.bg u (by simp))
section
variable {P : Program} {w : World} {K : PySem.W.Frag} {mg : Str → Option Value} {base : Heap} {L : LA}
abbrev N_normalform : List Str := ["trains", "closed", "held", "train", "grown"]
theorem sc_normalform : FnScope N_normalform ["trains"] (defScope st_normal_form) := ⟨rfl, rfl, rfl, by decide +kernel, rfl, by decide +kernel, by decide +kernel⟩
theorem fn_normalform (T : LX K mg L) {fd : FuncData} (F : Fun K "normal_form" "normal_form" st_normal_form L.f_normal_form fd) : FnOk P w K mg base CX0 3 L.f_normal_form fd ["trains"] (spNf) := by
  have G_joined := ok_joined (P := P) (w := w) (base := base) T
  have G_withplainstep := ok_withplainstep (P := P) (w := w) (base := base) T
  have nd := sc_normalform.nd
  refine F.ok sc_normalform (fun vs H Q E h => ?_) (fun cdv A outer S H vs Q E hr h => ?_)
  · obtain ⟨a, xs, ts, n, rfl, _⟩ := h
    rfl
  · obtain ⟨a, xs, ts, n, rfl, ha, hx, hs, hb, hn, hln, k⟩ := h
    refine ⟨_, (pss_cons (ps_set (i := 1) nd rfl (Or.inl rfl) (pe_lst pa_nil))
       (pss_cons (ps_set (i := 2) nd rfl (Or.inl rfl) (pe_lst pa_nil))
       (pss_cons (ps_for PassesOwn.never rfl (pi_list (pv 0)) (pg_name (i := 3) nd rfl (Or.inl rfl)) (pss_cons (ps_set (i := 4) nd rfl (Or.inl rfl) (pe_ifExp (pt_truth (pv 2) (fun _ => rfl)) (pe_c G_joined (hr.mono (by decide)) rfl (pa_cons (pe_ix (r := rIxL K) ix_list (pv 2) pe_int (fun _ _ => rfl)) (pa_cons (pv 3) pa_nil))) (pe_lst (pa_cons (pv 3) pa_nil))))
       (pss_cons (ps_expr (pe_bm PySem.F.plainAttrs_list PySem.F.slot_list_extend PySem.F.type_list_extend mt_extend (pv 1) (pa_cons (pe_slice (r := rSlL K) sl_list (pv 4) po_none (po_some (pe_un un_neg pe_int))) pa_nil)))
       (pss_one (ps_set (i := 2) nd rfl (Or.inl rfl) (pe_slice (r := rSlL K) sl_list (pv 4) (po_some (pe_un un_neg pe_int)) po_none))))))
       (pss_one (ps_ret (pe_op op_cat (pv 1) (pe_lc (own := [("train", 3)]) (g := gName 3) (tt := tYes) rfl nd (pi_list (pv 2)) (blkOk_by (own := [("train", 3)]) (N := N_normalform) (sc := defScope st_normal_form) (by decide +kernel)) (fun _ _ _ _ _ => pg_name (i := 3) nd rfl (Or.inl rfl)) (fun _ _ _ _ _ => pts_nil) (fun _ _ _ _ _ => (pe_c G_withplainstep (hr.mono (by decide)) rfl (pa_cons (pv 3) pa_nil)))))))))), ?_⟩
    have hxl := hx.len
    refine ⟨(by show 0 ≤ sizeLine; decide), fun l1 hl1 => ⟨(by show 0 ≤ sizeLine; decide), fun l2 hl2 => ?_⟩⟩
    have s1 : Same H (upd H l1 (.lst [])) := Same.upd hl1
    have s2 := s1.trans (Same.upd (o := .lst []) hl2)
    have n21 : l1 ≠ l2 := ne_of_none upd_same hl2
    refine ⟨_, rfl, a, rfl, ⟨_, SqL.of (s2 _ _ ha)⟩, for_list (K := K) (a := a) (xs := xs) (fun i σ H2 => ∃ cl h lh zc zh, ∃ v3 v4 : Option V, σ = [some (.ref a), some (.ref l1), some (.ref lh), v3, v4] ∧ H2 l1 = some (.lst zc) ∧ Trs H2 zc cl ∧ H2 lh = some (.lst zh) ∧ Trs H2 zh h.toList ∧ Same H H2 ∧ lh ≠ l1 ∧ NfW n ts i cl h)
      ⟨[], none, l2, [], [], none, none, rfl, by rw [upd_ne n21, upd_same], .nil, upd_same, .nil, s2, n21.symm, NfW.start hs hb⟩ (fun i σ H2 _ ⟨_, _, _, _, _, _, _, _, _, _, _, _, sH, _⟩ => SqL.of (sH _ _ ha)) ?_ ?_⟩
    · rintro i x σ H2 hxi ⟨cl, h, lh, zc, zh, v3, v4, rfl, hc, tc, hh, th, sH, nl, W⟩
      obtain ⟨f, hf, hxf⟩ := hx.get hxi
      have hxf2 := hxf.same sH
      have hi : i < ts.length := (List.getElem?_eq_some_iff.mp hf).1
      have hwl := W.ln
      have hcl : zc.length ≤ i + i := by rw [tc.len]; exact hwl
      -- what becomes of what is held
      have go : ∀ (lg : Addr) (zg : List V) (g : List Trn) (H3 : Hp), H3 lg = some (.lst zg) → Trs H3 zg g → Same H2 H3 → H2 lg = none → g.length ≤ 2 → NfW n ts (i + 1) (cl ++ g.dropLast) g.getLast? →
          ∀ p1, H3 p1 = none → ∀ p2, (upd (upd H3 p1 (.lst (cutV zg none (some (-1))))) l1 (.lst (zc ++ cutV zg none (some (-1))))) p2 = none →
          ∃ cl' h' lh' zc' zh', ∃ v3 v4 : Option V, [some (V.ref a), some (.ref l1), some (.ref p2), some x, some (.ref lg)] = [some (.ref a), some (.ref l1), some (.ref lh'), v3, v4] ∧
            (upd (upd (upd H3 p1 (.lst (cutV zg none (some (-1))))) l1 (.lst (zc ++ cutV zg none (some (-1))))) p2 (.lst (cutV zg (some (-1)) none))) l1 = some (.lst zc') ∧
            Trs (upd (upd (upd H3 p1 (.lst (cutV zg none (some (-1))))) l1 (.lst (zc ++ cutV zg none (some (-1))))) p2 (.lst (cutV zg (some (-1)) none))) zc' cl' ∧
            (upd (upd (upd H3 p1 (.lst (cutV zg none (some (-1))))) l1 (.lst (zc ++ cutV zg none (some (-1))))) p2 (.lst (cutV zg (some (-1)) none))) lh' = some (.lst zh') ∧
            Trs (upd (upd (upd H3 p1 (.lst (cutV zg none (some (-1))))) l1 (.lst (zc ++ cutV zg none (some (-1))))) p2 (.lst (cutV zg (some (-1)) none))) zh' h'.toList ∧
            Same H (upd (upd (upd H3 p1 (.lst (cutV zg none (some (-1))))) l1 (.lst (zc ++ cutV zg none (some (-1))))) p2 (.lst (cutV zg (some (-1)) none))) ∧ lh' ≠ l1 ∧ NfW n ts (i + 1) cl' h' := by
        intro lg zg g H3 hg tg s3 hlg hgl W3 p1 hp1 p2 hp2
        have n1 : NL H2 (upd H3 p1 (.lst (cutV zg none (some (-1))))) := NL.of (s3.trans (Same.upd hp1))
        have c3 : (upd H3 p1 (.lst (cutV zg none (some (-1))))) l1 = some (.lst zc) := (s3.trans (Same.upd hp1)) _ _ hc
        have n2 := NL.upd (o := .lst (zc ++ cutV zg none (some (-1)))) c3
        have n3 : NL _ _ := NL.of (Same.upd (o := .lst (cutV zg (some (-1)) none)) hp2)
        have np : l1 ≠ p2 := ne_of_none upd_same hp2
        have tg2 := ((tg.same (Same.upd (o := .lst (cutV zg none (some (-1)))) hp1)).nl n2).nl n3
        refine ⟨cl ++ g.dropLast, g.getLast?, p2, _, _, _, _, rfl, by rw [upd_ne np, upd_same], (((tc.nl n1).nl n2).nl n3).app tg2.init, upd_same, tg2.lastL, ?_, np.symm, W3⟩
        intro b o e
        have nb1 : b ≠ l1 := ne_of_none e hl1
        have e2 := (s3.trans (Same.upd (o := .lst (cutV zg none (some (-1)))) hp1)) _ _ (sH _ _ e)
        have e3 : (upd (upd H3 p1 (.lst (cutV zg none (some (-1))))) l1 (.lst (zc ++ cutV zg none (some (-1))))) b = some o := by rw [upd_ne nb1]; exact e2
        exact (Same.upd hp2) _ _ e3
      have fin : ∀ (lg : Addr) (zg : List V) (g : List Trn) (H3 : Hp), H3 lg = some (.lst zg) → Trs H3 zg g → Same H2 H3 → H2 lg = none → g.length ≤ 2 → ∀ p1, H3 p1 = none →
          (upd H3 p1 (.lst (cutV zg none (some (-1))))) l1 = some (.lst zc) ∧ (upd H3 p1 (.lst (cutV zg none (some (-1))))) p1 = some (.lst (cutV zg none (some (-1)))) ∧ zc.length + (cutV zg none (some (-1))).length ≤ sizeLine ∧ (upd H3 p1 (.lst (cutV zg none (some (-1))))) lg = some (.lst zg) := by
        intro lg zg g H3 hg tg s3 hlg hgl p1 hp1
        refine ⟨(s3.trans (Same.upd hp1)) _ _ hc, upd_same, small2 ?_, (Same.upd hp1) _ _ hg⟩
        have e1 := cutV_length zg none (some (-1))
        have e2 := tg.len
        omega
      have sq : ∀ (lg : Addr) (zg : List V) (H3 : Hp) (p1 : Addr), lg ≠ l1 → (upd H3 p1 (.lst (cutV zg none (some (-1))))) lg = some (.lst zg) → (upd (upd H3 p1 (.lst (cutV zg none (some (-1))))) l1 (.lst (zc ++ cutV zg none (some (-1))))) lg = some (.lst zg) := fun lg zg H3 p1 ne e => by
        rw [upd_ne ne]; exact e
      cases h with
      | none =>
        have zh0 : zh = [] := by
          have := th.len
          simpa using this
        subst zh0
        have Wn := W.first hf
        refine ⟨_, rfl, false, .inl ⟨[], SqL.of hh, rfl⟩, iteF ⟨_, rfl, (by show 1 ≤ sizeLine; decide), fun lg hlg => ?_⟩⟩
        have ng : lg ≠ l1 := (ne_of_none hc hlg).symm
        have tg : Trs (upd H2 lg (.lst [x])) [x] [f] := Trs.one (hxf2.same (Same.upd hlg))
        refine ⟨_, rfl, .inl ⟨rfl, _, SqL.of ((Same.upd hlg) _ _ hc)⟩, _, rfl, 1, rfl, -1, rfl, lg, [x], rfl, SqL.of upd_same, fun p1 hp1 => ?_⟩
        obtain ⟨g1, g2, g3, g4⟩ := fin lg [x] [f] _ upd_same tg (Same.upd hlg) hlg (by show 1 ≤ 2; decide) p1 hp1
        refine ⟨l1, p1, zc, _, rfl, rfl, g1, g2, g3, ?_⟩
        refine ⟨_, rfl, 1, rfl, -1, rfl, lg, [x], rfl, SqL.of (sq lg [x] _ p1 ng g4), fun p2 hp2 => ?_⟩
        exact go lg [x] [f] _ upd_same tg (Same.upd hlg) hlg (by show 1 ≤ 2; decide) (by simpa using Wn) p1 hp1 p2 hp2
      | some t =>
        obtain ⟨y, zh0, hy⟩ : ∃ y, zh = [y] ∧ TrAt H2 y t := by
          cases th with
          | cons r tl =>
            cases tl
            exact ⟨_, rfl, r⟩
        subst zh0
        have S := W.step hf
        obtain ⟨ct, hct, _⟩ := S.hl
        refine ⟨_, rfl, true, .inl ⟨[y], SqL.of hh, rfl⟩, iteT ⟨_, rfl, lh, _, 0, y, rfl, rfl, SqL.of hh, rfl, _, rfl, y, t, x, f, ct, rfl, hy, hxf2, S.ht, S.hf, S.bt.le (by omega), S.bf.le (by omega), hct, S.hl, fun lg zg H3 hg tg s3 hlg => ?_⟩⟩
        have ng : lg ≠ l1 := (ne_of_none hc hlg).symm
        refine ⟨_, rfl, .inl ⟨rfl, _, SqL.of (s3 _ _ hc)⟩, _, rfl, 1, rfl, -1, rfl, lg, zg, rfl, SqL.of hg, fun p1 hp1 => ?_⟩
        obtain ⟨g1, g2, g3, g4⟩ := fin lg zg _ _ hg tg s3 hlg S.ln p1 hp1
        refine ⟨l1, p1, zc, _, rfl, rfl, g1, g2, g3, ?_⟩
        refine ⟨_, rfl, 1, rfl, -1, rfl, lg, zg, rfl, SqL.of (sq lg zg _ p1 ng g4), fun p2 hp2 => ?_⟩
        exact go lg zg _ _ hg tg s3 hlg S.ln S.nx p1 hp1 p2 hp2
    · rintro σ H2 ⟨cl, h, lh, zc, zh, v3, v4, rfl, hc, tc, hh, th, sH, nl, W⟩
      have We := W.eq
      have hwl := W.ln
      rw [hxl, List.drop_length] at We
      have We : nfs ts = cl ++ (h.map plainT).toList := We
      refine ⟨_, rfl, _, rfl, lh, rfl, ⟨_, SqL.of hh⟩, fun E1 hE => ?_⟩
      have hzh : zh.length = h.toList.length := th.len
      refine lc_list (K := K) (a := lh) (xs := zh) (fun j H3 => ∃ ws, H3 E1 = some (.lst ws) ∧ Trs H3 ws ((h.toList.map plainT).take j) ∧ Same H2 H3) ⟨[], upd_same, .nil, Same.upd hE⟩ (fun j H3 _ ⟨_, _, _, s⟩ => SqL.of (s _ _ hh)) ?_ ?_
      · rintro j y H3 hy ⟨ws, hD, tw, s3⟩
        obtain ⟨t, ht, hyt⟩ := th.get hy
        have hj : ws.length ≤ 1 := by
          rw [tw.len, List.length_take, List.length_map]
          have : h.toList.length ≤ 1 := by cases h <;> simp
          omega
        refine ⟨rfl, tYes_of ⟨_, rfl, y, t, rfl, hyt.same s3, fun p hp => ?_⟩⟩
        have s4 : Same H3 (upd H3 p (.tup (TrV (plainT t)))) := Same.upd hp
        refine ⟨ws, s4 _ _ hD, small1 (by omega), ws ++ [.ref p], upd_same, ?_, fun b o e => ?_⟩
        · have n5 := NL.upd (o := .lst (ws ++ [.ref p])) (s4 _ _ hD)
          rw [List.take_add_one, List.getElem?_map, ht]
          exact ((tw.same s4).nl n5).app (Trs.one ⟨p, rfl, n5 _ _ upd_same fun _ z => nomatch z⟩)
        · rw [upd_ne (ne_of_none e hE)]
          exact s4 _ _ (s3 _ _ e)
      · rintro H3 ⟨ws, hD, tw, s3⟩
        have e1 : (h.toList.map plainT).take zh.length = (h.map plainT).toList := by
          rw [hzh]
          cases h <;> rfl
        rw [e1] at tw
        have hw : ws.length ≤ 1 := by
          rw [tw.len]
          cases h <;> simp
        refine ⟨l1, E1, zc, ws, rfl, rfl, s3 _ _ hc, hD, small2 (by have := tc.len; omega), fun p hp => ?_⟩
        have s4 := Same.upd (o := .lst (zc ++ ws)) hp
        refine k p (zc ++ ws) _ upd_same ?_ ((sH.trans s3).trans s4) (none_of (sH.trans s3) hp)
        rw [We]
        exact ((tc.same s3).same s4).app (tw.same s4)
theorem ok_normalform (T : LX K mg L) : Cal P w K mg base "normal_form" 3 L.f_normal_form ["trains"] (spNf) := T.d_normal_form.cal fun fd F => fn_normalform T F
end
/-! ### counts, totals, checks -/
section
variable {P : Program} {w : World} {K : PySem.W.Frag} {mg : Str → Option Value} {base : Heap} {L : LA}
end
/-! ### rows and outages drawn, small -/
def OkS (ts : List Tri) (st ph : Int) : Prop := (∀ t ∈ ts, OkT t ∧ t.2.1 ≤ 12 ∧ t.1 ≤ 4) ∧ ts.length ≤ 4 ∧ 1 ≤ st ∧ st ≤ 4 ∧ 0 ≤ ph ∧ ph ≤ 5
def LnAt (H : Hp) (t l : Addr) (xs : List V) (ts : List Tri) (st ph : Int) : Prop := H t = some (.tup [.ref l, .int st, .int ph]) ∧ H l = some (.lst xs) ∧ Brs H xs ts
def spLRow : Sp := fun vs H Q _ => ∃ (s : Addr) (n : Nat), vs = [.ref s] ∧ Src H s n ∧ n ≤ 500000 ∧ ∀ t l xs ts st ph H', LnAt H' t l xs ts st ph → OkS ts st ph → Src H' s (n + 100) → Kp s H H' → H t = none → H l = none → Q (.ref t) H'
def spLDowns : Sp := fun vs H Q _ => ∃ (s : Addr) (n : Nat) (m : Int), vs = [.ref s, .int m] ∧ Src H s n ∧ n ≤ 500000 ∧ 0 ≤ m ∧ m ≤ 12 ∧
  ∀ l xs os H', H' l = some (.lst xs) → Ots H' xs (outs os) → VOut 0 os → (os.length : Int) ≤ m → (∀ o ∈ os, o.2 ≤ 800) → Src H' s (n + 100) → Kp s H H' → H l = none → Q (.ref l) H'
def spLMade (C : Addr) : Sp := fun vs H Q _ => ∃ t l xs ts st ph, vs = [.ref t] ∧ LnAt H t l xs ts st ph ∧ RowD ts st ph ∧ ∀ r B H', RowAt C H' r B xs ts st ph → Same H H' → H r = none → Q (.ref r) H'
def spLUntil : Sp := fun vs H Q _ => ∃ a zs, ∃ os : List (Int × Int), vs = [.ref a] ∧ H a = some (.lst zs) ∧ Ots H zs (outs os) ∧ os.length ≤ 50 ∧ ∀ u H', (os = [] → u = 0) → (os ≠ [] → u ∈ os.map Prod.snd ∧ ∀ z ∈ os.map Prod.snd, z ≤ u) → Same H H' → Q (.int (u + 100)) H'
section
variable {P : Program} {w : World} {K : PySem.W.Frag} {mg : Str → Option Value} {base : Heap} {L : LA}
abbrev N_wrow : List Str := ["_law_well_here", "_law_specs", "_law_k"]
theorem sc_wrow : FnScope N_wrow ["_law_well_here"] (defScope st__law_row) := ⟨rfl, rfl, rfl, by decide +kernel, rfl, by decide +kernel, by decide +kernel⟩
theorem fn_wrow (T : LX K mg L) {fd : FuncData} (F : Fun K "_law_row" "_law_row" st__law_row L.f__law_row fd) : FnOk P w K mg base CX0 3 L.f__law_row fd ["_law_well_here"] (spLRow) := by
  have G_wdraw := ok_wdraw (P := P) (w := w) (base := base) T
  have nd := sc_wrow.nd
  refine F.ok sc_wrow (fun vs H Q E h => ?_) (fun cdv A outer S H vs Q E hr h => ?_)
  · obtain ⟨s, n, rfl, _⟩ := h
    rfl
  · obtain ⟨s, n, rfl, src, hn, k⟩ := h
    refine ⟨_, (pss_cons (ps_set (i := 1) nd rfl (Or.inl rfl) (pe_lst pa_nil))
       (pss_cons (ps_for PassesOwn.never rfl (pi_range1 rfl T.b_range (pa_cons (pe_c G_wdraw (hr.mono (by decide)) rfl (pa_cons (pv 0) (pa_cons pe_int pa_nil))) pa_nil)) (pg_name (i := 2) nd rfl (Or.inl rfl)) (pss_one (ps_expr (pe_bm PySem.F.plainAttrs_list PySem.F.slot_list_append PySem.F.type_list_append mt_append (pv 1) (pa_cons (pe_tup (pa_cons (pe_op op_add pe_int (pe_c G_wdraw (hr.mono (by decide)) rfl (pa_cons (pv 0) (pa_cons pe_int pa_nil)))) (pa_cons (pe_op op_add pe_int (pe_c G_wdraw (hr.mono (by decide)) rfl (pa_cons (pv 0) (pa_cons pe_int pa_nil)))) (pa_cons (pe_op op_add pe_int (pe_c G_wdraw (hr.mono (by decide)) rfl (pa_cons (pv 0) (pa_cons pe_int pa_nil)))) pa_nil)))) pa_nil)))))
       (pss_one (ps_ret (pe_tup (pa_cons (pv 1) (pa_cons (pe_op op_add pe_int (pe_c G_wdraw (hr.mono (by decide)) rfl (pa_cons (pv 0) (pa_cons pe_int pa_nil)))) (pa_cons (pe_c G_wdraw (hr.mono (by decide)) rfl (pa_cons (pv 0) (pa_cons pe_int pa_nil))) pa_nil)))))))), ?_⟩
    obtain ⟨ys, hys⟩ := src.has
    refine ⟨(by show 0 ≤ sizeLine; decide), fun l1 hl1 => ?_⟩
    have s1 := Same.upd (o := .lst []) hl1
    have nls : s ≠ l1 := ne_of_none hys hl1
    refine ⟨_, rfl, s, 5, n, rfl, by decide, by decide, src.same s1, by omega, fun q H1 q0 q1 src1 k1 => ?_⟩
    refine ⟨q, rfl, by omega, by omega, ?_⟩
    refine for_range (lo := 0) (n := q.toNat) (fun j σ H2 => ∃ v2 : Option V, ∃ zs ts, σ = [some (.ref s), some (.ref l1), v2] ∧ H2 l1 = some (.lst zs) ∧ Brs H2 zs ts ∧ (∀ t ∈ ts, OkT t ∧ t.2.1 ≤ 12 ∧ t.1 ≤ 4) ∧ zs.length ≤ j ∧ Kp s H H2 ∧ Src H2 s (n + 1 + 3 * j))
      ⟨none, [], [], rfl, k1 _ _ nls.symm upd_same, .nil, fun t ht => (nomatch ht), Nat.le_refl _, (Kp.of s1).trans k1, src1⟩ ?_ ?_
    · rintro j σ H2 hj ⟨v2, zs, ts, rfl, h2, hb, ok, zl, k2, src2⟩
      refine ⟨_, rfl, .inl ⟨rfl, _, SqL.of h2⟩, _, rfl, s, 4, _, rfl, by decide, by decide, src2, by omega, fun fa H3 fa0 fa1 src3 k3 => ⟨_, _, rfl, rfl, _, rfl, s, 12, _, rfl, by decide, by decide, src3, by omega, fun wt H4 wt0 wt1 src4 k4 => ⟨_, _, rfl, rfl, _, rfl, s, 4, _, rfl, by decide, by decide, src4, by omega, fun su H5 su0 su1 src5 k5 => ⟨_, _, rfl, rfl, (by show 3 ≤ sizeLine; decide), fun tp htp => ?_⟩⟩⟩⟩
      have h25 := k5 _ _ nls.symm (k4 _ _ nls.symm (k3 _ _ nls.symm h2))
      have s6 := Same.upd (o := .tup [.int (1 + fa), .int (1 + wt), .int (1 + su)]) htp
      have h26 := s6 _ _ h25
      refine ⟨l1, _, _, rfl, rfl, h26, small1 (by omega), ?_⟩
      have n7 := NL.upd (o := .lst (zs ++ [.ref tp])) h26
      obtain ⟨y2, hy2⟩ := src2.has
      obtain ⟨y3, hy3⟩ := src3.has
      obtain ⟨y4, hy4⟩ := src4.has
      have nl25 : NL H2 H5 := ((Kp.nl k3 hy2).trans (Kp.nl k4 hy3)).trans (Kp.nl k5 hy4)
      refine ⟨_, zs ++ [.ref tp], ts ++ [(1 + fa, 1 + wt, 1 + su)], rfl, upd_same, ?_, fun t ht => ?_, by rw [List.length_append]; show zs.length + 1 ≤ j + 1; omega, fun u w nu e => ?_, ?_⟩
      · exact Brs.app (((hb.nl nl25).nl (NL.of s6)).nl n7) (.cons ⟨tp, rfl, n7 _ _ upd_same fun _ z => nomatch z⟩ .nil)
      · rcases List.mem_append.mp ht with ht | ht
        · exact ok t ht
        · rw [List.mem_singleton.mp ht]
          show (1 ≤ 1 + fa ∧ 1 + fa ≤ 1000000000000 ∧ 1 ≤ 1 + wt ∧ 1 + wt ≤ 1000000000000000000000000000000 ∧ 1 ≤ 1 + su ∧ 1 + su ≤ 1000000000000) ∧ 1 + wt ≤ 12 ∧ 1 + fa ≤ 4
          exact ⟨⟨by omega, by omega, by omega, by omega, by omega, by omega⟩, by omega, by omega⟩
      · rw [upd_ne (ne_of_none e hl1)]
        exact s6 _ _ (k5 _ _ nu (k4 _ _ nu (k3 _ _ nu (k2 _ _ nu e))))
      · refine src_kp ?_ nls (src5.same s6 |>.mono (by omega))
        exact Kp.upd
    · rintro σ H2 ⟨v2, zs, ts, rfl, h2, hb, ok, zl, k2, src2⟩
      have bl := Brs.len hb
      refine ⟨_, rfl, _, rfl, s, 4, _, rfl, by decide, by decide, src2, by omega, fun e1 H3 e10 e11 src3 k3 => ⟨_, _, rfl, rfl, _, rfl, s, 6, _, rfl, by decide, by decide, src3, by omega, fun e2 H4 e20 e21 src4 k4 => ⟨(by show 3 ≤ sizeLine; decide), fun tq htq => ?_⟩⟩⟩
      obtain ⟨y2, hy2⟩ := src2.has
      obtain ⟨y3, hy3⟩ := src3.has
      have s5 := Same.upd (o := .tup [.ref l1, .int (1 + e1), .int e2]) htq
      have k25 := ((k2.trans k3).trans k4).trans (Kp.of s5)
      have fresh : H tq = none := by
        cases c : H tq with
        | none => rfl
        | some o =>
          by_cases z : tq = s
          · obtain ⟨y, hy⟩ := src4.has
            rw [z, hy] at htq
            cases htq
          · rw [((k2.trans k3).trans k4) _ _ z c] at htq
            cases htq
      exact k tq l1 zs ts (1 + e1) e2 _ ⟨upd_same, s5 _ _ (k4 _ _ nls.symm (k3 _ _ nls.symm h2)), ((hb.nl (Kp.nl k3 hy2)).nl (Kp.nl k4 hy3)).nl (NL.of s5)⟩ ⟨ok, by omega, by omega, by omega, by omega, by omega⟩ ((src4.same s5).mono (by omega)) k25 fresh hl1
theorem ok_wrow (T : LX K mg L) : Cal P w K mg base "_law_row" 3 L.f__law_row ["_law_well_here"] (spLRow) := T.d__law_row.cal fun fd F => fn_wrow T F
abbrev N_wdowns : List Str := ["_law_well_here", "_law_most", "_law_found", "_law_time", "_law_k", "_law_begin_here", "_law_end"]
theorem sc_wdowns : FnScope N_wdowns ["_law_well_here", "_law_most"] (defScope st__law_downs) := ⟨rfl, rfl, rfl, by decide +kernel, rfl, by decide +kernel, by decide +kernel⟩
theorem fn_wdowns (T : LX K mg L) {fd : FuncData} (F : Fun K "_law_downs" "_law_downs" st__law_downs L.f__law_downs fd) : FnOk P w K mg base CX0 4 L.f__law_downs fd ["_law_well_here", "_law_most"] (spLDowns) := by
  have G_wdraw := ok_wdraw (P := P) (w := w) (base := base) T
  have G_wone := ok_wone (P := P) (w := w) (base := base) T
  have nd := sc_wdowns.nd
  refine F.ok sc_wdowns (fun vs H Q E h => ?_) (fun cdv A outer S H vs Q E hr h => ?_)
  · obtain ⟨s, n, m, rfl, _⟩ := h
    rfl
  · obtain ⟨s, n, m, rfl, src, hn, m0, m1, k⟩ := h
    refine ⟨_, (pss_cons (ps_par (i := 2) (j := 3) (by rfl) nd rfl rfl (by decide) rfl rfl (pa_cons (pe_lst pa_nil) (pa_cons pe_int pa_nil)) (by rfl))
       (pss_cons (ps_for PassesOwn.never rfl (pi_range1 rfl T.b_range (pa_cons (pe_c G_wdraw (hr.mono (by decide)) rfl (pa_cons (pv 0) (pa_cons (pe_op op_add (pv 1) pe_int) pa_nil))) pa_nil)) (pg_name (i := 4) nd rfl (Or.inl rfl)) (pss_cons (ps_set (i := 5) nd rfl (Or.inl rfl) (pe_op op_add (pv 3) (pe_c G_wdraw (hr.mono (by decide)) rfl (pa_cons (pv 0) (pa_cons pe_int pa_nil)))))
       (pss_cons (ps_set (i := 6) nd rfl (Or.inl rfl) (pe_op op_add (pe_op op_add (pv 5) pe_int) (pe_c G_wone (hr.mono (by decide)) rfl (pa_cons (pv 0) (pa_cons (pe_lst (pa_cons (pe_c G_wdraw (hr.mono (by decide)) rfl (pa_cons (pv 0) (pa_cons pe_int pa_nil))) (pa_cons (pe_c G_wdraw (hr.mono (by decide)) rfl (pa_cons (pv 0) (pa_cons pe_int pa_nil))) pa_nil))) pa_nil)))))
       (pss_cons (ps_expr (pe_bm PySem.F.plainAttrs_list PySem.F.slot_list_append PySem.F.type_list_append mt_append (pv 2) (pa_cons (pe_tup (pa_cons (pv 5) (pa_cons (pv 6) pa_nil))) pa_nil)))
       (pss_one (ps_set (i := 3) nd rfl (Or.inl rfl) (pe_op op_add (pv 6) pe_int)))))))
       (pss_one (ps_ret (pv 2))))), ?_⟩
    obtain ⟨ys, hys⟩ := src.has
    refine ⟨(by show 0 ≤ sizeLine; decide), fun l1 hl1 => ⟨_, _, rfl, ?_⟩⟩
    have s1 := Same.upd (o := .lst []) hl1
    have nls : s ≠ l1 := ne_of_none hys hl1
    refine ⟨_, rfl, _, rfl, _, _, rfl, rfl, s, m + 1, n, rfl, by omega, Nat.lt_of_le_of_lt (show (m + 1).natAbs ≤ 13 by omega) (by decide +kernel), src.same s1, by omega, fun q H1 q0 q1 src1 k1 => ?_⟩
    refine ⟨q, rfl, by omega, by omega, ?_⟩
    refine for_range (lo := 0) (n := q.toNat) (fun j σ H2 => ∃ v4 v5 v6 : Option V, ∃ lo zs os, σ = [some (.ref s), some (.int m), some (.ref l1), some (.int lo), v4, v5, v6] ∧ H2 l1 = some (.lst zs) ∧ Ots H2 zs (outs os) ∧ VOut 0 os ∧ (∀ o ∈ os, o.2 + 1 ≤ lo) ∧ os.length ≤ j ∧ 0 ≤ lo ∧ lo ≤ j * 60 ∧ Kp s H H2 ∧ Src H2 s (n + 1 + 4 * j))
      ⟨none, none, none, 0, [], [], rfl, k1 _ _ nls.symm upd_same, .nil, True.intro, fun o ho => (nomatch ho), Nat.le_refl _, Int.le_refl _, by omega, (Kp.of s1).trans k1, src1⟩ ?_ ?_
    · rintro j σ H8 hj ⟨v4, v5, v6, lo, zs2, os, rfl, h8, hz, vo, ol, ln, lo0, lo1, k8, src8⟩
      refine ⟨_, rfl, _, rfl, s, 20, _, rfl, by decide, by decide, src8, by omega, fun b0 H9 b00 b01 src9 k9 => ⟨_, _, rfl, rfl, ?_⟩⟩
      refine ⟨_, rfl, _, _, rfl, rfl, _, rfl, _, rfl, s, 3, _, rfl, by decide, by decide, src9, by omega, fun c1 HX c10 c11 srcX kX => ⟨_, rfl, s, 30, _, rfl, by decide, by decide, srcX, by omega, fun c2 HY c20 c21 srcY kY => ⟨(by show 2 ≤ sizeLine; decide), fun lo5 hlo5 => ?_⟩⟩⟩
      have sl := Same.upd (o := .lst [.int c1, .int c2]) hlo5
      have nsl : s ≠ lo5 := fun e => by
        obtain ⟨y, hy⟩ := srcY.has
        rw [← e, hy] at hlo5
        cases hlo5
      refine ⟨s, lo5, _, _, rfl, nsl, upd_same, Nat.succ_pos _, (by show 2 ≤ 100000; decide), srcY.same sl, by omega, fun v HA hv srcA kA => ?_⟩
      obtain ⟨c0, rfl, c00, c01⟩ : ∃ c0, v = .int c0 ∧ 0 ≤ c0 ∧ c0 < 30 := by
        simp only [List.mem_cons, List.mem_nil_iff, or_false] at hv
        rcases hv with rfl | rfl
        · exact ⟨_, rfl, by omega, by omega⟩
        · exact ⟨_, rfl, by omega, by omega⟩
      have k9A : Kp s H8 HA := (((k9.trans kX).trans kY).trans (Kp.of sl)).trans kA
      refine ⟨_, _, rfl, rfl, ?_⟩
      have hA := k9A _ _ nls.symm h8
      refine ⟨_, rfl, .inl ⟨rfl, _, SqL.of hA⟩, _, rfl, _, rfl, (by show 2 ≤ sizeLine; decide), fun tp htp => ?_⟩
      have sB := Same.upd (o := .tup [.int (lo + b0), .int (lo + b0 + 1 + c0)]) htp
      have hB := sB _ _ hA
      have zl2 := paired_len hz
      rw [outs_len] at zl2
      refine ⟨l1, _, _, rfl, rfl, hB, small1 (by omega), ?_⟩
      have nC := NL.upd (o := .lst (zs2 ++ [.ref tp])) hB
      obtain ⟨y8, hy8⟩ := src8.has
      have nl8C := ((Kp.nl k9A hy8).trans (NL.of sB)).trans nC
      refine ⟨_, rfl, _, _, rfl, rfl, ?_⟩
      refine ⟨_, _, _, _, zs2 ++ [.ref tp], os ++ [(lo + b0, lo + b0 + 1 + c0)], rfl, upd_same, ?_, vout_app vo (fun o ho => by have := ol o ho; omega) (by omega) (by omega) (by omega), fun o ho => ?_, by rw [List.length_append]; show os.length + 1 ≤ j + 1; omega, by omega, by omega, fun u w nu e => ?_, ?_⟩
      · have e : outs (os ++ [(lo + b0, lo + b0 + 1 + c0)]) = outs os ++ [(lo + b0, some (lo + b0 + 1 + c0))] := by
          unfold outs
          rw [List.map_append]
          rfl
        rw [e]
        exact paired_app (hz.nl nl8C) (.cons ⟨tp, rfl, nC _ _ upd_same fun _ z => nomatch z⟩ .nil)
      · rcases List.mem_append.mp ho with ho | ho
        · have := ol o ho
          omega
        · rw [List.mem_singleton.mp ho]
          exact Int.le_refl _
      · rw [upd_ne (ne_of_none e hl1)]
        exact sB _ _ (k9A _ _ nu (k8 _ _ nu e))
      · refine src_kp ?_ nls ((srcA.same sB).mono (by omega))
        exact Kp.upd
    · rintro σ H2 ⟨v4, v5, v6, lo, zs2, os, rfl, h2, hz, vo, ol, ln, lo0, lo1, k2, src2⟩
      exact ⟨_, rfl, k l1 zs2 os H2 h2 hz vo (by omega) (fun o ho => by have := ol o ho; omega) (src2.mono (by omega)) k2 hl1⟩
theorem ok_wdowns (T : LX K mg L) : Cal P w K mg base "_law_downs" 4 L.f__law_downs ["_law_well_here", "_law_most"] (spLDowns) := T.d__law_downs.cal fun fd F => fn_wdowns T F
abbrev N_wmade : List Str := ["_law_line", "_law_specs", "_law_step", "_law_shift"]
theorem sc_wmade : FnScope N_wmade ["_law_line"] (defScope st__law_made) := ⟨rfl, rfl, rfl, by decide +kernel, rfl, by decide +kernel, by decide +kernel⟩
theorem fn_wmade (T : LX K mg L) {fd : FuncData} (F : Fun K "_law_made" "_law_made" st__law_made L.f__law_made fd) : FnOk P w K mg base CX0 9 L.f__law_made fd ["_law_line"] (spLMade L.c_Row) := by
  have nd := sc_wmade.nd
  refine F.ok sc_wmade (fun vs H Q E h => ?_) (fun cdv A outer S H vs Q E hr h => ?_)
  · obtain ⟨t, l, xs, ts, st, ph, rfl, _⟩ := h
    rfl
  · obtain ⟨t, l, xs, ts, st, ph, rfl, ⟨ht, hl, hb⟩, W, k⟩ := h
    refine ⟨_, (pss_cons (ps_asg (pv 0) (pg_tup rfl (pgs_cons (pg_name (i := 1) nd rfl (Or.inl rfl)) (pgs_cons (pg_name (i := 2) nd rfl (Or.inl rfl)) (pgs_cons (pg_name (i := 3) nd rfl (Or.inl rfl)) pgs_nil)))))
       (pss_one (ps_ret (pe_mkRow_p_phase T (hr.mono (by decide)) rfl (pa_cons (pe_callTy call_list_of (by rfl) T.b_list (by decide +kernel) (pa_cons (pv 1) pa_nil)) (pa_cons (pv 2) pa_nil)) (pk_cons (pv 3) pk_nil))))), ?_⟩
    refine ⟨_, rfl, t, _, rfl, SqT.of ht, rfl, _, _, rfl, _, _, rfl, _, _, rfl, rfl, ?_⟩
    refine ⟨_, rfl, l, _, rfl, .inl (SqL.of hl), fun l2 hl2 => ⟨_, rfl, _, rfl, rfl, rfl, ?_⟩⟩
    have s2 := Same.upd (o := .lst xs) hl2
    refine row_made (xs := xs) (ts := ts) upd_same (hb.nl (NL.of s2)) W.ok W.ln ⟨W.s0, W.s1, W.p0, W.p1⟩ fun r B H5 R5 s5 nr5 => ?_
    exact k r B H5 R5 (s2.trans s5) (none_of s2 nr5)
theorem ok_wmade (T : LX K mg L) : Cal P w K mg base "_law_made" 9 L.f__law_made ["_law_line"] (spLMade L.c_Row) := T.d__law_made.cal fun fd F => fn_wmade T F
end
/-! ### a last outage without end -/
theorem rec_app {g : List Trn} {b : Int} : ∀ {l : List (Int × Int)}, l ≠ [] → (∀ o ∈ l, o.1 < b) →
    (∃ r k, k ≤ l.length ∧ 1 ≤ k ∧ r < b ∧ (∃ e, nxT g e = some r) ∧ ∀ x, recM g (outs l ++ [(b, x)]) = (some r, k)) ∨ (∀ x, recM g (outs l ++ [(b, x)]) = ((recM g [(b, x)]).1, l.length + 1)) ∨ ∃ e, nxT g e = none
  | [], h, _ => absurd rfl h
  | [o], _, ho => by
    have e : ∀ x, recM g (outs [o] ++ [(b, x)]) = if (nxT g o.2).getD 0 < b then (nxT g o.2, 1) else ((recM g [(b, x)]).1, (recM g [(b, x)]).2 + 1) := fun x => rfl
    have e2 : ∀ x, (recM g [(b, x)]).2 = 1 := fun x => by cases x <;> rfl
    cases hn : nxT g o.2 with
    | none => exact .inr (.inr ⟨_, hn⟩)
    | some r =>
      by_cases c : r < b
      · refine .inl ⟨r, 1, Nat.le_refl _, Nat.le_refl _, c, ⟨_, hn⟩, fun x => ?_⟩
        rw [e, hn]
        exact if_pos c
      · refine .inr (.inl fun x => ?_)
        rw [e, hn, e2]
        exact if_neg c
  | o :: o2 :: r, _, ho => by
    have e : ∀ x, recM g (outs (o :: o2 :: r) ++ [(b, x)]) = if (nxT g o.2).getD 0 < o2.1 then (nxT g o.2, 1) else ((recM g (outs (o2 :: r) ++ [(b, x)])).1, (recM g (outs (o2 :: r) ++ [(b, x)])).2 + 1) := fun x => rfl
    have hb := ho o2 (List.mem_cons_of_mem _ (List.mem_cons_self ..))
    cases hn : nxT g o.2 with
    | none => exact .inr (.inr ⟨_, hn⟩)
    | some y =>
      by_cases c : y < o2.1
      · refine .inl ⟨y, 1, by rw [List.length_cons]; omega, Nat.le_refl _, by omega, ⟨_, hn⟩, fun x => ?_⟩
        rw [e, hn]
        exact if_pos c
      · rcases rec_app (g := g) (b := b) (l := o2 :: r) (fun z => nomatch z) (fun o' ho' => ho o' (List.mem_cons_of_mem _ ho')) with ⟨q, k, k1, k2, k3, k4, k5⟩ | h | h
        · refine .inl ⟨q, k + 1, by rw [List.length_cons]; omega, by omega, k3, k4, fun x => ?_⟩
          rw [e, hn, k5]
          exact if_neg c
        · refine .inr (.inl fun x => ?_)
          rw [e, hn, h]
          exact if_neg c
        · exact .inr (.inr h)
/-- the last spell, with the last outage open -/
structure LastSp (bs : List Tri) (st ph b : Int) (pre : List SpD) (D : SpD) (g : List Trn) : Prop where
  ok : SpOk bs st D
  rcv : D.rcv = none
  hg : D.rs[bs.length]? = some g
  rq : isRq st ph D.first
  fb : D.first ≤ reqA ph st b
  pr : ∀ d ∈ pre, ∃ v, d.rcv = some v ∧ v < b
theorem spM_open {bs : List Tri} {st ph b : Int} (W : RowD bs st ph) (b0 : 0 ≤ b) (b1 : b ≤ 1000000000000000000000000000000) : ∀ {n : Nat} {pv : Option SpD} {l : List (Int × Int)}, (∀ o ∈ l, 0 ≤ o.1 ∧ o.1 < o.2 ∧ o.2 + 1 ≤ b) → l.length + 1 ≤ n → (∀ d, pv = some d → d.op.length = bs.length) →
    ∃ pre D g, spM bs st ph n pv (outs l ++ [(b, none)]) = pre ++ [D] ∧ LastSp bs st ph b pre D g ∧
      ∀ e, b < e → (∃ D', spM bs st ph n pv (outs l ++ [(b, some e)]) = pre ++ [D'] ∧ D'.first = D.first ∧ D'.rcv = nxT g e ∧ D.first < e) ∨ (spM bs st ph n pv (outs l ++ [(b, some e)]) = pre ∧ e ≤ D.first ∧ D.first = reqA ph st b)
  | 0, pv, l, _, hn, _ => by omega
  | n + 1, pv, [], _, _, hp => by
    have e104 : (1000000000000000000000000000000 : Int) ≤ PB 104 := PB_of (by decide +kernel)
    have s0 : 0 < st := by have := W.s0; omega
    have nil : ∀ n pv, spM bs st ph n pv [] = [] := fun n pv => by cases n <;> rfl
    obtain ⟨f0, f1, _⟩ := reqA_ok (nb := 104) W.s0 W.s1 W.p0 W.p1 (b := b) (by omega) (Nat.le_refl _)
    have bl := bgOf_len (st := st) (z := reqA ph st b - 1) hp
    have R0 := run0 f0 f1 W.s0 W.s1 (by decide)
    have ln := W.ln
    obtain ⟨_, _, _, i4, _⟩ := ch_all (N := 1000) (M := 13) R0 bl W.ok (by decide) (by omega) (by omega)
    have S := spell_ok (os := [(b, none)]) W.ok W.ln W.s0 W.s1 f0 f1 (by decide) (by decide) bl
    refine ⟨[], _, chL bs (bgOf bs st pv (reqA ph st b - 1)) [(reqA ph st b, st, none)], ?_, ⟨S, rfl, i4, reqA_rq s0 b, Int.le_refl _, fun d hd => nomatch hd⟩, fun e be => ?_⟩
    · show spM bs st ph (n + 1) pv [(b, none)] = _
      rw [spM_take (e := none) (fun z h => by cases h)]
      show _ :: spM bs st ph n _ [] = _
      rw [nil]
      rfl
    · by_cases c : e ≤ reqA ph st b
      · refine .inr ⟨?_, c, rfl⟩
        show spM bs st ph (n + 1) pv [(b, some e)] = _
        rw [spM_skip c, nil]
      · refine .inl ⟨spellD bs st (reqA ph st b) (bgOf bs st pv (reqA ph st b - 1)) [(b, some e)], ?_, rfl, rfl, by show reqA ph st b < e; omega⟩
        show spM bs st ph (n + 1) pv [(b, some e)] = _
        rw [spM_take (fun z h => by cases h; exact c)]
        show _ :: spM bs st ph n _ [] = _
        rw [nil]
        rfl
  | n + 1, pv, o :: os, ho, hn, hp => by
    have e104 : (1000000000000000000000000000000 : Int) ≤ PB 104 := PB_of (by decide +kernel)
    have s0 : 0 < st := by have := W.s0; omega
    obtain ⟨h1, h2, h3⟩ := ho o (List.mem_cons_self ..)
    rw [List.length_cons] at hn
    have ec : ∀ x, outs (o :: os) ++ [(b, x)] = (o.1, some o.2) :: (outs os ++ [(b, x)]) := fun x => rfl
    by_cases c : o.2 ≤ reqA ph st o.1
    · obtain ⟨pre, D, g, i1, i2, i3⟩ := spM_open W b0 b1 (n := n) (pv := pv) (l := os) (fun o' ho' => ho o' (List.mem_cons_of_mem _ ho')) (by omega) hp
      refine ⟨pre, D, g, ?_, i2, fun e be => ?_⟩
      · rw [ec, spM_skip c]
        exact i1
      · rw [ec, spM_skip c]
        exact i3 e be
    · have c' : ∀ z, some o.2 = some z → ¬ z ≤ reqA ph st o.1 := fun z e => by cases e; exact c
      obtain ⟨f0, f1, _⟩ := reqA_ok (nb := 104) W.s0 W.s1 W.p0 W.p1 (b := o.1) (by omega) (Nat.le_refl _)
      have bl := bgOf_len (st := st) (z := reqA ph st o.1 - 1) hp
      have R0 := run0 f0 f1 W.s0 W.s1 (by decide)
      have ln := W.ln
      obtain ⟨g1, g2⟩ := ch_ok R0 bl W.ok (by decide)
      obtain ⟨_, _, _, i4, _⟩ := ch_all (N := 1000) (M := 13) R0 bl W.ok (by decide) (by omega) (by omega)
      obtain ⟨g, hg⟩ : ∃ g, g = chL bs (bgOf bs st pv (reqA ph st o.1 - 1)) [(reqA ph st o.1, st, none)] := ⟨_, rfl⟩
      rw [← hg] at g2 i4
      have S := fun x => spell_ok (os := outs (o :: os) ++ [(b, x)]) W.ok W.ln W.s0 W.s1 f0 f1 (by decide) (by decide) bl
      have eN : ∀ x, spellN bs st (reqA ph st o.1) (bgOf bs st pv (reqA ph st o.1 - 1)) (outs (o :: os) ++ [(b, x)]) = (recM g (outs (o :: os) ++ [(b, x)])).2 := fun x => by rw [hg]; rfl
      have eR : ∀ x, (spellD bs st (reqA ph st o.1) (bgOf bs st pv (reqA ph st o.1 - 1)) (outs (o :: os) ++ [(b, x)])).rcv = (recM g (outs (o :: os) ++ [(b, x)])).1 := fun x => by rw [hg]; rfl
      rcases rec_app (g := g) (b := b) (l := o :: os) (fun z => nomatch z) (fun o' ho' => by have := ho o' ho'; omega) with ⟨r, k, k1, k2, k3, _, k5⟩ | h | ⟨e, he⟩
      · -- the spell ends before the last outage
        have eD : ∀ x, spellD bs st (reqA ph st o.1) (bgOf bs st pv (reqA ph st o.1 - 1)) (outs (o :: os) ++ [(b, x)]) = spellD bs st (reqA ph st o.1) (bgOf bs st pv (reqA ph st o.1 - 1)) (outs (o :: os) ++ [(b, none)]) := fun x => by
          unfold spellD
          rw [← hg, k5, k5]
        have eK : ∀ x, (outs (o :: os) ++ [(b, x)]).drop k = outs ((o :: os).drop k) ++ [(b, x)] := fun x => by
          rw [List.drop_append_of_le_length (by rw [outs_len]; exact k1)]
          congr 1
          unfold outs
          rw [List.map_drop]
        obtain ⟨d0, hd0⟩ : ∃ d0, d0 = spellD bs st (reqA ph st o.1) (bgOf bs st pv (reqA ph st o.1 - 1)) (outs (o :: os) ++ [(b, none)]) := ⟨_, rfl⟩
        have eM : ∀ x, spM bs st ph (n + 1) pv (outs (o :: os) ++ [(b, x)]) = d0 :: spM bs st ph n (some d0) (outs ((o :: os).drop k) ++ [(b, x)]) := fun x => by
          have := spM_take (bs := bs) (ph := ph) (stp := st) (n := n) (pv := pv) (b := o.1) (e := some o.2) (os := outs os ++ [(b, x)]) c'
          rw [← ec] at this
          rw [this, eN, k5, eD, ← hd0, eK]
        obtain ⟨pre, D, g', i1, i2, i3⟩ := spM_open W b0 b1 (n := n) (pv := some d0) (l := (o :: os).drop k) (fun o' ho' => ho o' (List.mem_of_mem_drop ho')) (by rw [List.length_drop, List.length_cons]; omega) (fun d e => by cases e; rw [hd0]; exact op_len R0 bl W.ok (by decide))
        refine ⟨d0 :: pre, D, g', by rw [eM, i1]; rfl, ⟨i2.ok, i2.rcv, i2.hg, i2.rq, i2.fb, fun d hd => ?_⟩, fun e be => ?_⟩
        · rcases List.mem_cons.mp hd with rfl | hd
          · exact ⟨r, by rw [hd0, eR, k5], k3⟩
          · exact i2.pr d hd
        · rw [eM]
          rcases i3 e be with ⟨D', j1, j2⟩ | ⟨j1, j2⟩
          · exact .inl ⟨D', by rw [j1]; rfl, j2⟩
          · exact .inr ⟨by rw [j1], j2⟩
      · -- it goes on into the last outage
        have eK : ∀ x, (outs (o :: os) ++ [(b, x)]).drop ((o :: os).length + 1) = [] := fun x => List.drop_eq_nil_of_le (by rw [List.length_append, outs_len]; exact Nat.le_refl _)
        have nil : ∀ n pv, spM bs st ph n pv [] = [] := fun n pv => by cases n <;> rfl
        have eM : ∀ x, spM bs st ph (n + 1) pv (outs (o :: os) ++ [(b, x)]) = [spellD bs st (reqA ph st o.1) (bgOf bs st pv (reqA ph st o.1 - 1)) (outs (o :: os) ++ [(b, x)])] := fun x => by
          have := spM_take (bs := bs) (ph := ph) (stp := st) (n := n) (pv := pv) (b := o.1) (e := some o.2) (os := outs os ++ [(b, x)]) c'
          rw [← ec] at this
          rw [this, eN, h, eK, nil]
        refine ⟨[], _, g, eM none, ⟨S none, by rw [eR, h]; rfl, i4, reqA_rq s0 _, ?_, fun d hd => nomatch hd⟩, fun e be => .inl ⟨_, eM (some e), rfl, by rw [eR, h]; rfl, ?_⟩⟩
        · exact reqA_least s0 (reqA_rq s0 b) (by have := reqA_ge (ph := ph) s0 b; omega)
        · show reqA ph st o.1 < e
          omega
      · obtain ⟨y, hy⟩ := nx_end g2.srt g2.en e
        rw [he] at hy
        cases hy
/-! ### the teeth -/
def lastOf : List Trn → Int → Int
  | [], la => la
  | t :: r, la => lastOf r ((lastE t).getD la)
theorem lastOf_app : ∀ (a : List Trn) (t : Trn) (la : Int), lastOf (a ++ [t]) la = (lastE t).getD (lastOf a la)
  | [], t, la => rfl
  | u :: r, t, la => lastOf_app r t _
def tee : List Trn → Int → List Trn
  | [], _ => []
  | t :: r, la => (la + 1, t.1 - la, some 1) :: (t.1 + 1, t.2.1, t.2.2.map fun c => c - 1) :: tee r ((lastE t).getD la)
theorem tee_app : ∀ (a : List Trn) (t : Trn) (la : Int), tee (a ++ [t]) la = tee a la ++ [(lastOf a la + 1, t.1 - lastOf a la, some 1), (t.1 + 1, t.2.1, t.2.2.map fun c => c - 1)]
  | [], t, la => rfl
  | u :: r, t, la => by
    show _ :: _ :: tee (r ++ [t]) _ = _
    rw [tee_app r t _]
    rfl
theorem tee_len : ∀ (R : List Trn) (la : Int), (tee R la).length = 2 * R.length
  | [], _ => rfl
  | t :: r, la => by
    show (tee r _).length + 1 + 1 = 2 * (r.length + 1)
    rw [tee_len r]
    omega
def dlS (e f : Int) (t : Trn) : Int := if t.1 ≤ e then (t.1 - e - 1) % t.2.1 else f
def dlY (ts : List Trn) (e f : Int) : Int := ts.foldl (dlS e) f
theorem dlY_app (a : List Trn) (t : Trn) (e f : Int) : dlY (a ++ [t]) e f = dlS e (dlY a e f) t := by
  unfold dlY
  rw [List.foldl_append]
  rfl
theorem tee_hi : ∀ {R : List Trn} {la e : Int}, Srt R → (∀ t ∈ R, la < t.1) → e ≤ la → ∀ f, dlY (tee R la) e f = f
  | [], la, e, _, _, _, f => rfl
  | t :: r, la, e, hs, hl, h, f => by
    have h0 := hl t (List.mem_cons_self ..)
    have ok := hs.head
    have lb : e ≤ (lastE t).getD la := by
      unfold lastE
      cases hk : t.2.2 with
      | none => exact h
      | some c =>
        show e ≤ t.1 + (c - 1) * t.2.1
        have := Int.mul_nonneg (show 0 ≤ c - 1 by have := ok.2.2 c hk; omega) (show 0 ≤ t.2.1 by have := ok.2.1; omega)
        omega
    have gl : ∀ u ∈ r, (lastE t).getD la < u.1 := fun u hu => by
      obtain ⟨c, hc, l⟩ := hs.lt u hu
      unfold lastE
      rw [hc]
      exact l
    show dlY (tee r _) e (dlS e (dlS e f _) _) = f
    rw [tee_hi hs.tail gl lb]
    unfold dlS
    rw [if_neg (by show ¬ t.1 + 1 ≤ e; omega), if_neg (by show ¬ la + 1 ≤ e; omega)]
theorem neg_mod {d p : Int} (h0 : 0 < d) (h1 : d ≤ p) : (-d) % p = p - d := by
  have e : (-d) % p = (p - d) % p := by
    have := Int.add_emod_right (-d) p
    rw [← this, show -d + p = p - d by omega]
  rw [e]
  exact Int.emod_eq_of_lt (by omega) (by omega)
theorem dly_nx : ∀ {R : List Trn} {la e y : Int}, Srt R → (∀ t ∈ R, la < t.1) → la < e → nxT R e = some y → ∀ f, dlY (tee R la) e f = y - e
  | [], la, e, y, _, _, _, hy, f => by
    obtain ⟨h, _⟩ := (nx_iff (g := []) ⟨fun _ h => (nomatch h), .nil⟩).mp hy
    exact absurd h in_nil
  | t :: r, la, e, y, hs, hl, h, hy, f => by
    have h0 := hl t (List.mem_cons_self ..)
    have ok := hs.head
    have p0 : 0 < t.2.1 := by have := ok.2.1; omega
    obtain ⟨y1, y2, y3⟩ := (nx_iff hs).mp hy
    have gl : ∀ u ∈ r, (lastE t).getD la < u.1 := fun u hu => by
      obtain ⟨c, hc, l⟩ := hs.lt u hu
      unfold lastE
      rw [hc]
      exact l
    show dlY (tee r _) e (dlS e (dlS e f (la + 1, t.1 - la, some 1)) (t.1 + 1, t.2.1, t.2.2.map fun c => c - 1)) = y - e
    have ge : ∀ x, inL (t :: r) x → t.1 ≤ x := fun x hx => by
      rcases in_cons.mp hx with k | ⟨u, hu, k⟩
      · exact in_ge ok k
      · have := in_ge (hs.tail.1 u hu) k
        have := lt_start ok (hs.lt u hu)
        omega
    by_cases c1 : e ≤ t.1
    · -- before the train
      have ey : y = t.1 := by
        have a := y3 t.1 (in_cons.mpr (.inl (in_first ok))) c1
        have b := ge y y1
        omega
      have lb : e ≤ (lastE t).getD la ∨ t.2.2 = none := by
        unfold lastE
        cases hk : t.2.2 with
        | none => exact .inr rfl
        | some c =>
          refine .inl ?_
          show e ≤ t.1 + (c - 1) * t.2.1
          have := Int.mul_nonneg (show 0 ≤ c - 1 by have := ok.2.2 c hk; omega) (show 0 ≤ t.2.1 by omega)
          omega
      have e2 : ∀ f, dlY (tee r ((lastE t).getD la)) e f = f := by
        rcases lb with lb | hk
        · exact tee_hi hs.tail gl lb
        · cases r with
          | nil => exact fun f => rfl
          | cons u r' =>
            obtain ⟨c, hc, _⟩ := hs.lt u (List.mem_cons_self ..)
            rw [hk] at hc
            cases hc
      rw [e2]
      unfold dlS
      rw [if_neg (by show ¬ t.1 + 1 ≤ e; omega), if_pos (by show la + 1 ≤ e; omega)]
      show (la + 1 - e - 1) % (t.1 - la) = y - e
      rw [show la + 1 - e - 1 = -(e - la) by omega, neg_mod (by omega) (by omega)]
      omega
    · have f2 : dlS e (dlS e f (la + 1, t.1 - la, some 1)) (t.1 + 1, t.2.1, t.2.2.map fun c => c - 1) = (t.1 - e) % t.2.1 := by
        unfold dlS
        rw [if_pos (by show t.1 + 1 ≤ e; omega)]
        show (t.1 + 1 - e - 1) % t.2.1 = _
        rw [show t.1 + 1 - e - 1 = t.1 - e by omega]
      rw [f2]
      have m0 := Int.emod_nonneg (t.1 - e) (show t.2.1 ≠ 0 by omega)
      have m1 := Int.emod_lt_of_pos (t.1 - e) p0
      have md := Int.emod_def (t.1 - e) t.2.1
      obtain ⟨q, hq⟩ : ∃ q, q = -((t.1 - e) / t.2.1) := ⟨_, rfl⟩
      have mq : t.2.1 * ((t.1 - e) / t.2.1) = -(q * t.2.1) := by rw [hq, Int.neg_mul, Int.neg_neg, Int.mul_comm]
      have q0 : 0 ≤ q := by
        by_cases c : 0 ≤ q
        · exact c
        · have := Int.mul_le_mul_of_nonneg_right (show q ≤ -1 by omega) (show 0 ≤ t.2.1 by omega)
          omega
      have tail : (∀ c, t.2.2 = some c → e ≤ t.1 + (c - 1) * t.2.1) → dlY (tee r ((lastE t).getD la)) e ((t.1 - e) % t.2.1) = y - e := fun hc => by
        have e2 : ∀ f, dlY (tee r ((lastE t).getD la)) e f = f := by
          cases hk : t.2.2 with
          | some c => exact tee_hi hs.tail gl (by unfold lastE; rw [hk]; exact hc c hk)
          | none =>
            cases r with
            | nil => exact fun f => rfl
            | cons u r' =>
              obtain ⟨c, hc, _⟩ := hs.lt u (List.mem_cons_self ..)
              rw [hk] at hc
              cases hc
        rw [e2]
        have qi : inT t (t.1 + q * t.2.1) := ⟨q, q0, fun c hk => by
          have := hc c hk
          by_cases z : q < c
          · exact z
          · have h1 := Int.mul_le_mul_of_nonneg_right (show c - 1 + 1 ≤ q by omega) (show 0 ≤ t.2.1 by omega)
            rw [Int.add_mul, Int.one_mul] at h1
            omega, rfl⟩
        have a := y3 _ (in_cons.mpr (.inl qi)) (by omega)
        have low : t.1 + q * t.2.1 ≤ y := by
          rcases in_cons.mp y1 with ⟨i, i0, _, rfl⟩ | ⟨u, hu, k⟩
          · by_cases z : q ≤ i
            · have := Int.mul_le_mul_of_nonneg_right z (show 0 ≤ t.2.1 by omega)
              omega
            · have := Int.mul_le_mul_of_nonneg_right (show i + 1 ≤ q by omega) (show 0 ≤ t.2.1 by omega)
              rw [Int.add_mul, Int.one_mul] at this
              omega
          · obtain ⟨c, hk, l⟩ := hs.lt u hu
            have := in_ge (hs.tail.1 u hu) k
            have := in_le ok hk qi
            omega
        omega
      cases hk : t.2.2 with
      | none => exact tail fun c e => by rw [hk] at e; cases e
      | some c =>
        by_cases c2 : e ≤ t.1 + (c - 1) * t.2.1
        · exact tail fun c' e => by rw [hk] at e; cases e; exact c2
        · have el : (lastE t).getD la = t.1 + (c - 1) * t.2.1 := by unfold lastE; rw [hk]; rfl
          refine dly_nx hs.tail gl (by omega) ?_ _
          refine (nx_iff hs.tail).mpr ⟨?_, y2, fun z hz l => y3 z (in_cons.mpr (.inr hz)) l⟩
          rcases in_cons.mp y1 with k | k
          · have := in_le ok hk k
            omega
          · exact k
/-! ### delays as data -/
structure DlOk (b : Int) (R : List Trn) : Prop where
  srt : Srt R
  nf : NF R
  en : Tot R = none
  bt : ∀ t ∈ R, BT 1500 t
  ln : R.length ≤ 13
  lo : ∀ t ∈ R, b < t.1
  b0 : 0 ≤ b
  b1 : b ≤ 1000000000000000000000000000000
/-- the delay of an end -/
def dlO (R : List Trn) (e : Int) : Int := (nxT R e).getD 0 - e
theorem dl_teeth {b : Int} {R : List Trn} (h : DlOk b R) {e : Int} (l : b < e) (f : Int) : dlY (tee R b) e f = dlO R e := by
  obtain ⟨y, hy⟩ := nx_end h.srt h.en e
  rw [dly_nx h.srt h.lo l hy]
  unfold dlO
  rw [hy]
  rfl
def DlOf (ts : List Tri) (st ph : Int) (os : List (Int × Int)) (b : Int) (R : List Trn) : Prop := ∃ pre D g, spM ts st ph (os.length + 1) none (outs os ++ [(b, none)]) = pre ++ [D] ∧ LastSp ts st ph b pre D g ∧ R = nfs (win g (b + 1) none) ∧ DlOk b R ∧ (∀ x, b < x → nxT R x = nxT g x) ∧
  ∀ e, b < e → (∃ D', spM ts st ph (os.length + 1) none (outs os ++ [(b, some e)]) = pre ++ [D'] ∧ D'.first = D.first ∧ D'.rcv = nxT g e ∧ D.first < e) ∨ (spM ts st ph (os.length + 1) none (outs os ++ [(b, some e)]) = pre ∧ e ≤ D.first ∧ D.first = reqA ph st b)
theorem dl_of {ts : List Tri} {st ph b : Int} (W : RowD ts st ph) {os : List (Int × Int)} (b0 : 0 ≤ b) (b1 : b ≤ 1000000000000000000000000000000) (ho : ∀ o ∈ os, 0 ≤ o.1 ∧ o.1 < o.2 ∧ o.2 + 1 ≤ b) :
    ∃ pre D g, spM ts st ph (os.length + 1) none (outs os ++ [(b, none)]) = pre ++ [D] ∧ LastSp ts st ph b pre D g ∧ RunOk 1000 13 D.first g ∧ Srt (win g (b + 1) none) ∧ (∀ u ∈ win g (b + 1) none, BT 1001 u) ∧ (win g (b + 1) none).length ≤ 13 ∧ DlOf ts st ph os b (nfs (win g (b + 1) none)) := by
  obtain ⟨pre, D, g, h1, h2, h3⟩ := spM_open W b0 b1 (n := os.length + 1) (pv := none) (l := os) ho (Nat.le_refl _) (fun d e => nomatch e)
  have RG := h2.ok.run _ _ h2.hg
  have e104 : (1000000000000000000000000000000 : Int) ≤ PB 104 := PB_of (by decide +kernel)
  have e105 : PB 105 = PB 104 + PB 104 := PB_succ 104
  have w1 := PB_pos 104
  obtain ⟨hw, bt, wl⟩ := win_ok (n := 1000) (m := 105) (f := b + 1) (after := none) (by omega) (fun a e => nomatch e) (by omega) (fun a e => nomatch e) RG.srt RG.bt
  have bt : ∀ u ∈ win g (b + 1) none, BT 1001 u := bt
  have gl := RG.ln
  have inw := in_win2 RG.srt (f := b + 1) (after := none) (by omega) (fun a e => nomatch e) hw
  have R : DlOk b (nfs (win g (b + 1) none)) := by
    refine ⟨nfs_srt hw, nfs_nf hw, ?_, fun t ht => (nfs_bt hw bt t ht).le (by decide), Nat.le_trans (nfs_len hw) (by omega), fun t ht => ?_, b0, b1⟩
    · rw [nfs_tot hw, tot_winN RG.srt (by omega) hw, RG.en]
    · have := (inw t.1).mp ((in_nfs hw t.1).mp ⟨t, ht, in_first ((nfs_srt hw).1 t ht)⟩)
      omega
  refine ⟨pre, D, g, h1, h2, RG, hw, bt, by omega, pre, D, g, h1, h2, rfl, R, fun x hx => ?_, h3⟩
  obtain ⟨y, hy⟩ := nx_end RG.srt RG.en x
  rw [hy]
  obtain ⟨i1, i2, i3⟩ := (nx_iff RG.srt).mp hy
  refine (nx_iff R.srt).mpr ⟨(in_nfs hw y).mpr ((inw y).mpr ⟨i1, by omega, fun a e => nomatch e⟩), i2, fun z hz l => i3 z ((inw z).mp ((in_nfs hw z).mp hz)).1 l⟩
/-! ### sums over teeth -/
/-- teeth that lie side by side, the last one without end -/
def Til : Int → List Trn → Prop
  | _, [] => False
  | lo, t :: r => t.1 = lo ∧ 1 ≤ t.2.1 ∧ ((t.2.2 = none ∧ r = []) ∨ ∃ c, t.2.2 = some c ∧ 0 ≤ c ∧ Til (t.1 + t.2.1 * c) r)
theorem til_tee : ∀ {R : List Trn} {la : Int}, Srt R → (∀ t ∈ R, la < t.1) → Tot R = none → Til (la + 1) (tee R la)
  | [], _, _, _, h => nomatch h
  | t :: r, la, hs, hl, h => by
    have h0 := hl t (List.mem_cons_self ..)
    have ok := hs.head
    have gl : ∀ u ∈ r, (lastE t).getD la < u.1 := fun u hu => by
      obtain ⟨c, hc, l⟩ := hs.lt u hu
      unfold lastE
      rw [hc]
      exact l
    refine ⟨rfl, by show 1 ≤ t.1 - la; omega, .inr ⟨1, rfl, by decide, ?_⟩⟩
    show Til (la + 1 + (t.1 - la) * 1) ((t.1 + 1, t.2.1, t.2.2.map fun c => c - 1) :: tee r ((lastE t).getD la))
    refine ⟨by show t.1 + 1 = _; omega, ok.2.1, ?_⟩
    cases hk : t.2.2 with
    | none =>
      refine .inl ⟨rfl, ?_⟩
      cases r with
      | nil => rfl
      | cons u r' =>
        obtain ⟨c, hc, _⟩ := hs.lt u (List.mem_cons_self ..)
        rw [hk] at hc
        cases hc
    | some c =>
      have c1 := ok.2.2 c hk
      refine .inr ⟨c - 1, rfl, by omega, ?_⟩
      have e : (lastE t).getD la = t.1 + (c - 1) * t.2.1 := by unfold lastE; rw [hk]; rfl
      have e2 : t.1 + 1 + t.2.1 * (c - 1) = (lastE t).getD la + 1 := by rw [e, Int.mul_comm]; omega
      show Til (t.1 + 1 + t.2.1 * (c - 1)) _
      rw [e2]
      refine til_tee hs.tail gl ?_
      have ht : (match t.2.2 with | none => none | some c => addO c (Tot r)) = none := h
      rw [hk] at ht
      cases q : Tot r with
      | none => rfl
      | some n => rw [q] at ht; cases ht
def reaT (t : Trn) (x : Int) : Int := match t.2.2 with
  | none => mx2 0 (x - t.1)
  | some c => mn2 (mx2 0 (x - t.1)) (t.2.1 * c)
def sumT (G : Int → Int → Int) (ts : List Trn) (x : Int) : Int := (ts.map fun t => G t.2.1 (reaT t x)).sum
theorem sumT_cons (G : Int → Int → Int) (t : Trn) (r : List Trn) (x : Int) : sumT G (t :: r) x = G t.2.1 (reaT t x) + sumT G r x := rfl
theorem sumT_app (G : Int → Int → Int) (a : List Trn) (t : Trn) (x : Int) : sumT G (a ++ [t]) x = sumT G a x + G t.2.1 (reaT t x) := by
  unfold sumT
  rw [List.map_append, List.sum_append, List.map_cons, List.map_nil, List.sum_cons, List.sum_nil, Int.add_zero]
theorem rea_lo {t : Trn} {x : Int} (h : x ≤ t.1) (hc : ∀ c, t.2.2 = some c → 0 ≤ t.2.1 * c) : reaT t x = 0 := by
  have e : mx2 0 (x - t.1) = 0 := by unfold mx2; rw [if_neg (by omega)]
  unfold reaT
  cases hk : t.2.2 with
  | none => exact e
  | some c =>
    have := hc c hk
    show mn2 (mx2 0 (x - t.1)) (t.2.1 * c) = 0
    rw [e]
    unfold mn2
    split <;> omega
theorem rea_hi {t : Trn} {x c : Int} (hk : t.2.2 = some c) (h0 : 0 ≤ t.2.1 * c) (h : t.1 + t.2.1 * c ≤ x) : reaT t x = t.2.1 * c := by
  unfold reaT
  rw [hk]
  show mn2 (mx2 0 (x - t.1)) (t.2.1 * c) = t.2.1 * c
  unfold mn2 mx2
  split <;> split at * <;> omega
theorem rea_in {t : Trn} {x : Int} (h : t.1 ≤ x) (hc : ∀ c, t.2.2 = some c → x ≤ t.1 + t.2.1 * c) : reaT t x = x - t.1 := by
  have e : mx2 0 (x - t.1) = x - t.1 := by unfold mx2; split <;> omega
  unfold reaT
  cases hk : t.2.2 with
  | none => exact e
  | some c =>
    have := hc c hk
    show mn2 (mx2 0 (x - t.1)) (t.2.1 * c) = _
    rw [e]
    unfold mn2
    split <;> omega
theorem til_c0 {lo : Int} {t : Trn} {r : List Trn} (h : Til lo (t :: r)) : ∀ c, t.2.2 = some c → 0 ≤ t.2.1 * c := by
  obtain ⟨_, h2, h3⟩ := h
  intro c hc
  rcases h3 with ⟨e, _⟩ | ⟨d, e, d0, _⟩
  · rw [e] at hc; cases hc
  · rw [e] at hc
    cases hc
    exact Int.mul_nonneg (by omega) d0
/-- before the first tooth nothing changes -/
theorem til_lo {G : Int → Int → Int} : ∀ {ts : List Trn} {lo x y : Int}, Til lo ts → x ≤ lo → y ≤ lo → sumT G ts x = sumT G ts y
  | [], _, _, _, h, _, _ => h.elim
  | t :: r, lo, x, y, h, hx, hy => by
    have c0 := til_c0 h
    obtain ⟨h1, h2, h3⟩ := h
    rw [sumT_cons, sumT_cons, rea_lo (by omega) c0, rea_lo (by omega) c0]
    rcases h3 with ⟨_, rfl⟩ | ⟨c, e, _, h4⟩
    · rfl
    · have := c0 c e
      exact congrArg _ (til_lo (x := x) (y := y) h4 (by omega) (by omega))
theorem dly_lo : ∀ {ts : List Trn} {lo e : Int}, Til lo ts → e < lo → ∀ f, dlY ts e f = f
  | [], _, _, h, _, _ => h.elim
  | t :: r, lo, e, h, he, f => by
    have c0 := til_c0 h
    obtain ⟨h1, h2, h3⟩ := h
    show dlY r e (dlS e f t) = f
    have e1 : dlS e f t = f := by unfold dlS; rw [if_neg (by omega)]
    rw [e1]
    rcases h3 with ⟨_, rfl⟩ | ⟨c, q, _, h4⟩
    · rfl
    · have := c0 c q
      exact dly_lo h4 (by omega) f
theorem dly_in {t : Trn} {r : List Trn} {lo e : Int} (h : Til lo (t :: r)) (l : lo ≤ e) (hc : ∀ c, t.2.2 = some c → e < t.1 + t.2.1 * c) (f : Int) : dlY (t :: r) e f = (t.1 - e - 1) % t.2.1 := by
  obtain ⟨h1, h2, h3⟩ := h
  show dlY r e (dlS e f t) = _
  have e1 : dlS e f t = (t.1 - e - 1) % t.2.1 := by unfold dlS; rw [if_pos (by omega)]
  rw [e1]
  rcases h3 with ⟨_, rfl⟩ | ⟨c, q, _, h4⟩
  · rfl
  · exact dly_lo h4 (hc c q) _
theorem tooth_mod {L j : Int} (h : 1 ≤ L) : (-j - 1) % L = L - 1 - j % L := by
  have d := Int.mul_ediv_add_emod j L
  have a := Int.emod_nonneg j (show L ≠ 0 by omega)
  have b := Int.emod_lt_of_pos j (show 0 < L by omega)
  have e : -j - 1 = (L - 1 - j % L) + (-(j / L) - 1) * L := by
    rw [Int.sub_mul, Int.neg_mul, Int.one_mul, Int.mul_comm (j / L) L]
    omega
  rw [e, Int.add_mul_emod_self_right, Int.emod_eq_of_lt (by omega) (by omega)]
/-- one end more -/
theorem til_step {G : Int → Int → Int} {φ : Int → Int} (hG : ∀ L r, 1 ≤ L → 0 ≤ r → G L (r + 1) - G L r = φ (L - 1 - r % L)) : ∀ {ts : List Trn} {lo e : Int}, Til lo ts → lo ≤ e → ∀ f, sumT G ts (e + 1) - sumT G ts e = φ (dlY ts e f)
  | [], _, _, h, _, _ => h.elim
  | t :: r, lo, e, h, he, f => by
    have h' := h
    have c0 := til_c0 h
    obtain ⟨h1, h2, h3⟩ := h
    have inn : (∀ c, t.2.2 = some c → e < t.1 + t.2.1 * c) → sumT G (t :: r) (e + 1) - sumT G (t :: r) e = φ (dlY (t :: r) e f) := fun hc => by
      rw [dly_in h' he hc, sumT_cons, sumT_cons, rea_in (by omega) (fun c q => by have := hc c q; omega), rea_in (by omega) (fun c q => by have := hc c q; omega)]
      have e1 : sumT G r (e + 1) = sumT G r e := by
        rcases h3 with ⟨_, rfl⟩ | ⟨c, q, _, h4⟩
        · rfl
        · have := hc c q
          exact til_lo h4 (by omega) (by omega)
      rw [e1, show e + 1 - t.1 = (e - t.1) + 1 by omega]
      have := hG t.2.1 (e - t.1) h2 (by omega)
      rw [show t.1 - e - 1 = -(e - t.1) - 1 by omega, tooth_mod h2]
      omega
    rcases h3 with ⟨q, rfl⟩ | ⟨c, q, cc, h4⟩
    · exact inn fun c e => by rw [q] at e; cases e
    · by_cases l : e < t.1 + t.2.1 * c
      · exact inn fun c' e => by rw [q] at e; cases e; exact l
      · have := c0 c q
        rw [sumT_cons, sumT_cons, rea_hi q this (by omega), rea_hi q this (by omega)]
        have i := til_step (e := e) hG h4 (by omega) (dlS e f t)
        show _ = φ (dlY r e (dlS e f t))
        omega
/-! the two sums -/
def triI (n : Int) : Int := n * (n - 1) / 2
theorem tri_dbl (n : Int) : 2 * triI n = n * (n - 1) := by
  have d := Int.mul_ediv_add_emod (n * (n - 1)) 2
  have m : n * (n - 1) % 2 = 0 := by
    rcases Int.emod_two_eq n with h | h
    · rw [Int.mul_emod, h]; simp
    · rw [Int.mul_emod, Int.sub_emod, h]; simp
  unfold triI
  omega
theorem tri_suc (n : Int) : triI (n + 1) = triI n + n := by
  have a := tri_dbl n
  have b := tri_dbl (n + 1)
  have e : (n + 1) * (n + 1 - 1) = n * (n - 1) + 2 * n := by
    rw [show n + 1 - 1 = n by omega, Int.add_mul, Int.mul_sub]
    omega
  omega
theorem tri_nn {n : Int} (h : 0 ≤ n) : 0 ≤ triI n := by
  have a := tri_dbl n
  by_cases c : n = 0
  · rw [c] at a ⊢; decide
  · have := Int.mul_nonneg h (show 0 ≤ n - 1 by omega)
    omega
/-- the program's sum and number of one train of teeth -/
def totG (L r : Int) : Int := r / L * (L * (L - 1) / 2) + r % L * (L - 1) - r % L * (r % L - 1) / 2
def witG (m L r : Int) : Int := r / L * (L - mx2 0 (L - 1 - m)) + mx2 0 (r % L - mx2 0 (L - 1 - m))
theorem dm_suc {L r : Int} (h : 1 ≤ L) : (r % L + 1 < L ∧ (r + 1) / L = r / L ∧ (r + 1) % L = r % L + 1) ∨ (r % L = L - 1 ∧ (r + 1) / L = r / L + 1 ∧ (r + 1) % L = 0) := by
  have d := Int.mul_ediv_add_emod r L
  have a := Int.emod_nonneg r (show L ≠ 0 by omega)
  have b := Int.emod_lt_of_pos r (show 0 < L by omega)
  by_cases c : r % L + 1 < L
  · have e : r + 1 = (r % L + 1) + L * (r / L) := by omega
    refine .inl ⟨c, ?_, ?_⟩
    · rw [e, Int.add_mul_ediv_left _ _ (by omega), Int.ediv_eq_zero_of_lt (by omega) c]
      generalize r / L = q
      omega
    · rw [e, Int.add_mul_emod_self_left, Int.emod_eq_of_lt (by omega) c]
  · have e : r + 1 = L * (r / L + 1) := by rw [Int.mul_add]; omega
    refine .inr ⟨by omega, ?_, ?_⟩
    · rw [e, Int.mul_ediv_cancel_left _ (by omega)]
    · rw [e, Int.mul_emod_right]
theorem totG_suc (L r : Int) (h : 1 ≤ L) (_ : 0 ≤ r) : totG L (r + 1) - totG L r = L - 1 - r % L := by
  unfold totG
  rcases dm_suc (r := r) h with ⟨c, e1, e2⟩ | ⟨c, e1, e2⟩
  · rw [e1, e2]
    have a := tri_suc (r % L)
    have e3 : (r % L + 1) * (r % L + 1 - 1) / 2 = triI (r % L + 1) := rfl
    have e4 : r % L * (r % L - 1) / 2 = triI (r % L) := rfl
    rw [e3, e4, a, Int.add_mul]
    omega
  · rw [e1, e2, c]
    have a := tri_dbl L
    have b := tri_dbl (L - 1)
    have e3 : L * (L - 1) / 2 = triI L := rfl
    have e4 : (L - 1) * (L - 1 - 1) / 2 = triI (L - 1) := rfl
    have e5 : (0 : Int) * (0 - 1) / 2 = 0 := by decide
    rw [e3, e4, e5, Int.add_mul]
    have s := tri_suc (L - 1)
    rw [show L - 1 + 1 = L by omega] at s
    have e6 : (L - 1) * (L - 1 - 1) = (L - 1) * (L - 1) - (L - 1) := by rw [Int.mul_sub (L - 1) (L - 1) 1]; omega
    omega
theorem witG_suc {m : Int} (m0 : 0 ≤ m) (L r : Int) (h : 1 ≤ L) (_ : 0 ≤ r) : witG m L (r + 1) - witG m L r = if L - 1 - r % L ≤ m then 1 else 0 := by
  unfold witG
  have a := Int.emod_nonneg r (show L ≠ 0 by omega)
  have b := Int.emod_lt_of_pos r (show 0 < L by omega)
  obtain ⟨g, hg⟩ : ∃ g, g = mx2 0 (L - 1 - m) := ⟨_, rfl⟩
  rw [← hg]
  have hg1 : g = if L - 1 - m > 0 then L - 1 - m else 0 := hg
  have mx : ∀ z : Int, mx2 0 z = if z > 0 then z else 0 := fun _ => rfl
  rcases dm_suc (r := r) h with ⟨c, e1, e2⟩ | ⟨c, e1, e2⟩
  · rw [e1, e2, mx, mx]
    generalize r / L * (L - g) = z
    split at hg1 <;> split <;> split <;> split <;> omega
  · rw [e1, e2, mx, mx, c, Int.add_mul]
    generalize r / L * (L - g) = z
    split at hg1 <;> split <;> split <;> split <;> omega
/-! ### sums over a window of delays -/
def winF (φ : Int → Int) (R : List Trn) (f : Int) : Nat → Int
  | 0 => 0
  | n + 1 => winF φ R f n + φ (dlO R (f + n))
theorem sum_win {G : Int → Int → Int} {φ : Int → Int} (hG : ∀ L r, 1 ≤ L → 0 ≤ r → G L (r + 1) - G L r = φ (L - 1 - r % L)) {b : Int} {R : List Trn} (O : DlOk b R) {f : Int} (hf : b < f) : ∀ n : Nat, sumT G (tee R b) (f + n) - sumT G (tee R b) f = winF φ R f n
  | 0 => by show sumT G (tee R b) (f + (0 : Nat)) - sumT G (tee R b) f = 0; rw [show f + ((0 : Nat) : Int) = f by omega]; omega
  | n + 1 => by
    have i := sum_win hG O hf n
    have s := til_step hG (til_tee O.srt O.lo O.en) (show b + 1 ≤ f + n by omega) 0
    rw [dl_teeth O (by omega)] at s
    show _ = winF φ R f n + φ (dlO R (f + n))
    rw [show f + ((n + 1 : Nat) : Int) = f + n + 1 by omega]
    omega
def totB (R : List Trn) (b x : Int) : Int := sumT totG (tee R b) x
def witB (m : Int) (R : List Trn) (b x : Int) : Int := sumT (witG m) (tee R b) x
theorem totB_win {b : Int} {R : List Trn} (O : DlOk b R) {f a : Int} (hf : b < f) (ha : f ≤ a) : totB R b a - totB R b f = winF (fun d => d) R f (a - f).toNat := by
  have := sum_win (G := totG) (φ := fun d => d) totG_suc O hf (a - f).toNat
  rwa [show f + ((a - f).toNat : Int) = a by omega] at this
theorem witB_win {m : Int} (m0 : 0 ≤ m) {b : Int} {R : List Trn} (O : DlOk b R) {f a : Int} (hf : b < f) (ha : f ≤ a) : witB m R b a - witB m R b f = winF (fun d => if d ≤ m then 1 else 0) R f (a - f).toNat := by
  have := sum_win (G := witG m) (φ := fun d => if d ≤ m then 1 else 0) (witG_suc m0) O hf (a - f).toNat
  rwa [show f + ((a - f).toNat : Int) = a by omega] at this
theorem win_le {m : Int} {R : List Trn} {f : Int} : ∀ n : Nat, 0 ≤ winF (fun d => if d ≤ m then 1 else 0) R f n ∧ winF (fun d => if d ≤ m then 1 else 0) R f n ≤ n
  | 0 => ⟨Int.le_refl _, Int.le_refl _⟩
  | n + 1 => by
    have i := win_le (m := m) (R := R) (f := f) n
    show 0 ≤ winF _ R f n + (if dlO R (f + n) ≤ m then 1 else 0) ∧ winF _ R f n + (if dlO R (f + n) ≤ m then 1 else 0) ≤ ((n + 1 : Nat) : Int)
    split <;> omega
theorem win_all {m : Int} {R : List Trn} {f : Int} : ∀ n : Nat, (∀ i : Nat, i < n → dlO R (f + i) ≤ m) → winF (fun d => if d ≤ m then 1 else 0) R f n = n
  | 0, _ => rfl
  | n + 1, h => by
    have i := win_all (m := m) (R := R) (f := f) n (fun i hi => h i (by omega))
    show winF _ R f n + (if dlO R (f + n) ≤ m then 1 else 0) = ((n + 1 : Nat) : Int)
    rw [i, if_pos (h n (by omega))]
    omega
theorem win_few {m : Int} {R : List Trn} {f : Int} : ∀ n : Nat, (∃ i : Nat, i < n ∧ m < dlO R (f + i)) → winF (fun d => if d ≤ m then 1 else 0) R f n < n
  | 0, ⟨_, h, _⟩ => by omega
  | n + 1, ⟨i, hi, h⟩ => by
    show winF _ R f n + (if dlO R (f + n) ≤ m then 1 else 0) < ((n + 1 : Nat) : Int)
    have a := win_le (m := m) (R := R) (f := f) n
    by_cases c : i = n
    · subst c
      rw [if_neg (by omega)]
      omega
    · have b := win_few (m := m) (R := R) (f := f) n ⟨i, by omega, h⟩
      split <;> omega
/-! ### the tops -/
/-- the first start of a train of teeth behind an end -/
def topI (f : Int) (t : Trn) : Option Int :=
  let k := nbT t (f + 1)
  if t.2.2 = none ∨ (∃ c, t.2.2 = some c ∧ k < c) then some (t.1 + k * t.2.1) else none
def topL (f : Int) (ts : List Trn) : List Int := f :: ts.filterMap (topI f)
theorem steps_char {d L : Int} (h : 1 ≤ L) : 0 ≤ stepsUp d L ∧ d ≤ stepsUp d L * L ∧ ∀ j, 0 ≤ j → d ≤ j * L → stepsUp d L ≤ j := by
  have dm := Int.mul_ediv_add_emod (-d) L
  have a := Int.emod_nonneg (-d) (show L ≠ 0 by omega)
  have b := Int.emod_lt_of_pos (-d) (show 0 < L by omega)
  obtain ⟨q, hq⟩ : ∃ q, q = -(-d / L) := ⟨_, rfl⟩
  have mq : L * (-d / L) = -(q * L) := by rw [hq, Int.neg_mul, Int.neg_neg, Int.mul_comm]
  have e : stepsUp d L = if q > 0 then q else 0 := by rw [hq]; rfl
  rw [e]
  refine ⟨by split <;> omega, ?_, fun j j0 hj => ?_⟩
  · split
    · omega
    · have := Int.mul_nonneg (show 0 ≤ -q by omega) (show 0 ≤ L by omega)
      rw [Int.neg_mul] at this
      omega
  · split
    · by_cases c : q ≤ j
      · exact c
      · have := Int.mul_le_mul_of_nonneg_right (show j + 1 ≤ q by omega) (show 0 ≤ L by omega)
        rw [Int.add_mul, Int.one_mul] at this
        omega
    · exact j0
theorem topI_some {f τ : Int} {t : Trn} (h : 1 ≤ t.2.1) (e : topI f t = some τ) : ∃ k, 0 ≤ k ∧ τ = t.1 + k * t.2.1 ∧ f < τ ∧ ∀ c, t.2.2 = some c → k < c := by
  obtain ⟨a, b, _⟩ := steps_char (d := f + 1 - t.1) h
  have e : (if t.2.2 = none ∨ (∃ c, t.2.2 = some c ∧ nbT t (f + 1) < c) then some (t.1 + nbT t (f + 1) * t.2.1) else none) = some τ := e
  split at e
  · rename_i c
    have e := Option.some.inj e
    have hn : nbT t (f + 1) = stepsUp (f + 1 - t.1) t.2.1 := by
      have u : nbT t (f + 1) = minO (stepsUp (f + 1 - t.1) t.2.1) t.2.2 := rfl
      rcases c with c | ⟨c, q, l⟩
      · rw [u, c]; rfl
      · rw [u, q] at l ⊢
        have l : (if c < stepsUp (f + 1 - t.1) t.2.1 then c else stepsUp (f + 1 - t.1) t.2.1) < c := l
        show (if c < stepsUp (f + 1 - t.1) t.2.1 then c else stepsUp (f + 1 - t.1) t.2.1) = _
        split at l
        · omega
        · rename_i z
          exact if_neg z
    refine ⟨nbT t (f + 1), by omega, e.symm, by rw [← e, hn]; omega, fun d q => ?_⟩
    rcases c with c | ⟨c, q', l⟩
    · rw [c] at q; cases q
    · rw [q'] at q; cases q; exact l
  · cases e
theorem topI_cov {f j : Int} {t : Trn} (h : 1 ≤ t.2.1) (j0 : 0 ≤ j) (jc : ∀ c, t.2.2 = some c → j < c) (hf : f < t.1 + j * t.2.1) : ∃ τ, topI f t = some τ ∧ τ ≤ t.1 + j * t.2.1 := by
  obtain ⟨a, b, c⟩ := steps_char (d := f + 1 - t.1) h
  have d := c j j0 (by omega)
  have u : nbT t (f + 1) = minO (stepsUp (f + 1 - t.1) t.2.1) t.2.2 := rfl
  have hn : nbT t (f + 1) ≤ j ∧ (t.2.2 = none ∨ ∃ c, t.2.2 = some c ∧ nbT t (f + 1) < c) := by
    cases q : t.2.2 with
    | none => rw [u, q]; exact ⟨d, .inl rfl⟩
    | some n =>
      have := jc n q
      have w : nbT t (f + 1) = if n < stepsUp (f + 1 - t.1) t.2.1 then n else stepsUp (f + 1 - t.1) t.2.1 := by rw [u, q]; rfl
      have w2 : nbT t (f + 1) ≤ j := by rw [w]; split <;> omega
      exact ⟨w2, .inr ⟨n, rfl, by omega⟩⟩
  refine ⟨t.1 + nbT t (f + 1) * t.2.1, if_pos hn.2, ?_⟩
  have := Int.mul_le_mul_of_nonneg_right hn.1 (show 0 ≤ t.2.1 by omega)
  omega
theorem til_len1 {lo : Int} {t : Trn} {r : List Trn} (h : Til lo (t :: r)) : 1 ≤ t.2.1 := h.2.1
theorem tops_lo {f : Int} : ∀ {ts : List Trn} {lo : Int}, Til lo ts → ∀ τ ∈ ts.filterMap (topI f), lo ≤ τ ∧ f < τ
  | [], _, h, _, _ => h.elim
  | t :: r, lo, h, τ, hτ => by
    have c0 := til_c0 h
    obtain ⟨h1, h2, h3⟩ := h
    obtain ⟨u, hu, e⟩ := List.mem_filterMap.mp hτ
    rcases List.mem_cons.mp hu with rfl | hu
    · obtain ⟨k, k0, rfl, l, _⟩ := topI_some h2 e
      have := Int.mul_nonneg k0 (show 0 ≤ u.2.1 by omega)
      exact ⟨by omega, l⟩
    · rcases h3 with ⟨_, rfl⟩ | ⟨c, q, _, h4⟩
      · cases hu
      · have := tops_lo h4 τ (List.mem_filterMap.mpr ⟨u, hu, e⟩)
        have := c0 c q
        exact ⟨by omega, by omega⟩
theorem tops_asc {f : Int} : ∀ {ts : List Trn} {lo : Int}, Til lo ts → (ts.filterMap (topI f)).Pairwise (· < ·)
  | [], _, h => h.elim
  | t :: r, lo, h => by
    obtain ⟨h1, h2, h3⟩ := h
    have rest : (r.filterMap (topI f)).Pairwise (· < ·) := by
      rcases h3 with ⟨_, rfl⟩ | ⟨c, q, _, h4⟩
      · exact .nil
      · exact tops_asc h4
    cases e : topI f t with
    | none => rw [List.filterMap_cons_none e]; exact rest
    | some τ =>
      rw [List.filterMap_cons_some e]
      refine List.pairwise_cons.mpr ⟨fun σ hσ => ?_, rest⟩
      obtain ⟨k, k0, rfl, l, kc⟩ := topI_some h2 e
      rcases h3 with ⟨_, rfl⟩ | ⟨c, q, _, h4⟩
      · cases hσ
      · have := (tops_lo h4 σ hσ).1
        have := kc c q
        have := Int.mul_le_mul_of_nonneg_right (show k + 1 ≤ c by omega) (show 0 ≤ t.2.1 by omega)
        rw [Int.add_mul, Int.one_mul, Int.mul_comm c] at this
        omega
theorem dly_ind : ∀ {ts : List Trn} {lo e : Int}, Til lo ts → lo ≤ e → ∀ g g', dlY ts e g = dlY ts e g'
  | [], _, _, h, _, _, _ => h.elim
  | t :: r, lo, e, h, he, g, g' => by
    obtain ⟨h1, h2, h3⟩ := h
    show dlY r e (dlS e g t) = dlY r e (dlS e g' t)
    have x : ∀ g, dlS e g t = (t.1 - e - 1) % t.2.1 := fun g => by unfold dlS; rw [if_pos (by omega)]
    rw [x, x]
theorem tops_cov {f x : Int} (hx : f ≤ x) : ∀ {ts : List Trn} {lo : Int}, Til lo ts → lo ≤ x → ∀ g, (∃ τ ∈ ts.filterMap (topI f), τ ≤ x ∧ dlY ts x g ≤ dlY ts τ g) ∨ (lo ≤ f ∧ dlY ts x g ≤ dlY ts f g)
  | [], _, h, _, _ => h.elim
  | t :: r, lo, h, hl, g => by
    have h' := h
    have c0 := til_c0 h
    obtain ⟨h1, h2, h3⟩ := h
    have inn : (∀ c, t.2.2 = some c → x < t.1 + t.2.1 * c) → (∃ τ ∈ (t :: r).filterMap (topI f), τ ≤ x ∧ dlY (t :: r) x g ≤ dlY (t :: r) τ g) ∨ (lo ≤ f ∧ dlY (t :: r) x g ≤ dlY (t :: r) f g) := fun hc => by
      rw [dly_in h' hl hc, show t.1 - x - 1 = -(x - t.1) - 1 by omega, tooth_mod h2]
      have d := Int.mul_ediv_add_emod (x - t.1) t.2.1
      have a := Int.emod_nonneg (x - t.1) (show t.2.1 ≠ 0 by omega)
      have b := Int.emod_lt_of_pos (x - t.1) (show 0 < t.2.1 by omega)
      have j0 : 0 ≤ (x - t.1) / t.2.1 := Int.ediv_nonneg (by omega) (by omega)
      obtain ⟨j, hj⟩ : ∃ j, j = (x - t.1) / t.2.1 := ⟨_, rfl⟩
      rw [← hj, Int.mul_comm] at d
      rw [← hj] at j0
      by_cases c : f < t.1 + j * t.2.1
      · have jc : ∀ c, t.2.2 = some c → j < c := fun c q => by
          have := hc c q
          by_cases z : j < c
          · exact z
          · have := Int.mul_le_mul_of_nonneg_right (show c ≤ j by omega) (show 0 ≤ t.2.1 by omega)
            rw [Int.mul_comm c] at this
            omega
        obtain ⟨τ, e, l⟩ := topI_cov h2 j0 jc c
        refine .inl ⟨τ, List.mem_filterMap.mpr ⟨t, List.mem_cons_self .., e⟩, by omega, ?_⟩
        obtain ⟨k, k0, rfl, _, _⟩ := topI_some h2 e
        have kn := Int.mul_nonneg k0 (show 0 ≤ t.2.1 by omega)
        rw [dly_in h' (by omega) (fun c q => by have := hc c q; omega), show t.1 - (t.1 + k * t.2.1) - 1 = -(k * t.2.1) - 1 by omega, tooth_mod h2, Int.mul_emod_left]
        omega
      · have fl : lo ≤ f := by
          have := Int.mul_nonneg j0 (show 0 ≤ t.2.1 by omega)
          omega
        refine .inr ⟨fl, ?_⟩
        rw [dly_in h' fl (fun c q => by have := hc c q; omega), show t.1 - f - 1 = -(f - t.1) - 1 by omega, tooth_mod h2]
        have : (f - t.1) % t.2.1 = f - t.1 - j * t.2.1 := by
          have e : f - t.1 = (f - t.1 - j * t.2.1) + j * t.2.1 := by omega
          rw [e, Int.add_mul_emod_self_right, Int.emod_eq_of_lt (by omega) (by omega)]
          omega
        omega
    rcases h3 with ⟨q, rfl⟩ | ⟨c, q, cc, h4⟩
    · exact inn fun c e => by rw [q] at e; cases e
    · by_cases l : x < t.1 + t.2.1 * c
      · exact inn fun c' e => by rw [q] at e; cases e; exact l
      · have p := c0 c q
        have st : ∀ y, t.1 + t.2.1 * c ≤ y → dlY (t :: r) y g = dlY r y g := fun y hy => dly_ind h4 hy _ _
        rw [st x (by omega)]
        rcases tops_cov hx h4 (by omega) g with ⟨τ, hτ, l1, l2⟩ | ⟨l1, l2⟩
        · have := (tops_lo h4 τ hτ).1
          obtain ⟨u, hu, e⟩ := List.mem_filterMap.mp hτ
          exact .inl ⟨τ, List.mem_filterMap.mpr ⟨u, List.mem_cons_of_mem _ hu, e⟩, l1, by rw [st τ this]; exact l2⟩
        · exact .inr ⟨by omega, by rw [st f l1]; exact l2⟩
/-- the tops are enough -/
theorem top_cov {b : Int} {R : List Trn} (O : DlOk b R) {f x : Int} (hf : b < f) (hx : f ≤ x) : ∃ τ ∈ topL f (tee R b), τ ≤ x ∧ dlO R x ≤ dlO R τ := by
  have T := til_tee O.srt O.lo O.en
  rcases tops_cov hx T (show b + 1 ≤ x by omega) 0 with ⟨τ, hτ, l1, l2⟩ | ⟨_, l2⟩
  · have := (tops_lo T τ hτ).1
    rw [dl_teeth O (by omega), dl_teeth O (by omega)] at l2
    exact ⟨τ, List.mem_cons_of_mem _ hτ, l1, l2⟩
  · rw [dl_teeth O (by omega), dl_teeth O (by omega)] at l2
    exact ⟨f, List.mem_cons_self .., hx, l2⟩
theorem top_asc {b : Int} {R : List Trn} (O : DlOk b R) (f : Int) : (topL f (tee R b)).Pairwise (· < ·) := by
  have T := til_tee O.srt O.lo O.en
  exact List.pairwise_cons.mpr ⟨fun τ h => (tops_lo T τ h).2, tops_asc T⟩
theorem top_ge {b : Int} {R : List Trn} (O : DlOk b R) {f : Int} (τ : Int) (h : τ ∈ topL f (tee R b)) : f ≤ τ := by
  have T := til_tee O.srt O.lo O.en
  rcases List.mem_cons.mp h with rfl | h
  · exact Int.le_refl _
  · have := (tops_lo T τ h).2
    omega
/-- the greatest delay and the first end with it -/
def gdS (R : List Trn) (last best e : Int) : Int := if e ≤ last ∧ dlO R best < dlO R e then e else best
def gdF (R : List Trn) (last : Int) (ts : List Int) (f : Int) : Int := ts.foldl (gdS R last) f
theorem gdF_app (R : List Trn) (last : Int) (a : List Int) (t f : Int) : gdF R last (a ++ [t]) f = gdS R last (gdF R last a f) t := by
  unfold gdF
  rw [List.foldl_append]
  rfl
theorem gd_inv {R : List Trn} {last f : Int} (fl : f ≤ last) : ∀ {ts : List Int}, ts.Pairwise (· < ·) → (∀ t ∈ ts, f ≤ t) → ∀ n : Nat, n ≤ ts.length → (gdF R last (ts.take n) f = f ∨ gdF R last (ts.take n) f ∈ ts.take n) ∧ f ≤ gdF R last (ts.take n) f ∧ gdF R last (ts.take n) f ≤ last ∧ ∀ t ∈ ts.take n, t ≤ last → dlO R t ≤ dlO R (gdF R last (ts.take n) f) ∧ (t < gdF R last (ts.take n) f → dlO R t < dlO R (gdF R last (ts.take n) f))
  | ts, _, _, 0, _ => ⟨.inl rfl, Int.le_refl _, fl, fun t h => nomatch h⟩
  | ts, hs, hf, n + 1, hn => by
    obtain ⟨i0, i1, i2, i3⟩ := gd_inv (R := R) (last := last) fl hs hf n (by omega)
    obtain ⟨t, ht⟩ : ∃ t, ts[n]? = some t := ⟨_, List.getElem?_eq_getElem (by omega)⟩
    have et : ts.take (n + 1) = ts.take n ++ [t] := by rw [List.take_add_one, ht]; rfl
    rw [et, gdF_app]
    have pw : ∀ u ∈ ts.take n, u < t := fun u hu => by
      have : ts.take (n + 1) = ts.take n ++ [t] := et
      have s : (ts.take n ++ [t]).Pairwise (· < ·) := by rw [← this]; exact hs.sublist (List.take_sublist _ _)
      exact (List.pairwise_append.mp s).2.2 u hu t (List.mem_singleton.mpr rfl)
    have ft := hf t (List.mem_of_getElem? ht)
    generalize gdF R last (ts.take n) f = best at i0 i1 i2 i3 ⊢
    have bt : best ≤ t := by
      rcases i0 with rfl | h
      · exact ft
      · have := pw best h
        omega
    unfold gdS
    split
    · rename_i c
      refine ⟨.inr (List.mem_append_right _ (List.mem_singleton.mpr rfl)), ft, c.1, fun u hu hl => ?_⟩
      rcases List.mem_append.mp hu with hu | hu
      · have := i3 u hu hl
        exact ⟨by omega, fun _ => by omega⟩
      · rw [List.mem_singleton.mp hu]
        exact ⟨Int.le_refl _, fun h => by omega⟩
    · rename_i c
      refine ⟨?_, i1, i2, fun u hu hl => ?_⟩
      · rcases i0 with h | h
        · exact .inl h
        · exact .inr (List.mem_append_left _ h)
      · rcases List.mem_append.mp hu with hu | hu
        · exact i3 u hu hl
        · rw [List.mem_singleton.mp hu] at hl ⊢
          exact ⟨by by_cases z : dlO R t ≤ dlO R best
                    · exact z
                    · exact absurd ⟨hl, by omega⟩ c, fun h => by omega⟩
/-- what greatest_delay answers -/
def GD (R : List Trn) (f l e : Int) : Prop := f ≤ e ∧ e ≤ l ∧ (∀ x, f ≤ x → x ≤ l → dlO R x ≤ dlO R e) ∧ ∀ x, f ≤ x → x < e → dlO R x < dlO R e
theorem gd_ok {b : Int} {R : List Trn} (O : DlOk b R) {f l : Int} (hf : b < f) (fl : f ≤ l) : GD R f l (gdF R l (topL f (tee R b)) f) := by
  obtain ⟨_, i1, i2, i3⟩ := gd_inv (R := R) fl (top_asc O f) (top_ge O) _ (Nat.le_refl _)
  rw [List.take_length] at i1 i2 i3
  refine ⟨i1, i2, fun x hx hl => ?_, fun x hx hl => ?_⟩
  · obtain ⟨τ, h1, h2, h3⟩ := top_cov O hf hx
    have := (i3 τ h1 (by omega)).1
    omega
  · obtain ⟨τ, h1, h2, h3⟩ := top_cov O hf hx
    have := (i3 τ h1 (by omega)).2 (by omega)
    omega
/-- what first_above answers -/
def FA (R : List Trn) (m f : Int) : Option Int → Prop
  | none => ∀ x, f ≤ x → dlO R x ≤ m
  | some e => f ≤ e ∧ m < dlO R e ∧ ∀ x, f ≤ x → x < e → dlO R x ≤ m
theorem fa_ok {b : Int} {R : List Trn} (O : DlOk b R) {m f : Int} (hf : b < f) : FA R m f ((topL f (tee R b)).find? fun e => decide (m < dlO R e)) := by
  cases q : (topL f (tee R b)).find? fun e => decide (m < dlO R e) with
  | none =>
    intro x hx
    obtain ⟨τ, h1, h2, h3⟩ := top_cov O hf hx
    have := List.find?_eq_none.mp q τ h1
    have : ¬ m < dlO R τ := fun z => this (decide_eq_true z)
    omega
  | some e =>
    obtain ⟨h1, as, bs, h2, h3⟩ := List.find?_eq_some_iff_append.mp q
    have h1 := of_decide_eq_true h1
    have he : e ∈ topL f (tee R b) := List.mem_of_find?_eq_some q
    refine ⟨top_ge O e he, h1, fun x hx hl => ?_⟩
    obtain ⟨τ, t1, t2, t3⟩ := top_cov O hf hx
    have as' := top_asc O f
    rw [h2] at as' t1
    obtain ⟨p1, p2, p3⟩ := List.pairwise_append.mp as'
    rcases List.mem_append.mp t1 with k | k
    · have k := h3 τ k
      have : ¬ m < dlO R τ := fun z => by rw [decide_eq_true z] at k; cases k
      omega
    · rcases List.mem_cons.mp k with rfl | k
      · omega
      · have := (List.pairwise_cons.mp p2).1 τ k
        omega
/-! ### periods, far behind the openings -/
def EvP (g : List Trn) (p : Int) : Prop := ∃ X, ∀ x, X ≤ x → inL g x → nxT g (x + 1) = some (x + p)
theorem ev_in {g : List Trn} {p X : Int} (hs : Srt g) (p1 : 1 ≤ p) (h : ∀ x, X ≤ x → inL g x → nxT g (x + 1) = some (x + p)) {x : Int} (hx : X ≤ x) (hi : inL g x) : ∀ n : Nat, inL g (x + n * p)
  | 0 => by rw [show x + ((0 : Nat) : Int) * p = x by omega]; exact hi
  | n + 1 => by
    have i := ev_in hs p1 h hx hi n
    have m := Int.mul_nonneg (show (0 : Int) ≤ (n : Nat) by omega) (show 0 ≤ p by omega)
    have := ((nx_iff hs).mp (h _ (by omega) i)).1
    rw [show ((n + 1 : Nat) : Int) = (n : Int) + 1 by omega, Int.add_mul, Int.one_mul]
    rwa [← Int.add_assoc]
theorem ev_nx {g : List Trn} {p X : Int} (hs : Srt g) (p1 : 1 ≤ p) (h : ∀ x, X ≤ x → inL g x → nxT g (x + 1) = some (x + p)) {x : Int} (hx : X ≤ x) (hi : inL g x) {wt : Int} (w1 : 1 ≤ wt) : nxT g (x + wt) = some (x + stepsUp wt p * p) := by
  obtain ⟨a, b, c⟩ := steps_char (d := wt) p1
  have k1 : 1 ≤ stepsUp wt p := by
    by_cases z : 1 ≤ stepsUp wt p
    · exact z
    · rw [show stepsUp wt p = 0 by omega] at b
      omega
  obtain ⟨n, hn⟩ : ∃ n : Nat, stepsUp wt p = (n : Int) + 1 := ⟨(stepsUp wt p - 1).toNat, by omega⟩
  rw [hn] at b c ⊢
  have lo : (n : Int) * p < wt := by
    by_cases z : (n : Int) * p < wt
    · exact z
    · have := c n (by omega) (by omega)
      omega
  rw [Int.add_mul, Int.one_mul] at b
  have i := ev_in hs p1 h hx hi n
  have m := Int.mul_nonneg (show (0 : Int) ≤ (n : Nat) by omega) (show 0 ≤ p by omega)
  obtain ⟨y1, y2, y3⟩ := (nx_iff hs).mp (h _ (by omega) i)
  rw [Int.add_mul, Int.one_mul, ← Int.add_assoc]
  exact (nx_iff hs).mpr ⟨y1, by omega, fun z hz l => y3 z hz (by omega)⟩
theorem ev_pass {ts g : List Trn} {p o wt : Int} (hs : Srt ts) (hg : Srt g) (p1 : 1 ≤ p) (w1 : 1 ≤ wt) (h : EvP ts p) (P : PassOk ts g o wt) : EvP g (stepsUp wt p * p) := by
  obtain ⟨X, h⟩ := h
  refine ⟨mx2 X o, fun x hx hi => ?_⟩
  have e : X ≤ x ∧ o ≤ x := by unfold mx2 at hx; split at hx <;> omega
  rw [P.nxt x hi e.2]
  exact ev_nx hs p1 h e.1 (P.sub x hi) w1
theorem ev_uniq {g : List Trn} {p q : Int} (hs : Srt g) (he : Tot g = none) (h : EvP g p) (h' : EvP g q) : p = q := by
  obtain ⟨X, h⟩ := h
  obtain ⟨Y, h'⟩ := h'
  obtain ⟨x, hx⟩ := nx_end hs he (mx2 X Y)
  obtain ⟨x1, x2, _⟩ := (nx_iff hs).mp hx
  have e : X ≤ x ∧ Y ≤ x := by unfold mx2 at x2; split at x2 <;> omega
  have a := h x e.1 x1
  rw [h' x e.2 x1] at a
  have := Option.some.inj a
  omega
def per : Int → List Tri → Int
  | p, [] => p
  | p, b :: r => per (stepsUp b.2.1 p * p) r
theorem per_app : ∀ (p : Int) (a : List Tri) (b : Tri), per p (a ++ [b]) = stepsUp b.2.1 (per p a) * per p a
  | _, [], _ => rfl
  | p, u :: r, b => per_app _ r b
theorem steps_1 {w p : Int} (w1 : 1 ≤ w) (p1 : 1 ≤ p) : 1 ≤ stepsUp w p ∧ stepsUp w p * p ≤ w + p ∧ p ≤ stepsUp w p * p := by
  obtain ⟨a, b, c⟩ := steps_char (d := w) p1
  have k1 : 1 ≤ stepsUp w p := by
    by_cases z : 1 ≤ stepsUp w p
    · exact z
    · rw [show stepsUp w p = 0 by omega] at b
      omega
  have lo : (stepsUp w p - 1) * p < w := by
    by_cases z : (stepsUp w p - 1) * p < w
    · exact z
    · have := c (stepsUp w p - 1) (by omega) (by omega)
      omega
  have m := Int.mul_le_mul_of_nonneg_right k1 (show 0 ≤ p by omega)
  rw [Int.sub_mul, Int.one_mul] at lo
  rw [Int.one_mul] at m
  exact ⟨k1, by omega, m⟩
theorem per_1 : ∀ {bs : List Tri} {p : Int}, 1 ≤ p → (∀ b ∈ bs, OkT b) → 1 ≤ per p bs
  | [], _, h, _ => h
  | b :: r, p, h, ok => by
    have := steps_1 (ok b (List.mem_cons_self ..)).2.2.1 h
    exact per_1 (bs := r) (by omega) (fun u hu => ok u (List.mem_cons_of_mem _ hu))
theorem ev_sp {bs : List Tri} {st : Int} {d : SpD} (S : SpOk bs st d) (ok : ∀ b ∈ bs, OkT b) (s1 : 1 ≤ st) : ∀ i : Nat, i ≤ bs.length → ∀ g, d.rs[i]? = some g → EvP g (per st (bs.take i))
  | 0, _, g, hg => by
    rw [S.r0] at hg
    cases hg
    have R := S.run 0 _ S.r0
    refine ⟨0, fun x _ hx => ?_⟩
    rcases in_cons.mp hx with ⟨i, i0, _, rfl⟩ | h
    · have i0 : 0 ≤ i := i0
      show nxT _ (d.first + i * st + 1) = some (d.first + i * st + st)
      refine (nx_iff R.srt).mpr ⟨in_cons.mpr (.inl ⟨i + 1, by omega, (fun _ e => by cases e), ?_⟩), by omega, fun z hz l => ?_⟩
      · show d.first + i * st + st = d.first + (i + 1) * st
        rw [Int.add_mul, Int.one_mul, Int.add_assoc]
      · rcases in_cons.mp hz with ⟨j, j0, _, rfl⟩ | h
        · have l : d.first + i * st + 1 ≤ d.first + j * st := l
          show d.first + i * st + st ≤ d.first + j * st
          by_cases c : i + 1 ≤ j
          · have := Int.mul_le_mul_of_nonneg_right c (show 0 ≤ st by omega)
            rw [Int.add_mul, Int.one_mul] at this
            omega
          · have := Int.mul_le_mul_of_nonneg_right (show j ≤ i by omega) (show 0 ≤ st by omega)
            omega
        · exact absurd h in_nil
    · exact absurd h in_nil
  | i + 1, hi, g, hg => by
    obtain ⟨g0, hg0⟩ : ∃ g0, d.rs[i]? = some g0 := ⟨_, List.getElem?_eq_getElem (by rw [S.rl]; omega)⟩
    obtain ⟨os, o, b, s, C, _⟩ := S.stp i g0 g hg0 hg
    have e : bs.take (i + 1) = bs.take i ++ [b] := by rw [List.take_add_one, C.hb]; rfl
    rw [e, per_app]
    have okb := ok b (List.mem_of_getElem? C.hb)
    exact ev_pass (S.run _ _ hg0).srt (S.run _ _ hg).srt (per_1 s1 fun b hb => ok b (List.mem_of_mem_take hb)) okb.2.2.1 (ev_sp S ok s1 i (by omega) g0 hg0) C.ps
/-! ### settled -/
/-- from tau on the passes have the distance L -/
structure Stl (b : Int) (R : List Trn) (tau L : Int) : Prop where
  L1 : 1 ≤ L
  LB : L ≤ PB 1500
  tB : tau ≤ PB 1501
  bt : b < tau
  tin : inL R tau
  aft : ∀ x, tau < x → inL R x → ∃ k, 1 ≤ k ∧ x = tau + k * L
  ev : ∀ k, 0 ≤ k → inL R (tau + k * L)
  bef : (∀ x, inL R x → tau ≤ x) ∨ ¬ (inL R (tau - L) ∧ nxT R (tau - L + 1) = some tau)
def setV (R : List Trn) : Int × Int := match R.reverse with
  | [] => (0, 0)
  | [t] => (t.1, t.2.1)
  | t :: u :: _ => if (lastE u).getD 0 + t.2.1 = t.1 then ((lastE u).getD 0, t.2.1) else (t.1, t.2.1)
theorem lo_in {b : Int} {R : List Trn} (O : DlOk b R) {x : Int} (h : inL R x) : b < x := by
  obtain ⟨t, ht, h⟩ := h
  have := in_ge (O.srt.1 t ht) h
  have := O.lo t ht
  omega
theorem nf0_at : ∀ (a : List Trn) {u t : Trn} {r : List Trn}, NF0 (a ++ u :: t :: r) → ∃ c, u.2.2 = some c ∧ 2 ≤ c ∧ t.1 ≠ u.1 + c * u.2.1
  | [], _, _, _, h => h.1
  | [v], _, _, _, h => nf0_at [] h.2
  | v :: w :: a, _, _, _, h => nf0_at (w :: a) h.2
/-- the last train has no end -/
theorem last_none : ∀ {R : List Trn}, Srt R → Tot R = none → ∃ a t, R = a ++ [t] ∧ t.2.2 = none
  | [], _, h => nomatch h
  | [t], _, h => by
    refine ⟨[], t, rfl, ?_⟩
    have ht : (match t.2.2 with | none => none | some c => addO c (some 0)) = none := h
    cases q : t.2.2 with
    | none => rfl
    | some c => rw [q] at ht; cases ht
  | t :: u :: r, hs, h => by
    have ht : (match t.2.2 with | none => none | some c => addO c (Tot (u :: r))) = none := h
    obtain ⟨c, hc, _⟩ := hs.lt u (List.mem_cons_self ..)
    rw [hc] at ht
    have h2 : Tot (u :: r) = none := by
      cases q : Tot (u :: r) with
      | none => rfl
      | some n => rw [q] at ht; cases ht
    obtain ⟨a, v, e, hv⟩ := last_none hs.tail h2
    exact ⟨t :: a, v, by rw [e]; rfl, hv⟩
theorem srt_lt {a : List Trn} {t : Trn} (h : Srt (a ++ [t])) : ∀ u ∈ a, Lt u t := fun u hu => (List.pairwise_append.mp h.2).2.2 u hu t (List.mem_singleton.mpr rfl)
theorem one_in {t : Trn} {x : Int} : inL [t] x ↔ inT t x := ⟨fun h => by rcases in_cons.mp h with h | h; exact h; exact absurd h in_nil, fun h => in_cons.mpr (.inl h)⟩
theorem set_ok {b : Int} {R : List Trn} (O : DlOk b R) : Stl b R (setV R).1 (setV R).2 := by
  obtain ⟨a, t, rfl, ht⟩ := last_none O.srt O.en
  have okt := O.srt.1 t (List.mem_append_right _ (List.mem_singleton.mpr rfl))
  have btt := O.bt t (List.mem_append_right _ (List.mem_singleton.mpr rfl))
  have L1 := okt.2.1
  have tb : PB 1500 ≤ PB 1501 := PB_le (by decide)
  have inl : ∀ x, inT t x → ∃ k, 0 ≤ k ∧ x = t.1 + k * t.2.1 := fun x ⟨k, k0, _, e⟩ => ⟨k, k0, e⟩
  have tin : ∀ k, 0 ≤ k → inL (a ++ [t]) (t.1 + k * t.2.1) := fun k k0 => in_app.mpr (.inr (one_in.mpr ⟨k, k0, (fun c e => by rw [ht] at e; cases e), rfl⟩))
  have t0 := tin 0 (by decide)
  rw [Int.zero_mul, Int.add_zero] at t0
  have alt : ∀ x, inL a x → x < t.1 := fun x ⟨u, hu, h⟩ => by
    obtain ⟨c, hc, l⟩ := srt_lt O.srt u hu
    have := in_le (O.srt.1 u (List.mem_append_left _ hu)) hc h
    omega
  have plain : (∀ x, inL (a ++ [t]) x → t.1 ≤ x) ∨ ¬ (inL (a ++ [t]) (t.1 - t.2.1) ∧ nxT (a ++ [t]) (t.1 - t.2.1 + 1) = some t.1) → Stl b (a ++ [t]) t.1 t.2.1 := fun h => by
    refine ⟨L1, btt.p, Int.le_trans btt.s tb, lo_in O t0, t0, fun x l hx => ?_, tin, h⟩
    rcases in_app.mp hx with hx | hx
    · have := alt x hx
      omega
    · obtain ⟨k, k0, e⟩ := inl x (one_in.mp hx)
      refine ⟨k, ?_, e⟩
      by_cases c : k = 0
      · rw [c, Int.zero_mul] at e
        omega
      · omega
  unfold setV
  rw [List.reverse_append]
  cases hr : a.reverse with
  | nil =>
    have : a = [] := by rw [← List.reverse_reverse a, hr]; rfl
    subst this
    refine plain (.inl fun x hx => ?_)
    rcases in_app.mp hx with hx | hx
    · exact absurd hx in_nil
    · exact in_ge okt (one_in.mp hx)
  | cons u r =>
    have ea : a = r.reverse ++ [u] := by rw [← List.reverse_reverse a, hr, List.reverse_cons]
    show Stl b (a ++ [t]) (if (lastE u).getD 0 + t.2.1 = t.1 then ((lastE u).getD 0, t.2.1) else (t.1, t.2.1)).1 (if (lastE u).getD 0 + t.2.1 = t.1 then ((lastE u).getD 0, t.2.1) else (t.1, t.2.1)).2
    have um : u ∈ a := by rw [ea]; exact List.mem_append_right _ (List.mem_singleton.mpr rfl)
    have oku := O.srt.1 u (List.mem_append_left _ um)
    have btu := O.bt u (List.mem_append_left _ um)
    obtain ⟨c, hc, c2, ne⟩ : ∃ c, u.2.2 = some c ∧ 2 ≤ c ∧ t.1 ≠ u.1 + c * u.2.1 := by
      have := O.nf.go
      rw [ea, List.append_assoc] at this
      exact nf0_at r.reverse this
    have eL : (lastE u).getD 0 = u.1 + (c - 1) * u.2.1 := by unfold lastE; rw [hc]; rfl
    rw [eL]
    have au : ∀ x, inL a x → x ≤ u.1 + (c - 1) * u.2.1 := fun x hx => by
      rw [ea] at hx
      rcases in_app.mp hx with ⟨v, hv, hx⟩ | hx
      · have sa : Srt (r.reverse ++ [u]) := by
          rw [← ea]
          exact ⟨fun z hz => O.srt.1 z (List.mem_append_left _ hz), (List.pairwise_append.mp O.srt.2).1⟩
        obtain ⟨d, hd, l⟩ := srt_lt sa v hv
        have h1 := in_le (O.srt.1 v (List.mem_append_left _ (by rw [ea]; exact List.mem_append_left _ hv))) hd hx
        have := Int.mul_nonneg (show 0 ≤ c - 1 by omega) (show 0 ≤ u.2.1 by have := oku.2.1; omega)
        omega
      · exact in_le oku hc (one_in.mp hx)
    have ul : inL (a ++ [t]) (u.1 + (c - 1) * u.2.1) := in_app.mpr (.inl ⟨u, um, ⟨c - 1, by omega, (fun d e => by rw [hc] at e; cases e; omega), rfl⟩⟩)
    have us : inL (a ++ [t]) (u.1 + (c - 2) * u.2.1) := in_app.mpr (.inl ⟨u, um, ⟨c - 2, by omega, (fun d e => by rw [hc] at e; cases e; omega), rfl⟩⟩)
    have e12 : (c - 1) * u.2.1 = (c - 2) * u.2.1 + u.2.1 := by rw [show c - 1 = c - 2 + 1 by omega, Int.add_mul, Int.one_mul]
    have e1 : c * u.2.1 = (c - 1) * u.2.1 + u.2.1 := by rw [Int.sub_mul, Int.one_mul]; omega
    split
    · rename_i h
      dsimp only
      refine ⟨L1, btt.p, Int.le_trans (btu.c c hc) tb, lo_in O ul, ul, fun x l hx => ?_, fun k k0 => ?_, .inr fun ⟨h1, h2⟩ => ?_⟩
      · rcases in_app.mp hx with hx | hx
        · have := au x hx
          omega
        · obtain ⟨k, k0, e⟩ := inl x (one_in.mp hx)
          refine ⟨k + 1, by omega, ?_⟩
          rw [Int.add_mul, Int.one_mul]
          omega
      · by_cases k1 : k = 0
        · rw [k1, Int.zero_mul, Int.add_zero]
          exact ul
        · have := tin (k - 1) (by omega)
          rw [Int.sub_mul, Int.one_mul] at this
          rw [show u.1 + (c - 1) * u.2.1 + k * t.2.1 = t.1 + (k * t.2.1 - t.2.1) by omega]
          exact this
      · have n := (nx_iff O.srt).mp h2
        have p1 := oku.2.1
        by_cases z : u.2.1 < t.2.1
        · have := n.2.2 _ us (by omega)
          omega
        · by_cases w : u.2.1 = t.2.1
          · omega
          · rcases in_app.mp h1 with h1 | h1
            · rw [ea] at h1
              rcases in_app.mp h1 with ⟨v, hv, hx⟩ | h1
              · have sa : Srt (r.reverse ++ [u]) := by
                  rw [← ea]
                  exact ⟨fun z hz => O.srt.1 z (List.mem_append_left _ hz), (List.pairwise_append.mp O.srt.2).1⟩
                obtain ⟨d, hd, l⟩ := srt_lt sa v hv
                have h1 := in_le (O.srt.1 v (List.mem_append_left _ (by rw [ea]; exact List.mem_append_left _ hv))) hd hx
                have := Int.mul_nonneg (show 0 ≤ c - 2 by omega) (show 0 ≤ u.2.1 by omega)
                omega
              · obtain ⟨i, i0, ic, e⟩ := one_in.mp h1
                have ic := ic c hc
                by_cases q : i ≤ c - 2
                · have := Int.mul_le_mul_of_nonneg_right q (show 0 ≤ u.2.1 by omega)
                  omega
                · have : i = c - 1 := by omega
                  rw [this] at e
                  omega
            · have := in_ge okt (one_in.mp h1)
              omega
    · rename_i h
      dsimp only
      refine plain (.inr fun ⟨h1, h2⟩ => ?_)
      have n := (nx_iff O.srt).mp h2
      have l1 := (srt_lt O.srt u um)
      obtain ⟨d, hd, l1⟩ := l1
      rw [hc] at hd
      cases hd
      by_cases z : t.1 - t.2.1 < u.1 + (c - 1) * u.2.1
      · have := n.2.2 _ ul (by omega)
        omega
      · rcases in_app.mp h1 with h1 | h1
        · have := au _ h1
          omega
        · have := in_ge okt (one_in.mp h1)
          omega
theorem ev_set {b : Int} {R : List Trn} {tau L : Int} (O : DlOk b R) (S : Stl b R tau L) : EvP R L := by
  have L1 := S.L1
  refine ⟨tau, fun x hx hi => ?_⟩
  obtain ⟨k, k0, e⟩ : ∃ k, 0 ≤ k ∧ x = tau + k * L := by
    by_cases c : tau < x
    · obtain ⟨k, k1, e⟩ := S.aft x c hi
      exact ⟨k, by omega, e⟩
    · exact ⟨0, by decide, by omega⟩
  have i2 := S.ev (k + 1) (by omega)
  rw [Int.add_mul, Int.one_mul] at i2
  refine (nx_iff O.srt).mpr ⟨by rw [e, Int.add_assoc]; exact i2, by omega, fun z hz l => ?_⟩
  obtain ⟨j, j1, e2⟩ := S.aft z (by omega) hz
  by_cases c : k + 1 ≤ j
  · have := Int.mul_le_mul_of_nonneg_right c (show 0 ≤ L by omega)
    rw [Int.add_mul, Int.one_mul] at this
    omega
  · have := Int.mul_le_mul_of_nonneg_right (show j ≤ k by omega) (show 0 ≤ L by omega)
    omega
theorem ev_dl {ts : List Tri} {st ph b : Int} {os : List (Int × Int)} {R : List Trn} (W : RowD ts st ph) (h : DlOf ts st ph os b R) : EvP R (per st ts) := by
  obtain ⟨pre, D, g, e1, LS, _, ok, nx, _⟩ := h
  have := ev_sp LS.ok W.ok W.s0 ts.length (Nat.le_refl _) g LS.hg
  rw [List.take_length] at this
  obtain ⟨X, hX⟩ := this
  have RG := LS.ok.run _ _ LS.hg
  refine ⟨X, fun x hx hi => ?_⟩
  have bx := lo_in ok hi
  rw [nx (x + 1) (by omega)]
  refine hX x hx ?_
  have : nxT R x = some x := (nx_iff ok.srt).mpr ⟨hi, Int.le_refl _, fun z _ l => l⟩
  rw [nx x bx] at this
  exact ((nx_iff RG.srt).mp this).1
/-- the period of the row -/
theorem set_per {ts : List Tri} {st ph b : Int} {os : List (Int × Int)} {R : List Trn} (W : RowD ts st ph) (h : DlOf ts st ph os b R) {tau L : Int} (S : Stl b R tau L) : L = per st ts := by
  have e := ev_dl W h
  obtain ⟨pre, D, g, e1, LS, _, ok, nx, _⟩ := h
  exact ev_uniq ok.srt ok.en (ev_set ok S) e
/-- the delays from the settled time on -/
theorem set_dl {b : Int} {R : List Trn} {tau L : Int} (O : DlOk b R) (S : Stl b R tau L) {e : Int} (h : tau ≤ e) : dlO R e = (tau - e) % L := by
  have L1 := S.L1
  obtain ⟨y, hy⟩ := nx_end O.srt O.en e
  obtain ⟨y1, y2, y3⟩ := (nx_iff O.srt).mp hy
  have ed : dlO R e = y - e := by unfold dlO; rw [hy]; rfl
  rw [ed]
  obtain ⟨k, k0, ek⟩ : ∃ k, 0 ≤ k ∧ y = tau + k * L := by
    by_cases c : tau < y
    · obtain ⟨k, k1, e⟩ := S.aft y c y1
      exact ⟨k, by omega, e⟩
    · exact ⟨0, by decide, by omega⟩
  have lt : y - e < L := by
    by_cases c : y - e < L
    · exact c
    · have k1 : 1 ≤ k := by
        by_cases q : 1 ≤ k
        · exact q
        · rw [show k = 0 by omega, Int.zero_mul] at ek
          omega
      have := S.ev (k - 1) (by omega)
      rw [Int.sub_mul, Int.one_mul] at this
      have := y3 _ this (by omega)
      omega
  have em : tau - e = (y - e) + (-k) * L := by rw [Int.neg_mul]; omega
  rw [em, Int.add_mul_emod_self_right, Int.emod_eq_of_lt (by omega) lt]
/-! ### sums over whole periods -/
theorem win_suc {φ : Int → Int} {R : List Trn} {f : Int} : ∀ n : Nat, winF φ R f (n + 1) = φ (dlO R f) + winF φ R (f + 1) n
  | 0 => by
    show 0 + φ (dlO R (f + (0 : Nat))) = φ (dlO R f) + 0
    rw [show f + ((0 : Nat) : Int) = f by omega]
    omega
  | n + 1 => by
    have i := win_suc (φ := φ) (R := R) (f := f) n
    show winF φ R f (n + 1) + φ (dlO R (f + (n + 1 : Nat))) = φ (dlO R f) + (winF φ R (f + 1) n + φ (dlO R (f + 1 + n)))
    rw [i, show f + ((n + 1 : Nat) : Int) = f + 1 + n by omega]
    omega
theorem win_shift {b : Int} {R : List Trn} {tau L : Int} (O : DlOk b R) (S : Stl b R tau L) {φ : Int → Int} {f : Int} (hf : tau ≤ f) : winF φ R (f + 1) L.toNat = winF φ R f L.toNat := by
  have L1 := S.L1
  have a := win_suc (φ := φ) (R := R) (f := f) L.toNat
  have b : winF φ R f (L.toNat + 1) = winF φ R f L.toNat + φ (dlO R (f + L.toNat)) := rfl
  have p : dlO R (f + L.toNat) = dlO R f := by
    rw [set_dl O S hf, set_dl O S (by omega), show tau - (f + (L.toNat : Int)) = tau - f + (-1) * L by omega, Int.add_mul_emod_self_right]
  rw [p] at b
  omega
theorem win_far {b : Int} {R : List Trn} {tau L : Int} (O : DlOk b R) (S : Stl b R tau L) {φ : Int → Int} : ∀ k : Nat, winF φ R (tau + 1 + k) L.toNat = winF φ R (tau + 1) L.toNat
  | 0 => by rw [show tau + 1 + ((0 : Nat) : Int) = tau + 1 by omega]
  | k + 1 => by
    rw [show tau + 1 + ((k + 1 : Nat) : Int) = tau + 1 + k + 1 by omega, win_shift O S (by omega)]
    exact win_far O S k
theorem set_low {b : Int} {R : List Trn} {tau L : Int} (O : DlOk b R) (S : Stl b R tau L) {n : Nat} (h : (n : Int) < L) : dlO R (tau + 1 + n) = L - 1 - n := by
  have L1 := S.L1
  rw [set_dl O S (by omega), show tau - (tau + 1 + (n : Int)) = (L - 1 - n) + (-1) * L by omega, Int.add_mul_emod_self_right, Int.emod_eq_of_lt (by omega) (by omega)]
theorem win_tot {b : Int} {R : List Trn} {tau L : Int} (O : DlOk b R) (S : Stl b R tau L) : ∀ n : Nat, (n : Int) ≤ L → winF (fun d => d) R (tau + 1) n + triI n = n * (L - 1)
  | 0, _ => by show 0 + triI 0 = 0 * (L - 1); rw [Int.zero_mul]; decide
  | n + 1, h => by
    have i := win_tot O S n (by omega)
    have e := set_low O S (n := n) (by omega)
    show winF (fun d => d) R (tau + 1) n + dlO R (tau + 1 + n) + triI ((n + 1 : Nat) : Int) = ((n + 1 : Nat) : Int) * (L - 1)
    have t := tri_suc n
    rw [show ((n + 1 : Nat) : Int) = (n : Int) + 1 by omega, t, e, Int.add_mul, Int.one_mul]
    omega
theorem win_cnt {b : Int} {R : List Trn} {tau L m : Int} (O : DlOk b R) (S : Stl b R tau L) : ∀ n : Nat, (n : Int) ≤ L → winF (fun d => if d ≤ m then 1 else 0) R (tau + 1) n = mx2 0 (n - mx2 0 (L - 1 - m))
  | 0, _ => by
    show 0 = mx2 0 (((0 : Nat) : Int) - mx2 0 (L - 1 - m))
    unfold mx2
    split <;> split at * <;> omega
  | n + 1, h => by
    have i := win_cnt (m := m) O S n (by omega)
    have e := set_low O S (n := n) (by omega)
    show winF _ R (tau + 1) n + (if dlO R (tau + 1 + n) ≤ m then 1 else 0) = _
    rw [i, e]
    unfold mx2
    split <;> split <;> split <;> (try split) <;> omega
/-! ### small rows: how far the next pass is, and when the delays are settled -/
def GapN (g : List Trn) (fr G : Int) : Prop := ∀ x, fr ≤ x → ∃ y, nxT g x = some y ∧ y ≤ x + G
theorem nx_same {g : List Trn} (hs : Srt g) {x z y : Int} (h : nxT g z = some y) (l : z ≤ x) (u : ∀ e, inL g e → z ≤ e → x ≤ e) : nxT g x = some y := by
  obtain ⟨h1, h2, h3⟩ := (nx_iff hs).mp h
  exact (nx_iff hs).mpr ⟨h1, u y h1 h2, fun e he hl => h3 e he (by omega)⟩
theorem gap_pass {ts g : List Trn} {fr G o wt : Int} (hs : Srt ts) (hg : Srt g) (hT : Tot g = none) (w1 : 1 ≤ wt) (fo : fr ≤ o) (h : GapN ts fr G) (P : PassOk ts g o wt) : GapN g fr (G + wt) := by
  intro x hx
  by_cases c : x ≤ o
  · obtain ⟨y, hy, yl⟩ := h x hx
    obtain ⟨y1, y2, y3⟩ := (nx_iff hs).mp hy
    have yo := y3 o (P.sub o P.op) c
    exact ⟨y, (nx_iff hg).mpr ⟨P.low y yo y1, y2, fun e he hl => y3 e (P.sub e he) hl⟩, by omega⟩
  · -- the last one before x
    have n1 : NB g x = NB g x - 1 + 1 := by omega
    have on := (in_mem hg.1 o).mp P.op
    have om := NB_mono hg.1 (show o + 1 ≤ x by omega)
    have o0 := NB_nn hg.1 o
    have k0 : 0 ≤ NB g x - 1 := by omega
    obtain ⟨z, hz⟩ := at_end hg hT k0
    obtain ⟨z1, z2⟩ := (At_iff hg k0).mp hz
    have zi := at_in hg k0 hz
    have zx : z < x := by
      by_cases q : z < x
      · exact q
      · have := NB_mono hg.1 (show x ≤ z by omega)
        omega
    have zo : o ≤ z := by
      by_cases q : o ≤ z
      · exact q
      · have := NB_mono hg.1 (show z + 1 ≤ o by omega)
        omega
    have nz := P.nxt z zi zo
    obtain ⟨y, hy, yl⟩ := h (z + wt) (by omega)
    rw [hy] at nz
    refine ⟨y, nx_same hg nz (by omega) fun e he hl => ?_, by omega⟩
    by_cases q : x ≤ e
    · exact q
    · have a := (in_mem hg.1 e).mp he
      have b := NB_mono hg.1 (show z + 1 ≤ e by omega)
      have c := NB_mono hg.1 (show e + 1 ≤ x by omega)
      omega
theorem at_gap {g : List Trn} {fr G : Int} (hs : Srt g) (hh : At g 0 = some fr) (G0 : 0 ≤ G) (h : GapN g fr G) : ∀ (n : Nat) (o : Int), At g n = some o → fr ≤ o ∧ o ≤ fr + n * (G + 1)
  | 0, o, e => by
    have e : At g 0 = some o := e
    rw [hh] at e
    cases e
    rw [show ((0 : Nat) : Int) * (G + 1) = 0 by omega]
    exact ⟨Int.le_refl _, by omega⟩
  | n + 1, o, e => by
    obtain ⟨p, hp⟩ : ∃ p, At g n = some p := by
      cases q : At g (n : Int) with
      | some p => exact ⟨p, rfl⟩
      | none =>
        have := At_mono hs.1 (by omega) (show (n : Int) ≤ ((n + 1 : Nat) : Int) by omega) q
        rw [this] at e
        cases e
    obtain ⟨i1, i2⟩ := at_gap hs hh G0 h n p hp
    obtain ⟨y, hy, yl⟩ := h (p + 1) (by omega)
    have lt := at_lt hs (show (0 : Int) ≤ n by omega) (show (n : Int) < ((n + 1 : Nat) : Int) by omega) hp e
    obtain ⟨y1, y2, y3⟩ := (nx_iff hs).mp hy
    have oy : o ≤ y := by
      by_cases q : o ≤ y
      · exact q
      · have a1 := (At_iff hs (show (0 : Int) ≤ n by omega)).mp hp
        have a2 := (At_iff hs (show (0 : Int) ≤ ((n + 1 : Nat) : Int) by omega)).mp e
        have b := (in_mem hs.1 y).mp y1
        have c := NB_mono hs.1 (show p + 1 ≤ y by omega)
        have d := NB_mono hs.1 (show y + 1 ≤ o by omega)
        omega
    rw [show ((n + 1 : Nat) : Int) = (n : Int) + 1 by omega, Int.add_mul, Int.one_mul]
    exact ⟨by omega, by omega⟩
def EvX (g : List Trn) (p X : Int) : Prop := ∀ x, X ≤ x → inL g x → nxT g (x + 1) = some (x + p)
theorem evx_pass {ts g : List Trn} {p o wt X : Int} (hs : Srt ts) (p1 : 1 ≤ p) (w1 : 1 ≤ wt) (h : EvX ts p X) (P : PassOk ts g o wt) (ox : o ≤ X) : EvX g (stepsUp wt p * p) X := fun x hx hi => by
  rw [P.nxt x hi (by omega)]
  exact ev_nx hs p1 h hx (P.sub x hi) w1
/-- the chain of a small row -/
theorem sm_sp {bs : List Tri} {st : Int} {d : SpD} (S : SpOk bs st d) (ok : ∀ b ∈ bs, OkT b) (sm : ∀ b ∈ bs, b.1 ≤ 4 ∧ b.2.1 ≤ 12) (l4 : bs.length ≤ 4) (s1 : 1 ≤ st) (s4 : st ≤ 4) : ∀ i : Nat, i ≤ bs.length → ∀ g, d.rs[i]? = some g → GapN g d.first (4 + 12 * i) ∧ EvX g (per st (bs.take i)) (d.first + 200) ∧ per st (bs.take i) ≤ 4 + 12 * i
  | 0, _, g, hg => by
    rw [S.r0] at hg
    cases hg
    have R := S.run 0 _ S.r0
    have nx : ∀ x, d.first ≤ x → ∃ k, 0 ≤ k ∧ nxT [(d.first, st, none)] x = some (d.first + k * st) ∧ d.first + k * st < x + st := fun x hx => by
      obtain ⟨a, b, c⟩ := steps_char (d := x - d.first) s1
      obtain ⟨k, hk⟩ : ∃ k, k = stepsUp (x - d.first) st := ⟨_, rfl⟩
      rw [← hk] at a b c
      refine ⟨k, a, (nx_iff R.srt).mpr ⟨in_cons.mpr (.inl ⟨k, a, (fun _ e => by cases e), rfl⟩), by omega, fun z hz l => ?_⟩, ?_⟩
      · rcases in_cons.mp hz with ⟨j, j0, _, rfl⟩ | h
        · have l : x ≤ d.first + j * st := l
          have := c j j0 (by omega)
          have := Int.mul_le_mul_of_nonneg_right this (show 0 ≤ st by omega)
          show d.first + k * st ≤ d.first + j * st
          omega
        · exact absurd h in_nil
      · by_cases q : k = 0
        · rw [q, Int.zero_mul]
          omega
        · by_cases w : d.first + k * st < x + st
          · exact w
          · have := c (k - 1) (by omega) (by rw [Int.sub_mul, Int.one_mul]; omega)
            omega
    refine ⟨fun x hx => ?_, fun x hx hi => ?_, by show st ≤ 4 + 12 * ((0 : Nat) : Int); omega⟩
    · obtain ⟨k, _, h1, h2⟩ := nx x hx
      exact ⟨_, h1, by omega⟩
    · rcases in_cons.mp hi with ⟨i, i0, _, rfl⟩ | h
      · have i0 : 0 ≤ i := i0
        have hx : d.first + 200 ≤ d.first + i * st := hx
        obtain ⟨k, k0, h1, h2⟩ := nx (d.first + i * st + 1) (by omega)
        show nxT _ (d.first + i * st + 1) = some (d.first + i * st + st)
        rw [h1]
        have g1 := ((nx_iff R.srt).mp h1).2.1
        have : k = i + 1 := by
          by_cases c : k ≤ i
          · have := Int.mul_le_mul_of_nonneg_right c (show 0 ≤ st by omega)
            omega
          · by_cases c2 : i + 2 ≤ k
            · have := Int.mul_le_mul_of_nonneg_right c2 (show 0 ≤ st by omega)
              rw [Int.add_mul] at this
              omega
            · omega
        rw [this, Int.add_mul, Int.one_mul, Int.add_assoc]
      · exact absurd h in_nil
  | i + 1, hi, g, hg => by
    obtain ⟨g0, hg0⟩ : ∃ g0, d.rs[i]? = some g0 := ⟨_, List.getElem?_eq_getElem (by rw [S.rl]; omega)⟩
    obtain ⟨os, o, b, s, C, _⟩ := S.stp i g0 g hg0 hg
    obtain ⟨i1, i2, i3⟩ := sm_sp S ok sm l4 s1 s4 i (by omega) g0 hg0
    have e : bs.take (i + 1) = bs.take i ++ [b] := by rw [List.take_add_one, C.hb]; rfl
    have bm := List.mem_of_getElem? C.hb
    have okb := ok b bm
    obtain ⟨b1, b2⟩ := sm b bm
    have R0 := S.run _ _ hg0
    have p1 := per_1 (bs := bs.take i) s1 fun b hb => ok b (List.mem_of_mem_take hb)
    have nd : ndOf b s ≤ 4 ∧ 1 ≤ ndOf b s := by unfold ndOf; obtain ⟨o1, _⟩ := okb; split <;> omega
    have ho := C.at_
    obtain ⟨n, hn⟩ : ∃ n : Nat, ndOf b s - 1 = n := ⟨(ndOf b s - 1).toNat, by omega⟩
    rw [hn] at ho
    have og := at_gap R0.srt R0.hd (by omega) i1 n o ho
    have ob : o ≤ d.first + 200 := by
      have := Int.mul_le_mul (show (n : Int) ≤ 3 by omega) (show (4 + 12 * (i : Int) + 1) ≤ 41 by omega) (by omega) (by decide)
      omega
    rw [e, per_app]
    have s := steps_1 okb.2.2.1 p1
    refine ⟨fun x hx => ?_, evx_pass R0.srt p1 okb.2.2.1 i2 C.ps ob, by omega⟩
    obtain ⟨y, h1, h2⟩ := gap_pass R0.srt (S.run _ _ hg).srt (S.run _ _ hg).en okb.2.2.1 C.fo i1 C.ps x hx
    exact ⟨y, h1, by omega⟩
/-- when the delays of a small row are settled -/
theorem sm_set {ts : List Tri} {st ph b : Int} {os : List (Int × Int)} {R : List Trn} (W : RowD ts st ph) (sm : ∀ b ∈ ts, b.1 ≤ 4 ∧ b.2.1 ≤ 12) (l4 : ts.length ≤ 4) (s4 : st ≤ 4) (p6 : ph ≤ 6) (h : DlOf ts st ph os b R) {tau L : Int} (S : Stl b R tau L) : tau ≤ b + 400 ∧ L ≤ 52 := by
  have eL := set_per W h S
  obtain ⟨pre, D, g, e1, LS, _, ok, nx, _⟩ := h
  obtain ⟨h1, h2, h3⟩ := sm_sp LS.ok W.ok sm l4 W.s0 s4 ts.length (Nat.le_refl _) g LS.hg
  rw [List.take_length, ← eL] at h2 h3
  have RG := LS.ok.run _ _ LS.hg
  have b0 := ok.b0
  have s0 : 0 < st := by have := W.s0; omega
  have fb : D.first ≤ b + 10 := by
    have := LS.fb
    have p0 := W.p0
    have e : reqA ph st b = ph + stepsUp (b - ph) st * st := rfl
    have := (steps_1 (w := 1) (p := st) (by decide) (by omega))
    obtain ⟨a1, a2, a3⟩ := steps_char (d := b - ph) (show 1 ≤ st by omega)
    by_cases c : stepsUp (b - ph) st = 0
    · rw [c, Int.zero_mul] at e
      omega
    · by_cases q : (stepsUp (b - ph) st - 1) * st < b - ph
      · rw [Int.sub_mul, Int.one_mul] at q
        omega
      · have := a3 (stepsUp (b - ph) st - 1) (by omega) (by omega)
        omega
  have gapR : ∀ x, b < x → ∃ y, nxT R x = some y ∧ y ≤ (if D.first ≤ x then x else D.first) + 52 := fun x hx => by
    rw [nx x hx]
    by_cases c : D.first ≤ x
    · obtain ⟨y, y1, y2⟩ := h1 x c
      exact ⟨y, y1, by rw [if_pos c]; omega⟩
    · obtain ⟨y, y1, y2⟩ := h1 D.first (Int.le_refl _)
      obtain ⟨z, hz⟩ := nx_end RG.srt RG.en x
      obtain ⟨z1, z2, z3⟩ := (nx_iff RG.srt).mp hz
      obtain ⟨w1, w2, w3⟩ := (nx_iff RG.srt).mp y1
      have := z3 y w1 (by omega)
      exact ⟨z, hz, by rw [if_neg c]; omega⟩
  refine ⟨?_, by omega⟩
  have bt := S.bt
  rcases S.bef with hb | hb
  · obtain ⟨y, y1, y2⟩ := gapR (b + 1) (by omega)
    have := hb y ((nx_iff ok.srt).mp y1).1
    split at y2 <;> omega
  · by_cases c : tau ≤ b + 400
    · exact c
    · -- the pass before
      have L1 := S.L1
      obtain ⟨w, w1, w2⟩ := gapR (tau - 100) (by omega)
      have wi := ((nx_iff ok.srt).mp w1)
      have wlt : w < tau := by rw [if_pos (by omega)] at w2; omega
      -- from w on in steps of L
      have far : ∀ x, inL R x → D.first + 200 ≤ x → nxT R (x + 1) = some (x + L) := fun x hi hx => by
        rw [nx (x + 1) (by have := lo_in ok hi; omega)]
        refine h2 x hx ?_
        have : nxT R x = some x := (nx_iff ok.srt).mpr ⟨hi, Int.le_refl _, fun z _ l => l⟩
        rw [nx x (lo_in ok hi)] at this
        exact ((nx_iff RG.srt).mp this).1
      have step : ∀ n : Nat, ∀ x, inL R x → D.first + 200 ≤ x → x < tau → tau - x ≤ n → inL R (tau - L) ∧ nxT R (tau - L + 1) = some tau := by
        intro n
        induction n with
        | zero => intro x _ _ l1 l2; omega
        | succ n ih =>
          intro x hi hx l1 l2
          have f := far x hi hx
          obtain ⟨f1, f2, f3⟩ := (nx_iff ok.srt).mp f
          have := f3 tau S.tin (by omega)
          by_cases q : x + L = tau
          · rw [show tau - L = x by omega]
            exact ⟨hi, by rw [f, q]⟩
          · exact ih (x + L) f1 (by omega) (by omega) (by omega)
      exact absurd (step (tau - w).toNat w wi.1 (by omega) wlt (by omega)) hb
/-! ### the class Delays -/
def dlF (b : Int) (aR aT : Addr) : List (Str × V) := putF "teeth" (.ref aT) (putF "runs" (.ref aR) (putF "begin" (.int b) []))
theorem dlF_b (b : Int) (aR aT : Addr) : (dlF b aR aT).lookup ("begin" : Str) = some (.int b) := by
  unfold dlF
  rw [lookup_putF, if_neg (by decide +kernel), lookup_putF, if_neg (by decide +kernel), lookup_putF, if_pos rfl]
theorem dlF_r (b : Int) (aR aT : Addr) : (dlF b aR aT).lookup ("runs" : Str) = some (.ref aR) := by
  unfold dlF
  rw [lookup_putF, if_neg (by decide +kernel), lookup_putF, if_pos rfl]
theorem dlF_t (b : Int) (aR aT : Addr) : (dlF b aR aT).lookup ("teeth" : Str) = some (.ref aT) := by
  unfold dlF
  rw [lookup_putF, if_pos rfl]
/-- a Delays stands at p -/
structure DlAt (C : Addr) (H : Hp) (p aR aT : Addr) (xr xt : List V) (b : Int) (R : List Trn) : Prop where
  ob : ∃ dx, H p = some (.ins C dx (dlF b aR aT))
  hR : H aR = some (.lst xr)
  tR : Trs H xr R
  hT : H aT = some (.lst xt)
  tT : Trs H xt (tee R b)
  ok : DlOk b R
def DlV (C : Addr) (H : Hp) (p : Addr) (b : Int) (R : List Trn) : Prop := ∃ aR aT xr xt, DlAt C H p aR aT xr xt b R
theorem DlV.same {C : Addr} {H H' : Hp} {p : Addr} {b : Int} {R : List Trn} (h : DlV C H p b R) (s : Same H H') : DlV C H' p b R := by
  obtain ⟨aR, aT, xr, xt, ⟨dx, e⟩, h2, h3, h4, h5, h6⟩ := h
  exact ⟨aR, aT, xr, xt, ⟨dx, s _ _ e⟩, s _ _ h2, h3.same s, s _ _ h4, h5.same s, h6⟩
theorem DlV.has {C : Addr} {H : Hp} {p : Addr} {b : Int} {R : List Trn} (h : DlV C H p b R) : ∃ dx fs, H p = some (.ins C dx fs) := by
  obtain ⟨aR, aT, xr, xt, ⟨dx, e⟩, _⟩ := h
  exact ⟨dx, _, e⟩
theorem DlV.ok {C : Addr} {H : Hp} {p : Addr} {b : Int} {R : List Trn} (h : DlV C H p b R) : DlOk b R := by
  obtain ⟨aR, aT, xr, xt, _, _, _, _, _, h6⟩ := h
  exact h6
def spTeeth : Sp := fun vs H Q _ => ∃ a xs R b, vs = [.ref a, .int b] ∧ H a = some (.lst xs) ∧ Trs H xs R ∧ DlOk b R ∧ ∀ l zs H', H' l = some (.lst zs) → Trs H' zs (tee R b) → Same H H' → H l = none → Q (.ref l) H'
def spDelay : Sp := fun vs H Q _ => ∃ a xs R b e, vs = [.ref a, .int e] ∧ H a = some (.lst xs) ∧ Trs H xs (tee R b) ∧ DlOk b R ∧ b < e ∧ Q (.int (dlO R e)) H
def spDGet (C : Addr) : Sp := fun vs H Q _ => ∃ p b R e, vs = [.ref p, .int e] ∧ DlV C H p b R ∧ b < e ∧ Q (.int (dlO R e)) H
def spDInit (CR CS CD : Addr) : Sp := fun vs H Q _ => ∃ p dx r B xs ts st ph a ys os b, vs = [.ref p, .ref r, .ref a, .int b] ∧ H p = some (.ins CD dx []) ∧ RowAt CR H r B xs ts st ph ∧ H a = some (.lst ys) ∧ Ots H ys (outs os) ∧ VOut 0 os ∧ os.length ≤ 50 ∧ (∀ o ∈ os, o.2 + 1 ≤ b) ∧ 0 ≤ b ∧ b ≤ 1000000000000000000000000000000 ∧
  ∀ H' R, DlV CD (Fr H H') p b R → DlOf ts st ph os b R → Kp p H H' → Q .non H'
theorem tee_pos {R : List Trn} : ∀ {la : Int}, Srt R → (∀ t ∈ R, la < t.1) → ∀ t ∈ tee R la, 1 ≤ t.2.1 := by
  induction R with
  | nil => intro la _ _ t ht; cases ht
  | cons u r ih =>
    intro la hs hl t ht
    have h0 := hl u (List.mem_cons_self ..)
    have ok := hs.head
    have gl : ∀ v ∈ r, (lastE u).getD la < v.1 := fun v hv => by
      obtain ⟨c, hc, l⟩ := hs.lt v hv
      unfold lastE
      rw [hc]
      exact l
    have ht : t ∈ (la + 1, u.1 - la, some 1) :: (u.1 + 1, u.2.1, u.2.2.map fun c => c - 1) :: tee r ((lastE u).getD la) := ht
    rcases List.mem_cons.mp ht with rfl | ht
    · show 1 ≤ u.1 - la
      omega
    · rcases List.mem_cons.mp ht with rfl | ht
      · exact ok.2.1
      · exact ih hs.tail gl t ht
theorem tee_bt {n : Nat} {R : List Trn} : ∀ {la : Int}, 0 ≤ la → Srt R → (∀ t ∈ R, la < t.1) → (∀ t ∈ R, BT n t) → ∀ t ∈ tee R la, 0 ≤ t.1 ∧ t.1 ≤ PB (n + 1) ∧ t.2.1 ≤ PB n ∧ ∀ c, t.2.2 = some c → 0 ≤ c ∧ c ≤ PB (n + 1) := by
  induction R with
  | nil => intro la _ _ _ _ t ht; cases ht
  | cons u r ih =>
    intro la l0 hs hl hb t ht
    have h0 := hl u (List.mem_cons_self ..)
    have ok := hs.head
    have B := hb u (List.mem_cons_self ..)
    have b1 := B.s
    have b2 := B.p
    have e := PB_succ n
    have p1 := PB_pos n
    have gl : ∀ v ∈ r, (lastE u).getD la < v.1 := fun v hv => by
      obtain ⟨c, hc, l⟩ := hs.lt v hv
      unfold lastE
      rw [hc]
      exact l
    have ll : 0 ≤ (lastE u).getD la := by
      unfold lastE
      cases hk : u.2.2 with
      | none => exact l0
      | some c =>
        show 0 ≤ u.1 + (c - 1) * u.2.1
        have := Int.mul_nonneg (show 0 ≤ c - 1 by have := ok.2.2 c hk; omega) (show 0 ≤ u.2.1 by have := ok.2.1; omega)
        omega
    have ht : t ∈ (la + 1, u.1 - la, some 1) :: (u.1 + 1, u.2.1, u.2.2.map fun c => c - 1) :: tee r ((lastE u).getD la) := ht
    rcases List.mem_cons.mp ht with rfl | ht
    · refine ⟨by show 0 ≤ la + 1; omega, by show la + 1 ≤ _; omega, by show u.1 - la ≤ _; omega, fun c hc => ?_⟩
      have hc : some (1 : Int) = some c := hc
      cases hc
      exact ⟨by decide, by omega⟩
    · rcases List.mem_cons.mp ht with rfl | ht
      · refine ⟨by show 0 ≤ u.1 + 1; omega, by show u.1 + 1 ≤ _; omega, b2, fun c hc => ?_⟩
        have hc : (u.2.2.map fun c => c - 1) = some c := hc
        cases hk : u.2.2 with
        | none => rw [hk] at hc; cases hc
        | some d =>
          rw [hk] at hc
          cases hc
          have d1 := ok.2.2 d hk
          have := B.cnt ok hk
          show 0 ≤ d - 1 ∧ d - 1 ≤ PB (n + 1)
          exact ⟨by omega, by omega⟩
      · exact ih ll hs.tail gl (fun v hv => hb v (List.mem_cons_of_mem _ hv)) t ht
theorem srt_drop' {R r : List Trn} {i : Nat} {t : Trn} (h : Srt R) (e : R.drop i = t :: r) : Srt (t :: r) := by
  rw [← e]
  exact ⟨fun t ht => h.1 t (List.mem_of_mem_drop ht), h.2.drop⟩
section
variable {P : Program} {w : World} {K : PySem.W.Frag} {mg : Str → Option Value} {base : Heap} {L : LA}
abbrev N_teethof : List Str := ["runs", "begin", "teeth", "latest", "run", "start", "step", "count"]
theorem sc_teethof : FnScope N_teethof ["runs", "begin"] (defScope st_teeth_of) := ⟨rfl, rfl, rfl, by decide +kernel, rfl, by decide +kernel, by decide +kernel⟩
theorem fn_teethof (T : LX K mg L) {fd : FuncData} (F : Fun K "teeth_of" "teeth_of" st_teeth_of L.f_teeth_of fd) : FnOk P w K mg base CX0 2 L.f_teeth_of fd ["runs", "begin"] (spTeeth) := by
  have G_lasttime := ok_lasttime (P := P) (w := w) (base := base) T
  have nd := sc_teethof.nd
  refine F.ok sc_teethof (fun vs H Q E h => ?_) (fun cdv A outer S H vs Q E hr h => ?_)
  · obtain ⟨a, xs, R, b, rfl, _⟩ := h
    rfl
  · obtain ⟨a, xs, R, b, rfl, ha, hx, O, k⟩ := h
    refine ⟨_, (pss_cons (ps_set (i := 2) nd rfl (Or.inl rfl) (pe_lst pa_nil))
       (pss_cons (ps_set (i := 3) nd rfl (Or.inl rfl) (pv 1))
       (pss_cons (ps_for PassesOwn.never rfl (pi_list (pv 0)) (pg_name (i := 4) nd rfl (Or.inl rfl)) (pss_cons (ps_asg (pv 4) (pg_tup rfl (pgs_cons (pg_name (i := 5) nd rfl (Or.inl rfl)) (pgs_cons (pg_name (i := 6) nd rfl (Or.inl rfl)) (pgs_cons (pg_name (i := 7) nd rfl (Or.inl rfl)) pgs_nil)))))
       (pss_cons (ps_expr (pe_bm PySem.F.plainAttrs_list PySem.F.slot_list_append PySem.F.type_list_append mt_append (pv 2) (pa_cons (pe_tup (pa_cons (pe_op op_add (pv 3) pe_int) (pa_cons (pe_op op_sub (pv 5) (pv 3)) (pa_cons pe_int pa_nil)))) pa_nil)))
       (pss_cons (ps_expr (pe_bm PySem.F.plainAttrs_list PySem.F.slot_list_append PySem.F.type_list_append mt_append (pv 2) (pa_cons (pe_tup (pa_cons (pe_op op_add (pv 5) pe_int) (pa_cons (pv 6) (pa_cons (pe_ifExp (pt_cmp (pc_isN (pv 7))) pe_non (pe_op op_sub (pv 7) pe_int)) pa_nil)))) pa_nil)))
       (pss_one (ps_set (i := 3) nd rfl (Or.inl rfl) (pe_c G_lasttime (hr.mono (by decide)) rfl (pa_cons (pv 4) pa_nil))))))))
       (pss_one (ps_ret (pv 2)))))), ?_⟩
    have hxl := hx.len
    have ln := O.ln
    have hs := O.srt
    refine ⟨(by show 0 ≤ sizeLine; decide), fun l1 hl1 => ?_⟩
    have s1 : Same H (upd H l1 (.lst [])) := Same.upd hl1
    refine ⟨_, rfl, _, rfl, a, rfl, ⟨_, SqL.of (s1 _ _ ha)⟩, for_list (K := K) (a := a) (xs := xs) (fun i σ H2 => ∃ v3, ∃ v4 v5 v6 v7 : Option V, ∃ zs, σ = [some (.ref a), some (.int b), some (.ref l1), some v3, v4, v5, v6, v7] ∧ (i < R.length → v3 = .int (lastOf (R.take i) b)) ∧ H2 l1 = some (.lst zs) ∧ Trs H2 zs (tee (R.take i) b) ∧ Same H H2)
      ⟨_, none, none, none, none, [], rfl, fun _ => rfl, upd_same, .nil, s1⟩ (fun i σ H2 _ ⟨_, _, _, _, _, _, _, _, _, _, sH⟩ => SqL.of (sH _ _ ha)) ?_ ?_⟩
    · rintro i x σ H2 hxi ⟨v3, v4, v5, v6, v7, zs, rfl, hv, hc, tz, sH⟩
      obtain ⟨t, ht, q, rfl, hq⟩ := (hx.same sH).get hxi
      have hi : i < R.length := (List.getElem?_eq_some_iff.mp ht).1
      have e3 := hv hi
      subst e3
      have tl := tz.len
      rw [tee_len, List.length_take] at tl
      have htm := List.mem_of_getElem? ht
      have etk : R.take (i + 1) = R.take i ++ [t] := by rw [List.take_add_one, ht]; rfl
      refine ⟨_, rfl, q, _, rfl, SqT.of hq, rfl, _, _, rfl, _, _, rfl, _, _, rfl, rfl, ?_⟩
      obtain ⟨la, hla⟩ : ∃ la, la = lastOf (R.take i) b := ⟨_, rfl⟩
      rw [← hla]
      have okt := hs.1 t htm
      have btt := (O.bt t htm).le (show 1500 ≤ 5000 by decide)
      have zb : zs.length ≤ 30 := by omega
      refine ⟨_, rfl, .inl ⟨rfl, _, SqL.of hc⟩, _, rfl, _, _, rfl, rfl, _, rfl, _, rfl, _, _, rfl, rfl, (by show 3 ≤ sizeLine; decide), fun tp htp => ?_⟩
      have s3 := Same.upd (o := .tup [.int (la + 1), .int (t.1 - la), .int 1]) htp
      have hc3 := s3 _ _ hc
      have n1 : l1 ≠ tp := ne_of_none hc htp
      refine ⟨l1, _, _, rfl, rfl, hc3, small1 (by omega), ?_⟩
      obtain ⟨H4, hH4⟩ : ∃ H4 : Hp, H4 = upd (upd H2 tp (.tup [.int (la + 1), .int (t.1 - la), .int 1])) l1 (.lst (zs ++ [.ref tp])) := ⟨_, rfl⟩
      rw [← hH4]
      have hc4 : H4 l1 = some (.lst (zs ++ [.ref tp])) := by rw [hH4]; exact upd_same
      have n4 : NL H2 H4 := by rw [hH4]; exact (NL.of s3).trans (NL.upd hc3)
      have htp4 : H4 tp = some (.tup [.int (la + 1), .int (t.1 - la), .int 1]) := by rw [hH4, upd_ne n1.symm]; exact upd_same
      have sH4 : Same H H4 := fun u w e => by
        rw [hH4, upd_ne (ne_of_none e hl1)]
        exact s3 _ _ (sH _ _ e)
      have fin : ∀ (o2 : V) (tp2 : Addr), o2 = cV (t.2.2.map fun c => c - 1) → H4 tp2 = none → (upd (upd H4 tp2 (.tup [.int (t.1 + 1), .int t.2.1, o2])) l1 (.lst (zs ++ [.ref tp] ++ [.ref tp2]))) l1 = some (.lst (zs ++ [.ref tp] ++ [.ref tp2])) ∧ Trs (upd (upd H4 tp2 (.tup [.int (t.1 + 1), .int t.2.1, o2])) l1 (.lst (zs ++ [.ref tp] ++ [.ref tp2]))) (zs ++ [.ref tp] ++ [.ref tp2]) (tee (R.take (i + 1)) b) ∧ Same H (upd (upd H4 tp2 (.tup [.int (t.1 + 1), .int t.2.1, o2])) l1 (.lst (zs ++ [.ref tp] ++ [.ref tp2]))) ∧ TrAt (upd (upd H4 tp2 (.tup [.int (t.1 + 1), .int t.2.1, o2])) l1 (.lst (zs ++ [.ref tp] ++ [.ref tp2]))) (.ref q) t := fun o2 tp2 e2 htp2 => by
        have s5 := Same.upd (o := .tup [.int (t.1 + 1), .int t.2.1, o2]) htp2
        have hc5 := s5 _ _ hc4
        have n2 : l1 ≠ tp2 := ne_of_none hc4 htp2
        have n6 : NL (upd H4 tp2 (.tup [.int (t.1 + 1), .int t.2.1, o2])) (upd (upd H4 tp2 (.tup [.int (t.1 + 1), .int t.2.1, o2])) l1 (.lst (zs ++ [.ref tp] ++ [.ref tp2]))) := NL.upd hc5
        have n46 := (NL.of s5).trans n6
        refine ⟨upd_same, ?_, fun u w e => ?_, q, rfl, n46 _ _ (n4 _ _ hq fun _ z => nomatch z) fun _ z => nomatch z⟩
        · rw [etk, tee_app, ← hla, show [(la + 1, t.1 - la, some 1), (t.1 + 1, t.2.1, t.2.2.map fun c => c - 1)] = [((la + 1, t.1 - la, some 1) : Trn)] ++ [(t.1 + 1, t.2.1, t.2.2.map fun c => c - 1)] from rfl, ← List.append_assoc]
          refine ((Trs.app (tz.nl n4) (Trs.one (t := (la + 1, t.1 - la, some 1)) ⟨tp, rfl, htp4⟩)).nl n46).app (Trs.one ⟨tp2, rfl, ?_⟩)
          rw [upd_ne n2.symm, upd_same, e2]
          rfl
        · rw [upd_ne (ne_of_none e hl1)]
          exact s5 _ _ (sH4 _ _ e)
      have lst : i + 1 < R.length → lastV t = .int (lastOf (R.take (i + 1)) b) := fun hi2 => by
        obtain ⟨u, hu⟩ : ∃ u, R[i + 1]? = some u := ⟨_, List.getElem?_eq_getElem hi2⟩
        have dr : R.drop i = t :: R.drop (i + 1) := by
          rw [List.drop_eq_getElem_cons hi]
          congr 1
          exact (List.getElem?_eq_some_iff.mp ht).2
        have um : u ∈ R.drop (i + 1) := by
          rw [List.drop_eq_getElem_cons hi2]
          rw [(List.getElem?_eq_some_iff.mp hu).2]
          exact List.mem_cons_self ..
        obtain ⟨c, hk, _⟩ := (srt_drop' hs dr).lt u um
        rw [etk, lastOf_app]
        unfold lastV lastE
        rw [hk]
        rfl
      refine ⟨_, rfl, .inl ⟨rfl, _, SqL.of hc4⟩, _, rfl, _, _, rfl, rfl, _, rfl, ?_⟩
      cases hk : t.2.2 with
      | none =>
        refine ⟨_, rfl, _, rfl, iteT ⟨(by show 3 ≤ sizeLine; decide), fun tp2 htp2 => ?_⟩⟩
        obtain ⟨f1, f2, f3, f4⟩ := fin .non tp2 (by rw [hk]; rfl) htp2
        refine ⟨l1, _, _, rfl, rfl, (Same.upd htp2) _ _ hc4, small1 (by rw [List.length_append]; show zs.length + 1 ≤ 100000; omega), ?_⟩
        exact ⟨_, rfl, _, t, rfl, f4, okt, btt, _, _, _, _, _, _, rfl, lst, f1, f2, f3⟩
      | some c =>
        refine ⟨_, rfl, _, rfl, iteF ⟨_, rfl, _, _, rfl, rfl, (by show 3 ≤ sizeLine; decide), fun tp2 htp2 => ?_⟩⟩
        obtain ⟨f1, f2, f3, f4⟩ := fin (.int (c - 1)) tp2 (by rw [hk]; rfl) htp2
        refine ⟨l1, _, _, rfl, rfl, (Same.upd htp2) _ _ hc4, small1 (by rw [List.length_append]; show zs.length + 1 ≤ 100000; omega), ?_⟩
        exact ⟨_, rfl, _, t, rfl, f4, okt, btt, _, _, _, _, _, _, rfl, lst, f1, f2, f3⟩
    · rintro σ H2 ⟨v3, v4, v5, v6, v7, zs, rfl, hv, hc, tz, sH⟩
      rw [hxl, List.take_length] at tz
      exact ⟨_, rfl, k l1 zs H2 hc tz sH hl1⟩
theorem ok_teethof (T : LX K mg L) : Cal P w K mg base "teeth_of" 2 L.f_teeth_of ["runs", "begin"] (spTeeth) := T.d_teeth_of.cal fun fd F => fn_teethof T F
end
section
variable {P : Program} {w : World} {K : PySem.W.Frag} {mg : Str → Option Value} {base : Heap} {L : LA}
abbrev N_delayof : List Str := ["teeth", "end", "found", "start", "length", "count"]
theorem sc_delayof : FnScope N_delayof ["teeth", "end"] (defScope st_delay_of) := ⟨rfl, rfl, rfl, by decide +kernel, rfl, by decide +kernel, by decide +kernel⟩
theorem fn_delayof (T : LX K mg L) {fd : FuncData} (F : Fun K "delay_of" "delay_of" st_delay_of L.f_delay_of fd) : FnOk P w K mg base CX0 1 L.f_delay_of fd ["teeth", "end"] (spDelay) := by
  have nd := sc_delayof.nd
  refine F.ok sc_delayof (fun vs H Q E h => ?_) (fun cdv A outer S H vs Q E hr h => ?_)
  · obtain ⟨a, xs, R, b, e, rfl, _⟩ := h
    rfl
  · obtain ⟨a, xs, R, b, e, rfl, ha, hx, O, be, k⟩ := h
    refine ⟨_, (pss_cons (ps_set (i := 2) nd rfl (Or.inl rfl) pe_int)
       (pss_cons (ps_for PassesOwn.never rfl (pi_list (pv 0)) (pg_tup rfl (pgs_cons (pg_name (i := 3) nd rfl (Or.inl rfl)) (pgs_cons (pg_name (i := 4) nd rfl (Or.inl rfl)) (pgs_cons (pg_name (i := 5) nd rfl (Or.inl rfl)) pgs_nil)))) (pss_one (ps_if (pt_cmpR op_le (pv 3) (pv 1) (nomark _)) (pss_one (ps_set (i := 2) nd rfl (Or.inl rfl) (pe_op op_mod (pe_op op_sub (pe_op op_sub (pv 3) (pv 1)) pe_int) (pv 4)))) pss_nil)))
       (pss_one (ps_ret (pv 2))))), ?_⟩
    have hxl := hx.len
    rw [← dl_teeth O be 0] at k
    refine ⟨_, rfl, a, rfl, ⟨_, SqL.of ha⟩, for_list (K := K) (a := a) (xs := xs) (fun i σ H2 => ∃ v3 v4 v5 : Option V, σ = [some (.ref a), some (.int e), some (.int (dlY ((tee R b).take i) e 0)), v3, v4, v5] ∧ H2 = H) ⟨none, none, none, rfl, rfl⟩ (fun i σ H2 _ ⟨_, _, _, _, e⟩ => by rw [e]; exact SqL.of ha) ?_ ?_⟩
    · rintro i x σ H2 hxi ⟨v3, v4, v5, rfl, rfl⟩
      obtain ⟨t, ht, q, rfl, hq⟩ := hx.get hxi
      have htm := List.mem_of_getElem? ht
      have etk : (tee R b).take (i + 1) = (tee R b).take i ++ [t] := by rw [List.take_add_one, ht]; rfl
      obtain ⟨t0, t1, t2, t3⟩ := tee_bt O.b0 O.srt O.lo O.bt t htm
      have p1 := tee_pos O.srt O.lo t htm
      refine ⟨q, _, rfl, SqT.of hq, rfl, _, _, rfl, _, _, rfl, _, _, rfl, rfl, ?_⟩
      rw [etk, dlY_app]
      generalize dlY ((tee R b).take i) e 0 = f
      refine ⟨_, rfl, _, rfl, _, _, rfl, rfl, _, rfl, ite2 (fun c => ?_) (fun c => ?_)⟩
      · have c' : t.1 ≤ e := of_decide_eq_true c
        unfold dlS
        rw [if_pos c']
        exact ⟨_, rfl, _, rfl, _, _, rfl, rfl, _, _, rfl, rfl, _, rfl, _, _, rfl, rfl, by show 0 < t.2.1; omega, _, _, _, rfl, rfl⟩
      · have c' : ¬ t.1 ≤ e := fun q => c (decide_eq_true q)
        unfold dlS
        rw [if_neg c']
        exact ⟨_, _, _, rfl, rfl⟩
    · rintro σ H2 ⟨v3, v4, v5, rfl, rfl⟩
      rw [hxl, List.take_length]
      exact ⟨_, rfl, k⟩
theorem ok_delayof (T : LX K mg L) : Cal P w K mg base "delay_of" 1 L.f_delay_of ["teeth", "end"] (spDelay) := T.d_delay_of.cal fun fd F => fn_delayof T F
end
section
variable {P : Program} {w : World} {K : PySem.W.Frag} {mg : Str → Option Value} {base : Heap} {L : LA}
abbrev N_Delaysgetitem : List Str := ["self", "at"]
theorem sc_Delaysgetitem : FnScope N_Delaysgetitem ["self", "at"] (defScope st_Delays_getitem) := ⟨rfl, rfl, rfl, by decide +kernel, rfl, by decide +kernel, by decide +kernel⟩
theorem fn_Delaysgetitem (T : LX K mg L) {fd : FuncData} (F : Fun K "__getitem__" "Delays.__getitem__" st_Delays_getitem L.m_Delays_getitem fd) : FnOk P w K mg base CX0 3 L.m_Delays_getitem fd ["self", "at"] (spDGet L.c_Delays) := by
  have G_delayof := ok_delayof (P := P) (w := w) (base := base) T
  have G_isatleast := ok_isatleast (P := P) (w := w) (base := base) T
  have nd := sc_Delaysgetitem.nd
  refine F.ok sc_Delaysgetitem (fun vs H Q E h => ?_) (fun cdv A outer S H vs Q E hr h => ?_)
  · obtain ⟨p, b, R, e, rfl, _⟩ := h
    rfl
  · obtain ⟨p, b, R, e, rfl, ⟨aR, aT, xr, xt, ⟨dx, hp⟩, hR, tR, hT, tT, O⟩, be, k⟩ := h
    refine ⟨_, (pss_cons (ps_if (pt_not (pt_val (pe_c G_isatleast (hr.mono (by decide)) rfl (pa_cons (pv 1) (pa_cons (pe_op op_add (pe_fld (pv 0) rfl) pe_int) pa_nil))))) (pss_one (ps_never)) pss_nil)
       (pss_one (ps_ret (pe_c G_delayof (hr.mono (by decide)) rfl (pa_cons (pe_fld (pv 0) rfl) (pa_cons (pv 1) pa_nil)))))), ?_⟩
    refine ⟨_, rfl, _, rfl, p, L.c_Delays, dx, _, _, rfl, hp, T.cf_Delays.cl, T.nf_Delays_begin, dlF_b _ _ _, _, _, rfl, rfl, _, _, _, rfl, .int _, _, rfl, ?_⟩
    show if (!(decide (b + 1 ≤ e))) = true then _ else _
    rw [decide_eq_true (show b + 1 ≤ e by omega)]
    exact iteF ⟨_, rfl, p, L.c_Delays, dx, _, _, rfl, hp, T.cf_Delays.cl, T.nf_Delays_teeth, dlF_t _ _ _, _, rfl, aT, xt, R, b, e, rfl, hT, tT, O, be, k⟩
theorem ok_Delaysgetitem (T : LX K mg L) : Met P w K mg base L.c_Delays "__getitem__" 3 L.m_Delays_getitem ["self", "at"] (spDGet L.c_Delays) := T.mm_Delays_getitem.met fun fd F => fn_Delaysgetitem T F
end
theorem dlast {α : Type} {l : List α} {g : α} (h : l.getLast? = some g) : l.dropLast ++ [g] = l := by
  obtain ⟨ini, rfl⟩ := List.getLast?_eq_some_iff.mp h
  rw [List.dropLast_concat]
section
variable {P : Program} {w : World} {K : PySem.W.Frag} {mg : Str → Option Value} {base : Heap} {L : LA}
abbrev N_Delaysinit : List Str := ["self", "row", "outages", "begin", "least", "spells"]
theorem sc_Delaysinit : FnScope N_Delaysinit ["self", "row", "outages", "begin"] (defScope st_Delays_init) := ⟨rfl, rfl, rfl, by decide +kernel, rfl, by decide +kernel, by decide +kernel⟩
theorem fn_Delaysinit (T : LX K mg L) {fd : FuncData} (F : Fun K "__init__" "Delays.__init__" st_Delays_init L.i_Delays fd) : FnOk P w K mg base CX0 8 L.i_Delays fd ["self", "row", "outages", "begin"] (spDInit L.c_Row L.c_Spell L.c_Delays) := by
  have G_checkoutages := ok_checkoutages (P := P) (w := w) (base := base) T
  have G_spellsof := ok_spellsof (P := P) (w := w) (base := base) T
  have G_normalform := ok_normalform (P := P) (w := w) (base := base) T
  have G_teethof := ok_teethof (P := P) (w := w) (base := base) T
  have G_isatleast := ok_isatleast (P := P) (w := w) (base := base) T
  have G_windowruns := ok_windowruns (P := P) (w := w) (base := base) T
  have nd := sc_Delaysinit.nd
  refine F.ok sc_Delaysinit (fun vs H Q E h => ?_) (fun cdv A outer S H vs Q E hr h => ?_)
  · obtain ⟨p, dx, r, B, xs, ts, st, ph, a, ys, os, b, rfl, _⟩ := h
    rfl
  · obtain ⟨p, dx, r, B, xs, ts, st, ph, a, ys, os, b, rfl, hp, R, ha, hy, hv, hl, hob, b0, b1, k⟩ := h
    refine ⟨_, (pss_cons (ps_expr (pe_c G_checkoutages (hr.mono (by decide)) rfl (pa_cons (pv 2) pa_nil)))
       (C8.pss_cut (ps_set (i := 4) nd rfl (Or.inl rfl) (pe_ifExp (pt_truth (pv 2) (fun _ => rfl)) (pe_op op_add (pe_ix (r := rIxT K) ix_tup (pe_ix (r := rIxL K) ix_list (pv 2) (pe_un un_neg pe_int) (fun _ _ => rfl)) pe_int (fun _ _ => rfl)) pe_int) pe_int))
       (pss_cons (ps_if (pt_not (pt_val (pe_c G_isatleast (hr.mono (by decide)) rfl (pa_cons (pv 3) (pa_cons (pv 4) pa_nil))))) (pss_one (ps_never)) pss_nil)
       (pss_cons (ps_set (i := 5) nd rfl (Or.inl rfl) (pe_c G_spellsof (hr.mono (by decide)) rfl (pa_cons (pv 1) (pa_cons (pe_op op_cat (pv 2) (pe_lst (pa_cons (pe_tup (pa_cons (pv 3) (pa_cons pe_non pa_nil))) pa_nil))) pa_nil))))
       (pss_cons (ps_fld (pv 0) (pv 3) rfl)
       (pss_cons (ps_fld (pv 0) (pe_c G_normalform (hr.mono (by decide)) rfl (pa_cons (pe_c G_windowruns (hr.mono (by decide)) rfl (pa_cons (pe_ix (r := rIxL K) ix_list (pe_fld (pe_ix (r := rIxL K) ix_list (pv 5) (pe_un un_neg pe_int) (fun _ _ => rfl)) rfl) (pe_un un_neg pe_int) (fun _ _ => rfl)) (pa_cons (pe_op op_add (pv 3) pe_int) (pa_cons pe_non pa_nil)))) pa_nil)) rfl)
       (pss_one (ps_fld (pv 0) (pe_c G_teethof (hr.mono (by decide)) rfl (pa_cons (pe_fld (pv 0) rfl) (pa_cons (pv 3) pa_nil))) rfl)))))))), ?_⟩
    have W := R.d
    have yl := paired_len hy
    rw [outs_len] at yl
    have e104 : (1000000000000000000000000000000 : Int) ≤ PB 104 := PB_of (by decide +kernel)
    refine ⟨_, rfl, a, ys, os, rfl, ha, hy, hv, hl, fun H1 s1 => ?_⟩
    have hp1 := s1 _ _ hp
    have R1 := R.nl (NL.of s1)
    have ha1 := s1 _ _ ha
    have hy1 := hy.same s1
    refine ⟨fun σ' H' => ∃ m : Int, σ' = [some (.ref p), some (.ref r), some (.ref a), some (.int b), some (.int m), none] ∧ m ≤ b ∧ H1 = H', ?_, ?_⟩
    · cases hgl : os.getLast? with
      | none =>
        have o0 : os = [] := List.getLast?_eq_none_iff.mp hgl
        have z0 : ys = [] := List.length_eq_zero_iff.mp (by rw [yl, o0]; rfl)
        rw [z0] at ha1
        exact ⟨_, rfl, false, .inl ⟨[], SqL.of ha1, rfl⟩, iteF ⟨0, rfl, b0, rfl⟩⟩
      | some o =>
        obtain ⟨ini, rfl⟩ := List.getLast?_eq_some_iff.mp hgl
        have eo : outs (ini ++ [o]) = outs ini ++ [(o.1, some o.2)] := by
          unfold outs
          rw [List.map_append]
          rfl
        rw [eo] at hy1
        obtain ⟨yi, y, rfl, c, rfl, hc⟩ := paired_last hy1
        exact ⟨_, rfl, true, .inl ⟨_, SqL.of ha1, by simp⟩, iteT ⟨_, rfl, 1, rfl, a, _, -1, .ref c, rfl, rfl, SqL.of ha1, atI_last yi _, c, _, 1, .int o.2, rfl, rfl, SqT.of hc, rfl, _, _, rfl, rfl, _, rfl, hob o (List.mem_append_right _ (List.mem_singleton.mpr rfl)), rfl⟩⟩
    rintro σ' H' ⟨m, rfl, mb, rfl⟩
    refine ⟨_, rfl, _, rfl, _, _, _, rfl, .int _, _, rfl, ?_⟩
    show if (!(decide (m ≤ b))) = true then _ else _
    rw [decide_eq_true mb]
    refine iteF ?_
    have hob' : ∀ o ∈ os, 0 ≤ o.1 ∧ o.1 < o.2 ∧ o.2 + 1 ≤ b := fun o ho => by
      have h1 := vout_mem hv o ho
      have h2 := hob o ho
      omega
    refine ⟨_, rfl, _, rfl, _, rfl, (by show 2 ≤ sizeLine; decide), fun tp htp => ⟨(by show 1 ≤ sizeLine; decide), fun l2 hl2 => ?_⟩⟩
    have s2 := Same.upd (o := .tup [.int b, .non]) htp
    have s3 := Same.upd (o := .lst [.ref tp]) hl2
    obtain ⟨H3, hH3⟩ : ∃ H3 : Hp, H3 = upd (upd H1 tp (.tup [.int b, .non])) l2 (.lst [.ref tp]) := ⟨_, rfl⟩
    rw [← hH3]
    have s13 : Same H1 H3 := by rw [hH3]; exact s2.trans s3
    have hl3 : H3 l2 = some (.lst [.ref tp]) := by rw [hH3]; exact upd_same
    have ht3 : H3 tp = some (.tup [.int b, .non]) := by rw [hH3]; exact s3 _ _ upd_same
    refine ⟨a, l2, _, _, rfl, rfl, s13 _ _ ha1, hl3, small2 (by show ys.length + 1 ≤ 100000; omega), fun l3 hl4 => ?_⟩
    obtain ⟨H4, hH4⟩ : ∃ H4 : Hp, H4 = upd H3 l3 (.lst (ys ++ [.ref tp])) := ⟨_, rfl⟩
    rw [← hH4]
    have s34 : Same H3 H4 := by rw [hH4]; exact Same.upd hl4
    have hl34 : H4 l3 = some (.lst (ys ++ [.ref tp])) := by rw [hH4]; exact upd_same
    have s14 := s13.trans s34
    obtain ⟨pre, D, g, e1, LS, RG, hw, bw, wl, DO⟩ := dl_of W b0 b1 hob'
    have oL : (outs os ++ [((b, none) : Out)]).length = os.length + 1 := by rw [List.length_append, outs_len]; rfl
    have OO := osOk_of hv hl
    have O2 : OsOk 104 (outs os ++ [((b, none) : Out)]) := by
      refine ⟨fun o ho => ?_, fun o ho => ?_, by omega, Nat.le_refl _, by decide⟩
      · rcases List.mem_append.mp ho with ho | ho
        · exact OO.bd o ho
        · rw [List.mem_singleton.mp ho]
          exact ⟨b0, by show b ≤ _; omega, fun e q => nomatch q⟩
      · rw [List.dropLast_concat] at ho
        obtain ⟨z, hz, rfl⟩ := outs_mem ho
        exact fun q => nomatch q
    have ot4 : Ots H4 (ys ++ [.ref tp]) (outs os ++ [((b, none) : Out)]) := paired_app (hy1.same s14) (.cons ⟨tp, rfl, s34 _ _ ht3⟩ .nil)
    refine ⟨r, B, xs, ts, st, ph, l3, _, _, 104, rfl, R1.nl (NL.of s14), .inr hl34, ot4, O2, fun aS zs H5 hS oS s5 nS => ?_⟩
    rw [oL, e1] at oS
    obtain ⟨zi, lx, rfl, hlx⟩ := paired_last oS
    have hp5 := s5 _ _ (s14 _ _ hp1)
    have s15 := s14.trans s5
    have kA5 : Kp p H H5 := Kp.of (s1.trans s15)
    -- self.begin
    refine ⟨_, rfl, _, rfl, p, L.c_Delays, dx, [], rfl, hp5, T.cf_Delays.cl, T.nf_Delays_begin, (by show 0 < 1000; decide), ?_⟩
    obtain ⟨H6, hH6⟩ : ∃ H6 : Hp, H6 = upd H5 p (.ins L.c_Delays dx (putF "begin" (.int b) [])) := ⟨_, rfl⟩
    rw [← hH6]
    have k6 : Kp p H5 H6 := by rw [hH6]; exact Kp.upd
    have hp6 : H6 p = some (.ins L.c_Delays dx (putF "begin" (.int b) [])) := by rw [hH6]; exact upd_same
    have n6 := NI.of k6 hp5
    have z1 := putF_len "begin" (.int b) [] (Nat.le_refl 0)
    have hS6 := n6 _ _ hS fun _ _ _ z => nomatch z
    obtain ⟨q, bB, bR, bO, xB, xR, rfl, S6⟩ := SpV.kp k6 hp5 rfl (hlx.same Fr.le)
    obtain ⟨dz, hq⟩ := S6.ob
    have er : D.rs.dropLast ++ [g] = D.rs := dlast (by rw [List.getLast?_eq_getElem?, LS.ok.rl]; exact LS.hg)
    have sR := S6.sR
    have hR6 := S6.hR
    rw [← er] at sR
    obtain ⟨xi, xl, rfl, ag, xg, rfl, hag, tg⟩ := paired_last sR
    have e105 : PB 105 = PB 104 + PB 104 := PB_succ 104
    have w1 := PB_pos 104
    have gl := RG.ln
    -- self.runs
    refine ⟨_, rfl, 1, rfl, aS, _, -1, .ref q, rfl, rfl, SqL.of hS6, atI_last zi _, q, L.c_Spell, dz, _, _, rfl, hq, T.cf_Spell.cl, T.nf_Spell_runs, spF_rs _ _ _ _ _, 1, rfl, bR, _, -1, .ref ag, rfl, rfl, SqL.of hR6, atI_last xi _, _, rfl, _, _, rfl, rfl, ag, xg, g, 1000, 105, b + 1, none, rfl, hag, tg, RG.srt, RG.bt, (by omega), (by decide), (by omega), (fun a e => nomatch e), (by omega), (fun a e => nomatch e), (by decide), fun lw zw H7 hw' tw s7 nw => ?_⟩
    refine ⟨lw, zw, win g (b + 1) none, 1001, rfl, hw', tw, hw, bw, (by decide), (by omega), fun lr zr H8 hr tr s8 nr => ?_⟩
    have hp8 := s8 _ _ (s7 _ _ hp6)
    refine ⟨_, rfl, p, L.c_Delays, dx, _, rfl, hp8, T.cf_Delays.cl, T.nf_Delays_runs, Nat.lt_of_le_of_lt z1 (by decide), ?_⟩
    obtain ⟨H9, hH9⟩ : ∃ H9 : Hp, H9 = upd H8 p (.ins L.c_Delays dx (putF "runs" (.ref lr) (putF "begin" (.int b) []))) := ⟨_, rfl⟩
    rw [← hH9]
    have k9 : Kp p H8 H9 := by rw [hH9]; exact Kp.upd
    have hp9 : H9 p = some (.ins L.c_Delays dx (putF "runs" (.ref lr) (putF "begin" (.int b) []))) := by rw [hH9]; exact upd_same
    have n9 := NI.of k9 hp8
    have z2 := putF_len "runs" (.ref lr) _ z1
    have hr9 := n9 _ _ hr fun _ _ _ z => nomatch z
    have tr9 := tr.ni n9
    have DO2 := DO
    obtain ⟨_, _, _, _, _, _, dok, _⟩ := DO2
    obtain ⟨RR, hRR⟩ : ∃ RR, RR = nfs (win g (b + 1) none) := ⟨_, rfl⟩
    rw [← hRR] at tr9 DO dok
    -- self.teeth
    refine ⟨_, rfl, p, L.c_Delays, dx, _, _, rfl, hp9, T.cf_Delays.cl, T.nf_Delays_runs, (by rw [lookup_putF, if_pos rfl]), _, rfl, lr, zr, RR, b, rfl, hr9, tr9, dok, fun lt zt HT ht tt sT nt => ?_⟩
    have hpT := sT _ _ hp9
    refine ⟨_, rfl, p, L.c_Delays, dx, _, rfl, hpT, T.cf_Delays.cl, T.nf_Delays_teeth, Nat.lt_of_le_of_lt z2 (by decide), ?_⟩
    obtain ⟨HA, hHA⟩ : ∃ HA : Hp, HA = upd HT p (.ins L.c_Delays dx (dlF b lr lt)) := ⟨_, rfl⟩
    have hgoal : upd HT p (.ins L.c_Delays dx (putF "teeth" (.ref lt) (putF "runs" (.ref lr) (putF "begin" (.int b) [])))) = HA := by rw [hHA]; rfl
    rw [hgoal]
    have kA : Kp p HT HA := by rw [hHA]; exact Kp.upd
    have hpA : HA p = some (.ins L.c_Delays dx (dlF b lr lt)) := by rw [hHA]; exact upd_same
    have nA := NI.of kA hpT
    have k7 : Kp p H H6 := kA5.trans k6
    have k8 : Kp p H H8 := (k7.trans (Kp.of s7)).trans (Kp.of s8)
    have kT : Kp p H H9 := k8.trans k9
    have kAll : Kp p H HA := (kT.trans (Kp.of sT)).trans kA
    have fresh : ∀ {Hx : Hp} {b : Addr}, Kp p H Hx → Hx p ≠ none → Hx b = none → H b = none := fun {Hx b} kx np e => by
      cases q : H b with
      | none => rfl
      | some o =>
        by_cases c : b = p
        · rw [c] at e
          exact absurd e np
        · rw [kx _ _ c q] at e
          cases e
    have hrT := nA _ _ (sT _ _ hr9) fun _ _ _ z => nomatch z
    have trT := (tr9.same sT).ni nA
    have htA := nA _ _ ht fun _ _ _ z => nomatch z
    have ttA := tt.ni nA
    have fr1 : H lr = none := fresh (k7.trans (Kp.of s7)) (by rw [s7 _ _ hp6]; exact fun z => nomatch z) nr
    have fr2 : H lt = none := fresh kT (by rw [hp9]; exact fun z => nomatch z) nt
    exact k HA RR ⟨lr, lt, zr, zt, ⟨dx, Fr.nol hpA fun _ z => nomatch z⟩, Fr.of hrT (.inl fr1), L2.Paired.mapP trT fun _ _ ⟨a, e, h⟩ => ⟨a, e, Fr.nol h fun _ z => nomatch z⟩, Fr.of htA (.inl fr2), L2.Paired.mapP ttA fun _ _ ⟨a, e, h⟩ => ⟨a, e, Fr.nol h fun _ z => nomatch z⟩, dok⟩ DO kAll
end
theorem cdivP {i j : Int} (h : 0 < j) (h2 : j.natAbs.log2 < 9000) : CDivP i j := by
  refine ⟨h, ?_⟩
  have hj : ¬ ((j == 0) = true) := fun z => by have := eq_of_beq z; omega
  have : ¬ (j.natAbs.log2 / 30 + 1 > 300) := by omega
  show (decide ((if (j == 0) = true then 0 else j.natAbs.log2 / 30 + 1) > 300) && _) = false
  rw [if_neg hj, decide_eq_false this, Bool.false_and]
theorem bb_ab {i : Int} (h0 : -BB ≤ i) (h : i ≤ BB) : i.natAbs < 2 ^ 5002 := by
  have b := BB0
  by_cases c : 0 ≤ i
  · exact bb_lt c (by omega)
  · have := bb_lt (i := -i) (by omega) (by omega)
    omega
theorem mulAB {i j : Int} (i0 : -BB ≤ i) (i1 : i ≤ BB) (j0 : -BB ≤ j) (j1 : j ≤ BB) : CMulW i j := wide_mul (bb_ab i0 i1) (bb_ab j0 j1) (by decide) (by decide) (by decide)
theorem div2 {i : Int} : CDivW i 2 := ⟨by decide, by decide⟩
/-- bounds of a train of teeth -/
structure TeeB (t : Trn) : Prop where
  s0 : 0 ≤ t.1
  p1 : 1 ≤ t.2.1
  pB : t.2.1 ≤ PB 1501
  c0 : ∀ c, t.2.2 = some c → 0 ≤ c ∧ c ≤ PB 1501
theorem tee_b {b : Int} {R : List Trn} (O : DlOk b R) (t : Trn) (h : t ∈ tee R b) : TeeB t := by
  obtain ⟨t0, t1, t2, t3⟩ := tee_bt O.b0 O.srt O.lo O.bt t h
  exact ⟨t0, tee_pos O.srt O.lo t h, Int.le_trans t2 (PB_le (by decide)), t3⟩
theorem rea_bd {t : Trn} (B : TeeB t) {a : Int} {M : Int} (h : a ≤ M) (M0 : 0 ≤ M) : 0 ≤ reaT t a ∧ reaT t a ≤ M := by
  have s0 := B.s0
  have e : 0 ≤ mx2 0 (a - t.1) ∧ mx2 0 (a - t.1) ≤ M := by unfold mx2; split <;> omega
  unfold reaT
  cases hk : t.2.2 with
  | none => exact e
  | some c =>
    have := Int.mul_nonneg (show 0 ≤ t.2.1 by have := B.p1; omega) (B.c0 c hk).1
    show 0 ≤ mn2 (mx2 0 (a - t.1)) (t.2.1 * c) ∧ mn2 (mx2 0 (a - t.1)) (t.2.1 * c) ≤ M
    unfold mn2
    split <;> omega
def spRe : Sp := fun vs H Q _ => ∃ x t a, vs = [x, .int a] ∧ TrAt H x t ∧ TeeB t ∧ ∀ p, H p = none → Q (.ref p) (upd H p (.tup [.int (reaT t a / t.2.1), .int (reaT t a % t.2.1)]))
def spTbW : Sp := fun vs H Q _ => ∃ x t z, vs = [x, .int z] ∧ TrAt H x t ∧ TeeB t ∧ Q (.int (nbT t z)) H
def spCkF (C : Addr) : Sp := fun vs H Q _ => ∃ p b R f, vs = [.ref p, .int f] ∧ DlV C H p b R ∧ b < f ∧ Q .non H
def spCkL : Sp := fun vs H Q _ => ∃ f l, vs = [.int f, .int l] ∧ f ≤ l ∧ Q .non H
def spCkM : Sp := fun vs H Q _ => ∃ m, vs = [.int m] ∧ 0 ≤ m ∧ Q .non H
def spTops (C : Addr) : Sp := fun vs H Q _ => ∃ p b R f, vs = [.ref p, .int f] ∧ DlV C H p b R ∧ f ≤ PB 2000 ∧ ∀ l H', H' l = some (.lst ((topL f (tee R b)).map V.int)) → Same H H' → H l = none → Q (.ref l) H'
def spGD (C : Addr) : Sp := fun vs H Q _ => ∃ p b R f l, vs = [.ref p, .int f, .int l] ∧ DlV C H p b R ∧ b < f ∧ f ≤ l ∧ l ≤ PB 2000 ∧ ∀ t H' e, GD R f l e → H' t = some (.tup [.int (dlO R e), .int e]) → Same H H' → H t = none → Q (.ref t) H'
def spFA (C : Addr) : Sp := fun vs H Q _ => ∃ p b R m f, vs = [.ref p, .int m, .int f] ∧ DlV C H p b R ∧ 0 ≤ m ∧ b < f ∧ f ≤ PB 2000 ∧ ∀ H' o, FA R m f o → Same H H' → Q (cV o) H'
def spTotB (C : Addr) : Sp := fun vs H Q _ => ∃ p b R a, vs = [.ref p, .int a] ∧ DlV C H p b R ∧ a ≤ PB 2000 ∧ ∀ H', Same H H' → Q (.int (totB R b a)) H'
def spTotD (C : Addr) : Sp := fun vs H Q _ => ∃ p b R f l, vs = [.ref p, .int f, .int l] ∧ DlV C H p b R ∧ b < f ∧ f ≤ l ∧ l + 1 ≤ PB 2000 ∧ ∀ H', Same H H' → Q (.int (totB R b (l + 1) - totB R b f)) H'
def spWitB (C : Addr) : Sp := fun vs H Q _ => ∃ p b R m a, vs = [.ref p, .int m, .int a] ∧ DlV C H p b R ∧ 0 ≤ m ∧ m ≤ PB 2000 ∧ a ≤ PB 2000 ∧ ∀ H', Same H H' → Q (.int (witB m R b a)) H'
def spCntW (C : Addr) : Sp := fun vs H Q _ => ∃ p b R m f l, vs = [.ref p, .int m, .int f, .int l] ∧ DlV C H p b R ∧ 0 ≤ m ∧ m ≤ PB 2000 ∧ b < f ∧ f ≤ l ∧ l + 1 ≤ PB 2000 ∧ ∀ H', Same H H' → Q (.int (witB m R b (l + 1) - witB m R b f)) H'
theorem b15 : PB 1501 ≤ BB := PB_le (by decide)
theorem b20 : PB 2000 ≤ BB := PB_le (by decide)
section
variable {P : Program} {w : World} {K : PySem.W.Frag} {mg : Str → Option Value} {base : Heap} {L : LA}
abbrev N_reachedends : List Str := ["tooth", "after", "start", "length", "count", "reached"]
theorem sc_reachedends : FnScope N_reachedends ["tooth", "after"] (defScope st_reached_ends) := ⟨rfl, rfl, rfl, by decide +kernel, rfl, by decide +kernel, by decide +kernel⟩
theorem fn_reachedends (T : LX K mg L) {fd : FuncData} (F : Fun K "reached_ends" "reached_ends" st_reached_ends L.f_reached_ends fd) : FnOk P w K mg base CX0 1 L.f_reached_ends fd ["tooth", "after"] (spRe) := by
  have nd := sc_reachedends.nd
  refine F.ok sc_reachedends (fun vs H Q E h => ?_) (fun cdv A outer S H vs Q E hr h => ?_)
  · obtain ⟨x, t, z, rfl, _⟩ := h
    rfl
  · obtain ⟨x, t, z, rfl, ⟨a, rfl, ha⟩, B, k⟩ := h
    refine ⟨_, (pss_cons (ps_asg (pv 0) (pg_tup rfl (pgs_cons (pg_name (i := 2) nd rfl (Or.inl rfl)) (pgs_cons (pg_name (i := 3) nd rfl (Or.inl rfl)) (pgs_cons (pg_name (i := 4) nd rfl (Or.inl rfl)) pgs_nil)))))
       (pss_cons (ps_set (i := 5) nd rfl (Or.inl rfl) (pe_callB (call_max2 rfl) (by rfl) T.b_max (by decide +kernel) (pa_cons pe_int (pa_cons (pe_op op_sub (pv 1) (pv 2)) pa_nil))))
       (pss_cons (ps_if (pt_cmp (pc_notN (pv 4))) (pss_one (ps_set (i := 5) nd rfl (Or.inl rfl) (pe_callB (call_min2 rfl) (by rfl) T.b_min (by decide +kernel) (pa_cons (pv 5) (pa_cons (pe_op op_mulW (pv 3) (pv 4)) pa_nil))))) pss_nil)
       (pss_one (ps_ret (pe_callB call_divmodW (by rfl) T.b_divmod (by decide +kernel) (pa_cons (pv 5) (pa_cons (pv 3) pa_nil)))))))), ?_⟩
    have p1 := B.p1
    have pB : t.2.1 ≤ BB := Int.le_trans B.pB b15
    refine ⟨_, rfl, a, _, rfl, SqT.of ha, rfl, _, _, rfl, _, _, rfl, _, _, rfl, rfl, ?_⟩
    refine ⟨_, rfl, _, rfl, _, _, rfl, rfl, 0, _, rfl, ?_⟩
    cases hk : t.2.2 with
    | none =>
      have e : reaT t z = mx2 0 (z - t.1) := by unfold reaT; rw [hk]
      rw [e] at k
      exact ⟨_, rfl, _, rfl, iteF ⟨_, rfl, _, rfl, _, _, rfl, cdivP (by omega) (divBB p1 pB), fun p hp => k p hp⟩⟩
    | some c =>
      have e : reaT t z = mn2 (mx2 0 (z - t.1)) (t.2.1 * c) := by unfold reaT; rw [hk]
      rw [e] at k
      have c0 := B.c0 c hk
      have cb := b15
      exact ⟨_, rfl, _, rfl, iteT ⟨_, rfl, _, rfl, _, rfl, _, _, rfl, rfl, mulAB (by omega) pB (by omega) (by omega), _, _, rfl, _, rfl, _, rfl, _, _, rfl, cdivP (by omega) (divBB p1 pB), fun p hp => k p hp⟩⟩
theorem ok_reachedends (T : LX K mg L) : Cal P w K mg base "reached_ends" 1 L.f_reached_ends ["tooth", "after"] (spRe) := T.d_reached_ends.cal fun fd F => fn_reachedends T F
abbrev N_checkfirst : List Str := ["delays", "first"]
theorem sc_checkfirst : FnScope N_checkfirst ["delays", "first"] (defScope st_check_first) := ⟨rfl, rfl, rfl, by decide +kernel, rfl, by decide +kernel, by decide +kernel⟩
theorem fn_checkfirst (T : LX K mg L) {fd : FuncData} (F : Fun K "check_first" "check_first" st_check_first L.f_check_first fd) : FnOk P w K mg base CX0 3 L.f_check_first fd ["delays", "first"] (spCkF L.c_Delays) := by
  have G_isatleast := ok_isatleast (P := P) (w := w) (base := base) T
  have nd := sc_checkfirst.nd
  refine F.ok sc_checkfirst (fun vs H Q E h => ?_) (fun cdv A outer S H vs Q E hr h => ?_)
  · obtain ⟨p, b, R, f, rfl, _⟩ := h
    rfl
  · obtain ⟨p, b, R, f, rfl, ⟨aR, aT, xr, xt, ⟨dx, hp⟩, hR, tR, hT, tT, O⟩, bf, k⟩ := h
    refine ⟨_, (pss_one (ps_if (pt_not (pt_val (pe_c G_isatleast (hr.mono (by decide)) rfl (pa_cons (pv 1) (pa_cons (pe_op op_add (pe_fld (pv 0) rfl) pe_int) pa_nil))))) (pss_one (ps_never)) pss_nil)), ?_⟩
    refine ⟨_, rfl, _, rfl, p, L.c_Delays, dx, _, _, rfl, hp, T.cf_Delays.cl, T.nf_Delays_begin, dlF_b _ _ _, _, _, rfl, rfl, _, _, _, rfl, .int _, _, rfl, ?_⟩
    show if (!(decide (b + 1 ≤ f))) = true then _ else _
    rw [decide_eq_true (show b + 1 ≤ f by omega)]
    exact iteF k
theorem ok_checkfirst (T : LX K mg L) : Cal P w K mg base "check_first" 3 L.f_check_first ["delays", "first"] (spCkF L.c_Delays) := T.d_check_first.cal fun fd F => fn_checkfirst T F
abbrev N_checklast : List Str := ["first", "last"]
theorem sc_checklast : FnScope N_checklast ["first", "last"] (defScope st_check_last) := ⟨rfl, rfl, rfl, by decide +kernel, rfl, by decide +kernel, by decide +kernel⟩
theorem fn_checklast (T : LX K mg L) {fd : FuncData} (F : Fun K "check_last" "check_last" st_check_last L.f_check_last fd) : FnOk P w K mg base CX0 3 L.f_check_last fd ["first", "last"] (spCkL) := by
  have G_isatleast := ok_isatleast (P := P) (w := w) (base := base) T
  have nd := sc_checklast.nd
  refine F.ok sc_checklast (fun vs H Q E h => ?_) (fun cdv A outer S H vs Q E hr h => ?_)
  · obtain ⟨f, l, rfl, _⟩ := h
    rfl
  · obtain ⟨f, l, rfl, fl, k⟩ := h
    refine ⟨_, (pss_one (ps_if (pt_not (pt_val (pe_c G_isatleast (hr.mono (by decide)) rfl (pa_cons (pv 1) (pa_cons (pv 0) pa_nil))))) (pss_one (ps_never)) pss_nil)), ?_⟩
    refine ⟨_, rfl, _, rfl, _, _, _, rfl, .int _, _, rfl, ?_⟩
    show if (!(decide (f ≤ l))) = true then _ else _
    rw [decide_eq_true fl]
    exact iteF k
theorem ok_checklast (T : LX K mg L) : Cal P w K mg base "check_last" 3 L.f_check_last ["first", "last"] (spCkL) := T.d_check_last.cal fun fd F => fn_checklast T F
abbrev N_checkmost : List Str := ["most"]
theorem sc_checkmost : FnScope N_checkmost ["most"] (defScope st_check_most) := ⟨rfl, rfl, rfl, by decide +kernel, rfl, by decide +kernel, by decide +kernel⟩
theorem fn_checkmost (T : LX K mg L) {fd : FuncData} (F : Fun K "check_most" "check_most" st_check_most L.f_check_most fd) : FnOk P w K mg base CX0 3 L.f_check_most fd ["most"] (spCkM) := by
  have G_isatleast := ok_isatleast (P := P) (w := w) (base := base) T
  have nd := sc_checkmost.nd
  refine F.ok sc_checkmost (fun vs H Q E h => ?_) (fun cdv A outer S H vs Q E hr h => ?_)
  · obtain ⟨m, rfl, _⟩ := h
    rfl
  · obtain ⟨m, rfl, m0, k⟩ := h
    refine ⟨_, (pss_one (ps_if (pt_not (pt_val (pe_c G_isatleast (hr.mono (by decide)) rfl (pa_cons (pv 0) (pa_cons pe_int pa_nil))))) (pss_one (ps_never)) pss_nil)), ?_⟩
    refine ⟨_, rfl, _, _, _, rfl, .int _, _, rfl, ?_⟩
    show if (!(decide ((0 : Int) ≤ m))) = true then _ else _
    rw [decide_eq_true m0]
    exact iteF k
theorem ok_checkmost (T : LX K mg L) : Cal P w K mg base "check_most" 3 L.f_check_most ["most"] (spCkM) := T.d_check_most.cal fun fd F => fn_checkmost T F
abbrev N_totalbefore : List Str := ["delays", "after", "total", "tooth", "length", "whole", "rest"]
theorem sc_totalbefore : FnScope N_totalbefore ["delays", "after"] (defScope st_total_before) := ⟨rfl, rfl, rfl, by decide +kernel, rfl, by decide +kernel, by decide +kernel⟩
theorem fn_totalbefore (T : LX K mg L) {fd : FuncData} (F : Fun K "total_before" "total_before" st_total_before L.f_total_before fd) : FnOk P w K mg base CX0 2 L.f_total_before fd ["delays", "after"] (spTotB L.c_Delays) := by
  have G_reachedends := ok_reachedends (P := P) (w := w) (base := base) T
  have nd := sc_totalbefore.nd
  refine F.ok sc_totalbefore (fun vs H Q E h => ?_) (fun cdv A outer S H vs Q E hr h => ?_)
  · obtain ⟨p, b, R, a, rfl, _⟩ := h
    rfl
  · obtain ⟨p, b, R, a, rfl, ⟨aR, aT, xr, xt, ⟨dx, hp⟩, hR, tR, hT, tT, O⟩, aB, k⟩ := h
    refine ⟨_, (pss_cons (ps_set (i := 2) nd rfl (Or.inl rfl) pe_int)
       (pss_cons (ps_for PassesOwn.never rfl (pi_list (pe_fld (pv 0) rfl)) (pg_name (i := 3) nd rfl (Or.inl rfl)) (pss_cons (ps_set (i := 4) nd rfl (Or.inl rfl) (pe_ix (r := rIxT K) ix_tup (pv 3) pe_int (fun _ _ => rfl)))
       (pss_cons (ps_asg (pe_c G_reachedends (hr.mono (by decide)) rfl (pa_cons (pv 3) (pa_cons (pv 1) pa_nil))) (pg_tup rfl (pgs_cons (pg_name (i := 5) nd rfl (Or.inl rfl)) (pgs_cons (pg_name (i := 6) nd rfl (Or.inl rfl)) pgs_nil))))
       (pss_one (ps_aug (i := 2) nd rfl (Or.inl rfl) (pe_op op_sub (pe_op op_add (pe_op op_mulW (pv 5) (pe_op op_fdivW (pe_op op_mulW (pv 4) (pe_op op_sub (pv 4) pe_int)) pe_int)) (pe_op op_mulW (pv 6) (pe_op op_sub (pv 4) pe_int))) (pe_op op_fdivW (pe_op op_mulW (pv 6) (pe_op op_sub (pv 6) pe_int)) pe_int)) ip_add)))))
       (pss_one (ps_ret (pv 2))))), ?_⟩
    have zl := tT.len
    refine ⟨_, rfl, p, L.c_Delays, dx, _, _, rfl, hp, T.cf_Delays.cl, T.nf_Delays_teeth, dlF_t _ _ _, aT, rfl, ⟨_, SqL.of hT⟩, ?_⟩
    refine for_list (K := K) (a := aT) (xs := xt) (fun i σ H2 => ∃ v3 v4 v5 v6 : Option V, σ = [some (.ref p), some (.int a), some (.int (sumT totG ((tee R b).take i) a)), v3, v4, v5, v6] ∧ Same H H2) ⟨none, none, none, none, rfl, Same.refl H⟩ (fun i σ H2 _ ⟨_, _, _, _, _, s⟩ => SqL.of (s _ _ hT)) ?_ ?_
    · rintro i x σ H2 hxi ⟨v3, v4, v5, v6, rfl, s2⟩
      obtain ⟨t, ht, q, rfl, hq⟩ := (tT.same s2).get hxi
      have etk : (tee R b).take (i + 1) = (tee R b).take i ++ [t] := by rw [List.take_add_one, ht]; rfl
      have B := tee_b O t (List.mem_of_getElem? ht)
      rw [etk, sumT_app]
      obtain ⟨r0, r1⟩ := rea_bd B aB (Int.le_of_lt (PB_pos 2000))
      have p1 := B.p1
      have pB := B.pB
      obtain ⟨L0, hL⟩ : ∃ L0, L0 = t.2.1 := ⟨_, rfl⟩
      have e15 := b15
      have e20 := b20
      have e1 := BB1
      have w0 : 0 ≤ reaT t a / t.2.1 := Int.ediv_nonneg r0 (by omega)
      have w1 : reaT t a / t.2.1 ≤ reaT t a := Int.ediv_le_self _ r0
      have z0 := Int.emod_nonneg (reaT t a) (show t.2.1 ≠ 0 by omega)
      have z1 := Int.emod_lt_of_pos (reaT t a) (show 0 < t.2.1 by omega)
      have tb : triI t.2.1 ≤ BB := by
        have d := tri_dbl t.2.1
        have m := PB_mul (n := 1501) (m := 1501) (show 0 ≤ t.2.1 by omega) pB (show 0 ≤ t.2.1 - 1 by omega) (by omega)
        have := tri_nn (n := t.2.1) (by omega)
        have : PB (1501 + 1501) ≤ BB := PB_le (by decide)
        omega
      have t0 := tri_nn (n := t.2.1) (by omega)
      refine ⟨_, rfl, q, _, 1, .int t.2.1, rfl, rfl, SqT.of hq, rfl, ?_⟩
      refine ⟨_, rfl, _, rfl, _, t, a, rfl, ⟨q, rfl, hq⟩, B, fun tp htp => ?_⟩
      have s3 := Same.upd (o := .tup [.int (reaT t a / t.2.1), .int (reaT t a % t.2.1)]) htp
      refine ⟨tp, _, rfl, SqT.of upd_same, rfl, _, _, rfl, _, _, rfl, rfl, ?_⟩
      have eG : totG t.2.1 (reaT t a) = reaT t a / t.2.1 * triI t.2.1 + reaT t a % t.2.1 * (t.2.1 - 1) - reaT t a % t.2.1 * (reaT t a % t.2.1 - 1) / 2 := rfl
      rw [eG]
      refine ⟨_, rfl, _, rfl, _, rfl, _, rfl, _, _, rfl, rfl, _, _, rfl, rfl, mulAB (by omega) (by omega) (by omega) (by omega), _, _, rfl, rfl, div2, _, _, rfl, rfl, mulAB (by omega) (by omega) (Int.le_trans (by omega) t0) tb, ?_⟩
      refine ⟨_, rfl, _, rfl, _, _, rfl, rfl, _, _, rfl, rfl, mulAB (by omega) (by omega) (by omega) (by omega), _, _, rfl, rfl, ?_⟩
      refine ⟨_, rfl, _, rfl, _, _, rfl, rfl, _, _, rfl, rfl, mulAB (by omega) (by omega) (by omega) (by omega), _, _, rfl, rfl, div2, _, _, rfl, rfl, ?_⟩
      exact ⟨_, _, rfl, rfl, _, _, _, _, rfl, s2.trans s3⟩
    · rintro σ H2 ⟨v3, v4, v5, v6, rfl, s2⟩
      rw [zl, List.take_length]
      exact ⟨_, rfl, k H2 s2⟩
theorem ok_totalbefore (T : LX K mg L) : Cal P w K mg base "total_before" 2 L.f_total_before ["delays", "after"] (spTotB L.c_Delays) := T.d_total_before.cal fun fd F => fn_totalbefore T F
abbrev N_totaldelay : List Str := ["delays", "first", "last"]
theorem sc_totaldelay : FnScope N_totaldelay ["delays", "first", "last"] (defScope st_total_delay) := ⟨rfl, rfl, rfl, by decide +kernel, rfl, by decide +kernel, by decide +kernel⟩
theorem fn_totaldelay (T : LX K mg L) {fd : FuncData} (F : Fun K "total_delay" "total_delay" st_total_delay L.f_total_delay fd) : FnOk P w K mg base CX0 4 L.f_total_delay fd ["delays", "first", "last"] (spTotD L.c_Delays) := by
  have G_checkfirst := ok_checkfirst (P := P) (w := w) (base := base) T
  have G_checklast := ok_checklast (P := P) (w := w) (base := base) T
  have G_totalbefore := ok_totalbefore (P := P) (w := w) (base := base) T
  have nd := sc_totaldelay.nd
  refine F.ok sc_totaldelay (fun vs H Q E h => ?_) (fun cdv A outer S H vs Q E hr h => ?_)
  · obtain ⟨p, b, R, f, l, rfl, _⟩ := h
    rfl
  · obtain ⟨p, b, R, f, l, rfl, DV, bf, fl, lB, k⟩ := h
    refine ⟨_, (pss_cons (ps_expr (pe_c G_checkfirst (hr.mono (by decide)) rfl (pa_cons (pv 0) (pa_cons (pv 1) pa_nil))))
       (pss_cons (ps_expr (pe_c G_checklast (hr.mono (by decide)) rfl (pa_cons (pv 1) (pa_cons (pv 2) pa_nil))))
       (pss_one (ps_ret (pe_op op_sub (pe_c G_totalbefore (hr.mono (by decide)) rfl (pa_cons (pv 0) (pa_cons (pe_op op_add (pv 2) pe_int) pa_nil))) (pe_c G_totalbefore (hr.mono (by decide)) rfl (pa_cons (pv 0) (pa_cons (pv 1) pa_nil)))))))), ?_⟩
    refine ⟨_, rfl, _, rfl, p, b, R, f, rfl, DV, bf, ?_⟩
    refine ⟨_, rfl, _, rfl, f, l, rfl, fl, ?_⟩
    refine ⟨_, rfl, _, rfl, _, _, rfl, rfl, p, b, R, l + 1, rfl, DV, lB, fun H1 s1 => ?_⟩
    refine ⟨_, rfl, _, rfl, p, b, R, f, rfl, DV.same s1, by omega, fun H2 s2 => ?_⟩
    exact ⟨_, _, rfl, rfl, k H2 (s1.trans s2)⟩
theorem ok_totaldelay (T : LX K mg L) : Cal P w K mg base "total_delay" 4 L.f_total_delay ["delays", "first", "last"] (spTotD L.c_Delays) := T.d_total_delay.cal fun fd F => fn_totaldelay T F
abbrev N_withinbefore : List Str := ["delays", "most", "after", "total", "tooth", "length", "whole", "rest", "greater"]
theorem sc_withinbefore : FnScope N_withinbefore ["delays", "most", "after"] (defScope st_within_before) := ⟨rfl, rfl, rfl, by decide +kernel, rfl, by decide +kernel, by decide +kernel⟩
theorem fn_withinbefore (T : LX K mg L) {fd : FuncData} (F : Fun K "within_before" "within_before" st_within_before L.f_within_before fd) : FnOk P w K mg base CX0 2 L.f_within_before fd ["delays", "most", "after"] (spWitB L.c_Delays) := by
  have G_reachedends := ok_reachedends (P := P) (w := w) (base := base) T
  have nd := sc_withinbefore.nd
  refine F.ok sc_withinbefore (fun vs H Q E h => ?_) (fun cdv A outer S H vs Q E hr h => ?_)
  · obtain ⟨p, b, R, m, a, rfl, _⟩ := h
    rfl
  · obtain ⟨p, b, R, m, a, rfl, ⟨aR, aT, xr, xt, ⟨dx, hp⟩, hR, tR, hT, tT, O⟩, m0, mB, aB, k⟩ := h
    refine ⟨_, (pss_cons (ps_set (i := 3) nd rfl (Or.inl rfl) pe_int)
       (pss_cons (ps_for PassesOwn.never rfl (pi_list (pe_fld (pv 0) rfl)) (pg_name (i := 4) nd rfl (Or.inl rfl)) (pss_cons (ps_set (i := 5) nd rfl (Or.inl rfl) (pe_ix (r := rIxT K) ix_tup (pv 4) pe_int (fun _ _ => rfl)))
       (pss_cons (ps_asg (pe_c G_reachedends (hr.mono (by decide)) rfl (pa_cons (pv 4) (pa_cons (pv 2) pa_nil))) (pg_tup rfl (pgs_cons (pg_name (i := 6) nd rfl (Or.inl rfl)) (pgs_cons (pg_name (i := 7) nd rfl (Or.inl rfl)) pgs_nil))))
       (pss_cons (ps_set (i := 8) nd rfl (Or.inl rfl) (pe_callB (call_max2 rfl) (by rfl) T.b_max (by decide +kernel) (pa_cons pe_int (pa_cons (pe_op op_sub (pe_op op_sub (pv 5) pe_int) (pv 1)) pa_nil))))
       (pss_one (ps_aug (i := 3) nd rfl (Or.inl rfl) (pe_op op_add (pe_op op_mulW (pv 6) (pe_op op_sub (pv 5) (pv 8))) (pe_callB (call_max2 rfl) (by rfl) T.b_max (by decide +kernel) (pa_cons pe_int (pa_cons (pe_op op_sub (pv 7) (pv 8)) pa_nil)))) ip_add))))))
       (pss_one (ps_ret (pv 3))))), ?_⟩
    have zl := tT.len
    refine ⟨_, rfl, p, L.c_Delays, dx, _, _, rfl, hp, T.cf_Delays.cl, T.nf_Delays_teeth, dlF_t _ _ _, aT, rfl, ⟨_, SqL.of hT⟩, ?_⟩
    refine for_list (K := K) (a := aT) (xs := xt) (fun i σ H2 => ∃ v3 v4 v5 v6 v7 : Option V, σ = [some (.ref p), some (.int m), some (.int a), some (.int (sumT (witG m) ((tee R b).take i) a)), v3, v4, v5, v6, v7] ∧ Same H H2) ⟨none, none, none, none, none, rfl, Same.refl H⟩ (fun i σ H2 _ ⟨_, _, _, _, _, _, s⟩ => SqL.of (s _ _ hT)) ?_ ?_
    · rintro i x σ H2 hxi ⟨v3, v4, v5, v6, v7, rfl, s2⟩
      obtain ⟨t, ht, q, rfl, hq⟩ := (tT.same s2).get hxi
      have etk : (tee R b).take (i + 1) = (tee R b).take i ++ [t] := by rw [List.take_add_one, ht]; rfl
      have B := tee_b O t (List.mem_of_getElem? ht)
      rw [etk, sumT_app]
      obtain ⟨r0, r1⟩ := rea_bd B aB (Int.le_of_lt (PB_pos 2000))
      have p1 := B.p1
      have pB := B.pB
      have e15 := b15
      have e20 := b20
      have e1 := BB1
      have w0 : 0 ≤ reaT t a / t.2.1 := Int.ediv_nonneg r0 (by omega)
      have w1 : reaT t a / t.2.1 ≤ reaT t a := Int.ediv_le_self _ r0
      refine ⟨_, rfl, q, _, 1, .int t.2.1, rfl, rfl, SqT.of hq, rfl, ?_⟩
      refine ⟨_, rfl, _, rfl, _, t, a, rfl, ⟨q, rfl, hq⟩, B, fun tp htp => ?_⟩
      have s3 := Same.upd (o := .tup [.int (reaT t a / t.2.1), .int (reaT t a % t.2.1)]) htp
      refine ⟨tp, _, rfl, SqT.of upd_same, rfl, _, _, rfl, _, _, rfl, rfl, ?_⟩
      have eG : witG m t.2.1 (reaT t a) = reaT t a / t.2.1 * (t.2.1 - mx2 0 (t.2.1 - 1 - m)) + mx2 0 (reaT t a % t.2.1 - mx2 0 (t.2.1 - 1 - m)) := rfl
      rw [eG]
      have g0 : 0 ≤ mx2 0 (t.2.1 - 1 - m) ∧ mx2 0 (t.2.1 - 1 - m) ≤ t.2.1 := by unfold mx2; split <;> omega
      refine ⟨_, rfl, _, _, rfl, rfl, _, rfl, _, _, rfl, rfl, 0, _, rfl, ?_⟩
      refine ⟨_, rfl, _, rfl, _, rfl, _, rfl, _, _, rfl, rfl, _, _, rfl, rfl, mulAB (by omega) (by omega) (Int.le_trans (by omega) (Int.sub_nonneg_of_le g0.2)) (Int.le_trans (Int.sub_le_self _ g0.1) (by omega)), ?_⟩
      refine ⟨_, rfl, _, rfl, _, _, rfl, rfl, 0, _, rfl, _, _, rfl, rfl, _, _, rfl, rfl, ?_⟩
      exact ⟨_, _, _, _, _, rfl, s2.trans s3⟩
    · rintro σ H2 ⟨v3, v4, v5, v6, v7, rfl, s2⟩
      rw [zl, List.take_length]
      exact ⟨_, rfl, k H2 s2⟩
theorem ok_withinbefore (T : LX K mg L) : Cal P w K mg base "within_before" 2 L.f_within_before ["delays", "most", "after"] (spWitB L.c_Delays) := T.d_within_before.cal fun fd F => fn_withinbefore T F
abbrev N_countwithin : List Str := ["delays", "most", "first", "last"]
theorem sc_countwithin : FnScope N_countwithin ["delays", "most", "first", "last"] (defScope st_count_within) := ⟨rfl, rfl, rfl, by decide +kernel, rfl, by decide +kernel, by decide +kernel⟩
theorem fn_countwithin (T : LX K mg L) {fd : FuncData} (F : Fun K "count_within" "count_within" st_count_within L.f_count_within fd) : FnOk P w K mg base CX0 4 L.f_count_within fd ["delays", "most", "first", "last"] (spCntW L.c_Delays) := by
  have G_checkmost := ok_checkmost (P := P) (w := w) (base := base) T
  have G_checkfirst := ok_checkfirst (P := P) (w := w) (base := base) T
  have G_checklast := ok_checklast (P := P) (w := w) (base := base) T
  have G_withinbefore := ok_withinbefore (P := P) (w := w) (base := base) T
  have nd := sc_countwithin.nd
  refine F.ok sc_countwithin (fun vs H Q E h => ?_) (fun cdv A outer S H vs Q E hr h => ?_)
  · obtain ⟨p, b, R, m, f, l, rfl, _⟩ := h
    rfl
  · obtain ⟨p, b, R, m, f, l, rfl, DV, m0, mB, bf, fl, lB, k⟩ := h
    refine ⟨_, (pss_cons (ps_expr (pe_c G_checkmost (hr.mono (by decide)) rfl (pa_cons (pv 1) pa_nil)))
       (pss_cons (ps_expr (pe_c G_checkfirst (hr.mono (by decide)) rfl (pa_cons (pv 0) (pa_cons (pv 2) pa_nil))))
       (pss_cons (ps_expr (pe_c G_checklast (hr.mono (by decide)) rfl (pa_cons (pv 2) (pa_cons (pv 3) pa_nil))))
       (pss_one (ps_ret (pe_op op_sub (pe_c G_withinbefore (hr.mono (by decide)) rfl (pa_cons (pv 0) (pa_cons (pv 1) (pa_cons (pe_op op_add (pv 3) pe_int) pa_nil)))) (pe_c G_withinbefore (hr.mono (by decide)) rfl (pa_cons (pv 0) (pa_cons (pv 1) (pa_cons (pv 2) pa_nil)))))))))), ?_⟩
    refine ⟨_, rfl, m, rfl, m0, ?_⟩
    refine ⟨_, rfl, _, rfl, p, b, R, f, rfl, DV, bf, ?_⟩
    refine ⟨_, rfl, _, rfl, f, l, rfl, fl, ?_⟩
    refine ⟨_, rfl, _, rfl, _, rfl, _, _, rfl, rfl, p, b, R, m, l + 1, rfl, DV, m0, mB, lB, fun H1 s1 => ?_⟩
    refine ⟨_, rfl, _, rfl, _, rfl, p, b, R, m, f, rfl, DV.same s1, m0, mB, by omega, fun H2 s2 => ?_⟩
    exact ⟨_, _, rfl, rfl, k H2 (s1.trans s2)⟩
theorem ok_countwithin (T : LX K mg L) : Cal P w K mg base "count_within" 4 L.f_count_within ["delays", "most", "first", "last"] (spCntW L.c_Delays) := T.d_count_within.cal fun fd F => fn_countwithin T F
end
namespace W2
section
variable {P : Program} {w : World} {K : PySem.W.Frag} {mg : Str → Option Value} {base : Heap} {L : LA}
abbrev N_timesbefore : List Str := ["train", "time", "start", "step", "count", "reached"]
theorem sc_timesbefore : FnScope N_timesbefore ["train", "time"] (defScope st_times_before) := ⟨rfl, rfl, rfl, by decide +kernel, rfl, by decide +kernel, by decide +kernel⟩
theorem fn_timesbefore (T : LX K mg L) {fd : FuncData} (F : Fun K "times_before" "times_before" st_times_before L.f_times_before fd) : FnOk P w K mg base CX0 2 L.f_times_before fd ["train", "time"] (spTbW) := by
  have G_stepsto := ok_stepsto (P := P) (w := w) (base := base) T
  have nd := sc_timesbefore.nd
  refine F.ok sc_timesbefore (fun vs H Q E h => ?_) (fun cdv A outer S H vs Q E hr h => ?_)
  · obtain ⟨x, t, z, rfl, _⟩ := h
    rfl
  · obtain ⟨x, t, z, rfl, ⟨a, rfl, ha⟩, B, k⟩ := h
    refine ⟨_, (pss_cons (ps_asg (pv 0) (pg_tup rfl (pgs_cons (pg_name (i := 2) nd rfl (Or.inl rfl)) (pgs_cons (pg_name (i := 3) nd rfl (Or.inl rfl)) (pgs_cons (pg_name (i := 4) nd rfl (Or.inl rfl)) pgs_nil)))))
       (pss_cons (ps_set (i := 5) nd rfl (Or.inl rfl) (pe_c G_stepsto (hr.mono (by decide)) rfl (pa_cons (pe_op op_sub (pv 1) (pv 2)) (pa_cons (pv 3) pa_nil))))
       (pss_cons (ps_if (pt_cmp (pc_isN (pv 4))) (pss_one (ps_ret (pv 5))) pss_nil)
       (pss_one (ps_ret (pe_callB (call_min2 rfl) (by rfl) T.b_min (by decide +kernel) (pa_cons (pv 5) (pa_cons (pv 4) pa_nil)))))))), ?_⟩
    have p1 := B.p1
    refine ⟨_, rfl, a, _, rfl, SqT.of ha, rfl, _, _, rfl, _, _, rfl, _, _, rfl, rfl, ?_⟩
    refine ⟨_, rfl, _, rfl, _, _, rfl, rfl, _, rfl, _, _, rfl, by omega, divBB p1 (Int.le_trans B.pB b15), ?_⟩
    cases hk : t.2.2 with
    | none =>
      have e : nbT t z = stepsUp (z - t.1) t.2.1 := by unfold nbT; rw [hk]; rfl
      rw [e] at k
      exact ⟨_, rfl, _, rfl, iteT ⟨_, rfl, k⟩⟩
    | some c =>
      have e : nbT t z = if c < stepsUp (z - t.1) t.2.1 then c else stepsUp (z - t.1) t.2.1 := by unfold nbT; rw [hk]; rfl
      rw [e] at k
      exact ⟨_, rfl, _, rfl, iteF ⟨_, rfl, _, rfl, _, _, rfl, k⟩⟩
theorem ok_timesbefore (T : LX K mg L) : Cal P w K mg base "times_before" 2 L.f_times_before ["train", "time"] (spTbW) := T.d_times_before.cal fun fd F => fn_timesbefore T F
abbrev N_tops : List Str := ["delays", "first", "found", "tooth", "start", "length", "count", "before"]
theorem sc_tops : FnScope N_tops ["delays", "first"] (defScope st_tops) := ⟨rfl, rfl, rfl, by decide +kernel, rfl, by decide +kernel, by decide +kernel⟩
theorem fn_tops (T : LX K mg L) {fd : FuncData} (F : Fun K "tops" "tops" st_tops L.f_tops fd) : FnOk P w K mg base CX0 3 L.f_tops fd ["delays", "first"] (spTops L.c_Delays) := by
  have G_timesbefore := ok_timesbefore (P := P) (w := w) (base := base) T
  have nd := sc_tops.nd
  refine F.ok sc_tops (fun vs H Q E h => ?_) (fun cdv A outer S H vs Q E hr h => ?_)
  · obtain ⟨p, b, R, f, rfl, _⟩ := h
    rfl
  · obtain ⟨p, b, R, f, rfl, ⟨aR, aT, xr, xt, ⟨dx, hp⟩, hR, tR, hT, tT, O⟩, fB, k⟩ := h
    refine ⟨_, (pss_cons (ps_set (i := 2) nd rfl (Or.inl rfl) (pe_lst (pa_cons (pv 1) pa_nil)))
       (pss_cons (ps_for PassesOwn.never rfl (pi_list (pe_fld (pv 0) rfl)) (pg_name (i := 3) nd rfl (Or.inl rfl)) (pss_cons (ps_asg (pv 3) (pg_tup rfl (pgs_cons (pg_name (i := 4) nd rfl (Or.inl rfl)) (pgs_cons (pg_name (i := 5) nd rfl (Or.inl rfl)) (pgs_cons (pg_name (i := 6) nd rfl (Or.inl rfl)) pgs_nil)))))
       (pss_cons (ps_set (i := 7) nd rfl (Or.inl rfl) (pe_c G_timesbefore (hr.mono (by decide)) rfl (pa_cons (pv 3) (pa_cons (pe_op op_add (pv 1) pe_int) pa_nil))))
       (pss_one (ps_if (PW.pt (pw_or (pt_cmp (pc_isN (pv 6))) (pw_or1 (pt_cmpR op_lt (pv 7) (pv 6) (nomark _))))) (pss_one (ps_expr (pe_bm PySem.F.plainAttrs_list PySem.F.slot_list_append PySem.F.type_list_append mt_append (pv 2) (pa_cons (pe_op op_add (pv 4) (pe_op op_mulW (pv 7) (pv 5))) pa_nil)))) pss_nil)))))
       (pss_one (ps_ret (pv 2))))), ?_⟩
    have zl := tT.len
    have tl := tee_len R b
    have ln := O.ln
    refine ⟨_, rfl, (by show 1 ≤ sizeLine; decide), fun l hl => ?_⟩
    have s1 := Same.upd (o := .lst [.int f]) hl
    refine ⟨_, rfl, p, L.c_Delays, dx, _, _, rfl, s1 _ _ hp, T.cf_Delays.cl, T.nf_Delays_teeth, dlF_t _ _ _, aT, rfl, ⟨_, SqL.of (s1 _ _ hT)⟩, ?_⟩
    refine for_list (K := K) (a := aT) (xs := xt) (fun i σ H2 => ∃ v3 v4 v5 v6 v7 : Option V, σ = [some (.ref p), some (.int f), some (.ref l), v3, v4, v5, v6, v7] ∧ H2 l = some (.lst ((topL f ((tee R b).take i)).map V.int)) ∧ Same H H2) ⟨none, none, none, none, none, rfl, upd_same, s1⟩ (fun i σ H2 _ ⟨_, _, _, _, _, _, _, s⟩ => SqL.of (s _ _ hT)) ?_ ?_
    · rintro i x σ H2 hxi ⟨v3, v4, v5, v6, v7, rfl, hc, s2⟩
      obtain ⟨t, ht, q, rfl, hq⟩ := (tT.same s2).get hxi
      have etk : (tee R b).take (i + 1) = (tee R b).take i ++ [t] := by rw [List.take_add_one, ht]; rfl
      have B := tee_b O t (List.mem_of_getElem? ht)
      have p1 := B.p1
      have pB := B.pB
      have e15 := b15
      have e20 := b20
      have e1 := BB1
      have eT : topL f ((tee R b).take (i + 1)) = topL f ((tee R b).take i) ++ (topI f t).toList := by
        rw [etk]
        unfold topL
        rw [List.filterMap_append, List.cons_append]
        cases h : topI f t with
        | none => rw [List.filterMap_cons_none h]; rfl
        | some y => rw [List.filterMap_cons_some h]; rfl
      have fl : (topL f ((tee R b).take i)).length ≤ 27 := by
        unfold topL
        rw [List.length_cons]
        have := List.length_filterMap_le (topI f) ((tee R b).take i)
        rw [List.length_take] at this
        omega
      have nb : nbT t (f + 1) ≤ stepsUp (f + 1 - t.1) t.2.1 := by
        have u : nbT t (f + 1) = minO (stepsUp (f + 1 - t.1) t.2.1) t.2.2 := rfl
        rw [u]
        cases t.2.2 with
        | none => exact Int.le_refl _
        | some c =>
          show (if c < stepsUp (f + 1 - t.1) t.2.1 then c else stepsUp (f + 1 - t.1) t.2.1) ≤ _
          split <;> omega
      have nb0 : 0 ≤ nbT t (f + 1) := by
        have u : nbT t (f + 1) = minO (stepsUp (f + 1 - t.1) t.2.1) t.2.2 := rfl
        have v := (steps_char (d := f + 1 - t.1) p1).1
        rw [u]
        cases h : t.2.2 with
        | none => exact v
        | some c =>
          have := (B.c0 c h).1
          show 0 ≤ (if c < stepsUp (f + 1 - t.1) t.2.1 then c else stepsUp (f + 1 - t.1) t.2.1)
          split <;> omega
      have nb1 : nbT t (f + 1) ≤ BB := by
        have s0 := B.s0
        have := steps_le' (d := f + 1 - t.1) (show 0 < t.2.1 by omega)
        have : PB 2000 + 1 ≤ BB := by
          have : PB 2001 = PB 2000 + PB 2000 := PB_succ 2000
          have := PB_pos 2000
          have : PB 2001 ≤ BB := PB_le (by decide)
          omega
        have : (if 0 < f + 1 - t.1 then f + 1 - t.1 else 0) ≤ PB 2000 + 1 := by have := PB_pos 2000; split <;> omega
        omega
      refine ⟨_, rfl, q, _, rfl, SqT.of hq, rfl, _, _, rfl, _, _, rfl, _, _, rfl, rfl, ?_⟩
      refine ⟨_, rfl, _, rfl, _, _, rfl, rfl, .ref q, t, f + 1, rfl, ⟨q, rfl, hq⟩, B, ?_⟩
      have add : topI f t = some (t.1 + nbT t (f + 1) * t.2.1) → ∃ v3 v4 v5 v6 v7 : Option V, [some (.ref p), some (.int f), some (.ref l), some (.ref q), some (.int t.1), some (.int t.2.1), some (cV t.2.2), some (.int (nbT t (f + 1)))] = [some (.ref p), some (.int f), some (.ref l), v3, v4, v5, v6, v7] ∧ upd H2 l (.lst ((topL f ((tee R b).take i)).map V.int ++ [.int (t.1 + nbT t (f + 1) * t.2.1)])) l = some (.lst ((topL f ((tee R b).take (i + 1))).map V.int)) ∧ Same H (upd H2 l (.lst ((topL f ((tee R b).take i)).map V.int ++ [.int (t.1 + nbT t (f + 1) * t.2.1)]))) := fun h => by
        refine ⟨_, _, _, _, _, rfl, ?_, fun c o e => by rw [upd_ne (ne_of_none e hl)]; exact s2 _ _ e⟩
        rw [upd_same, eT, h, List.map_append]
        rfl
      cases hk : t.2.2 with
      | none =>
        have h : topI f t = some (t.1 + nbT t (f + 1) * t.2.1) := if_pos (.inl hk)
        have a := add h
        rw [hk] at a
        exact ⟨_, rfl, _, rfl, iteT ⟨_, rfl, .inl ⟨rfl, _, SqL.of hc⟩, _, rfl, _, rfl, _, rfl, _, _, rfl, rfl, mulAB (by omega) nb1 (by omega) (by omega), _, _, rfl, rfl, l, _, _, rfl, rfl, hc, small1 (by rw [List.length_map]; omega), a⟩⟩
      | some c =>
        by_cases lt : nbT t (f + 1) < c
        · have h : topI f t = some (t.1 + nbT t (f + 1) * t.2.1) := if_pos (.inr ⟨c, hk, lt⟩)
          have a := add h
          rw [hk] at a
          exact ⟨_, rfl, _, rfl, iteF ⟨_, rfl, _, rfl, _, _, rfl, rfl, _, rfl, ite2 (fun _ => ⟨_, rfl, .inl ⟨rfl, _, SqL.of hc⟩, _, rfl, _, rfl, _, rfl, _, _, rfl, rfl, mulAB (by omega) nb1 (by omega) (by omega), _, _, rfl, rfl, l, _, _, rfl, rfl, hc, small1 (by rw [List.length_map]; omega), a⟩) (fun z => absurd (decide_eq_true lt) z)⟩⟩
        · have h : topI f t = none := if_neg fun z => by
            rcases z with z | ⟨d, e, l⟩
            · rw [hk] at z; cases z
            · rw [hk] at e; cases e; exact lt l
          refine ⟨_, rfl, _, rfl, iteF ⟨_, rfl, _, rfl, _, _, rfl, rfl, _, rfl, ite2 (fun c => absurd (of_decide_eq_true c) lt) (fun _ => ⟨_, _, _, _, _, rfl, ?_, s2⟩)⟩⟩
          rw [eT, h]
          show H2 l = some (.lst ((topL f ((tee R b).take i) ++ []).map V.int))
          rw [List.append_nil]
          exact hc
    · rintro σ H2 ⟨v3, v4, v5, v6, v7, rfl, hc, s2⟩
      rw [zl, List.take_length] at hc
      exact ⟨_, rfl, k l H2 hc s2 hl⟩
theorem ok_tops (T : LX K mg L) : Cal P w K mg base "tops" 3 L.f_tops ["delays", "first"] (spTops L.c_Delays) := T.d_tops.cal fun fd F => fn_tops T F
end
end W2
section
variable {P : Program} {w : World} {K : PySem.W.Frag} {mg : Str → Option Value} {base : Heap} {L : LA}
theorem ok_tops (T : LX K mg L) : Cal P w K mg base "tops" 3 L.f_tops ["delays", "first"] (spTops L.c_Delays) := W2.ok_tops T
abbrev N_firstabove : List Str := ["delays", "most", "first", "end"]
theorem sc_firstabove : FnScope N_firstabove ["delays", "most", "first"] (defScope st_first_above) := ⟨rfl, rfl, rfl, by decide +kernel, rfl, by decide +kernel, by decide +kernel⟩
theorem fn_firstabove (T : LX K mg L) {fd : FuncData} (F : Fun K "first_above" "first_above" st_first_above L.f_first_above fd) : FnOk P w K mg base CX0 5 L.f_first_above fd ["delays", "most", "first"] (spFA L.c_Delays) := by
  have G_checkmost := ok_checkmost (P := P) (w := w) (base := base) T
  have G_checkfirst := ok_checkfirst (P := P) (w := w) (base := base) T
  have G_tops := ok_tops (P := P) (w := w) (base := base) T
  have G_Delaysgetitem := ok_Delaysgetitem (P := P) (w := w) (base := base) T
  have nd := sc_firstabove.nd
  refine F.ok sc_firstabove (fun vs H Q E h => ?_) (fun cdv A outer S H vs Q E hr h => ?_)
  · obtain ⟨p, b, R, m, f, rfl, _⟩ := h
    rfl
  · obtain ⟨p, b, R, m, f, rfl, DV, m0, bf, fB, k⟩ := h
    refine ⟨_, (pss_cons (ps_expr (pe_c G_checkmost (hr.mono (by decide)) rfl (pa_cons (pv 1) pa_nil)))
       (pss_cons (ps_expr (pe_c G_checkfirst (hr.mono (by decide)) rfl (pa_cons (pv 0) (pa_cons (pv 2) pa_nil))))
       (pss_cons (ps_for PassesOwn.never rfl (pi_list (pe_c G_tops (hr.mono (by decide)) rfl (pa_cons (pv 0) (pa_cons (pv 2) pa_nil)))) (pg_name (i := 3) nd rfl (Or.inl rfl)) (pss_one (ps_if (pt_cmpR op_gt (G_Delaysgetitem.p_ix (hr.mono (by decide)) (pv 0) (pv 3)) (pv 1) (nomark _)) (pss_one (ps_ret (pv 3))) pss_nil)))
       (pss_one (ps_ret pe_non))))), ?_⟩
    have O := DV.ok
    refine ⟨_, rfl, m, rfl, m0, ?_⟩
    refine ⟨_, rfl, _, rfl, p, b, R, f, rfl, DV, bf, ?_⟩
    refine ⟨_, rfl, _, rfl, p, b, R, f, rfl, DV, fB, fun l H1 hl s1 nl => ⟨l, rfl, ⟨_, SqL.of hl⟩, ?_⟩⟩
    have DV1 := DV.same s1
    have DV1' := DV1
    obtain ⟨_, _, _, _, ⟨dx, hp⟩, _⟩ := DV1'
    have fa := fa_ok O (m := m) bf
    have tg := top_ge O (f := f)
    generalize topL f (tee R b) = ts at hl fa tg
    refine for_list (K := K) (a := l) (xs := ts.map V.int) (fun i σ H2 => ∃ v3 : Option V, σ = [some (.ref p), some (.int m), some (.int f), v3] ∧ H2 = H1 ∧ (ts.take i).find? (fun e => decide (m < dlO R e)) = none) ⟨none, rfl, rfl, rfl⟩ (fun i σ H2 _ ⟨_, _, e, _⟩ => by rw [e]; exact SqL.of hl) ?_ ?_
    · rintro i x σ H2 hxi ⟨v3, rfl, rfl, hn⟩
      rw [List.getElem?_map] at hxi
      obtain ⟨e, he, rfl⟩ := Option.map_eq_some_iff.mp hxi
      have be := tg e (List.mem_of_getElem? he)
      have etk : ts.take (i + 1) = ts.take i ++ [e] := by rw [List.take_add_one, he]; rfl
      refine ⟨_, rfl, _, rfl, p, dx, _, rfl, hp, p, b, R, e, rfl, DV1, by omega, _, rfl, _, _, rfl, rfl, _, rfl, ite2 (fun c => ?_) (fun c => ?_)⟩
      · have c' : dlO R e > m := of_decide_eq_true c
        have ef : ts.find? (fun e => decide (m < dlO R e)) = some e := by
          have : ts = ts.take i ++ e :: ts.drop (i + 1) := by
            have h := (List.getElem?_eq_some_iff.mp he)
            rw [← h.2, ← List.drop_eq_getElem_cons h.1, List.take_append_drop]
          rw [this, List.find?_append, hn]
          show Option.or none (List.find? _ (e :: _)) = some e
          rw [Option.none_or]
          rw [List.find?_cons_of_pos]
          exact decide_eq_true c'
        rw [ef] at fa
        exact ⟨_, rfl, k H2 (some e) fa s1⟩
      · have c' : ¬ dlO R e > m := fun z => c (decide_eq_true z)
        refine ⟨_, rfl, rfl, ?_⟩
        rw [etk, List.find?_append, hn]
        show Option.or none (List.find? _ [e]) = none
        rw [Option.none_or]
        rw [List.find?_cons_of_neg]
        · rfl
        · exact fun z => c' (of_decide_eq_true z)
    · rintro σ H2 ⟨v3, rfl, rfl, hn⟩
      rw [List.length_map, List.take_length] at hn
      rw [hn] at fa
      exact k H2 none fa s1
theorem ok_firstabove (T : LX K mg L) : Cal P w K mg base "first_above" 5 L.f_first_above ["delays", "most", "first"] (spFA L.c_Delays) := T.d_first_above.cal fun fd F => fn_firstabove T F
abbrev N_greatestdelay : List Str := ["delays", "first", "last", "best", "end"]
theorem sc_greatestdelay : FnScope N_greatestdelay ["delays", "first", "last"] (defScope st_greatest_delay) := ⟨rfl, rfl, rfl, by decide +kernel, rfl, by decide +kernel, by decide +kernel⟩
theorem fn_greatestdelay (T : LX K mg L) {fd : FuncData} (F : Fun K "greatest_delay" "greatest_delay" st_greatest_delay L.f_greatest_delay fd) : FnOk P w K mg base CX0 5 L.f_greatest_delay fd ["delays", "first", "last"] (spGD L.c_Delays) := by
  have G_checkfirst := ok_checkfirst (P := P) (w := w) (base := base) T
  have G_checklast := ok_checklast (P := P) (w := w) (base := base) T
  have G_tops := ok_tops (P := P) (w := w) (base := base) T
  have G_Delaysgetitem := ok_Delaysgetitem (P := P) (w := w) (base := base) T
  have nd := sc_greatestdelay.nd
  refine F.ok sc_greatestdelay (fun vs H Q E h => ?_) (fun cdv A outer S H vs Q E hr h => ?_)
  · obtain ⟨p, b, R, f, l, rfl, _⟩ := h
    rfl
  · obtain ⟨p, b, R, f, l, rfl, DV, bf, fl, lB, k⟩ := h
    refine ⟨_, (pss_cons (ps_expr (pe_c G_checkfirst (hr.mono (by decide)) rfl (pa_cons (pv 0) (pa_cons (pv 1) pa_nil))))
       (pss_cons (ps_expr (pe_c G_checklast (hr.mono (by decide)) rfl (pa_cons (pv 1) (pa_cons (pv 2) pa_nil))))
       (pss_cons (ps_set (i := 3) nd rfl (Or.inl rfl) (pv 1))
       (pss_cons (ps_for PassesOwn.never rfl (pi_list (pe_c G_tops (hr.mono (by decide)) rfl (pa_cons (pv 0) (pa_cons (pv 1) pa_nil)))) (pg_name (i := 4) nd rfl (Or.inl rfl)) (pss_one (ps_if (PW.pt (pw_and (pt_cmpR op_le (pv 4) (pv 2) (nomark _)) (pw_and1 (pt_cmpR op_gt (G_Delaysgetitem.p_ix (hr.mono (by decide)) (pv 0) (pv 4)) (G_Delaysgetitem.p_ix (hr.mono (by decide)) (pv 0) (pv 3)) (nomark _))))) (pss_one (ps_set (i := 3) nd rfl (Or.inl rfl) (pv 4))) pss_nil)))
       (pss_one (ps_ret (pe_tup (pa_cons (G_Delaysgetitem.p_ix (hr.mono (by decide)) (pv 0) (pv 3)) (pa_cons (pv 3) pa_nil))))))))), ?_⟩
    have O := DV.ok
    refine ⟨_, rfl, _, rfl, p, b, R, f, rfl, DV, bf, ?_⟩
    refine ⟨_, rfl, _, rfl, f, l, rfl, fl, ?_⟩
    refine ⟨_, rfl, _, rfl, _, rfl, p, b, R, f, rfl, DV, by omega, fun la H1 hl s1 nl => ⟨la, rfl, ⟨_, SqL.of hl⟩, ?_⟩⟩
    have DV1 := DV.same s1
    have DV1' := DV1
    obtain ⟨_, _, _, _, ⟨dx, hp⟩, _⟩ := DV1'
    have gd := gd_ok O (l := l) bf fl
    have tg := top_ge O (f := f)
    have gi := fun n hn => gd_inv (R := R) fl (top_asc O f) (top_ge O) n hn
    generalize topL f (tee R b) = ts at hl gd tg gi
    refine for_list (K := K) (a := la) (xs := ts.map V.int) (fun i σ H2 => ∃ v4 : Option V, σ = [some (.ref p), some (.int f), some (.int l), some (.int (gdF R l (ts.take i) f)), v4] ∧ H2 = H1) ⟨none, rfl, rfl⟩ (fun i σ H2 _ ⟨_, _, e⟩ => by rw [e]; exact SqL.of hl) ?_ ?_
    · rintro i x σ H2 hxi ⟨v4, rfl, rfl⟩
      rw [List.getElem?_map] at hxi
      obtain ⟨e, he, rfl⟩ := Option.map_eq_some_iff.mp hxi
      have be := tg e (List.mem_of_getElem? he)
      have etk : ts.take (i + 1) = ts.take i ++ [e] := by rw [List.take_add_one, he]; rfl
      obtain ⟨_, g1, _⟩ := gi i (Nat.le_of_lt (List.getElem?_eq_some_iff.mp he).1)
      rw [etk, gdF_app]
      generalize gdF R l (ts.take i) f = best at g1
      unfold gdS
      refine ⟨_, rfl, _, rfl, _, _, rfl, rfl, _, rfl, ite2 (fun c => ?_) (fun c => ?_)⟩
      · have c' : e ≤ l := of_decide_eq_true c
        refine ⟨_, rfl, _, rfl, p, dx, _, rfl, hp, p, b, R, e, rfl, DV1, by omega, _, rfl, _, rfl, p, dx, _, rfl, hp, p, b, R, best, rfl, DV1, by omega, _, _, rfl, rfl, _, rfl, ite2 (fun d => ?_) (fun d => ?_)⟩
        · have d' : dlO R e > dlO R best := of_decide_eq_true d
          rw [if_pos ⟨c', d'⟩]
          exact ⟨_, rfl, _, rfl, rfl⟩
        · have d' : ¬ dlO R e > dlO R best := fun z => d (decide_eq_true z)
          rw [if_neg fun z => d' z.2]
          exact ⟨_, rfl, rfl⟩
      · have c' : ¬ e ≤ l := fun z => c (decide_eq_true z)
        rw [if_neg fun z => c' z.1]
        exact ⟨_, rfl, rfl⟩
    · rintro σ H2 ⟨v4, rfl, rfl⟩
      rw [List.length_map, List.take_length]
      generalize gdF R l ts f = best at gd
      have g1 := gd.1
      refine ⟨_, rfl, _, rfl, p, dx, _, rfl, hp, p, b, R, best, rfl, DV1, by omega, _, rfl, (by show 2 ≤ sizeLine; decide), fun tp htp => ?_⟩
      exact k tp _ best gd upd_same (s1.trans (Same.upd htp)) (by
        cases q : H tp with
        | none => rfl
        | some o => rw [s1 _ _ q] at htp; cases htp)
theorem ok_greatestdelay (T : LX K mg L) : Cal P w K mg base "greatest_delay" 5 L.f_greatest_delay ["delays", "first", "last"] (spGD L.c_Delays) := T.d_greatest_delay.cal fun fd F => fn_greatestdelay T F
end
theorem dly_lt {M : Int} (M0 : 0 < M) : ∀ {ts : List Trn} {lo e : Int}, Til lo ts → lo ≤ e → (∀ t ∈ ts, t.2.1 ≤ M) → ∀ g, 0 ≤ dlY ts e g ∧ dlY ts e g < M
  | [], _, _, h, _, _, _ => h.elim
  | t :: r, lo, e, h, he, hM, g => by
    have h' := h
    obtain ⟨h1, h2, h3⟩ := h
    have m := hM t (List.mem_cons_self ..)
    have inn : (∀ c, t.2.2 = some c → e < t.1 + t.2.1 * c) → 0 ≤ dlY (t :: r) e g ∧ dlY (t :: r) e g < M := fun hc => by
      rw [dly_in h' he hc]
      have a := Int.emod_nonneg (t.1 - e - 1) (show t.2.1 ≠ 0 by omega)
      have b := Int.emod_lt_of_pos (t.1 - e - 1) (show 0 < t.2.1 by omega)
      omega
    rcases h3 with ⟨q, rfl⟩ | ⟨c, q, cc, h4⟩
    · exact inn fun c e => by rw [q] at e; cases e
    · by_cases l : e < t.1 + t.2.1 * c
      · exact inn fun c' e => by rw [q] at e; cases e; exact l
      · exact dly_lt (e := e) M0 h4 (by omega) (fun t ht => hM t (List.mem_cons_of_mem _ ht)) _
theorem dlO_bd {b : Int} {R : List Trn} (O : DlOk b R) {e : Int} (l : b < e) : 0 ≤ dlO R e ∧ dlO R e < PB 1502 := by
  have T := til_tee O.srt O.lo O.en
  rw [← dl_teeth O l 0]
  exact dly_lt (PB_pos _) T (by omega) (fun t ht => Int.le_trans (tee_b O t ht).pB (PB_le (by decide))) 0
/-- what the law asks of a delay -/
theorem dl_facts {ts : List Tri} {st ph b : Int} {os : List (Int × Int)} {R : List Trn} (W : RowD ts st ph) (h : DlOf ts st ph os b R) {e : Int} (l : b < e) : 0 ≤ dlO R e ∧ isRq st ph (e + dlO R e) ∧ dlO R (e + dlO R e) = 0 ∧ (0 < dlO R e → dlO R (e + 1) = dlO R e - 1) := by
  obtain ⟨pre, D, g, e1, LS, _, ok, nx, _⟩ := h
  obtain ⟨y, hy⟩ := nx_end ok.srt ok.en e
  have ey : dlO R e = y - e := by unfold dlO; rw [hy]; rfl
  have hy' := hy
  rw [nx e l] at hy'
  have RG := LS.ok.run _ _ LS.hg
  obtain ⟨y1, y2, y3⟩ := (nx_iff RG.srt).mp hy'
  obtain ⟨z1, z2, z3⟩ := (nx_iff ok.srt).mp hy
  have s0 : 0 < st := by have := W.s0; omega
  rw [ey, show e + (y - e) = y by omega]
  refine ⟨by omega, run_rq s0 LS.ok LS.rq LS.hg y1, ?_, fun p => ?_⟩
  · have : nxT R y = some y := (nx_iff ok.srt).mpr ⟨z1, Int.le_refl _, fun z hz l => l⟩
    unfold dlO
    rw [this]
    show y - y = 0
    omega
  · have : nxT R (e + 1) = some y := (nx_iff ok.srt).mpr ⟨z1, by omega, fun z hz l => z3 z hz (by omega)⟩
    unfold dlO
    rw [this]
    show y - (e + 1) = y - e - 1
    omega
/-! ### periods, settled, means in the program -/
theorem set_app (a : List Trn) (u t : Trn) : setV (a ++ [u] ++ [t]) = if (lastE u).getD 0 + t.2.1 = t.1 then ((lastE u).getD 0, t.2.1) else (t.1, t.2.1) := by
  unfold setV
  rw [List.reverse_append, List.reverse_append]
  rfl
def spPers (C : Addr) : Sp := fun vs H Q _ => ∃ r B xs ts st ph, vs = [.ref r] ∧ RowAt C H r B xs ts st ph ∧ ∀ l zs H', H' l = some (.lst (zs ++ [.int (per st ts)])) → Same H H' → H l = none → Q (.ref l) H'
def spRPer (C : Addr) : Sp := fun vs H Q _ => ∃ r B xs ts st ph, vs = [.ref r] ∧ RowAt C H r B xs ts st ph ∧ ∀ H', Same H H' → Q (.int (per st ts)) H'
def spSet (C : Addr) : Sp := fun vs H Q _ => ∃ p b R, vs = [.ref p] ∧ DlV C H p b R ∧ ∀ t H', H' t = some (.tup [.int (setV R).1, .int (setV R).2]) → Same H H' → H t = none → Q (.ref t) H'
def spGcd : Sp := fun vs H Q _ => ∃ a b, vs = [.int a, .int b] ∧ 1 ≤ a ∧ 0 ≤ b ∧ Q (.int (Int.gcd a b)) H
def spMean (C : Addr) : Sp := fun vs H Q _ => ∃ p b R f l, vs = [.ref p, .int f, .int l] ∧ DlV C H p b R ∧ b < f ∧ f ≤ l ∧ l + 1 ≤ PB 2000 ∧ ∀ t H' g, g = (Int.gcd (l - f + 1) (totB R b (l + 1) - totB R b f) : Int) → H' t = some (.tup [.int ((totB R b (l + 1) - totB R b f) / g), .int ((l - f + 1) / g)]) → Same H H' → H t = none → Q (.ref t) H'
theorem per_bd {p M : Int} (p1 : 1 ≤ p) : ∀ {bs : List Tri}, (∀ b ∈ bs, OkT b) → p ≤ M → per p bs ≤ M + 1000000000000000000000000000000 * bs.length := by
  intro bs
  induction bs generalizing p M with
  | nil => intro _ h; show p ≤ M + _ * ((0 : Nat) : Int); omega
  | cons b r ih =>
    intro ok h
    have okb := ok b (List.mem_cons_self ..)
    have s := steps_1 okb.2.2.1 p1
    have := ih (p := stepsUp b.2.1 p * p) (M := M + 1000000000000000000000000000000) (by omega) (fun u hu => ok u (List.mem_cons_of_mem _ hu)) (by have := okb.2.2.2.1; omega)
    show per (stepsUp b.2.1 p * p) r ≤ M + _ * ((r.length + 1 : Nat) : Int)
    omega
theorem win_nn {b : Int} {R : List Trn} (O : DlOk b R) {f : Int} (hf : b < f) : ∀ n : Nat, 0 ≤ winF (fun d => d) R f n
  | 0 => Int.le_refl _
  | n + 1 => by
    have i := win_nn O hf n
    have d := (dlO_bd O (e := f + n) (by omega)).1
    show 0 ≤ winF _ R f n + dlO R (f + n)
    omega
theorem gcd_step {d r : Int} (d0 : 0 ≤ d) (r0 : 0 ≤ r) : Int.gcd r (d % r) = Int.gcd d r := by
  obtain ⟨D, rfl⟩ : ∃ D : Nat, d = D := ⟨d.toNat, by omega⟩
  obtain ⟨E, rfl⟩ : ∃ E : Nat, r = E := ⟨r.toNat, by omega⟩
  have e : ((D : Int) % (E : Int)) = ((D % E : Nat) : Int) := rfl
  rw [e]
  show Nat.gcd E (D % E) = Nat.gcd D E
  rw [Nat.gcd_comm E, ← Nat.gcd_rec, Nat.gcd_comm]
section
variable {P : Program} {w : World} {K : PySem.W.Frag} {mg : Str → Option Value} {base : Heap} {L : LA}
abbrev N_settled : List Str := ["delays", "start", "step", "count", "ahead"]
theorem sc_settled : FnScope N_settled ["delays"] (defScope st_settled) := ⟨rfl, rfl, rfl, by decide +kernel, rfl, by decide +kernel, by decide +kernel⟩
theorem fn_settled (T : LX K mg L) {fd : FuncData} (F : Fun K "settled" "settled" st_settled L.f_settled fd) : FnOk P w K mg base CX0 2 L.f_settled fd ["delays"] (spSet L.c_Delays) := by
  have G_lasttime := ok_lasttime (P := P) (w := w) (base := base) T
  have nd := sc_settled.nd
  refine F.ok sc_settled (fun vs H Q E h => ?_) (fun cdv A outer S H vs Q E hr h => ?_)
  · obtain ⟨p, b, R, rfl, _⟩ := h
    rfl
  · obtain ⟨p, b, R, rfl, ⟨aR, aT, xr, xt, ⟨dx, hp⟩, hR, tR, hT, tT, O⟩, k⟩ := h
    refine ⟨_, (pss_cons (ps_asg (pe_ix (r := rIxL K) ix_list (pe_fld (pv 0) rfl) (pe_un un_neg pe_int) (fun _ _ => rfl)) (pg_tup rfl (pgs_cons (pg_name (i := 1) nd rfl (Or.inl rfl)) (pgs_cons (pg_name (i := 2) nd rfl (Or.inl rfl)) (pgs_cons (pg_name (i := 3) nd rfl (Or.inl rfl)) pgs_nil)))))
       (pss_cons (ps_if (pt_cmpR op_gt (pe_callB call_len_seq (by rfl) T.b_len PySem.boot_len (pa_cons (pe_fld (pv 0) rfl) pa_nil)) pe_int (nomark _)) (pss_cons (ps_set (i := 4) nd rfl (Or.inl rfl) (pe_c G_lasttime (hr.mono (by decide)) rfl (pa_cons (pe_ix (r := rIxL K) ix_list (pe_fld (pv 0) rfl) (pe_un un_neg pe_int) (fun _ _ => rfl)) pa_nil)))
       (pss_one (ps_if (pt_cmpR op_eq (pe_op op_add (pv 4) (pv 2)) (pv 1) (nomark _)) (pss_one (ps_ret (pe_tup (pa_cons (pv 4) (pa_cons (pv 2) pa_nil))))) pss_nil))) pss_nil)
       (pss_one (ps_ret (pe_tup (pa_cons (pv 1) (pa_cons (pv 2) pa_nil))))))), ?_⟩
    obtain ⟨a, t, rfl, ht⟩ := last_none O.srt O.en
    have zl := tR.len
    obtain ⟨xi, xt, rfl, q, rfl, hq⟩ := paired_last tR
    refine ⟨_, rfl, p, L.c_Delays, dx, _, _, rfl, hp, T.cf_Delays.cl, T.nf_Delays_runs, dlF_r _ _ _, 1, rfl, aR, _, -1, .ref q, rfl, rfl, SqL.of hR, atI_last xi _, q, _, rfl, SqT.of hq, rfl, _, _, rfl, _, _, rfl, _, _, rfl, rfl, ?_⟩
    refine ⟨_, rfl, p, L.c_Delays, dx, _, _, rfl, hp, T.cf_Delays.cl, T.nf_Delays_runs, dlF_r _ _ _, aR, _, rfl, .inl (SqL.of hR), _, _, rfl, rfl, _, rfl, ?_⟩
    have fin : ∀ H', Same H H' → setV (a ++ [t]) = (t.1, t.2.1) → ∀ tp, H' tp = none → Q (.ref tp) (upd H' tp (.tup [.int t.1, .int t.2.1])) := fun H' s e tp htp => k tp _ (by rw [upd_same, e]) (s.trans (Same.upd htp)) (by
      cases q : H tp with
      | none => rfl
      | some o => rw [s _ _ q] at htp; cases htp)
    cases hgl : a.getLast? with
    | none =>
      have a0 : a = [] := List.getLast?_eq_none_iff.mp hgl
      have zl2 : xi.length + 1 = a.length + 1 := by rw [List.length_append, List.length_append] at zl; exact zl
      rw [a0] at zl2
      have h1 : (xi ++ [V.ref q]).length = 1 := by rw [List.length_append]; exact zl2
      refine ite2 (fun c => ?_) (fun _ => ?_)
      · have c := of_decide_eq_true c
        rw [h1] at c
        exact absurd c (by decide)
      · exact ⟨_, rfl, _, rfl, (by show 2 ≤ sizeLine; decide), fun tp htp => fin H (Same.refl _) (by rw [a0]; rfl) tp htp⟩
    | some u =>
      obtain ⟨a', rfl⟩ := List.getLast?_eq_some_iff.mp hgl
      have zl' : xi.length = a'.length + 1 := by rw [List.length_append, List.length_append, List.length_append] at zl; exact Nat.succ.inj zl
      obtain ⟨y, hy, q2, rfl, hq2⟩ := paired_get2 tR (i := a'.length) (y := u) (by rw [List.append_assoc, List.getElem?_append_right (Nat.le_refl _), Nat.sub_self]; rfl)
      have um : u ∈ a' ++ [u] := List.mem_append_right _ (List.mem_singleton.mpr rfl)
      have oku := O.srt.1 u (List.mem_append_left _ um)
      have btu := (O.bt u (List.mem_append_left _ um)).le (show 1500 ≤ 5000 by decide)
      obtain ⟨c, hc, _⟩ := srt_lt O.srt u um
      have eL : lastV u = .int ((lastE u).getD 0) := by unfold lastV lastE; rw [hc]; rfl
      have at2 : atI (xi ++ [V.ref q]) (-2) = some (.ref q2) := by
        have : ixN (xi ++ [V.ref q]).length (-2) = some a'.length := by
          unfold ixN
          rw [List.length_append, zl']
          rw [if_neg (by decide), if_pos (by show -(((a'.length + 1 + 1 : Nat)) : Int) ≤ -2; omega)]
          show some (-2 + ((a'.length + 1 + 1 : Nat) : Int)).toNat = _
          congr 1
          omega
        unfold atI
        rw [this]
        exact hy
      have eS := set_app a' u t
      refine ite2 (fun _ => ?_) (fun z => absurd (decide_eq_true (by rw [List.length_append, zl']; show (1 : Int) < ((a'.length + 1 + 1 : Nat) : Int); omega)) z)
      refine ⟨_, rfl, p, L.c_Delays, dx, _, _, rfl, hp, T.cf_Delays.cl, T.nf_Delays_runs, dlF_r _ _ _, 2, rfl, aR, _, -2, .ref q2, rfl, rfl, SqL.of hR, at2, .ref q2, u, rfl, ⟨q2, rfl, hq2⟩, oku, btu, ?_⟩
      rw [eL]
      refine ⟨_, rfl, _, rfl, _, _, rfl, rfl, _, rfl, rfl, _, rfl, ite2 (fun c => ?_) (fun c => ?_)⟩
      · have c' : (lastE u).getD 0 + t.2.1 = t.1 := V.int.inj (of_decide_eq_true c)
        rw [if_pos c'] at eS
        refine ⟨_, rfl, _, rfl, (by show 2 ≤ sizeLine; decide), fun tp htp => k tp _ (by rw [upd_same, eS]) (Same.upd htp) htp⟩
      · have c' : ¬ (lastE u).getD 0 + t.2.1 = t.1 := fun z => c (decide_eq_true (congrArg V.int z))
        rw [if_neg c'] at eS
        exact ⟨_, rfl, _, rfl, (by show 2 ≤ sizeLine; decide), fun tp htp => fin H (Same.refl _) eS tp htp⟩
theorem ok_settled (T : LX K mg L) : Cal P w K mg base "settled" 2 L.f_settled ["delays"] (spSet L.c_Delays) := T.d_settled.cal fun fd F => fn_settled T F
abbrev N_commondivisor : List Str := ["one", "other", "divisor", "rest"]
theorem sc_commondivisor : FnScope N_commondivisor ["one", "other"] (defScope st_common_divisor) := ⟨rfl, rfl, rfl, by decide +kernel, rfl, by decide +kernel, by decide +kernel⟩
theorem fn_commondivisor (T : LX K mg L) {fd : FuncData} (F : Fun K "common_divisor" "common_divisor" st_common_divisor L.f_common_divisor fd) : FnOk P w K mg base CX0 1 L.f_common_divisor fd ["one", "other"] (spGcd) := by
  have nd := sc_commondivisor.nd
  refine F.ok sc_commondivisor (fun vs H Q E h => ?_) (fun cdv A outer S H vs Q E hr h => ?_)
  · obtain ⟨a, b, rfl, _⟩ := h
    rfl
  · obtain ⟨a, b, rfl, a1, b0, k⟩ := h
    refine ⟨_, (pss_cons (ps_par (i := 2) (j := 3) (by rfl) nd rfl rfl (by decide) rfl rfl (pa_cons (pv 0) (pa_cons (pv 1) pa_nil)) (by rfl))
       (pss_cons (ps_while PassesOwn.never (pt_cmpR op_gt (pv 3) pe_int (nomark _)) (pss_one (ps_par (i := 2) (j := 3) (by rfl) nd rfl rfl (by decide) rfl rfl (pa_cons (pv 3) (pa_cons (pe_op op_mod (pv 2) (pv 3)) pa_nil)) (by rfl))))
       (pss_one (ps_ret (pv 2))))), ?_⟩
    refine ⟨_, rfl, _, rfl, _, _, rfl, ?_⟩
    refine while_by (fun σ H2 => ∃ d r : Int, σ = [some (.int a), some (.int b), some (.int d), some (.int r)] ∧ 0 ≤ r ∧ 1 ≤ d ∧ Int.gcd d r = Int.gcd a b ∧ H2 = H)
      (fun σ _ => match σ with | [_, _, _, some (.int r)] => r.toNat | _ => 0)
      ⟨a, b, rfl, b0, a1, rfl, rfl⟩ ?_ ?_
    · rintro σ H2 ⟨d, r, rfl, r0, d1, hg, rfl⟩
      refine ⟨_, rfl, _, _, rfl, rfl, _, rfl, ?_⟩
      refine ite2 (fun c => ?_) (fun c => ?_)
      · have c' : r > 0 := of_decide_eq_true c
        refine ⟨_, rfl, _, rfl, _, rfl, _, _, rfl, rfl, c', ?_⟩
        have m0 := Int.emod_nonneg d (show r ≠ 0 by omega)
        have m1 := Int.emod_lt_of_pos d c'
        refine ⟨_, _, rfl, ⟨r, d % r, rfl, m0, by omega, ?_, rfl⟩, ?_⟩
        · rw [← hg]
          exact gcd_step (by omega) r0
        · show (d % r).toNat < r.toNat
          omega
      · have c' : r = 0 := by
          have : ¬ r > 0 := fun z => c (decide_eq_true z)
          omega
        subst c'
        refine ⟨_, rfl, ?_⟩
        show Q (.int d) H2
        have e : (Int.gcd a b : Int) = d := by
          rw [← hg, Int.gcd_zero_right]
          omega
        rw [e] at k
        exact k
    · rintro σ H Q Q' m ⟨v, e, i, j, e4, e5, bb, e6, q⟩
      exact ⟨v, e, i, j, e4, e5, bb, e6, m _ _ q⟩
theorem ok_commondivisor (T : LX K mg L) : Cal P w K mg base "common_divisor" 1 L.f_common_divisor ["one", "other"] (spGcd) := T.d_common_divisor.cal fun fd F => fn_commondivisor T F
abbrev N_meandelay : List Str := ["delays", "first", "last", "total", "number", "divisor"]
theorem sc_meandelay : FnScope N_meandelay ["delays", "first", "last"] (defScope st_mean_delay) := ⟨rfl, rfl, rfl, by decide +kernel, rfl, by decide +kernel, by decide +kernel⟩
theorem fn_meandelay (T : LX K mg L) {fd : FuncData} (F : Fun K "mean_delay" "mean_delay" st_mean_delay L.f_mean_delay fd) : FnOk P w K mg base CX0 5 L.f_mean_delay fd ["delays", "first", "last"] (spMean L.c_Delays) := by
  have G_totaldelay := ok_totaldelay (P := P) (w := w) (base := base) T
  have G_commondivisor := ok_commondivisor (P := P) (w := w) (base := base) T
  have nd := sc_meandelay.nd
  refine F.ok sc_meandelay (fun vs H Q E h => ?_) (fun cdv A outer S H vs Q E hr h => ?_)
  · obtain ⟨p, b, R, f, l, rfl, _⟩ := h
    rfl
  · obtain ⟨p, b, R, f, l, rfl, DV, bf, fl, lB, k⟩ := h
    refine ⟨_, (pss_cons (ps_set (i := 3) nd rfl (Or.inl rfl) (pe_c G_totaldelay (hr.mono (by decide)) rfl (pa_cons (pv 0) (pa_cons (pv 1) (pa_cons (pv 2) pa_nil)))))
       (pss_cons (ps_set (i := 4) nd rfl (Or.inl rfl) (pe_op op_add (pe_op op_sub (pv 2) (pv 1)) pe_int))
       (pss_cons (ps_set (i := 5) nd rfl (Or.inl rfl) (pe_c G_commondivisor (hr.mono (by decide)) rfl (pa_cons (pv 4) (pa_cons (pv 3) pa_nil))))
       (pss_one (ps_ret (pe_tup (pa_cons (pe_op op_fdivW (pv 3) (pv 5)) (pa_cons (pe_op op_fdivW (pv 4) (pv 5)) pa_nil)))))))), ?_⟩
    have O := DV.ok
    refine ⟨_, rfl, _, rfl, _, rfl, p, b, R, f, l, rfl, DV, bf, fl, lB, fun H1 s1 => ?_⟩
    refine ⟨_, rfl, _, rfl, _, _, rfl, rfl, _, _, rfl, rfl, ?_⟩
    have t0 : 0 ≤ totB R b (l + 1) - totB R b f := by
      rw [totB_win O bf (by omega)]
      exact win_nn O bf _
    obtain ⟨tt, htt⟩ : ∃ tt, tt = totB R b (l + 1) - totB R b f := ⟨_, rfl⟩
    obtain ⟨nn, hnn⟩ : ∃ nn, nn = l - f + 1 := ⟨_, rfl⟩
    rw [← htt] at t0
    have n1 : 1 ≤ nn := by omega
    rw [← htt, ← hnn] at k
    show gName 4 (.int (l - f + 1)) _ _ _
    rw [← hnn, ← htt]
    refine ⟨_, rfl, _, rfl, nn, tt, rfl, n1, t0, ?_⟩
    have g0 : 0 < Int.gcd nn tt := Int.gcd_pos_of_ne_zero_left _ (by omega)
    have gn : (Int.gcd nn tt : Int) ≤ nn := by
      have := Int.le_of_dvd (by omega) (Int.gcd_dvd_left (a := nn) (b := tt))
      exact this
    generalize hg : (Int.gcd nn tt : Int) = g at *
    have gB : g ≤ BB := by
      have := b20
      have := O.b0
      omega
    refine ⟨_, rfl, _, rfl, _, _, rfl, rfl, ⟨by omega, divBB (by omega) gB⟩, _, rfl, _, rfl, _, _, rfl, rfl, ⟨by omega, divBB (by omega) gB⟩, (by show 2 ≤ sizeLine; decide), fun tp htp => ?_⟩
    exact k tp _ g rfl upd_same (s1.trans (Same.upd htp)) (by
      cases q : H tp with
      | none => rfl
      | some o => rw [s1 _ _ q] at htp; cases htp)
theorem ok_meandelay (T : LX K mg L) : Cal P w K mg base "mean_delay" 5 L.f_mean_delay ["delays", "first", "last"] (spMean L.c_Delays) := T.d_mean_delay.cal fun fd F => fn_meandelay T F
end
section
variable {X : Cx} {L : LA}
/-- Delays(..) -/
theorem pe_mkDelays (T : LX X.K X.mg L) (hr : Room 9 X.A) {p pos : Pos} {e : Expr} {es : List Expr} {t : TA} (hg : Gl X "Delays") (ha : PA X (e :: es) t)
    (he : starEach (e :: es) X.env = (false, eval e X.env) :: starEach es X.env := by rfl) (hpl : (backTo pos (starEach es X.env)).any (·.1) = false := by rfl) :
    PE X (.Call (.Name "Delays" p) (e :: es) [] pos) (tMake L.c_Delays (spDInit L.c_Row L.c_Spell L.c_Delays) [] E0 t) := by
  obtain ⟨fd, F, b⟩ := T.in_Delays
  exact pe_make T.mk_Delays (fn_Delaysinit T F) hr hg T.gc_Delays b .nil pass0 ha (by decide) he hpl
end
theorem delays_made {CR CS C : Addr} {H : Hp} {Q : Addr → Hp → Prop} {r B a : Addr} {xs ys : List V} {ts : List Tri} {st ph : Int} {os : List (Int × Int)} {b : Int} (R : RowAt CR H r B xs ts st ph) (ha : H a = some (.lst ys)) (hy : Ots H ys (outs os)) (hv : VOut 0 os) (hl : os.length ≤ 50)
    (hob : ∀ o ∈ os, o.2 + 1 ≤ b) (b0 : 0 ≤ b) (b1 : b ≤ 1000000000000000000000000000000)
    (k : ∀ p H' R, DlV C (Fr H H') p b R → DlOf ts st ph os b R → Same H H' → H p = none → Q p H') :
    ∀ x dx, H x = none → H dx = none → dx ≠ x → spDInit CR CS C [.ref x, .ref r, .ref a, .int b] (upd (upd H dx (.own x)) x (.ins C dx [])) (fun v H3 => v = .non ∧ Q x H3) E0 := by
  intro x dx hx hd hne
  have s0 : Same H (upd (upd H dx (.own x)) x (.ins C dx [])) := fun b o e => by
    rw [upd_ne (ne_of_none e hx), upd_ne (ne_of_none e hd)]
    exact e
  exact ⟨x, dx, r, B, xs, ts, st, ph, a, ys, os, b, rfl, upd_same, R.nl (NL.of s0), s0 _ _ ha, hy.same s0, hv, hl, hob, b0, b1, fun H' R' Y D kp => ⟨rfl, k x H' R' (Y.same (Fr.base s0)) D (fun b o e => kp b o (ne_of_none e hx) (s0 b o e)) hx⟩⟩
/-- the first success behind the last outage -/
theorem fs_dl {ts : List Tri} {st ph b : Int} {os : List (Int × Int)} {R : List Trn} (W : RowD ts st ph) (h : DlOf ts st ph os b R) {e : Int} (be : b < e) (hv : VOut 0 (os ++ [(b, e)])) : fsM ts st ph (os ++ [(b, e)]) e = e + dlO R e := by
  obtain ⟨pre, D, g, e1, LS, rfl, ok, nx, alt⟩ := h
  obtain ⟨y, hy⟩ := nx_end ok.srt ok.en e
  have ey : e + dlO (nfs (win g (b + 1) none)) e = y := by
    unfold dlO
    rw [hy]
    show e + (y - e) = y
    omega
  rw [ey]
  rw [nx e be] at hy
  have RG := LS.ok.run _ _ LS.hg
  obtain ⟨y1, y2, y3⟩ := (nx_iff RG.srt).mp hy
  have s0 : 0 < st := by have := W.s0; omega
  obtain ⟨f1, f2, f3, f4⟩ := fs_fact W hv (z := e)
  have C := sps_ch W hv
  have eS : spsOf ts st ph (os ++ [(b, e)]) = spM ts st ph (os.length + 1) none (outs os ++ [(b, some e)]) := by
    unfold spsOf
    rw [List.length_append]
    congr 1
    unfold outs
    rw [List.map_append]
    rfl
  rcases alt e be with ⟨D', d1, d2, d3, d4⟩ | ⟨d1, d2, d3⟩
  · have hD : (spsOf ts st ph (os ++ [(b, e)]))[pre.length]? = some D' := by
      rw [eS, d1, List.getElem?_append_right (Nat.le_refl _), Nat.sub_self]
      rfl
    rw [hy] at d3
    obtain ⟨_, _, v, hr, _, vq, _⟩ := ch_rq C D' (List.mem_of_getElem? hD)
    rw [d3] at hr
    cases hr
    have i0 := (sp_lats W hv hD d3).2.1
    by_cases c : fsM ts st ph (os ++ [(b, e)]) e < y
    · rw [in_spell C hD d3 (by omega) c] at f3
      cases f3
    · by_cases c2 : y < fsM ts st ph (os ++ [(b, e)]) e
      · rw [f4 y vq y2 c2] at i0
        cases i0
      · omega
  · have hd := RG.hd
    have yD : y = D.first := by
      have a := y3 D.first (at_in RG.srt (Int.le_refl 0) hd) d2
      have b := at_le RG.srt (Int.le_refl 0) (NB_nn RG.srt.1 y) hd (in_at RG.srt y1)
      omega
    subst yD
    have nin : inSp (spsOf ts st ph (os ++ [(b, e)])) D.first = false := by
      cases q : inSp (spsOf ts st ph (os ++ [(b, e)])) D.first with
      | false => rfl
      | true =>
        obtain ⟨i, d, hd, l1, l2⟩ := of_inSp q
        rw [eS, d1] at hd
        obtain ⟨v, hr, lv⟩ := LS.pr d (List.mem_of_getElem? hd)
        rw [hr] at l2
        have l2 : D.first < v := l2
        have := reqA_ge (ph := ph) s0 b
        omega
    by_cases c : D.first < fsM ts st ph (os ++ [(b, e)]) e
    · rw [f4 _ LS.rq d2 c] at nin
      cases nin
    · have := reqA_least s0 f1 (show b ≤ fsM ts st ph (os ++ [(b, e)]) e by omega)
      omega
/-! ### k33 -/
theorem mean_mul {T N g : Int} (hg : g = (Int.gcd N T : Int)) (n1 : 1 ≤ N) (t0 : 0 ≤ T) : T / g * N = T * (N / g) ∧ 1 ≤ N / g ∧ ∀ u, 2 ≤ u → T / g % u = 0 → ¬ N / g % u = 0 := by
  have g0 : 0 < g := by
    rw [hg]
    have := Int.gcd_pos_of_ne_zero_left (a := N) T (by omega)
    omega
  obtain ⟨s, hs⟩ : g ∣ N := by rw [hg]; exact Int.gcd_dvd_left ..
  obtain ⟨t, ht⟩ : g ∣ T := by rw [hg]; exact Int.gcd_dvd_right ..
  have e1 : N / g = s := by rw [hs]; exact Int.mul_ediv_cancel_left _ (by omega)
  have e2 : T / g = t := by rw [ht]; exact Int.mul_ediv_cancel_left _ (by omega)
  rw [e1, e2]
  refine ⟨?_, ?_, fun u u2 h1 h2 => ?_⟩
  · rw [hs, ht]
    rw [Int.mul_comm g t, Int.mul_assoc]
  · by_cases c : 1 ≤ s
    · exact c
    · have := Int.mul_le_mul_of_nonneg_left (show s ≤ 0 by omega) (show 0 ≤ g by omega)
      omega
  · obtain ⟨a, ha⟩ := Int.dvd_of_emod_eq_zero h1
    obtain ⟨c, hc⟩ := Int.dvd_of_emod_eq_zero h2
    have d1 : g * u ∣ N := ⟨c, by rw [hs, hc, Int.mul_assoc]⟩
    have d2 : g * u ∣ T := ⟨a, by rw [ht, ha, Int.mul_assoc]⟩
    have d : g * u ∣ g := by
      have := Int.dvd_coe_gcd d1 d2
      rwa [← hg] at this
    have := Int.le_of_dvd g0 d
    have := Int.mul_le_mul_of_nonneg_left u2 (show 0 ≤ g by omega)
    omega
/-- the listed delays -/
def dsL (R : List Trn) (f : Int) (n : Nat) : List Int := (List.range n).map fun j : Nat => dlO R (f + (j : Int))
theorem dsL_suc (R : List Trn) (f : Int) (n : Nat) : dsL R f (n + 1) = dsL R f n ++ [dlO R (f + n)] := by
  unfold dsL
  rw [List.range_succ, List.map_append]
  rfl
theorem dsL_get {R : List Trn} {f : Int} {n j : Nat} (h : j < n) : (dsL R f n)[j]? = some (dlO R (f + j)) := by
  unfold dsL
  rw [List.getElem?_map, List.getElem?_range h]
  rfl
theorem dsL_len (R : List Trn) (f : Int) (n : Nat) : (dsL R f n).length = n := by
  unfold dsL
  rw [List.length_map, List.length_range]
theorem dsL_sum (R : List Trn) (f : Int) : ∀ n : Nat, (dsL R f n).sum = winF (fun d => d) R f n
  | 0 => rfl
  | n + 1 => by
    rw [dsL_suc, List.sum_append, dsL_sum R f n, List.sum_cons, List.sum_nil, Int.add_zero]
    rfl
def lateL (R : List Trn) (m f : Int) (n : Nat) : List Int := ((List.range n).map fun j : Nat => f + (j : Int)).filter fun e => decide (m < dlO R e)
theorem lateL_suc (R : List Trn) (m f : Int) (n : Nat) : lateL R m f (n + 1) = lateL R m f n ++ if m < dlO R (f + n) then [f + n] else [] := by
  unfold lateL
  rw [List.range_succ, List.map_append, List.filter_append]
  have e : List.filter (fun e => decide (m < dlO R e)) [f + (n : Int)] = if m < dlO R (f + n) then [f + (n : Int)] else [] := by
    by_cases h : m < dlO R (f + n)
    · rw [if_pos h]
      simp [h]
    · rw [if_neg h]
      simp [h]
  rw [← e]
  rfl
theorem lateL_len (R : List Trn) (m f : Int) (n : Nat) : (lateL R m f n).length ≤ n := by
  unfold lateL
  have := List.length_filter_le (fun e => decide (m < dlO R e)) ((List.range n).map fun j : Nat => f + (j : Int))
  rw [List.length_map, List.length_range] at this
  exact this
theorem late_nil {R : List Trn} {m f : Int} (h : ∀ x, f ≤ x → dlO R x ≤ m) : ∀ n, lateL R m f n = []
  | 0 => rfl
  | n + 1 => by
    have := h (f + n) (by omega)
    rw [lateL_suc, late_nil h n, if_neg (by omega)]
    rfl
theorem late_head {R : List Trn} {m f e : Int} (fe : f ≤ e) (h1 : m < dlO R e) (h2 : ∀ x, f ≤ x → x < e → dlO R x ≤ m) : ∀ n : Nat, e < f + n → ∃ r, lateL R m f n = e :: r
  | 0, h => by omega
  | n + 1, h => by
    rw [lateL_suc]
    by_cases c : e < f + n
    · obtain ⟨r, hr⟩ := late_head fe h1 h2 n c
      exact ⟨_, by rw [hr]; rfl⟩
    · have e' : e = f + n := by omega
      have z : ∀ k : Nat, k ≤ n → lateL R m f k = [] := fun k hk => by
        induction k with
        | zero => rfl
        | succ k ih =>
          have := h2 (f + k) (by omega) (by omega)
          rw [lateL_suc, ih (by omega), if_neg (by omega)]
          rfl
      rw [z n (Nat.le_refl _), ← e', if_pos h1]
      exact ⟨[], rfl⟩
/-- the first late end is in the window -/
theorem late_in {b : Int} {R : List Trn} {tau L m f e : Int} (O : DlOk b R) (S : Stl b R tau L) (h : FA R m f (some e)) : e < (if tau > f then tau else f) + 2 * L + 2 := by
  obtain ⟨h1, h2, h3⟩ := h
  have L1 := S.L1
  by_cases c : e < (if tau > f then tau else f) + 2 * L + 2
  · exact c
  · have ef : f ≤ e - L ∧ tau ≤ e - L := by split at c <;> omega
    have a := h3 (e - L) ef.1 (by omega)
    have p : dlO R (e - L) = dlO R e := by
      rw [set_dl O S ef.2, set_dl O S (by omega), show tau - (e - L) = tau - e + 1 * L by omega, Int.add_mul_emod_self_right]
    omega
theorem win_bd {b : Int} {R : List Trn} (O : DlOk b R) {f : Int} (hf : b < f) : ∀ n : Nat, winF (fun d => d) R f n ≤ n * PB 1502
  | 0 => by show 0 ≤ ((0 : Nat) : Int) * PB 1502; rw [show ((0 : Nat) : Int) * PB 1502 = 0 by omega]; exact Int.le_refl _
  | n + 1 => by
    have i := win_bd O hf n
    have d := (dlO_bd O (e := f + n) (by omega)).2
    show winF _ R f n + dlO R (f + n) ≤ _
    rw [show ((n + 1 : Nat) : Int) = (n : Int) + 1 by omega, Int.add_mul, Int.one_mul]
    omega
abbrev Rws (H : Hp) (xs : List V) (f : Int) (n : Nat) (R : List Trn) : Prop := Paired (fun x (j : Nat) => ∃ q, x = .ref q ∧ H q = some (.tup [.int (f + j), .int (dlO R (f + j))])) xs (List.range n)
theorem Rws.get {H : Hp} {xs : List V} {f : Int} {n : Nat} {R : List Trn} (h : Rws H xs f n R) {j : Nat} (hj : j < n) : ∃ q, xs[j]? = some (.ref q) ∧ H q = some (.tup [.int (f + j), .int (dlO R (f + j))]) := by
  obtain ⟨y, hy, q, rfl, hq⟩ := paired_get2 h (i := j) (y := j) (by rw [List.getElem?_range hj])
  exact ⟨q, hy, hq⟩
def spLBeg : Sp := fun vs H Q _ => ∃ (s d : Addr) (zs : List V) (os : List (Int × Int)) (n : Nat), vs = [.ref s, .ref d] ∧ Src H s n ∧ n ≤ 500000 ∧ H d = some (.lst zs) ∧ Ots H zs (outs os) ∧ VOut 0 os ∧ os.length ≤ 50 ∧ (∀ o ∈ os, o.2 ≤ 800) ∧
  ∀ b H', 0 ≤ b → b ≤ 900 → (∀ o ∈ os, o.2 + 1 ≤ b) → Src H' s (n + 1) → Kp s H H' → Q (.int b) H'
def spWR (C : Addr) : Sp := fun vs H Q _ => ∃ p b R l xs n f m, vs = [.ref p, .ref l, .int m] ∧ DlV C H p b R ∧ H l = some (.lst xs) ∧ Rws H xs f n R ∧ 1 ≤ n ∧ n ≤ 51 ∧ b < f ∧ f ≤ 2000 ∧ 0 ≤ m ∧ m ≤ 12 ∧ b ≤ 1000 ∧ (∀ tau L, Stl b R tau L → tau ≤ b + 400 ∧ L ≤ 52) ∧ ∀ H', Same H H' → Q (.bl true) H'
section
variable {P : Program} {w : World} {K : PySem.W.Frag} {mg : Str → Option Value} {base : Heap} {L : LA}
abbrev N_wbegin : List Str := ["_law_well_here", "_law_downs_here", "_law_begin_here", "_law_end"]
theorem sc_wbegin : FnScope N_wbegin ["_law_well_here", "_law_downs_here"] (defScope st__law_begin) := ⟨rfl, rfl, rfl, by decide +kernel, rfl, by decide +kernel, by decide +kernel⟩
theorem fn_wbegin (T : LX K mg L) {fd : FuncData} (F : Fun K "_law_begin" "_law_begin" st__law_begin L.f__law_begin fd) : FnOk P w K mg base CX0 3 L.f__law_begin fd ["_law_well_here", "_law_downs_here"] (spLBeg) := by
  have G_wdraw := ok_wdraw (P := P) (w := w) (base := base) T
  have nd := sc_wbegin.nd
  refine F.ok sc_wbegin (fun vs H Q E h => ?_) (fun cdv A outer S H vs Q E hr h => ?_)
  · obtain ⟨s, d, zs, os, n, rfl, _⟩ := h
    rfl
  · obtain ⟨s, d, zs, os, n, rfl, src, hn, hd, ho, vo, ol, ob, k⟩ := h
    refine ⟨_, (pss_one (ps_ret (pe_op op_add (pe_op op_add (pe_maxDf rfl hr.units (by rfl) T.b_max (pa_cons (pe_lc (own := [("_law_begin_here", 2), ("_law_end", 3)]) (g := gTup K 2 (gCons (gName 2) (gCons (gName 3) (gNil)))) (tt := tYes) rfl nd (pi_list (pv 1)) (blkOk_by (own := [("_law_begin_here", 2), ("_law_end", 3)]) (N := N_wbegin) (sc := defScope st__law_begin) (by decide +kernel)) (fun _ _ _ _ _ => pg_tup rfl (pgs_cons (pg_name (i := 2) nd rfl (Or.inl rfl)) (pgs_cons (pg_name (i := 3) nd rfl (Or.inl rfl)) pgs_nil))) (fun _ _ _ _ _ => pts_nil) (fun _ _ _ _ _ => (pv 3))) pa_nil) (pk_cons (pe_un un_neg pe_int) pk_nil)) pe_int) (pe_c G_wdraw (hr.mono (by decide)) rfl (pa_cons (pv 0) (pa_cons pe_int pa_nil)))))), ?_⟩
    have zl := paired_len ho
    rw [outs_len] at zl
    refine ⟨_, rfl, d, rfl, ⟨_, SqL.of hd⟩, fun D hD => ?_⟩
    refine lc_list (K := K) (a := d) (xs := zs) (fun j Hx => Hx D = some (.lst (((os.take j).map Prod.snd).map V.int)) ∧ Same H Hx) ⟨upd_same, Same.upd hD⟩ (fun j Hx _ ⟨_, s⟩ => SqL.of (s _ _ hd)) ?_ ?_
    · rintro j x Hx hxj ⟨hDx, sx⟩
      obtain ⟨o', ho', hox⟩ := paired_get ho hxj
      obtain ⟨o, ho2, rfl⟩ : ∃ o, os[j]? = some o ∧ o' = (o.1, some o.2) := by
        unfold outs at ho'
        rw [List.getElem?_map] at ho'
        cases q : os[j]? with
        | none => rw [q] at ho'; cases ho'
        | some o => rw [q] at ho'; cases ho'; exact ⟨o, rfl, rfl⟩
      obtain ⟨c0, rfl, hc0⟩ := hox.same sx
      refine ⟨c0, _, rfl, SqT.of hc0, rfl, _, _, rfl, _, _, rfl, rfl, ?_⟩
      refine ⟨rfl, tYes_of ⟨_, rfl, _, hDx, small1 (by rw [List.length_map, List.length_map, List.length_take]; omega), ?_, fun b u e => by rw [upd_ne (ne_of_none e hD)]; exact sx _ _ e⟩⟩
      rw [upd_same, List.take_add_one, ho2]
      simp
      rfl
    rintro HA ⟨hDA, sA⟩
    rw [zl, List.take_length] at hDA
    refine ⟨1, rfl, D, os.map Prod.snd, -1, rfl, rfl, SqL.of hDA, fun m m1 m2 => ?_⟩
    have mb : -1 ≤ m ∧ m ≤ 800 ∧ ∀ o ∈ os, o.2 ≤ m := by
      by_cases c : os = []
      · rw [m1 (by rw [c]; rfl), c]
        exact ⟨by decide, by decide, fun o ho => nomatch ho⟩
      · obtain ⟨h1, h2⟩ := m2 (by simpa using c)
        obtain ⟨o, ho, e⟩ := List.mem_map.mp h1
        have h3 := vout_mem vo o ho
        have h4 := ob o ho
        exact ⟨by omega, by omega, fun o' ho' => h2 _ (List.mem_map.mpr ⟨o', ho', rfl⟩)⟩
    obtain ⟨mb1, mb2, mb3⟩ := mb
    refine ⟨_, _, rfl, rfl, _, rfl, s, 20, _, rfl, by decide, by decide +kernel, src.same sA, by omega, fun r H3 r0 r1 src3 k3 => ⟨_, _, rfl, rfl, ?_⟩⟩
    exact k _ H3 (by omega) (by omega) (fun o ho => by have := mb3 o ho; omega) src3 ((Kp.of sA).trans k3)
theorem ok_wbegin (T : LX K mg L) : Cal P w K mg base "_law_begin" 3 L.f__law_begin ["_law_well_here", "_law_downs_here"] (spLBeg) := T.d__law_begin.cal fun fd F => fn_wbegin T F
abbrev N_wwindowright : List Str := ["_law_told", "_law_rows", "_law_most", "_law_first", "_law_last", "_law_delays", "_law_high", "_law_total", "_law_few", "_law_above", "_law_mean", "_law_time", "_law_period", "_law_late", "_law_end", "_law_delay", "_law_one_here", "_law_unit"]
theorem sc_wwindowright : FnScope N_wwindowright ["_law_told", "_law_rows", "_law_most"] (defScope st__law_window_right) := ⟨rfl, rfl, rfl, by decide +kernel, rfl, by decide +kernel, by decide +kernel⟩
theorem fn_wwindowright (T : LX K mg L) {fd : FuncData} (F : Fun K "_law_window_right" "_law_window_right" st__law_window_right L.f__law_window_right fd) : FnOk P w K mg base CX0 6 L.f__law_window_right fd ["_law_told", "_law_rows", "_law_most"] (spWR L.c_Delays) := by
  have G_meandelay := ok_meandelay (P := P) (w := w) (base := base) T
  have G_settled := ok_settled (P := P) (w := w) (base := base) T
  have G_greatestdelay := ok_greatestdelay (P := P) (w := w) (base := base) T
  have G_firstabove := ok_firstabove (P := P) (w := w) (base := base) T
  have G_totaldelay := ok_totaldelay (P := P) (w := w) (base := base) T
  have G_countwithin := ok_countwithin (P := P) (w := w) (base := base) T
  have G_Delaysgetitem := ok_Delaysgetitem (P := P) (w := w) (base := base) T
  have nd := sc_wwindowright.nd
  refine F.ok sc_wwindowright (fun vs H Q E h => ?_) (fun cdv A outer S H vs Q E hr h => ?_)
  · obtain ⟨p, b, R, l, xs, n, f, m, rfl, _⟩ := h
    rfl
  · obtain ⟨p, b, R, l, xs, n, f, m, rfl, DV, hl, rw', n1, n51, bf, f2, m0, m12, b1, sm, k⟩ := h
    refine ⟨_, (pss_cons (ps_par (i := 3) (j := 4) (by rfl) nd rfl rfl (by decide) rfl rfl (pa_cons (pe_ix (r := rIxT K) ix_tup (pe_ix (r := rIxL K) ix_list (pv 1) pe_int (fun _ _ => rfl)) pe_int (fun _ _ => rfl)) (pa_cons (pe_ix (r := rIxT K) ix_tup (pe_ix (r := rIxL K) ix_list (pv 1) (pe_un un_neg pe_int) (fun _ _ => rfl)) pe_int (fun _ _ => rfl)) pa_nil)) (by rfl))
       (pss_cons (ps_setLc (i := 5) (own := [("_law_end", 14), ("_law_delay", 15)]) (g := gTup K 2 (gCons (gName 14) (gCons (gName 15) (gNil)))) (tt := tYes) rfl nd rfl rfl (sw_true rfl rfl rfl (by decide +kernel)) (pi_list (pv 1)) (blkOk_by (own := [("_law_end", 14), ("_law_delay", 15)]) (N := N_wwindowright) (sc := defScope st__law_window_right) (by decide +kernel)) (fun _ _ _ _ _ => pg_tup rfl (pgs_cons (pg_name (i := 14) nd rfl (Or.inl rfl)) (pgs_cons (pg_name (i := 15) nd rfl (Or.inl rfl)) pgs_nil))) (fun _ _ _ _ _ => pts_nil) (fun _ _ _ _ _ => (pv 15)))
       (pss_cons (ps_par (i := 6) (j := 7) (by rfl) nd rfl rfl (by decide) rfl rfl (pa_cons (pe_callB (cr_max rfl) (by rfl) T.b_max (by decide +kernel) (pa_cons (pv 5) pa_nil)) (pa_cons (pe_callB (cr_sum rfl) (by rfl) T.b_sum (by decide +kernel) (pa_cons (pv 5) pa_nil)) pa_nil)) (by rfl))
       (pss_cons (ps_if (pt_cmpR (op_neD hr.units) (pe_c G_greatestdelay (hr.mono (by decide)) rfl (pa_cons (pv 0) (pa_cons (pv 3) (pa_cons (pv 4) pa_nil)))) (pe_tup (pa_cons (pv 6) (pa_cons (pe_ix (r := rIxT K) ix_tup (pe_ix (r := rIxL K) ix_list (pv 1) (pe_bm PySem.F.plainAttrs_list PySem.F.slot_list_index PySem.F.type_list_index mt_index (pv 5) (pa_cons (pv 6) pa_nil)) (fun _ _ => rfl)) pe_int (fun _ _ => rfl)) pa_nil))) (nomark _)) (pss_one (ps_ret pe_bl)) pss_nil)
       (pss_cons (ps_set (i := 8) nd rfl (Or.inl rfl) (pe_callB call_len_seq (by rfl) T.b_len PySem.boot_len (pa_cons (pe_lc (own := [("_law_one_here", 16)]) (g := gName 16) rfl nd (pi_list (pv 5)) (blkOk_by (own := [("_law_one_here", 16)]) (N := N_wwindowright) (sc := defScope st__law_window_right) (by decide +kernel)) (fun _ _ _ _ _ => pg_name (i := 16) nd rfl (Or.inl rfl)) (fun _ _ _ _ _ => pts_one (pt_cmpR op_le (pv 16) (pv 2) (nomark _))) (fun _ _ _ _ _ => pe_int)) pa_nil)))
       (pss_cons (ps_if (PW.pt (pw_or (pt_cmpR op_ne (pe_c G_totaldelay (hr.mono (by decide)) rfl (pa_cons (pv 0) (pa_cons (pv 3) (pa_cons (pv 4) pa_nil)))) (pv 7) (nomark _)) (pw_or1 (pt_cmpR op_ne (pe_c G_countwithin (hr.mono (by decide)) rfl (pa_cons (pv 0) (pa_cons (pv 2) (pa_cons (pv 3) (pa_cons (pv 4) pa_nil))))) (pv 8) (nomark _))))) (pss_one (ps_ret pe_bl)) pss_nil)
       (pss_cons (ps_asg (pe_c G_meandelay (hr.mono (by decide)) rfl (pa_cons (pv 0) (pa_cons (pv 3) (pa_cons (pv 4) pa_nil)))) (pg_tup rfl (pgs_cons (pg_name (i := 9) nd rfl (Or.inr rfl)) (pgs_cons (pg_name (i := 10) nd rfl (Or.inr rfl)) pgs_nil))))
       (pss_cons (ps_if (PW.pt (pw_or (pt_cmpR op_lt (pv 10) pe_int (nomark _)) (pw_or1 (pt_cmpR op_ne (pe_op op_mulW (pv 9) (pe_callB call_len_seq (by rfl) T.b_len PySem.boot_len (pa_cons (pv 1) pa_nil))) (pe_op op_mulW (pv 7) (pv 10)) (nomark _))))) (pss_one (ps_ret pe_bl)) pss_nil)
       (pss_cons (ps_if (pt_cmpR (op_neD hr.units) (pe_lc (own := [("_law_unit", 17)]) (g := gName 17) rfl nd (pi_range2 rfl T.b_range (pa_cons pe_int (pa_cons (pe_op op_add (pe_callB call_len_seq (by rfl) T.b_len PySem.boot_len (pa_cons (pv 1) pa_nil)) pe_int) pa_nil))) (blkOk_by (own := [("_law_unit", 17)]) (N := N_wwindowright) (sc := defScope st__law_window_right) (by decide +kernel)) (fun _ _ _ _ _ => pg_name (i := 17) nd rfl (Or.inl rfl)) (fun _ _ _ _ _ => pts_one (PW.pt (pw_and (pt_cmpR op_eq (pe_op op_mod (pe_callTy call_int1 (by rfl) T.b_int (by decide +kernel) (pa_cons (pv 9) pa_nil)) (pv 17)) pe_int (nomark _)) (pw_and1 (pt_cmpR op_eq (pe_op op_mod (pe_callTy call_int1 (by rfl) T.b_int (by decide +kernel) (pa_cons (pv 10) pa_nil)) (pv 17)) pe_int (nomark _)))))) (fun _ _ _ _ _ => (pv 17))) (pe_lst pa_nil) (nomark _)) (pss_one (ps_ret pe_bl)) pss_nil)
       (pss_cons (ps_asg (pe_c G_settled (hr.mono (by decide)) rfl (pa_cons (pv 0) pa_nil)) (pg_tup rfl (pgs_cons (pg_name (i := 11) nd rfl (Or.inl rfl)) (pgs_cons (pg_name (i := 12) nd rfl (Or.inl rfl)) pgs_nil))))
       (pss_cons (ps_setLc (i := 13) (own := [("_law_end", 14)]) (g := gName 14) rfl nd rfl rfl (sw_true rfl rfl rfl (by decide +kernel)) (pi_range2 rfl T.b_range (pa_cons (pv 3) (pa_cons (pe_op op_add (pe_op op_add (pe_callB (call_max2 rfl) (by rfl) T.b_max (by decide +kernel) (pa_cons (pv 3) (pa_cons (pv 11) pa_nil))) (pe_op op_mulW pe_int (pv 12))) pe_int) pa_nil))) (blkOk_by (own := [("_law_end", 14)]) (N := N_wwindowright) (sc := defScope st__law_window_right) (by decide +kernel)) (fun _ _ _ _ _ => pg_name (i := 14) nd rfl (Or.inl rfl)) (fun _ _ _ _ _ => pts_one (pt_cmpR op_gt (G_Delaysgetitem.p_ix (hr.mono (by decide)) (pv 0) (pv 14)) (pv 2) (nomark _))) (fun _ _ _ _ _ => (pv 14)))
       (pss_one (ps_ret (pe_cmpR op_eq (pe_c G_firstabove (hr.mono (by decide)) rfl (pa_cons (pv 0) (pa_cons (pv 2) (pa_cons (pv 3) pa_nil)))) (pe_ix (r := rIxL K) ix_list (pe_op op_cat (pv 13) (pe_lst (pa_cons pe_non pa_nil))) pe_int (fun _ _ => rfl)) (nomark _))))))))))))))), ?_⟩
    have O := DV.ok
    have b0 := O.b0
    have xl := paired_len rw'
    rw [List.length_range] at xl
    obtain ⟨q0, hx0, hq0⟩ := rw'.get (j := 0) (by omega)
    obtain ⟨ql, hxl, hql⟩ := rw'.get (j := n - 1) (by omega)
    obtain ⟨la, hla⟩ : ∃ la, la = f + ((n - 1 : Nat) : Int) := ⟨_, rfl⟩
    have eP : (100000 : Int) ≤ PB 2000 := PB_of (by decide +kernel)
    have eB : (100000 : Int) ≤ BB := Int.le_trans eP b20
    have at0 : atI xs 0 = some (.ref q0) := by
      have : ixN xs.length 0 = some 0 := by unfold ixN; rw [if_pos (by decide), if_pos (by omega)]; rfl
      unfold atI
      rw [this]
      exact hx0
    have atL : atI xs (-1) = some (.ref ql) := by
      have : ixN xs.length (-1) = some (n - 1) := by
        unfold ixN
        rw [if_neg (by decide), if_pos (by omega)]
        congr 1
        omega
      unfold atI
      rw [this]
      exact hxl
    have ef : f + ((0 : Nat) : Int) = f := by omega
    rw [ef] at hq0
    rw [← hla] at hql
    refine ⟨_, rfl, l, xs, 0, .ref q0, rfl, rfl, SqL.of hl, at0, q0, _, 0, .int f, rfl, rfl, SqT.of hq0, rfl, _, rfl, 1, rfl, l, xs, -1, .ref ql, rfl, rfl, SqL.of hl, atL, ql, _, 0, .int la, rfl, rfl, SqT.of hql, rfl, _, _, rfl, ?_⟩
    refine ⟨_, rfl, l, rfl, ⟨_, SqL.of hl⟩, fun D hD => ?_⟩
    refine lc_list (K := K) (a := l) (xs := xs) (fun j Hx => Hx D = some (.lst ((dsL R f j).map V.int)) ∧ Same H Hx) ⟨upd_same, Same.upd hD⟩ (fun j Hx _ ⟨_, s⟩ => SqL.of (s _ _ hl)) ?_ ?_
    · rintro j x Hx hxj ⟨hDx, sx⟩
      have jn : j < n := by
        have := (List.getElem?_eq_some_iff.mp hxj).1
        omega
      obtain ⟨q, hxq, hq⟩ := rw'.get jn
      rw [hxj] at hxq
      cases hxq
      refine ⟨q, _, rfl, SqT.of (sx _ _ hq), rfl, _, _, rfl, _, _, rfl, rfl, ?_⟩
      refine ⟨rfl, tYes_of ⟨_, rfl, _, hDx, small1 (by rw [List.length_map, dsL_len]; omega), ?_, fun b u e => by rw [upd_ne (ne_of_none e hD)]; exact sx _ _ e⟩⟩
      rw [upd_same, dsL_suc, List.map_append]
      rfl
    rintro H1 ⟨hD1, s1⟩
    rw [xl] at hD1
    have dl := dsL_len R f n
    have mem : ∀ j : Nat, j < n → dlO R (f + j) ∈ dsL R f n := fun j hj => List.mem_of_getElem? (dsL_get hj)
    have mem' : ∀ x ∈ dsL R f n, ∃ j : Nat, j < n ∧ x = dlO R (f + j) := fun x hx => by
      obtain ⟨j, hj, e⟩ := List.mem_map.mp hx
      exact ⟨j, List.mem_range.mp hj, e.symm⟩
    refine ⟨_, rfl, D, dsL R f n, rfl, SqL.of hD1, by omega, fun h hm hmax => ⟨_, rfl, D, dsL R f n, rfl, SqL.of hD1, _, _, rfl, ?_⟩⟩
    have DV1 := DV.same s1
    have hl1 := s1 _ _ hl
    -- the greatest
    refine ⟨_, rfl, _, rfl, _, rfl, p, b, R, f, la, rfl, DV1, bf, by omega, by omega, fun t1 H2 e gd ht1 s2 nt1 => ?_⟩
    have hD2 := s2 _ _ hD1
    have hl2 := s2 _ _ hl1
    have s12 := s1.trans s2
    obtain ⟨g1, g2, g3, g4⟩ := gd
    obtain ⟨je, hje⟩ : ∃ je : Nat, e = f + je := ⟨(e - f).toNat, by omega⟩
    have jn : je < n := by omega
    have he : h = dlO R e := by
      obtain ⟨j, hj, ej⟩ := mem' h hm
      have a1 := hmax _ (mem je jn)
      rw [← hje] at a1
      have a2 := g3 (f + j) (by omega) (by omega)
      omega
    obtain ⟨qe, hxe, hqe⟩ := rw'.get jn
    rw [← hje] at hqe
    have hgj := dsL_get (R := R) (f := f) jn
    rw [← hje] at hgj
    refine ⟨_, rfl, _, rfl, _, rfl, .inl ⟨rfl, _, SqL.of hD2⟩, _, rfl, D, _, .int h, je, .int (dlO R e), rfl, rfl, SqL.of hD2, rfl, ?_, ?_, ?_, ?_, ?_⟩
    · rw [List.all_eq_true]
      intro x hx
      obtain ⟨i, _, rfl⟩ := List.mem_map.mp hx
      rfl
    · rw [List.getElem?_map, hgj]
      rfl
    · show (dlO R e == h) = true
      rw [he]
      exact beq_self_eq_true _
    · intro i z hi hz
      have : (dsL R f n)[i]? = some (dlO R (f + i)) := dsL_get (by omega)
      rw [List.getElem?_map, this] at hz
      cases hz
      have := g4 (f + i) (by omega) (by omega)
      show (dlO R (f + i) == h) = false
      rw [he]
      exact beq_eq_false_iff_ne.mpr (by omega)
    refine ⟨l, xs, (je : Int), .ref qe, rfl, rfl, SqL.of hl2, atI_nat hxe, qe, _, 0, .int e, rfl, rfl, SqT.of (s12 _ _ hqe), rfl, (by show 2 ≤ sizeLine; decide), fun tp htp => ?_⟩
    have s3 := Same.upd (o := .tup [.int h, .int e]) htp
    refine ⟨.tuple [.int (dlO R e), .int e], .tuple [.int h, .int e], .tup (SqT.of (s3 _ _ ht1)) (.cons (.int _) (.cons (.int _) .nil)), .tup (SqT.of upd_same) (.cons (.int _) (.cons (.int _) .nil)), rfl, rfl, _, rfl, ?_⟩
    have ev : PyData.eqv (.tuple [.int (dlO R e), .int e]) (.tuple [.int h, .int e]) = true := by rw [he]; simp [PyData.eqv, PyData.eqvAll]
    rw [ev]
    have s13 := s12.trans s3
    have hD3 := s3 _ _ hD2
    generalize upd H2 tp (.tup [.int h, .int e]) = H3 at s3 s13 hD3
    have DV3 := DV.same s13
    -- the few
    refine iteF ⟨_, rfl, D, rfl, ⟨_, SqL.of hD3⟩, fun D4 hD4 => ?_⟩
    refine lc_list (K := K) (a := D) (xs := (dsL R f n).map V.int) (fun j Hx => ∃ c : Nat, Hx D4 = some (.lst (List.replicate c (V.int 1))) ∧ (c : Int) = winF (fun d => if d ≤ m then 1 else 0) R f j ∧ c ≤ j ∧ Same H3 Hx) ⟨0, upd_same, rfl, Nat.le_refl _, Same.upd hD4⟩ (fun j Hx _ ⟨_, _, _, _, s⟩ => SqL.of (s _ _ hD3)) ?_ ?_
    · rintro j x Hx hxj ⟨c, hDx, cw, cj, sx⟩
      have jn' : j < n := by
        have := (List.getElem?_eq_some_iff.mp hxj).1
        rw [List.length_map, dl] at this
        exact this
      rw [List.getElem?_map, dsL_get jn'] at hxj
      cases hxj
      have ew : winF (fun d => if d ≤ m then 1 else 0) R f (j + 1) = winF (fun d => if d ≤ m then 1 else 0) R f j + if dlO R (f + j) ≤ m then 1 else 0 := rfl
      refine ⟨rfl, _, rfl, _, rfl, _, _, rfl, rfl, _, rfl, ite2 (fun q => ?_) (fun q => ?_)⟩
      · have q' : dlO R (f + j) ≤ m := of_decide_eq_true q
        rw [if_pos q'] at ew
        refine ⟨_, hDx, small1 (by rw [List.length_replicate]; omega), c + 1, ?_, by omega, by omega, fun b u e => by rw [upd_ne (ne_of_none e hD4)]; exact sx _ _ e⟩
        rw [upd_same, List.replicate_succ']
      · have q' : ¬ dlO R (f + j) ≤ m := fun z => q (decide_eq_true z)
        rw [if_neg q'] at ew
        exact ⟨c, hDx, by omega, by omega, sx⟩
    rintro H5 ⟨c, hD5, cw, cn, s35⟩
    rw [List.length_map, dl] at cw cn
    have s15 := s13.trans s35
    have DV5 := DV3.same s35
    refine ⟨D4, _, rfl, .inl (SqL.of hD5), ?_⟩
    rw [List.length_replicate]
    have tn : ((la + 1 - f).toNat : Nat) = n := by omega
    have wT : totB R b (la + 1) - totB R b f = (dsL R f n).sum := by rw [totB_win O bf (by omega), tn, dsL_sum]
    have wC : witB m R b (la + 1) - witB m R b f = (c : Int) := by rw [witB_win m0 O bf (by omega), tn, cw]
    -- the sum and the number
    refine ⟨_, rfl, _, rfl, _, rfl, p, b, R, f, la, rfl, DV5, bf, by omega, by omega, fun H6 s6 => ⟨_, rfl, rfl, _, rfl, ?_⟩⟩
    show if (!decide (V.int (totB R b (la + 1) - totB R b f) = V.int (dsL R f n).sum)) = true then _ else _
    rw [wT, decide_eq_true rfl]
    have DV6 := DV5.same s6
    refine iteF ⟨_, rfl, _, rfl, _, rfl, _, rfl, p, b, R, m, f, la, rfl, DV6, m0, by omega, bf, by omega, by omega, fun H7 s7 => ⟨_, rfl, rfl, _, rfl, ?_⟩⟩
    show if (!decide (V.int (witB m R b (la + 1) - witB m R b f) = V.int (c : Int))) = true then _ else _
    rw [wC, decide_eq_true rfl]
    have DV7 := DV6.same s7
    have s17 := (s15.trans s6).trans s7
    -- the mean
    refine iteF ⟨_, rfl, _, rfl, _, rfl, p, b, R, f, la, rfl, DV7, bf, by omega, by omega, fun t8 H8 g hg ht8 s8 n8 => ⟨t8, _, rfl, SqT.of ht8, rfl, _, _, rfl, _, _, rfl, rfl, ?_⟩⟩
    have t0 : 0 ≤ (dsL R f n).sum := by rw [← wT, totB_win O bf (by omega)]; exact win_nn O bf _
    have en : la - f + 1 = (n : Int) := by omega
    rw [wT, en] at hg ht8 ⊢
    obtain ⟨mm, m1, mu⟩ := mean_mul hg (by omega) t0
    have DV8 := DV7.same s8
    have hl8 := s8 _ _ (s17 _ _ hl)
    have s18 := s17.trans s8
    have TB : (dsL R f n).sum ≤ BB := by
      rw [dsL_sum]
      have w := win_bd O bf n
      have w2 := Int.mul_le_mul_of_nonneg_right (show (n : Int) ≤ 51 by omega) (Int.le_of_lt (PB_pos 1502))
      have p1 : PB 1503 = PB 1502 + PB 1502 := PB_succ 1502
      have p2 : PB 1504 = PB 1503 + PB 1503 := PB_succ 1503
      have p3 : PB 1505 = PB 1504 + PB 1504 := PB_succ 1504
      have p4 : PB 1506 = PB 1505 + PB 1505 := PB_succ 1505
      have p5 : PB 1507 = PB 1506 + PB 1506 := PB_succ 1506
      have p6 : PB 1508 = PB 1507 + PB 1507 := PB_succ 1507
      have p7 : PB 1508 ≤ BB := PB_le (by decide)
      have p8 := PB_pos 1502
      omega
    have g0 : 0 ≤ g := by rw [hg]; exact Int.natCast_nonneg _
    have q1 : (dsL R f n).sum / g ≤ (dsL R f n).sum := Int.ediv_le_self _ t0
    have q2 : 0 ≤ (dsL R f n).sum / g := Int.ediv_nonneg t0 g0
    have q3 : (n : Int) / g ≤ n := Int.ediv_le_self _ (by omega)
    generalize (dsL R f n).sum / g = ab at *
    generalize (n : Int) / g = me at *
    generalize (dsL R f n).sum = T' at *
    refine ⟨_, rfl, _, _, rfl, rfl, _, rfl, ite2 (fun z => absurd (of_decide_eq_true z) (by omega)) (fun _ => ?_)⟩
    refine ⟨_, rfl, _, rfl, l, _, rfl, .inl (SqL.of hl8), _, _, rfl, rfl, mulAB (by omega) (by omega) (by omega) (by omega), _, rfl, _, rfl, _, _, rfl, rfl, mulAB (by omega) (by omega) (by omega) (by omega), rfl, _, rfl, ?_⟩
    rw [xl]
    show if (!decide (V.int (ab * (n : Int)) = V.int (T' * me))) = true then _ else _
    rw [mm, decide_eq_true rfl]
    -- no common divisor
    refine iteF ⟨_, rfl, l, _, rfl, .inl (SqL.of hl8), _, _, rfl, rfl, _, _, rfl, ⟨by decide, by decide, by rw [xl]; omega, by rw [xl]; omega⟩, fun D9 hD9 => ?_⟩
    rw [xl]
    refine lc_range (lo := 2) (n := ((n : Int) + 1 - 2).toNat) (fun j Hx => Hx D9 = some (.lst []) ∧ Same H8 Hx) ⟨upd_same, Same.upd hD9⟩ ?_ ?_
    · rintro j Hx hj ⟨hDx, sx⟩
      refine ⟨rfl, _, rfl, .inl ⟨_, rfl, _, rfl, _, _, rfl, rfl, (show (0 : Int) < 2 + j by omega), rfl, _, rfl, ite2 (fun c1 => ?_) (fun _ => ⟨hDx, sx⟩)⟩⟩
      have c1' : ab % (2 + j) = 0 := V.int.inj (of_decide_eq_true c1)
      refine ⟨_, rfl, .inl ⟨_, rfl, _, rfl, _, _, rfl, rfl, (show (0 : Int) < 2 + j by omega), rfl, _, rfl, ite2 (fun c2 => ?_) (fun _ => ⟨hDx, sx⟩)⟩⟩
      exact absurd (V.int.inj (of_decide_eq_true c2)) (mu _ (by omega) c1')
    rintro H9 ⟨hD9', s9⟩
    refine ⟨(by show 0 ≤ sizeLine; decide), fun le hle => ?_⟩
    have sA := Same.upd (o := .lst []) hle
    refine ⟨.list [], .list [], .lst (SqL.of (sA _ _ hD9')) .nil, .lst (SqL.of upd_same) .nil, rfl, rfl, _, rfl, ?_⟩
    have ev : PyData.eqv (.list []) (.list []) = true := by simp [PyData.eqv, PyData.eqvAll]
    rw [ev]
    have s1A := (s18.trans s9).trans sA
    generalize upd H9 le (.lst []) = HA at sA s1A
    have DVA := DV.same s1A
    -- settled
    refine iteF ⟨_, rfl, p, b, R, rfl, DVA, fun tA HB htB sB nB => ⟨tA, _, rfl, SqT.of htB, rfl, _, _, rfl, _, _, rfl, rfl, ?_⟩⟩
    have S := set_ok O
    generalize (setV R).1 = tau at S
    generalize (setV R).2 = Lp at S
    obtain ⟨sm1, sm2⟩ := sm _ _ S
    have L1 := S.L1
    have tb := S.bt
    have DVB := DVA.same sB
    have s1B := s1A.trans sB
    obtain ⟨_, _, _, _, ⟨dxb, hpb⟩, _⟩ := DVB
    have DVB := DVA.same sB
    have mx : f ≤ (if tau > f then tau else f) ∧ tau ≤ (if tau > f then tau else f) ∧ (if tau > f then tau else f) ≤ 4000 := by split <;> omega
    have fin := fun e => late_in (e := e) (m := m) (f := f) O S
    refine ⟨_, rfl, _, rfl, _, rfl, _, _, rfl, _, rfl, _, _, rfl, rfl, mulAB (by omega) (by omega) (by omega) (by omega), _, _, rfl, rfl, _, _, rfl, rfl, _, _, rfl, ⟨by omega, by omega, by omega, by omega⟩, fun DL hDL => ?_⟩
    obtain ⟨N, hN⟩ : ∃ N : Nat, N = ((if tau > f then tau else f) + 2 * Lp + 2 - f).toNat := ⟨_, rfl⟩
    have NB' : N ≤ 5000 := by omega
    refine lc_range (lo := f) (n := ((if tau > f then tau else f) + 2 * Lp + 2 - f).toNat) (fun j Hx => Hx DL = some (.lst ((lateL R m f j).map V.int)) ∧ Same HB Hx) ⟨upd_same, Same.upd hDL⟩ ?_ ?_
    · rintro j Hx hj ⟨hDx, sx⟩
      rw [← hN] at hj
      have ll := lateL_len R m f j
      refine ⟨rfl, _, rfl, _, rfl, p, dxb, _, rfl, sx _ _ hpb, p, b, R, f + (j : Int), rfl, DVB.same sx, by omega, _, rfl, _, _, rfl, rfl, _, rfl, ite2 (fun c => ?_) (fun c => ?_)⟩
      · have c' : m < dlO R (f + j) := of_decide_eq_true c
        refine ⟨_, rfl, _, hDx, small1 (by rw [List.length_map]; omega), ?_, fun b u e => by rw [upd_ne (ne_of_none e hDL)]; exact sx _ _ e⟩
        rw [upd_same, lateL_suc, if_pos c', List.map_append]
        rfl
      · have c' : ¬ m < dlO R (f + j) := fun z => c (decide_eq_true z)
        refine ⟨?_, sx⟩
        rw [hDx, lateL_suc, if_neg c', List.append_nil]
    rintro HC ⟨hDL', sC⟩
    rw [← hN] at hDL'
    have DVC := DVB.same sC
    have s1C := s1B.trans sC
    have ll := lateL_len R m f N
    refine ⟨_, rfl, _, rfl, _, rfl, p, b, R, m, f, rfl, DVC, m0, bf, by omega, fun HD o fa sD => ?_⟩
    refine ⟨_, rfl, (by show 1 ≤ sizeLine; decide), fun lz hlz => ?_⟩
    have sE := Same.upd (o := .lst [.non]) hlz
    refine ⟨DL, lz, _, _, rfl, rfl, sE _ _ (sD _ _ hDL'), upd_same, small2 (by rw [List.length_map]; show _ + 1 ≤ 100000; omega), fun lc hlc => ?_⟩
    have sF := Same.upd (o := .lst ((lateL R m f N).map V.int ++ [.non])) hlc
    have hd : atI ((lateL R m f N).map V.int ++ [V.non]) 0 = some (cV o) := by
      cases o with
      | none =>
        rw [late_nil fa N]
        rfl
      | some e =>
        have lt := fin e fa
        obtain ⟨f1, f2, f3⟩ := fa
        obtain ⟨r, hr⟩ := late_head f1 f2 f3 N (by omega)
        rw [hr]
        exact atI_nat (j := 0) rfl
    refine ⟨lc, _, 0, cV o, rfl, rfl, SqL.of upd_same, hd, (by cases o <;> rfl), ?_⟩
    show Q (.bl (decide (cV o = cV o))) _
    rw [decide_eq_true rfl]
    exact k _ (((s1C.trans sD).trans sE).trans sF)
theorem ok_wwindowright (T : LX K mg L) : Cal P w K mg base "_law_window_right" 6 L.f__law_window_right ["_law_told", "_law_rows", "_law_most"] (spWR L.c_Delays) := T.d__law_window_right.cal fun fd F => fn_wwindowright T F
end
/-- a Delays, made behind H0 -/
def DlW (C : Addr) (H0 H : Hp) (s p : Addr) (b : Int) (R : List Trn) : Prop := DlV C (Fr H0 H) p b R ∧ H0 s ≠ none
theorem DlW.kp {C : Addr} {H0 H H' : Hp} {s p : Addr} {b : Int} {R : List Trn} {n : Nat} (h : DlW C H0 H s p b R) (S : Src H s n) (k : Kp s H H') : DlW C H0 H' s p b R := by
  obtain ⟨ys, hs⟩ := S.has
  exact ⟨h.1.same (Fr.kp k h.2 hs), h.2⟩
theorem DlW.at_ {C : Addr} {H0 H : Hp} {s p : Addr} {b : Int} {R : List Trn} (h : DlW C H0 H s p b R) : DlV C H p b R := h.1.same Fr.le
theorem Rws.nl {H H' : Hp} {xs : List V} {f : Int} {n : Nat} {R : List Trn} (h : Rws H xs f n R) (k : NL H H') : Rws H' xs f n R := L2.Paired.mapP h fun _ _ ⟨q, e, z⟩ => ⟨q, e, k _ _ z fun _ w => nomatch w⟩
def spLRight : Sp := fun vs H Q _ => ∃ s, vs = [.ref s] ∧ Src H s 0 ∧ ∀ H', Kp s H H' → Q (.bl true) H'
section
variable {P : Program} {w : World} {K : PySem.W.Frag} {mg : Str → Option Value} {base : Heap} {L : LA}
abbrev N_wright : List Str := ["_law_well_here", "_law_line", "_law_downs_here", "_law_begin_here", "_law_handed", "_law_told", "_law_turn", "_law_first", "_law_rows", "_law_end"]
theorem sc_wright : FnScope N_wright ["_law_well_here"] (defScope st__law_right) := ⟨rfl, rfl, rfl, by decide +kernel, rfl, by decide +kernel, by decide +kernel⟩
theorem fn_wright (T : LX K mg L) {fd : FuncData} (F : Fun K "_law_right" "_law_right" st__law_right L.f__law_right fd) : FnOk P w K mg base CX0 11 L.f__law_right fd ["_law_well_here"] (spLRight) := by
  have G_wbegin := ok_wbegin (P := P) (w := w) (base := base) T
  have G_wrow := ok_wrow (P := P) (w := w) (base := base) T
  have G_wdowns := ok_wdowns (P := P) (w := w) (base := base) T
  have G_wmade := ok_wmade (P := P) (w := w) (base := base) T
  have G_wdraw := ok_wdraw (P := P) (w := w) (base := base) T
  have G_Delaysgetitem := ok_Delaysgetitem (P := P) (w := w) (base := base) T
  have G_wwindowright := ok_wwindowright (P := P) (w := w) (base := base) T
  have nd := sc_wright.nd
  refine F.ok sc_wright (fun vs H Q E h => ?_) (fun cdv A outer S H vs Q E hr h => ?_)
  · obtain ⟨s, rfl, _⟩ := h
    rfl
  · obtain ⟨s, rfl, src, k⟩ := h
    refine ⟨_, (pss_cons (ps_par (i := 1) (j := 2) (by rfl) nd rfl rfl (by decide) rfl rfl (pa_cons (pe_c G_wrow (hr.mono (by decide)) rfl (pa_cons (pv 0) pa_nil)) (pa_cons (pe_c G_wdowns (hr.mono (by decide)) rfl (pa_cons (pv 0) (pa_cons pe_int pa_nil))) pa_nil)) (by rfl))
       (pss_cons (ps_set (i := 3) nd rfl (Or.inl rfl) (pe_c G_wbegin (hr.mono (by decide)) rfl (pa_cons (pv 0) (pa_cons (pv 2) pa_nil))))
       (pss_cons (ps_set (i := 4) nd rfl (Or.inl rfl) (pe_callTy call_list_of (by rfl) T.b_list (by decide +kernel) (pa_cons (pv 2) pa_nil)))
       (pss_cons (ps_set (i := 5) nd rfl (Or.inr rfl) (pe_mkDelays T (hr.mono (by decide)) rfl (pa_cons (pe_c G_wmade (hr.mono (by decide)) rfl (pa_cons (pv 1) pa_nil)) (pa_cons (pv 4) (pa_cons (pv 3) pa_nil)))))
       (pss_cons (ps_expr (pe_bm PySem.F.plainAttrs_list PySem.F.slot_list_append PySem.F.type_list_append mt_append (pv 4) (pa_cons (pe_tup (pa_cons (pe_op op_add (pv 3) (pe_op op_pow pe_int pe_int)) (pa_cons (pe_op op_add (pe_op op_add (pv 3) (pe_op op_pow pe_int pe_int)) pe_int) pa_nil))) pa_nil)))
       (pss_cons (ps_for PassesOwn.never rfl (pi_range1 rfl T.b_range (pa_cons pe_int pa_nil)) (pg_name (i := 6) nd rfl (Or.inl rfl)) (pss_cons (ps_set (i := 7) nd rfl (Or.inl rfl) (pe_op op_add (pe_op op_add (pv 3) pe_int) (pe_c G_wdraw (hr.mono (by decide)) rfl (pa_cons (pv 0) (pa_cons pe_int pa_nil)))))
       (pss_cons (ps_setLc (i := 8) (own := [("_law_end", 9)]) (g := gName 9) (tt := tYes) rfl nd rfl rfl (sw_true rfl rfl rfl (by decide +kernel)) (pi_range2 rfl T.b_range (pa_cons (pv 7) (pa_cons (pe_op op_add (pe_op op_add (pv 7) pe_int) (pe_c G_wdraw (hr.mono (by decide)) rfl (pa_cons (pv 0) (pa_cons pe_int pa_nil)))) pa_nil))) (blkOk_by (own := [("_law_end", 9)]) (N := N_wright) (sc := defScope st__law_right) (by decide +kernel)) (fun _ _ _ _ _ => pg_name (i := 9) nd rfl (Or.inl rfl)) (fun _ _ _ _ _ => pts_nil) (fun _ _ _ _ _ => (pe_tup (pa_cons (pv 9) (pa_cons (G_Delaysgetitem.p_ix (hr.mono (by decide)) (pv 5) (pv 9)) pa_nil)))))
       (pss_one (ps_if (pt_not (pt_val (pe_c G_wwindowright (hr.mono (by decide)) rfl (pa_cons (pv 5) (pa_cons (pv 8) (pa_cons (pe_c G_wdraw (hr.mono (by decide)) rfl (pa_cons (pv 0) (pa_cons pe_int pa_nil))) pa_nil)))))) (pss_one (ps_ret pe_bl)) pss_nil)))))
       (pss_one (ps_ret pe_bl)))))))), ?_⟩
    refine ⟨_, rfl, s, 0, rfl, src, by decide, fun t l xs ts st ph H1 LN OS src1 k1 nt nl => ⟨_, rfl, s, _, 2, rfl, src1, by decide, by decide, by decide, fun ld zs os H2 hld hod vo lol ob src2 k2 nld => ⟨_, _, rfl, ?_⟩⟩⟩
    obtain ⟨ys0, hys0⟩ := src.has
    obtain ⟨ys1, hys1⟩ := src1.has
    obtain ⟨ys2, hys2⟩ := src2.has
    have W : RowD ts st ph := by
      obtain ⟨o1, o2, o3, o4, o5, o6⟩ := OS
      exact ⟨fun t ht => (o1 t ht).1, by omega, o3, by omega, o5, by omega⟩
    refine ⟨_, rfl, _, rfl, s, ld, zs, os, _, rfl, src2, by decide, hld, hod, vo, by omega, ob, fun b H3 b0 b9 obb src3 k3 => ?_⟩
    obtain ⟨ys3, hys3⟩ := src3.has
    have nls : ld ≠ s := fun e => by rw [e, hys1] at nld; cases nld
    have ns_l : l ≠ s := fun e => by rw [e, hys0] at nl; cases nl
    have hld3 := k3 _ _ nls hld
    have hod3 := hod.nl (Kp.nl k3 hys2)
    refine ⟨_, rfl, ld, zs, rfl, .inl (SqL.of hld3), fun lh nlh => ?_⟩
    have s4 := Same.upd (o := .lst zs) nlh
    have hlh4 : (upd H3 lh (.lst zs)) lh = some (.lst zs) := upd_same
    have n13 : NL H1 H3 := (Kp.nl k2 hys1).trans (Kp.nl k3 hys2)
    have LN4 : LnAt (upd H3 lh (.lst zs)) t l xs ts st ph := by
      obtain ⟨l1, l2, l3⟩ := LN
      exact ⟨s4 _ _ (n13 _ _ l1 fun _ z => nomatch z), s4 _ _ (k3 _ _ ns_l (k2 _ _ ns_l l2)), (l3.nl n13).nl (NL.of s4)⟩
    generalize upd H3 lh (.lst zs) = H4 at s4 hlh4 LN4 ⊢
    refine ⟨_, rfl, t, l, xs, ts, st, ph, rfl, LN4, W, fun r B H5 R5 s5 nr => ⟨_, rfl, _, rfl, ?_⟩⟩
    have hlh5 := s5 _ _ hlh4
    have hod5 := (hod3.same s4).same s5
    refine delays_made R5 hlh5 hod5 vo (by omega) obb b0 (by omega) fun dp H6 RR DV DO s6 ndp => ?_
    have hlh6 := s6 _ _ hlh5
    have src6 := ((src3.same s4).same s5).same s6
    obtain ⟨ys5, hys5⟩ := ((src3.same s4).same s5).has
    have DW6 : DlW L.c_Delays H5 H6 s dp b RR := ⟨DV, by rw [hys5]; exact fun z => nomatch z⟩
    have zl := paired_len hod
    rw [outs_len] at zl
    have fresh : H lh = none := by
      cases q : H lh with
      | none => rfl
      | some o =>
        by_cases c : lh = s
        · rw [c, hys3] at nlh; cases nlh
        · rw [k3 _ _ c (k2 _ _ c (k1 _ _ c q))] at nlh; cases nlh
    have nsh : s ≠ lh := ne_of_none hys3 nlh
    -- the list handed over changes
    have kp7 : ∀ (tq : Addr) (its : List V), H6 tq = none → Kp lh H6 (upd (upd H6 tq (.tup its)) lh (.lst (zs ++ [.ref tq]))) := fun tq its ntq => (Kp.of (Same.upd ntq)).trans Kp.upd
    have xlh : H5 lh ≠ none := by rw [hlh5]; exact fun z => nomatch z
    refine ⟨_, rfl, .inl ⟨rfl, _, SqL.of hlh6⟩, _, rfl, 10, 9, rfl, rfl, ⟨by decide, by decide, by decide⟩, _, _, rfl, rfl, _, rfl, 10, 9, rfl, rfl, ⟨by decide, by decide, by decide⟩, _, _, rfl, rfl, _, _, rfl, rfl, (by show 2 ≤ sizeLine; decide), fun tq ntq => ⟨lh, _, _, rfl, rfl, (Same.upd ntq) _ _ hlh6, small1 (by omega), ?_⟩⟩
    refine ⟨10, rfl, by decide, by decide, ?_⟩
    refine for_range (lo := 0) (n := 10) (fun j σ Hx => ∃ v6 v7 v8 v9 : Option V, σ = [some (.ref s), some (.ref t), some (.ref ld), some (.int b), some (.ref lh), some (.ref dp), v6, v7, v8, v9] ∧ (∀ c o, c ≠ s → c ≠ lh → H6 c = some o → Hx c = some o) ∧ Src Hx s (1000 + 10 * j) ∧ DlW L.c_Delays H5 Hx s dp b RR)
      ⟨_, _, _, _, rfl, fun c o n1 n2 e => kp7 _ _ ntq c o n2 e, (src_kp (kp7 _ _ ntq) nsh src6).mono (by omega), ⟨DW6.1.same (Fr.kp (kp7 _ _ ntq) xlh hlh6), DW6.2⟩⟩ ?_ ?_
    · rintro j σ Hx hj ⟨v6, v7, v8, v9, rfl, kf, srcx, DWx⟩
      refine ⟨_, rfl, _, _, rfl, rfl, _, rfl, s, 60, _, rfl, by decide, by decide +kernel, srcx, by omega, fun a1 H8 a10 a11 src8 k8 => ⟨_, _, rfl, rfl, ?_⟩⟩
      obtain ⟨f, hf⟩ : ∃ f, f = b + 1 + a1 := ⟨_, rfl⟩
      show gName 7 (.int (b + 1 + a1)) _ _ _
      rw [← hf]
      have DW8 := DWx.kp srcx k8
      refine ⟨_, rfl, _, rfl, _, _, rfl, rfl, _, rfl, s, 50, _, rfl, by decide, by decide +kernel, src8, by omega, fun a2 H9 a20 a21 src9 k9 => ⟨_, _, rfl, rfl, _, _, rfl, ⟨by omega, by omega, by omega, by omega⟩, fun D hD => ?_⟩⟩
      have DW9 := DW8.kp src8 k9
      have DV9 := DW9.at_
      obtain ⟨_, _, _, _, ⟨dx9, hp9⟩, _⟩ := DW9.at_
      obtain ⟨n, hn⟩ : ∃ n : Nat, n = (f + 1 + a2 - f).toNat := ⟨_, rfl⟩
      refine lc_range (lo := f) (n := (f + 1 + a2 - f).toNat) (fun i Hc => ∃ xs, Hc D = some (.lst xs) ∧ Rws Hc xs f i RR ∧ xs.length = i ∧ Same H9 Hc) ⟨[], upd_same, .nil, rfl, Same.upd hD⟩ ?_ ?_
      · rintro i Hc hi ⟨zs', hDc, rws, zl', sc⟩
        refine ⟨rfl, tYes_of ⟨_, rfl, _, rfl, _, rfl, dp, dx9, _, rfl, sc _ _ hp9, dp, b, RR, f + (i : Int), rfl, DV9.same sc, by omega, (by show 2 ≤ sizeLine; decide), fun tp htp => ⟨_, (Same.upd htp) _ _ hDc, small1 (by omega), zs' ++ [.ref tp], upd_same, ?_, by rw [List.length_append, zl']; rfl, fun c o e => by rw [upd_ne (ne_of_none e hD)]; exact (Same.upd htp) _ _ (sc _ _ e)⟩⟩⟩
        have n2 := NL.upd (o := .lst (zs' ++ [.ref tp])) ((Same.upd (o := .tup [.int (f + (i : Int)), .int (dlO RR (f + (i : Int)))]) htp) _ _ hDc)
        show Paired _ _ (List.range (i + 1))
        rw [List.range_succ]
        exact paired_app ((rws.nl (NL.of (Same.upd htp))).nl n2) (.cons ⟨tp, rfl, n2 _ _ upd_same fun _ w => nomatch w⟩ .nil)
      rintro HA ⟨xs', hDA, rws, xl', sA⟩
      rw [← hn] at rws xl'
      have DWA := DW9.kp src9 (Kp.of sA)
      have srcA := src9.same sA
      obtain ⟨ysA, hysA⟩ := srcA.has
      have nDs : D ≠ s := fun e => by
        obtain ⟨y, hy⟩ := src9.has
        rw [e, hy] at hD
        cases hD
      refine ⟨_, rfl, _, rfl, _, rfl, s, 12, _, rfl, by decide, by decide +kernel, srcA, by omega, fun a3 HB a30 a31 srcB kB => ?_⟩
      have DWB := DWA.kp srcA kB
      refine ⟨dp, b, RR, D, xs', n, f, a3, rfl, DWB.at_, kB _ _ nDs hDA, rws.nl (Kp.nl kB hysA), by omega, by omega, by omega, by omega, a30, by omega, by omega, fun tau L S => ?_, fun HC sC => ⟨_, rfl, ?_⟩⟩
      · obtain ⟨o1, o2, o3, o4, o5, o6⟩ := OS
        exact sm_set W (fun t ht => ⟨(o1 t ht).2.2, (o1 t ht).2.1⟩) o2 o4 (by omega) DO S
      · exact iteF ⟨_, _, _, _, rfl, fun c o n1 n2 e => sC _ _ (kB _ _ n1 (sA _ _ (k9 _ _ n1 (k8 _ _ n1 (kf c o n1 n2 e))))), (srcB.same sC).mono (by omega), DWB.kp srcB (Kp.of sC)⟩
    · rintro σ Hx ⟨v6, v7, v8, v9, rfl, kf, srcx, DWx⟩
      refine k _ fun c o n1 e => ?_
      have n2 : c ≠ lh := fun q => by rw [q, fresh] at e; cases e
      exact kf c o n1 n2 (s6 _ _ (s5 _ _ (s4 _ _ (k3 _ _ n1 (k2 _ _ n1 (k1 _ _ n1 e))))))
theorem ok_wright (T : LX K mg L) : Cal P w K mg base "_law_right" 11 L.f__law_right ["_law_well_here"] (spLRight) := T.d__law_right.cal fun fd F => fn_wright T F
end
/-! ### the law over its cells -/
def spLaw (K : PySem.W.Frag) : Sp := fun vs H Q _ => ∃ (a : Addr) (ns : List Int), vs = [.ref a] ∧ SqL K H a (ns.map V.int) ∧ ns.length ≤ 63 ∧ ∀ H', Q (.bl true) H'
section
variable {P : Program} {w : World} {K : PySem.W.Frag} {mg : Str → Option Value} {base : Heap} {L : LA}
abbrev N_law : List Str := ["_law_script", "_law_cell"]
theorem sc_law : FnScope N_law ["_law_script"] (defScope st_law) := ⟨rfl, rfl, rfl, by decide +kernel, rfl, by decide +kernel, by decide +kernel⟩
theorem ok_law {aLaw : Addr} {fd : FuncData} (F : Fun K "law" "law" st_law aLaw fd) (T : LX K mg L) : FnOk P w K mg base CX0 12 aLaw fd ["_law_script"] (spLaw K) := by
  have G_wright := ok_wright (P := P) (w := w) (base := base) T
  have G_wwell := ok_wwell (P := P) (w := w) (base := base) T
  have nd := sc_law.nd
  refine F.ok sc_law (fun vs H Q E h => ?_) (fun cdv A outer S H vs Q E hr h => ?_)
  · obtain ⟨a, ns, rfl, _⟩ := h
    rfl
  · obtain ⟨a, ns, rfl, hS, ln, k⟩ := h
    refine ⟨_, (pss_cons (ps_for PassesOwn.never rfl (pi_list (pe_op op_cat (pe_slice (r := rSlL K) sl_list (pv 0) po_none (po_some pe_int)) (pe_lst (pa_cons pe_int pa_nil)))) (pg_name (i := 1) nd rfl (Or.inl rfl)) (pss_one (ps_if (pt_not (pt_val (pe_c G_wright (hr.mono (by decide)) rfl (pa_cons (pe_c G_wwell (hr.mono (by decide)) rfl (pa_cons (pv 1) pa_nil)) pa_nil)))) (pss_one (ps_ret pe_bl)) pss_nil)))
       (pss_one (ps_ret pe_bl))), ?_⟩
    refine ⟨_, rfl, 3, rfl, a, ns.map V.int, rfl, hS, fun l1 hl1 => ⟨(by show 1 ≤ sizeLine; decide), fun l2 hl2 => ?_⟩⟩
    refine ⟨l1, l2, _, _, rfl, rfl, (Same.upd hl2) _ _ upd_same, upd_same, small2 (by have := cutV_length (ns.map V.int) none (some 3); rw [List.length_map] at this; show _ + 1 ≤ 100000; omega), fun l3 hl3 => ?_⟩
    have items : ∀ v ∈ cutV (ns.map V.int) none (some 3) ++ [V.int 0], ∃ c, v = .int c := fun v hv => by
      rcases List.mem_append.mp hv with hv | hv
      · obtain ⟨c, _, e⟩ := List.mem_map.mp (List.mem_of_mem_drop (List.mem_of_mem_take hv))
        exact ⟨c, e.symm⟩
      · exact ⟨0, by simpa using hv⟩
    generalize hit : cutV (ns.map V.int) none (some 3) ++ [V.int 0] = its at items
    refine ⟨l3, rfl, ⟨_, SqL.of upd_same⟩, ?_⟩
    refine for_list (K := K) (a := l3) (xs := its) (fun i σ H2 => ∃ v1 : Option V, σ = [some (.ref a), v1] ∧ H2 l3 = some (.lst its)) ⟨none, rfl, by rw [upd_same]⟩ (fun i σ H2 _ ⟨_, _, e⟩ => SqL.of e) ?_ ?_
    · rintro i v σ H0 hi ⟨v1, rfl, hL⟩
      obtain ⟨cc, rfl⟩ := items v (List.mem_of_getElem? hi)
      refine ⟨_, rfl, cc, rfl, fun s H1 hs0 y1 src1 => ⟨s, rfl, src1, fun H2 k2 => ⟨_, rfl, iteF ⟨_, rfl, ?_⟩⟩⟩⟩
      exact k2 _ _ (ne_of_none hL hs0) (y1 _ _ hL)
    · rintro σ H2 ⟨v1, rfl, _⟩
      exact k H2
end
/-! ### the end -/
theorem bn_q0 (kV doc pm : Value) (an : Option Addr) (cdv ct : Value) (us : List Value) (hl : us.length = (["k"] : List Str).length) : bindArgs (PySem.W.fnOf "_wall" "_wall" (defArgs st__wall) (defBody st__wall) (defScope st__wall) .none kV doc pm an cdv ct) ⟨us, []⟩ = pure ((["k"] : List Str).zip us) :=
  match us, hl with | [_], _ => rfl
theorem bn_q1 (kV doc pm : Value) (an : Option Addr) (cdv ct : Value) (us : List Value) (hl : us.length = (["value"] : List Str).length) : bindArgs (PySem.W.fnOf "is_integer" "is_integer" (defArgs st_is_integer) (defBody st_is_integer) (defScope st_is_integer) .none kV doc pm an cdv ct) ⟨us, []⟩ = pure ((["value"] : List Str).zip us) :=
  match us, hl with | [_], _ => rfl
theorem bn_q2 (kV doc pm : Value) (an : Option Addr) (cdv ct : Value) (us : List Value) (hl : us.length = (["value", "least"] : List Str).length) : bindArgs (PySem.W.fnOf "is_at_least" "is_at_least" (defArgs st_is_at_least) (defBody st_is_at_least) (defScope st_is_at_least) .none kV doc pm an cdv ct) ⟨us, []⟩ = pure ((["value", "least"] : List Str).zip us) :=
  match us, hl with | [_, _], _ => rfl
theorem bn_q3 (kV doc pm : Value) (an : Option Addr) (cdv ct : Value) (us : List Value) (hl : us.length = (["value", "least", "most"] : List Str).length) : bindArgs (PySem.W.fnOf "is_within" "is_within" (defArgs st_is_within) (defBody st_is_within) (defScope st_is_within) .none kV doc pm an cdv ct) ⟨us, []⟩ = pure ((["value", "least", "most"] : List Str).zip us) :=
  match us, hl with | [_, _, _], _ => rfl
theorem bn_q4 (kV doc pm : Value) (an : Option Addr) (cdv ct : Value) (us : List Value) (hl : us.length = (["distance", "step"] : List Str).length) : bindArgs (PySem.W.fnOf "steps_to" "steps_to" (defArgs st_steps_to) (defBody st_steps_to) (defScope st_steps_to) .none kV doc pm an cdv ct) ⟨us, []⟩ = pure ((["distance", "step"] : List Str).zip us) :=
  match us, hl with | [_, _], _ => rfl
theorem bn_q5 (kV doc pm : Value) (an : Option Addr) (cdv ct : Value) (us : List Value) (hl : us.length = (["one", "other"] : List Str).length) : bindArgs (PySem.W.fnOf "common_divisor" "common_divisor" (defArgs st_common_divisor) (defBody st_common_divisor) (defScope st_common_divisor) .none kV doc pm an cdv ct) ⟨us, []⟩ = pure ((["one", "other"] : List Str).zip us) :=
  match us, hl with | [_, _], _ => rfl
theorem bn_q6 (kV doc pm : Value) (an : Option Addr) (cdv ct : Value) (us : List Value) (hl : us.length = (["value"] : List Str).length) : bindArgs (PySem.W.fnOf "is_breaker" "is_breaker" (defArgs st_is_breaker) (defBody st_is_breaker) (defScope st_is_breaker) .none kV doc pm an cdv ct) ⟨us, []⟩ = pure ((["value"] : List Str).zip us) :=
  match us, hl with | [_], _ => rfl
theorem bn_q7 (kV doc pm : Value) (an : Option Addr) (cdv ct : Value) (us : List Value) (hl : us.length = (["breakers", "part"] : List Str).length) : bindArgs (PySem.W.fnOf "check_breakers" "check_breakers" (defArgs st_check_breakers) (defBody st_check_breakers) (defScope st_check_breakers) .none kV doc pm an cdv ct) ⟨us, []⟩ = pure ((["breakers", "part"] : List Str).zip us) :=
  match us, hl with | [_, _], _ => rfl
theorem bn_q8 (kV doc pm : Value) (an : Option Addr) (cdv ct : Value) (us : List Value) (hl : us.length = (["step"] : List Str).length) : bindArgs (PySem.W.fnOf "check_step" "check_step" (defArgs st_check_step) (defBody st_check_step) (defScope st_check_step) .none kV doc pm an cdv ct) ⟨us, []⟩ = pure ((["step"] : List Str).zip us) :=
  match us, hl with | [_], _ => rfl
theorem bn_q9 (kV doc pm : Value) (an : Option Addr) (cdv ct : Value) (us : List Value) (hl : us.length = (["row", "number"] : List Str).length) : bindArgs (PySem.W.fnOf "request_time" "request_time" (defArgs st_request_time) (defBody st_request_time) (defScope st_request_time) .none kV doc pm an cdv ct) ⟨us, []⟩ = pure ((["row", "number"] : List Str).zip us) :=
  match us, hl with | [_, _], _ => rfl
theorem bn_q10 (kV doc pm : Value) (an : Option Addr) (cdv ct : Value) (us : List Value) (hl : us.length = (["row", "time"] : List Str).length) : bindArgs (PySem.W.fnOf "first_request" "first_request" (defArgs st_first_request) (defBody st_first_request) (defScope st_first_request) .none kV doc pm an cdv ct) ⟨us, []⟩ = pure ((["row", "time"] : List Str).zip us) :=
  match us, hl with | [_, _], _ => rfl
theorem bn_q11 (kV doc pm : Value) (an : Option Addr) (cdv ct : Value) (us : List Value) (hl : us.length = (["train"] : List Str).length) : bindArgs (PySem.W.fnOf "last_time" "last_time" (defArgs st_last_time) (defBody st_last_time) (defScope st_last_time) .none kV doc pm an cdv ct) ⟨us, []⟩ = pure ((["train"] : List Str).zip us) :=
  match us, hl with | [_], _ => rfl
theorem bn_q12 (kV doc pm : Value) (an : Option Addr) (cdv ct : Value) (us : List Value) (hl : us.length = (["train", "time"] : List Str).length) : bindArgs (PySem.W.fnOf "times_before" "times_before" (defArgs st_times_before) (defBody st_times_before) (defScope st_times_before) .none kV doc pm an cdv ct) ⟨us, []⟩ = pure ((["train", "time"] : List Str).zip us) :=
  match us, hl with | [_, _], _ => rfl
theorem bn_q13 (kV doc pm : Value) (an : Option Addr) (cdv ct : Value) (us : List Value) (hl : us.length = (["train", "low", "high"] : List Str).length) : bindArgs (PySem.W.fnOf "part_of" "part_of" (defArgs st_part_of) (defBody st_part_of) (defScope st_part_of) .none kV doc pm an cdv ct) ⟨us, []⟩ = pure ((["train", "low", "high"] : List Str).zip us) :=
  match us, hl with | [_, _, _], _ => rfl
theorem bn_q14 (kV doc pm : Value) (an : Option Addr) (cdv ct : Value) (us : List Value) (hl : us.length = (["train", "first", "after"] : List Str).length) : bindArgs (PySem.W.fnOf "window_of" "window_of" (defArgs st_window_of) (defBody st_window_of) (defScope st_window_of) .none kV doc pm an cdv ct) ⟨us, []⟩ = pure ((["train", "first", "after"] : List Str).zip us) :=
  match us, hl with | [_, _, _], _ => rfl
theorem bn_q15 (kV doc pm : Value) (an : Option Addr) (cdv ct : Value) (us : List Value) (hl : us.length = (["train", "wait", "time"] : List Str).length) : bindArgs (PySem.W.fnOf "thinned_run" "thinned_run" (defArgs st_thinned_run) (defBody st_thinned_run) (defScope st_thinned_run) .none kV doc pm an cdv ct) ⟨us, []⟩ = pure ((["train", "wait", "time"] : List Str).zip us) :=
  match us, hl with | [_, _, _], _ => rfl
theorem bn_q16 (kV doc pm : Value) (an : Option Addr) (cdv ct : Value) (us : List Value) (hl : us.length = (["trains", "first", "after"] : List Str).length) : bindArgs (PySem.W.fnOf "window_runs" "window_runs" (defArgs st_window_runs) (defBody st_window_runs) (defScope st_window_runs) .none kV doc pm an cdv ct) ⟨us, []⟩ = pure ((["trains", "first", "after"] : List Str).zip us) :=
  match us, hl with | [_, _, _], _ => rfl
theorem bn_q17 (kV doc pm : Value) (an : Option Addr) (cdv ct : Value) (us : List Value) (hl : us.length = (["trains", "wait", "time"] : List Str).length) : bindArgs (PySem.W.fnOf "thinned_runs" "thinned_runs" (defArgs st_thinned_runs) (defBody st_thinned_runs) (defScope st_thinned_runs) .none kV doc pm an cdv ct) ⟨us, []⟩ = pure ((["trains", "wait", "time"] : List Str).zip us) :=
  match us, hl with | [_, _, _], _ => rfl
theorem bn_q18 (kV doc pm : Value) (an : Option Addr) (cdv ct : Value) (us : List Value) (hl : us.length = (["trains", "count"] : List Str).length) : bindArgs (PySem.W.fnOf "divided_runs" "divided_runs" (defArgs st_divided_runs) (defBody st_divided_runs) (defScope st_divided_runs) .none kV doc pm an cdv ct) ⟨us, []⟩ = pure ((["trains", "count"] : List Str).zip us) :=
  match us, hl with | [_, _], _ => rfl
theorem bn_q19 (kV doc pm : Value) (an : Option Addr) (cdv ct : Value) (us : List Value) (hl : us.length = (["trains", "time"] : List Str).length) : bindArgs (PySem.W.fnOf "time_from" "time_from" (defArgs st_time_from) (defBody st_time_from) (defScope st_time_from) .none kV doc pm an cdv ct) ⟨us, []⟩ = pure ((["trains", "time"] : List Str).zip us) :=
  match us, hl with | [_, _], _ => rfl
theorem bn_q20 (kV doc pm : Value) (an : Option Addr) (cdv ct : Value) (us : List Value) (hl : us.length = (["train", "following"] : List Str).length) : bindArgs (PySem.W.fnOf "joined" "joined" (defArgs st_joined) (defBody st_joined) (defScope st_joined) .none kV doc pm an cdv ct) ⟨us, []⟩ = pure ((["train", "following"] : List Str).zip us) :=
  match us, hl with | [_, _], _ => rfl
theorem bn_q21 (kV doc pm : Value) (an : Option Addr) (cdv ct : Value) (us : List Value) (hl : us.length = (["trains"] : List Str).length) : bindArgs (PySem.W.fnOf "normal_form" "normal_form" (defArgs st_normal_form) (defBody st_normal_form) (defScope st_normal_form) .none kV doc pm an cdv ct) ⟨us, []⟩ = pure ((["trains"] : List Str).zip us) :=
  match us, hl with | [_], _ => rfl
theorem bn_q22 (kV doc pm : Value) (an : Option Addr) (cdv ct : Value) (us : List Value) (hl : us.length = (["train"] : List Str).length) : bindArgs (PySem.W.fnOf "with_plain_step" "with_plain_step" (defArgs st_with_plain_step) (defBody st_with_plain_step) (defScope st_with_plain_step) .none kV doc pm an cdv ct) ⟨us, []⟩ = pure ((["train"] : List Str).zip us) :=
  match us, hl with | [_], _ => rfl
theorem bn_q23 (kV doc pm : Value) (an : Option Addr) (cdv ct : Value) (us : List Value) (hl : us.length = (["number"] : List Str).length) : bindArgs (PySem.W.fnOf "closed_states" "closed_states" (defArgs st_closed_states) (defBody st_closed_states) (defScope st_closed_states) .none kV doc pm an cdv ct) ⟨us, []⟩ = pure ((["number"] : List Str).zip us) :=
  match us, hl with | [_], _ => rfl
theorem bn_q24 (kV doc pm : Value) (an : Option Addr) (cdv ct : Value) (us : List Value) (hl : us.length = (["row", "outages"] : List Str).length) : bindArgs (PySem.W.fnOf "spells_of" "spells_of" (defArgs st_spells_of) (defBody st_spells_of) (defScope st_spells_of) .none kV doc pm an cdv ct) ⟨us, []⟩ = pure ((["row", "outages"] : List Str).zip us) :=
  match us, hl with | [_, _], _ => rfl
theorem bn_q25 (kV doc pm : Value) (an : Option Addr) (cdv ct : Value) (us : List Value) (hl : us.length = (["row", "first", "begun", "outages", "at"] : List Str).length) : bindArgs (PySem.W.fnOf "spell_from" "spell_from" (defArgs st_spell_from) (defBody st_spell_from) (defScope st_spell_from) .none kV doc pm an cdv ct) ⟨us, []⟩ = pure ((["row", "first", "begun", "outages", "at"] : List Str).zip us) :=
  match us, hl with | [_, _, _, _, _], _ => rfl
theorem bn_q26 (kV doc pm : Value) (an : Option Addr) (cdv ct : Value) (us : List Value) (hl : us.length = (["runs", "breaker", "state"] : List Str).length) : bindArgs (PySem.W.fnOf "passed_runs" "passed_runs" (defArgs st_passed_runs) (defBody st_passed_runs) (defScope st_passed_runs) .none kV doc pm an cdv ct) ⟨us, []⟩ = pure ((["runs", "breaker", "state"] : List Str).zip us) :=
  match us, hl with | [_, _, _], _ => rfl
theorem bn_q27 (kV doc pm : Value) (an : Option Addr) (cdv ct : Value) (us : List Value) (hl : us.length = (["runs", "outages", "at"] : List Str).length) : bindArgs (PySem.W.fnOf "recovery" "recovery" (defArgs st_recovery) (defBody st_recovery) (defScope st_recovery) .none kV doc pm an cdv ct) ⟨us, []⟩ = pure ((["runs", "outages", "at"] : List Str).zip us) :=
  match us, hl with | [_, _, _], _ => rfl
theorem bn_q28 (kV doc pm : Value) (an : Option Addr) (cdv ct : Value) (us : List Value) (hl : us.length = (["row", "spell", "time"] : List Str).length) : bindArgs (PySem.W.fnOf "states_behind" "states_behind" (defArgs st_states_behind) (defBody st_states_behind) (defScope st_states_behind) .none kV doc pm an cdv ct) ⟨us, []⟩ = pure ((["row", "spell", "time"] : List Str).zip us) :=
  match us, hl with | [_, _, _], _ => rfl
theorem bn_q29 (kV doc pm : Value) (an : Option Addr) (cdv ct : Value) (us : List Value) (hl : us.length = (["outages"] : List Str).length) : bindArgs (PySem.W.fnOf "check_outages" "check_outages" (defArgs st_check_outages) (defBody st_check_outages) (defScope st_check_outages) .none kV doc pm an cdv ct) ⟨us, []⟩ = pure ((["outages"] : List Str).zip us) :=
  match us, hl with | [_], _ => rfl
theorem bn_q30 (kV doc pm : Value) (an : Option Addr) (cdv ct : Value) (us : List Value) (hl : us.length = (["value"] : List Str).length) : bindArgs (PySem.W.fnOf "is_outage" "is_outage" (defArgs st_is_outage) (defBody st_is_outage) (defScope st_is_outage) .none kV doc pm an cdv ct) ⟨us, []⟩ = pure ((["value"] : List Str).zip us) :=
  match us, hl with | [_], _ => rfl
theorem bn_q31 (kV doc pm : Value) (an : Option Addr) (cdv ct : Value) (us : List Value) (hl : us.length = (["runs", "begin"] : List Str).length) : bindArgs (PySem.W.fnOf "teeth_of" "teeth_of" (defArgs st_teeth_of) (defBody st_teeth_of) (defScope st_teeth_of) .none kV doc pm an cdv ct) ⟨us, []⟩ = pure ((["runs", "begin"] : List Str).zip us) :=
  match us, hl with | [_, _], _ => rfl
theorem bn_q32 (kV doc pm : Value) (an : Option Addr) (cdv ct : Value) (us : List Value) (hl : us.length = (["teeth", "end"] : List Str).length) : bindArgs (PySem.W.fnOf "delay_of" "delay_of" (defArgs st_delay_of) (defBody st_delay_of) (defScope st_delay_of) .none kV doc pm an cdv ct) ⟨us, []⟩ = pure ((["teeth", "end"] : List Str).zip us) :=
  match us, hl with | [_, _], _ => rfl
theorem bn_q33 (kV doc pm : Value) (an : Option Addr) (cdv ct : Value) (us : List Value) (hl : us.length = (["tooth", "after"] : List Str).length) : bindArgs (PySem.W.fnOf "reached_ends" "reached_ends" (defArgs st_reached_ends) (defBody st_reached_ends) (defScope st_reached_ends) .none kV doc pm an cdv ct) ⟨us, []⟩ = pure ((["tooth", "after"] : List Str).zip us) :=
  match us, hl with | [_, _], _ => rfl
theorem bn_q34 (kV doc pm : Value) (an : Option Addr) (cdv ct : Value) (us : List Value) (hl : us.length = (["delays", "first"] : List Str).length) : bindArgs (PySem.W.fnOf "check_first" "check_first" (defArgs st_check_first) (defBody st_check_first) (defScope st_check_first) .none kV doc pm an cdv ct) ⟨us, []⟩ = pure ((["delays", "first"] : List Str).zip us) :=
  match us, hl with | [_, _], _ => rfl
theorem bn_q35 (kV doc pm : Value) (an : Option Addr) (cdv ct : Value) (us : List Value) (hl : us.length = (["first", "last"] : List Str).length) : bindArgs (PySem.W.fnOf "check_last" "check_last" (defArgs st_check_last) (defBody st_check_last) (defScope st_check_last) .none kV doc pm an cdv ct) ⟨us, []⟩ = pure ((["first", "last"] : List Str).zip us) :=
  match us, hl with | [_, _], _ => rfl
theorem bn_q36 (kV doc pm : Value) (an : Option Addr) (cdv ct : Value) (us : List Value) (hl : us.length = (["most"] : List Str).length) : bindArgs (PySem.W.fnOf "check_most" "check_most" (defArgs st_check_most) (defBody st_check_most) (defScope st_check_most) .none kV doc pm an cdv ct) ⟨us, []⟩ = pure ((["most"] : List Str).zip us) :=
  match us, hl with | [_], _ => rfl
theorem bn_q37 (kV doc pm : Value) (an : Option Addr) (cdv ct : Value) (us : List Value) (hl : us.length = (["delays", "first"] : List Str).length) : bindArgs (PySem.W.fnOf "tops" "tops" (defArgs st_tops) (defBody st_tops) (defScope st_tops) .none kV doc pm an cdv ct) ⟨us, []⟩ = pure ((["delays", "first"] : List Str).zip us) :=
  match us, hl with | [_, _], _ => rfl
theorem bn_q38 (kV doc pm : Value) (an : Option Addr) (cdv ct : Value) (us : List Value) (hl : us.length = (["delays", "first", "last"] : List Str).length) : bindArgs (PySem.W.fnOf "greatest_delay" "greatest_delay" (defArgs st_greatest_delay) (defBody st_greatest_delay) (defScope st_greatest_delay) .none kV doc pm an cdv ct) ⟨us, []⟩ = pure ((["delays", "first", "last"] : List Str).zip us) :=
  match us, hl with | [_, _, _], _ => rfl
theorem bn_q39 (kV doc pm : Value) (an : Option Addr) (cdv ct : Value) (us : List Value) (hl : us.length = (["delays", "most", "first"] : List Str).length) : bindArgs (PySem.W.fnOf "first_above" "first_above" (defArgs st_first_above) (defBody st_first_above) (defScope st_first_above) .none kV doc pm an cdv ct) ⟨us, []⟩ = pure ((["delays", "most", "first"] : List Str).zip us) :=
  match us, hl with | [_, _, _], _ => rfl
theorem bn_q40 (kV doc pm : Value) (an : Option Addr) (cdv ct : Value) (us : List Value) (hl : us.length = (["delays", "after"] : List Str).length) : bindArgs (PySem.W.fnOf "total_before" "total_before" (defArgs st_total_before) (defBody st_total_before) (defScope st_total_before) .none kV doc pm an cdv ct) ⟨us, []⟩ = pure ((["delays", "after"] : List Str).zip us) :=
  match us, hl with | [_, _], _ => rfl
theorem bn_q41 (kV doc pm : Value) (an : Option Addr) (cdv ct : Value) (us : List Value) (hl : us.length = (["delays", "first", "last"] : List Str).length) : bindArgs (PySem.W.fnOf "total_delay" "total_delay" (defArgs st_total_delay) (defBody st_total_delay) (defScope st_total_delay) .none kV doc pm an cdv ct) ⟨us, []⟩ = pure ((["delays", "first", "last"] : List Str).zip us) :=
  match us, hl with | [_, _, _], _ => rfl
theorem bn_q42 (kV doc pm : Value) (an : Option Addr) (cdv ct : Value) (us : List Value) (hl : us.length = (["delays", "first", "last"] : List Str).length) : bindArgs (PySem.W.fnOf "mean_delay" "mean_delay" (defArgs st_mean_delay) (defBody st_mean_delay) (defScope st_mean_delay) .none kV doc pm an cdv ct) ⟨us, []⟩ = pure ((["delays", "first", "last"] : List Str).zip us) :=
  match us, hl with | [_, _, _], _ => rfl
theorem bn_q43 (kV doc pm : Value) (an : Option Addr) (cdv ct : Value) (us : List Value) (hl : us.length = (["delays", "most", "after"] : List Str).length) : bindArgs (PySem.W.fnOf "within_before" "within_before" (defArgs st_within_before) (defBody st_within_before) (defScope st_within_before) .none kV doc pm an cdv ct) ⟨us, []⟩ = pure ((["delays", "most", "after"] : List Str).zip us) :=
  match us, hl with | [_, _, _], _ => rfl
theorem bn_q44 (kV doc pm : Value) (an : Option Addr) (cdv ct : Value) (us : List Value) (hl : us.length = (["delays", "most", "first", "last"] : List Str).length) : bindArgs (PySem.W.fnOf "count_within" "count_within" (defArgs st_count_within) (defBody st_count_within) (defScope st_count_within) .none kV doc pm an cdv ct) ⟨us, []⟩ = pure ((["delays", "most", "first", "last"] : List Str).zip us) :=
  match us, hl with | [_, _, _, _], _ => rfl
theorem bn_q45 (kV doc pm : Value) (an : Option Addr) (cdv ct : Value) (us : List Value) (hl : us.length = (["delays"] : List Str).length) : bindArgs (PySem.W.fnOf "settled" "settled" (defArgs st_settled) (defBody st_settled) (defScope st_settled) .none kV doc pm an cdv ct) ⟨us, []⟩ = pure ((["delays"] : List Str).zip us) :=
  match us, hl with | [_], _ => rfl
theorem bn_q46 (kV doc pm : Value) (an : Option Addr) (cdv ct : Value) (us : List Value) (hl : us.length = (["_law_cell", "_law_k"] : List Str).length) : bindArgs (PySem.W.fnOf "_law_mixed" "_law_mixed" (defArgs st__law_mixed) (defBody st__law_mixed) (defScope st__law_mixed) .none kV doc pm an cdv ct) ⟨us, []⟩ = pure ((["_law_cell", "_law_k"] : List Str).zip us) :=
  match us, hl with | [_, _], _ => rfl
theorem bn_q47 (kV doc pm : Value) (an : Option Addr) (cdv ct : Value) (us : List Value) (hl : us.length = (["_law_cell"] : List Str).length) : bindArgs (PySem.W.fnOf "_law_well" "_law_well" (defArgs st__law_well) (defBody st__law_well) (defScope st__law_well) .none kV doc pm an cdv ct) ⟨us, []⟩ = pure ((["_law_cell"] : List Str).zip us) :=
  match us, hl with | [_], _ => rfl
theorem bn_q48 (kV doc pm : Value) (an : Option Addr) (cdv ct : Value) (us : List Value) (hl : us.length = (["_law_well_here", "_law_many"] : List Str).length) : bindArgs (PySem.W.fnOf "_law_draw" "_law_draw" (defArgs st__law_draw) (defBody st__law_draw) (defScope st__law_draw) .none kV doc pm an cdv ct) ⟨us, []⟩ = pure ((["_law_well_here", "_law_many"] : List Str).zip us) :=
  match us, hl with | [_, _], _ => rfl
theorem bn_q49 (kV doc pm : Value) (an : Option Addr) (cdv ct : Value) (us : List Value) (hl : us.length = (["_law_well_here", "_law_some"] : List Str).length) : bindArgs (PySem.W.fnOf "_law_one" "_law_one" (defArgs st__law_one) (defBody st__law_one) (defScope st__law_one) .none kV doc pm an cdv ct) ⟨us, []⟩ = pure ((["_law_well_here", "_law_some"] : List Str).zip us) :=
  match us, hl with | [_, _], _ => rfl
theorem bn_q50 (kV doc pm : Value) (an : Option Addr) (cdv ct : Value) (us : List Value) (hl : us.length = (["_law_well_here"] : List Str).length) : bindArgs (PySem.W.fnOf "_law_row" "_law_row" (defArgs st__law_row) (defBody st__law_row) (defScope st__law_row) .none kV doc pm an cdv ct) ⟨us, []⟩ = pure ((["_law_well_here"] : List Str).zip us) :=
  match us, hl with | [_], _ => rfl
theorem bn_q51 (kV doc pm : Value) (an : Option Addr) (cdv ct : Value) (us : List Value) (hl : us.length = (["_law_well_here", "_law_most"] : List Str).length) : bindArgs (PySem.W.fnOf "_law_downs" "_law_downs" (defArgs st__law_downs) (defBody st__law_downs) (defScope st__law_downs) .none kV doc pm an cdv ct) ⟨us, []⟩ = pure ((["_law_well_here", "_law_most"] : List Str).zip us) :=
  match us, hl with | [_, _], _ => rfl
theorem bn_q52 (kV doc pm : Value) (an : Option Addr) (cdv ct : Value) (us : List Value) (hl : us.length = (["_law_line"] : List Str).length) : bindArgs (PySem.W.fnOf "_law_made" "_law_made" (defArgs st__law_made) (defBody st__law_made) (defScope st__law_made) .none kV doc pm an cdv ct) ⟨us, []⟩ = pure ((["_law_line"] : List Str).zip us) :=
  match us, hl with | [_], _ => rfl
theorem bn_q53 (kV doc pm : Value) (an : Option Addr) (cdv ct : Value) (us : List Value) (hl : us.length = (["_law_well_here", "_law_downs_here"] : List Str).length) : bindArgs (PySem.W.fnOf "_law_begin" "_law_begin" (defArgs st__law_begin) (defBody st__law_begin) (defScope st__law_begin) .none kV doc pm an cdv ct) ⟨us, []⟩ = pure ((["_law_well_here", "_law_downs_here"] : List Str).zip us) :=
  match us, hl with | [_, _], _ => rfl
theorem bn_q54 (kV doc pm : Value) (an : Option Addr) (cdv ct : Value) (us : List Value) (hl : us.length = (["_law_told", "_law_rows", "_law_most"] : List Str).length) : bindArgs (PySem.W.fnOf "_law_window_right" "_law_window_right" (defArgs st__law_window_right) (defBody st__law_window_right) (defScope st__law_window_right) .none kV doc pm an cdv ct) ⟨us, []⟩ = pure ((["_law_told", "_law_rows", "_law_most"] : List Str).zip us) :=
  match us, hl with | [_, _, _], _ => rfl
theorem bn_q55 (kV doc pm : Value) (an : Option Addr) (cdv ct : Value) (us : List Value) (hl : us.length = (["_law_well_here"] : List Str).length) : bindArgs (PySem.W.fnOf "_law_right" "_law_right" (defArgs st__law_right) (defBody st__law_right) (defScope st__law_right) .none kV doc pm an cdv ct) ⟨us, []⟩ = pure ((["_law_well_here"] : List Str).zip us) :=
  match us, hl with | [_], _ => rfl
theorem bn_q56 (kV doc pm : Value) (an : Option Addr) (cdv ct : Value) (us : List Value) (hl : us.length = (["self"] : List Str).length) : bindArgs (PySem.W.fnOf "breaker_list" "Row.breaker_list" (defArgs st_Row_breaker_list) (defBody st_Row_breaker_list) (defScope st_Row_breaker_list) .none kV doc pm an cdv ct) ⟨us, []⟩ = pure ((["self"] : List Str).zip us) :=
  match us, hl with | [_], _ => rfl
theorem bn_q57 (kV doc pm : Value) (an : Option Addr) (cdv ct : Value) (us : List Value) (hl : us.length = (["self"] : List Str).length) : bindArgs (PySem.W.fnOf "step_length" "Row.step_length" (defArgs st_Row_step_length) (defBody st_Row_step_length) (defScope st_Row_step_length) .none kV doc pm an cdv ct) ⟨us, []⟩ = pure ((["self"] : List Str).zip us) :=
  match us, hl with | [_], _ => rfl
theorem bn_q58 (kV doc pm : Value) (an : Option Addr) (cdv ct : Value) (us : List Value) (hl : us.length = (["self"] : List Str).length) : bindArgs (PySem.W.fnOf "phase_time" "Row.phase_time" (defArgs st_Row_phase_time) (defBody st_Row_phase_time) (defScope st_Row_phase_time) .none kV doc pm an cdv ct) ⟨us, []⟩ = pure ((["self"] : List Str).zip us) :=
  match us, hl with | [_], _ => rfl
theorem bn_q59 (kV doc pm : Value) (an : Option Addr) (cdv ct : Value) (us : List Value) (hl : us.length = (["self"] : List Str).length) : bindArgs (PySem.W.fnOf "__len__" "Row.__len__" (defArgs st_Row_len) (defBody st_Row_len) (defScope st_Row_len) .none kV doc pm an cdv ct) ⟨us, []⟩ = pure ((["self"] : List Str).zip us) :=
  match us, hl with | [_], _ => rfl
theorem bn_q60 (kV doc pm : Value) (an : Option Addr) (cdv ct : Value) (us : List Value) (hl : us.length = (["self", "at"] : List Str).length) : bindArgs (PySem.W.fnOf "__getitem__" "Row.__getitem__" (defArgs st_Row_getitem) (defBody st_Row_getitem) (defScope st_Row_getitem) .none kV doc pm an cdv ct) ⟨us, []⟩ = pure ((["self", "at"] : List Str).zip us) :=
  match us, hl with | [_, _], _ => rfl
theorem bn_q61 (kV doc pm : Value) (an : Option Addr) (cdv ct : Value) (us : List Value) (hl : us.length = (["self", "x"] : List Str).length) : bindArgs (PySem.W.fnOf "__contains__" "Row.__contains__" (defArgs st_Row_contains) (defBody st_Row_contains) (defScope st_Row_contains) .none kV doc pm an cdv ct) ⟨us, []⟩ = pure ((["self", "x"] : List Str).zip us) :=
  match us, hl with | [_, _], _ => rfl
theorem bn_q62 (kV doc pm : Value) (an : Option Addr) (cdv ct : Value) (us : List Value) (hl : us.length = (["self", "other"] : List Str).length) : bindArgs (PySem.W.fnOf "__add__" "Row.__add__" (defArgs st_Row_add) (defBody st_Row_add) (defScope st_Row_add) .none kV doc pm an cdv ct) ⟨us, []⟩ = pure ((["self", "other"] : List Str).zip us) :=
  match us, hl with | [_, _], _ => rfl
theorem bn_q63 (kV doc pm : Value) (an : Option Addr) (cdv ct : Value) (us : List Value) (hl : us.length = (["self", "other"] : List Str).length) : bindArgs (PySem.W.fnOf "__eq__" "Row.__eq__" (defArgs st_Row_eq) (defBody st_Row_eq) (defScope st_Row_eq) .none kV doc pm an cdv ct) ⟨us, []⟩ = pure ((["self", "other"] : List Str).zip us) :=
  match us, hl with | [_, _], _ => rfl
theorem bn_NSpell (kV doc pm : Value) (an : Option Addr) (cdv ct : Value) (us : List Value) (hl : us.length = (["self", "first", "recovered", "begun", "runs", "opened"] : List Str).length) : bindArgs (PySem.W.fnOf "__init__" "Spell.__init__" (defArgs st_Spell_init) (defBody st_Spell_init) (defScope st_Spell_init) .none kV doc pm an cdv ct) ⟨us, []⟩ = pure ((["self", "first", "recovered", "begun", "runs", "opened"] : List Str).zip us) :=
  match us, hl with | [_, _, _, _, _, _], _ => rfl
theorem bn_NDelays (kV doc pm : Value) (an : Option Addr) (cdv ct : Value) (us : List Value) (hl : us.length = (["self", "row", "outages", "begin"] : List Str).length) : bindArgs (PySem.W.fnOf "__init__" "Delays.__init__" (defArgs st_Delays_init) (defBody st_Delays_init) (defScope st_Delays_init) .none kV doc pm an cdv ct) ⟨us, []⟩ = pure ((["self", "row", "outages", "begin"] : List Str).zip us) :=
  match us, hl with | [_, _, _, _], _ => rfl
theorem bn_q64 (kV doc pm : Value) (an : Option Addr) (cdv ct : Value) (us : List Value) (hl : us.length = (["self", "at"] : List Str).length) : bindArgs (PySem.W.fnOf "__getitem__" "Delays.__getitem__" (defArgs st_Delays_getitem) (defBody st_Delays_getitem) (defScope st_Delays_getitem) .none kV doc pm an cdv ct) ⟨us, []⟩ = pure ((["self", "at"] : List Str).zip us) :=
  match us, hl with | [_, _], _ => rfl
theorem mk_dfn {K : PySem.W.Frag} {h : Heap} {mg : Str → Option Value} {x : Str} {st : Stmt} {f : Addr} {ps : List Str} {oc : Value} {od an : Option Addr} {sl : Array (Option Value)} {kV dc pm cd ct : Value} (X : K.In h) (G : h.Ns mainGlobals mg) (a : PySem.W.nsIn K mainGlobals x = some (some (.ref f)))
    (l : K.lookup f = some ⟨oc, od, .func (PySem.W.fnOf x x (defArgs st) (defBody st) (defScope st) .none kV dc pm an cd ct), sl⟩) (c : PySem.W.codeIn K cd x = true) (k : PySem.W.keepIn K (.ref f) = true)
    (hb : ∀ (kV doc pm : Value) (an : Option Addr) (cdv ct : Value) (us : List Value), us.length = ps.length → bindArgs (PySem.W.fnOf x x (defArgs st) (defBody st) (defScope st) .none kV doc pm an cdv ct) ⟨us, []⟩ = pure (ps.zip us)) : Dfn K mg x st f ps :=
  ⟨⟨_, fun_mk l c k, (fun_mk l c k).binds hb⟩, PySem.W.mg_of X G a⟩
theorem mk_mth {K : PySem.W.Frag} {C : Addr} {x q : Str} {st : Stmt} {f : Addr} {ps : List Str} {oc : Value} {od an : Option Addr} {sl : Array (Option Value)} {kV dc pm cd ct : Value} (a : PySem.W.findIn K (.ref C) x = some (some (.ref f))) (i : PySem.W.isFn K (.ref f) = true) (fk : PySem.W.fnIn K f = true)
    (l : K.lookup f = some ⟨oc, od, .func (PySem.W.fnOf x q (defArgs st) (defBody st) (defScope st) .none kV dc pm an cd ct), sl⟩) (c : PySem.W.codeIn K cd q = true) (k : PySem.W.keepIn K (.ref f) = true)
    (hb : ∀ (kV doc pm : Value) (an : Option Addr) (cdv ct : Value) (us : List Value), us.length = ps.length → bindArgs (PySem.W.fnOf x q (defArgs st) (defBody st) (defScope st) .none kV doc pm an cdv ct) ⟨us, []⟩ = pure (ps.zip us)) : Mth K C x q st f ps :=
  ⟨⟨_, fun_mk l c k, (fun_mk l c k).binds hb⟩, a, i, fk⟩
set_option maxHeartbeats 16000000 in
theorem all_mk {P : Program} {w : World} {K : PySem.W.Frag} {h : Heap} {mg : Str → Option Value} {lv : List (Str × PySem.W.WData)} {fa aLaw fq0 fq1 fq2 fq3 fq4 fq5 fq6 fq7 fq8 fq9 fq10 fq11 fq12 fq13 fq14 fq15 fq16 fq17 fq18 fq19 fq20 fq21 fq22 fq23 fq24 fq25 fq26 fq27 fq28 fq29 fq30 fq31 fq32 fq33 fq34 fq35 fq36 fq37 fq38 fq39 fq40 fq41 fq42 fq43 fq44 fq45 fq46 fq47 fq48 fq49 fq50 fq51 fq52 fq53 fq54 fq55 CRow aIRow aDRow fq56 fq57 fq58 fq59 fq60 fq61 fq62 fq63 CSpell aISpell CDelays aIDelays fq64 : Addr} {tkRow tNMOST_BREAKERS tNMOST_OUTAGES : Tok} {odq0 anq0 odq1 anq1 odq2 anq2 odq3 anq3 odq4 anq4 odq5 anq5 odq6 anq6 odq7 anq7 odq8 anq8 odq9 anq9 odq10 anq10 odq11 anq11 odq12 anq12 odq13 anq13 odq14 anq14 odq15 anq15 odq16 anq16 odq17 anq17 odq18 anq18 odq19 anq19 odq20 anq20 odq21 anq21 odq22 anq22 odq23 anq23 odq24 anq24 odq25 anq25 odq26 anq26 odq27 anq27 odq28 anq28 odq29 anq29 odq30 anq30 odq31 anq31 odq32 anq32 odq33 anq33 odq34 anq34 odq35 anq35 odq36 anq36 odq37 anq37 odq38 anq38 odq39 anq39 odq40 anq40 odq41 anq41 odq42 anq42 odq43 anq43 odq44 anq44 odq45 anq45 odq46 anq46 odq47 anq47 odq48 anq48 odq49 anq49 odq50 anq50 odq51 anq51 odq52 anq52 odq53 anq53 odq54 anq54 odq55 anq55 odq56 anq56 odq57 anq57 odq58 anq58 odq59 anq59 odq60 anq60 odq61 anq61 odq62 anq62 odq63 anq63 odq64 anq64 odY anY odNRow anNRow odNSpell anNSpell odNDelays anNDelays : Option Addr} {slq0 slq1 slq2 slq3 slq4 slq5 slq6 slq7 slq8 slq9 slq10 slq11 slq12 slq13 slq14 slq15 slq16 slq17 slq18 slq19 slq20 slq21 slq22 slq23 slq24 slq25 slq26 slq27 slq28 slq29 slq30 slq31 slq32 slq33 slq34 slq35 slq36 slq37 slq38 slq39 slq40 slq41 slq42 slq43 slq44 slq45 slq46 slq47 slq48 slq49 slq50 slq51 slq52 slq53 slq54 slq55 slq56 slq57 slq58 slq59 slq60 slq61 slq62 slq63 slq64 slY slNRow slNSpell slNDelays : Array (Option Value)} {ocq0 kVq0 dcq0 pmq0 cdq0 ctq0 ocq1 kVq1 dcq1 pmq1 cdq1 ctq1 ocq2 kVq2 dcq2 pmq2 cdq2 ctq2 ocq3 kVq3 dcq3 pmq3 cdq3 ctq3 ocq4 kVq4 dcq4 pmq4 cdq4 ctq4 ocq5 kVq5 dcq5 pmq5 cdq5 ctq5 ocq6 kVq6 dcq6 pmq6 cdq6 ctq6 ocq7 kVq7 dcq7 pmq7 cdq7 ctq7 ocq8 kVq8 dcq8 pmq8 cdq8 ctq8 ocq9 kVq9 dcq9 pmq9 cdq9 ctq9 ocq10 kVq10 dcq10 pmq10 cdq10 ctq10 ocq11 kVq11 dcq11 pmq11 cdq11 ctq11 ocq12 kVq12 dcq12 pmq12 cdq12 ctq12 ocq13 kVq13 dcq13 pmq13 cdq13 ctq13 ocq14 kVq14 dcq14 pmq14 cdq14 ctq14 ocq15 kVq15 dcq15 pmq15 cdq15 ctq15 ocq16 kVq16 dcq16 pmq16 cdq16 ctq16 ocq17 kVq17 dcq17 pmq17 cdq17 ctq17 ocq18 kVq18 dcq18 pmq18 cdq18 ctq18 ocq19 kVq19 dcq19 pmq19 cdq19 ctq19 ocq20 kVq20 dcq20 pmq20 cdq20 ctq20 ocq21 kVq21 dcq21 pmq21 cdq21 ctq21 ocq22 kVq22 dcq22 pmq22 cdq22 ctq22 ocq23 kVq23 dcq23 pmq23 cdq23 ctq23 ocq24 kVq24 dcq24 pmq24 cdq24 ctq24 ocq25 kVq25 dcq25 pmq25 cdq25 ctq25 ocq26 kVq26 dcq26 pmq26 cdq26 ctq26 ocq27 kVq27 dcq27 pmq27 cdq27 ctq27 ocq28 kVq28 dcq28 pmq28 cdq28 ctq28 ocq29 kVq29 dcq29 pmq29 cdq29 ctq29 ocq30 kVq30 dcq30 pmq30 cdq30 ctq30 ocq31 kVq31 dcq31 pmq31 cdq31 ctq31 ocq32 kVq32 dcq32 pmq32 cdq32 ctq32 ocq33 kVq33 dcq33 pmq33 cdq33 ctq33 ocq34 kVq34 dcq34 pmq34 cdq34 ctq34 ocq35 kVq35 dcq35 pmq35 cdq35 ctq35 ocq36 kVq36 dcq36 pmq36 cdq36 ctq36 ocq37 kVq37 dcq37 pmq37 cdq37 ctq37 ocq38 kVq38 dcq38 pmq38 cdq38 ctq38 ocq39 kVq39 dcq39 pmq39 cdq39 ctq39 ocq40 kVq40 dcq40 pmq40 cdq40 ctq40 ocq41 kVq41 dcq41 pmq41 cdq41 ctq41 ocq42 kVq42 dcq42 pmq42 cdq42 ctq42 ocq43 kVq43 dcq43 pmq43 cdq43 ctq43 ocq44 kVq44 dcq44 pmq44 cdq44 ctq44 ocq45 kVq45 dcq45 pmq45 cdq45 ctq45 ocq46 kVq46 dcq46 pmq46 cdq46 ctq46 ocq47 kVq47 dcq47 pmq47 cdq47 ctq47 ocq48 kVq48 dcq48 pmq48 cdq48 ctq48 ocq49 kVq49 dcq49 pmq49 cdq49 ctq49 ocq50 kVq50 dcq50 pmq50 cdq50 ctq50 ocq51 kVq51 dcq51 pmq51 cdq51 ctq51 ocq52 kVq52 dcq52 pmq52 cdq52 ctq52 ocq53 kVq53 dcq53 pmq53 cdq53 ctq53 ocq54 kVq54 dcq54 pmq54 cdq54 ctq54 ocq55 kVq55 dcq55 pmq55 cdq55 ctq55 ocq56 kVq56 dcq56 pmq56 cdq56 ctq56 ocq57 kVq57 dcq57 pmq57 cdq57 ctq57 ocq58 kVq58 dcq58 pmq58 cdq58 ctq58 ocq59 kVq59 dcq59 pmq59 cdq59 ctq59 ocq60 kVq60 dcq60 pmq60 cdq60 ctq60 ocq61 kVq61 dcq61 pmq61 cdq61 ctq61 ocq62 kVq62 dcq62 pmq62 cdq62 ctq62 ocq63 kVq63 dcq63 pmq63 cdq63 ctq63 ocq64 kVq64 dcq64 pmq64 cdq64 ctq64 ocY kVY dcY pmY cdY ctY ocNRow dcNRow pmNRow cdNRow ctNRow ocNSpell dcNSpell pmNSpell cdNSpell ctNSpell kVNSpell ocNDelays dcNDelays pmNDelays cdNDelays ctNDelays kVNDelays : Value}
    (X : K.In h) (G : h.Ns mainGlobals mg) (LL : PySem.W.LooseAre lv mg h) (hLMOST_COUNT : (("MOST_COUNT" : Str), PySem.W.WData.int 1000000000000) ∈ lv) (hLMOST_TIME : (("MOST_TIME" : Str), PySem.W.WData.int 1000000000000000000000000000000) ∈ lv) (hfa : mg "law" = some (.ref fa))
    (aq0 : PySem.W.nsIn K mainGlobals "_wall" = some (some (.ref fq0)))
    (lq0 : K.lookup fq0 = some ⟨ocq0, odq0, .func (PySem.W.fnOf "_wall" "_wall" (defArgs st__wall) (defBody st__wall) (defScope st__wall) .none kVq0 dcq0 pmq0 anq0 cdq0 ctq0), slq0⟩)
    (cq0 : PySem.W.codeIn K cdq0 "_wall" = true)
    (kq0 : PySem.W.keepIn K (.ref fq0) = true)
    (aq1 : PySem.W.nsIn K mainGlobals "is_integer" = some (some (.ref fq1)))
    (lq1 : K.lookup fq1 = some ⟨ocq1, odq1, .func (PySem.W.fnOf "is_integer" "is_integer" (defArgs st_is_integer) (defBody st_is_integer) (defScope st_is_integer) .none kVq1 dcq1 pmq1 anq1 cdq1 ctq1), slq1⟩)
    (cq1 : PySem.W.codeIn K cdq1 "is_integer" = true)
    (kq1 : PySem.W.keepIn K (.ref fq1) = true)
    (aq2 : PySem.W.nsIn K mainGlobals "is_at_least" = some (some (.ref fq2)))
    (lq2 : K.lookup fq2 = some ⟨ocq2, odq2, .func (PySem.W.fnOf "is_at_least" "is_at_least" (defArgs st_is_at_least) (defBody st_is_at_least) (defScope st_is_at_least) .none kVq2 dcq2 pmq2 anq2 cdq2 ctq2), slq2⟩)
    (cq2 : PySem.W.codeIn K cdq2 "is_at_least" = true)
    (kq2 : PySem.W.keepIn K (.ref fq2) = true)
    (aq3 : PySem.W.nsIn K mainGlobals "is_within" = some (some (.ref fq3)))
    (lq3 : K.lookup fq3 = some ⟨ocq3, odq3, .func (PySem.W.fnOf "is_within" "is_within" (defArgs st_is_within) (defBody st_is_within) (defScope st_is_within) .none kVq3 dcq3 pmq3 anq3 cdq3 ctq3), slq3⟩)
    (cq3 : PySem.W.codeIn K cdq3 "is_within" = true)
    (kq3 : PySem.W.keepIn K (.ref fq3) = true)
    (aq4 : PySem.W.nsIn K mainGlobals "steps_to" = some (some (.ref fq4)))
    (lq4 : K.lookup fq4 = some ⟨ocq4, odq4, .func (PySem.W.fnOf "steps_to" "steps_to" (defArgs st_steps_to) (defBody st_steps_to) (defScope st_steps_to) .none kVq4 dcq4 pmq4 anq4 cdq4 ctq4), slq4⟩)
    (cq4 : PySem.W.codeIn K cdq4 "steps_to" = true)
    (kq4 : PySem.W.keepIn K (.ref fq4) = true)
    (aq5 : PySem.W.nsIn K mainGlobals "common_divisor" = some (some (.ref fq5)))
    (lq5 : K.lookup fq5 = some ⟨ocq5, odq5, .func (PySem.W.fnOf "common_divisor" "common_divisor" (defArgs st_common_divisor) (defBody st_common_divisor) (defScope st_common_divisor) .none kVq5 dcq5 pmq5 anq5 cdq5 ctq5), slq5⟩)
    (cq5 : PySem.W.codeIn K cdq5 "common_divisor" = true)
    (kq5 : PySem.W.keepIn K (.ref fq5) = true)
    (aq6 : PySem.W.nsIn K mainGlobals "is_breaker" = some (some (.ref fq6)))
    (lq6 : K.lookup fq6 = some ⟨ocq6, odq6, .func (PySem.W.fnOf "is_breaker" "is_breaker" (defArgs st_is_breaker) (defBody st_is_breaker) (defScope st_is_breaker) .none kVq6 dcq6 pmq6 anq6 cdq6 ctq6), slq6⟩)
    (cq6 : PySem.W.codeIn K cdq6 "is_breaker" = true)
    (kq6 : PySem.W.keepIn K (.ref fq6) = true)
    (aq7 : PySem.W.nsIn K mainGlobals "check_breakers" = some (some (.ref fq7)))
    (lq7 : K.lookup fq7 = some ⟨ocq7, odq7, .func (PySem.W.fnOf "check_breakers" "check_breakers" (defArgs st_check_breakers) (defBody st_check_breakers) (defScope st_check_breakers) .none kVq7 dcq7 pmq7 anq7 cdq7 ctq7), slq7⟩)
    (cq7 : PySem.W.codeIn K cdq7 "check_breakers" = true)
    (kq7 : PySem.W.keepIn K (.ref fq7) = true)
    (aq8 : PySem.W.nsIn K mainGlobals "check_step" = some (some (.ref fq8)))
    (lq8 : K.lookup fq8 = some ⟨ocq8, odq8, .func (PySem.W.fnOf "check_step" "check_step" (defArgs st_check_step) (defBody st_check_step) (defScope st_check_step) .none kVq8 dcq8 pmq8 anq8 cdq8 ctq8), slq8⟩)
    (cq8 : PySem.W.codeIn K cdq8 "check_step" = true)
    (kq8 : PySem.W.keepIn K (.ref fq8) = true)
    (aq9 : PySem.W.nsIn K mainGlobals "request_time" = some (some (.ref fq9)))
    (lq9 : K.lookup fq9 = some ⟨ocq9, odq9, .func (PySem.W.fnOf "request_time" "request_time" (defArgs st_request_time) (defBody st_request_time) (defScope st_request_time) .none kVq9 dcq9 pmq9 anq9 cdq9 ctq9), slq9⟩)
    (cq9 : PySem.W.codeIn K cdq9 "request_time" = true)
    (kq9 : PySem.W.keepIn K (.ref fq9) = true)
    (aq10 : PySem.W.nsIn K mainGlobals "first_request" = some (some (.ref fq10)))
    (lq10 : K.lookup fq10 = some ⟨ocq10, odq10, .func (PySem.W.fnOf "first_request" "first_request" (defArgs st_first_request) (defBody st_first_request) (defScope st_first_request) .none kVq10 dcq10 pmq10 anq10 cdq10 ctq10), slq10⟩)
    (cq10 : PySem.W.codeIn K cdq10 "first_request" = true)
    (kq10 : PySem.W.keepIn K (.ref fq10) = true)
    (aq11 : PySem.W.nsIn K mainGlobals "last_time" = some (some (.ref fq11)))
    (lq11 : K.lookup fq11 = some ⟨ocq11, odq11, .func (PySem.W.fnOf "last_time" "last_time" (defArgs st_last_time) (defBody st_last_time) (defScope st_last_time) .none kVq11 dcq11 pmq11 anq11 cdq11 ctq11), slq11⟩)
    (cq11 : PySem.W.codeIn K cdq11 "last_time" = true)
    (kq11 : PySem.W.keepIn K (.ref fq11) = true)
    (aq12 : PySem.W.nsIn K mainGlobals "times_before" = some (some (.ref fq12)))
    (lq12 : K.lookup fq12 = some ⟨ocq12, odq12, .func (PySem.W.fnOf "times_before" "times_before" (defArgs st_times_before) (defBody st_times_before) (defScope st_times_before) .none kVq12 dcq12 pmq12 anq12 cdq12 ctq12), slq12⟩)
    (cq12 : PySem.W.codeIn K cdq12 "times_before" = true)
    (kq12 : PySem.W.keepIn K (.ref fq12) = true)
    (aq13 : PySem.W.nsIn K mainGlobals "part_of" = some (some (.ref fq13)))
    (lq13 : K.lookup fq13 = some ⟨ocq13, odq13, .func (PySem.W.fnOf "part_of" "part_of" (defArgs st_part_of) (defBody st_part_of) (defScope st_part_of) .none kVq13 dcq13 pmq13 anq13 cdq13 ctq13), slq13⟩)
    (cq13 : PySem.W.codeIn K cdq13 "part_of" = true)
    (kq13 : PySem.W.keepIn K (.ref fq13) = true)
    (aq14 : PySem.W.nsIn K mainGlobals "window_of" = some (some (.ref fq14)))
    (lq14 : K.lookup fq14 = some ⟨ocq14, odq14, .func (PySem.W.fnOf "window_of" "window_of" (defArgs st_window_of) (defBody st_window_of) (defScope st_window_of) .none kVq14 dcq14 pmq14 anq14 cdq14 ctq14), slq14⟩)
    (cq14 : PySem.W.codeIn K cdq14 "window_of" = true)
    (kq14 : PySem.W.keepIn K (.ref fq14) = true)
    (aq15 : PySem.W.nsIn K mainGlobals "thinned_run" = some (some (.ref fq15)))
    (lq15 : K.lookup fq15 = some ⟨ocq15, odq15, .func (PySem.W.fnOf "thinned_run" "thinned_run" (defArgs st_thinned_run) (defBody st_thinned_run) (defScope st_thinned_run) .none kVq15 dcq15 pmq15 anq15 cdq15 ctq15), slq15⟩)
    (cq15 : PySem.W.codeIn K cdq15 "thinned_run" = true)
    (kq15 : PySem.W.keepIn K (.ref fq15) = true)
    (aq16 : PySem.W.nsIn K mainGlobals "window_runs" = some (some (.ref fq16)))
    (lq16 : K.lookup fq16 = some ⟨ocq16, odq16, .func (PySem.W.fnOf "window_runs" "window_runs" (defArgs st_window_runs) (defBody st_window_runs) (defScope st_window_runs) .none kVq16 dcq16 pmq16 anq16 cdq16 ctq16), slq16⟩)
    (cq16 : PySem.W.codeIn K cdq16 "window_runs" = true)
    (kq16 : PySem.W.keepIn K (.ref fq16) = true)
    (aq17 : PySem.W.nsIn K mainGlobals "thinned_runs" = some (some (.ref fq17)))
    (lq17 : K.lookup fq17 = some ⟨ocq17, odq17, .func (PySem.W.fnOf "thinned_runs" "thinned_runs" (defArgs st_thinned_runs) (defBody st_thinned_runs) (defScope st_thinned_runs) .none kVq17 dcq17 pmq17 anq17 cdq17 ctq17), slq17⟩)
    (cq17 : PySem.W.codeIn K cdq17 "thinned_runs" = true)
    (kq17 : PySem.W.keepIn K (.ref fq17) = true)
    (aq18 : PySem.W.nsIn K mainGlobals "divided_runs" = some (some (.ref fq18)))
    (lq18 : K.lookup fq18 = some ⟨ocq18, odq18, .func (PySem.W.fnOf "divided_runs" "divided_runs" (defArgs st_divided_runs) (defBody st_divided_runs) (defScope st_divided_runs) .none kVq18 dcq18 pmq18 anq18 cdq18 ctq18), slq18⟩)
    (cq18 : PySem.W.codeIn K cdq18 "divided_runs" = true)
    (kq18 : PySem.W.keepIn K (.ref fq18) = true)
    (aq19 : PySem.W.nsIn K mainGlobals "time_from" = some (some (.ref fq19)))
    (lq19 : K.lookup fq19 = some ⟨ocq19, odq19, .func (PySem.W.fnOf "time_from" "time_from" (defArgs st_time_from) (defBody st_time_from) (defScope st_time_from) .none kVq19 dcq19 pmq19 anq19 cdq19 ctq19), slq19⟩)
    (cq19 : PySem.W.codeIn K cdq19 "time_from" = true)
    (kq19 : PySem.W.keepIn K (.ref fq19) = true)
    (aq20 : PySem.W.nsIn K mainGlobals "joined" = some (some (.ref fq20)))
    (lq20 : K.lookup fq20 = some ⟨ocq20, odq20, .func (PySem.W.fnOf "joined" "joined" (defArgs st_joined) (defBody st_joined) (defScope st_joined) .none kVq20 dcq20 pmq20 anq20 cdq20 ctq20), slq20⟩)
    (cq20 : PySem.W.codeIn K cdq20 "joined" = true)
    (kq20 : PySem.W.keepIn K (.ref fq20) = true)
    (aq21 : PySem.W.nsIn K mainGlobals "normal_form" = some (some (.ref fq21)))
    (lq21 : K.lookup fq21 = some ⟨ocq21, odq21, .func (PySem.W.fnOf "normal_form" "normal_form" (defArgs st_normal_form) (defBody st_normal_form) (defScope st_normal_form) .none kVq21 dcq21 pmq21 anq21 cdq21 ctq21), slq21⟩)
    (cq21 : PySem.W.codeIn K cdq21 "normal_form" = true)
    (kq21 : PySem.W.keepIn K (.ref fq21) = true)
    (aq22 : PySem.W.nsIn K mainGlobals "with_plain_step" = some (some (.ref fq22)))
    (lq22 : K.lookup fq22 = some ⟨ocq22, odq22, .func (PySem.W.fnOf "with_plain_step" "with_plain_step" (defArgs st_with_plain_step) (defBody st_with_plain_step) (defScope st_with_plain_step) .none kVq22 dcq22 pmq22 anq22 cdq22 ctq22), slq22⟩)
    (cq22 : PySem.W.codeIn K cdq22 "with_plain_step" = true)
    (kq22 : PySem.W.keepIn K (.ref fq22) = true)
    (aq23 : PySem.W.nsIn K mainGlobals "closed_states" = some (some (.ref fq23)))
    (lq23 : K.lookup fq23 = some ⟨ocq23, odq23, .func (PySem.W.fnOf "closed_states" "closed_states" (defArgs st_closed_states) (defBody st_closed_states) (defScope st_closed_states) .none kVq23 dcq23 pmq23 anq23 cdq23 ctq23), slq23⟩)
    (cq23 : PySem.W.codeIn K cdq23 "closed_states" = true)
    (kq23 : PySem.W.keepIn K (.ref fq23) = true)
    (aq24 : PySem.W.nsIn K mainGlobals "spells_of" = some (some (.ref fq24)))
    (lq24 : K.lookup fq24 = some ⟨ocq24, odq24, .func (PySem.W.fnOf "spells_of" "spells_of" (defArgs st_spells_of) (defBody st_spells_of) (defScope st_spells_of) .none kVq24 dcq24 pmq24 anq24 cdq24 ctq24), slq24⟩)
    (cq24 : PySem.W.codeIn K cdq24 "spells_of" = true)
    (kq24 : PySem.W.keepIn K (.ref fq24) = true)
    (aq25 : PySem.W.nsIn K mainGlobals "spell_from" = some (some (.ref fq25)))
    (lq25 : K.lookup fq25 = some ⟨ocq25, odq25, .func (PySem.W.fnOf "spell_from" "spell_from" (defArgs st_spell_from) (defBody st_spell_from) (defScope st_spell_from) .none kVq25 dcq25 pmq25 anq25 cdq25 ctq25), slq25⟩)
    (cq25 : PySem.W.codeIn K cdq25 "spell_from" = true)
    (kq25 : PySem.W.keepIn K (.ref fq25) = true)
    (aq26 : PySem.W.nsIn K mainGlobals "passed_runs" = some (some (.ref fq26)))
    (lq26 : K.lookup fq26 = some ⟨ocq26, odq26, .func (PySem.W.fnOf "passed_runs" "passed_runs" (defArgs st_passed_runs) (defBody st_passed_runs) (defScope st_passed_runs) .none kVq26 dcq26 pmq26 anq26 cdq26 ctq26), slq26⟩)
    (cq26 : PySem.W.codeIn K cdq26 "passed_runs" = true)
    (kq26 : PySem.W.keepIn K (.ref fq26) = true)
    (aq27 : PySem.W.nsIn K mainGlobals "recovery" = some (some (.ref fq27)))
    (lq27 : K.lookup fq27 = some ⟨ocq27, odq27, .func (PySem.W.fnOf "recovery" "recovery" (defArgs st_recovery) (defBody st_recovery) (defScope st_recovery) .none kVq27 dcq27 pmq27 anq27 cdq27 ctq27), slq27⟩)
    (cq27 : PySem.W.codeIn K cdq27 "recovery" = true)
    (kq27 : PySem.W.keepIn K (.ref fq27) = true)
    (aq28 : PySem.W.nsIn K mainGlobals "states_behind" = some (some (.ref fq28)))
    (lq28 : K.lookup fq28 = some ⟨ocq28, odq28, .func (PySem.W.fnOf "states_behind" "states_behind" (defArgs st_states_behind) (defBody st_states_behind) (defScope st_states_behind) .none kVq28 dcq28 pmq28 anq28 cdq28 ctq28), slq28⟩)
    (cq28 : PySem.W.codeIn K cdq28 "states_behind" = true)
    (kq28 : PySem.W.keepIn K (.ref fq28) = true)
    (aq29 : PySem.W.nsIn K mainGlobals "check_outages" = some (some (.ref fq29)))
    (lq29 : K.lookup fq29 = some ⟨ocq29, odq29, .func (PySem.W.fnOf "check_outages" "check_outages" (defArgs st_check_outages) (defBody st_check_outages) (defScope st_check_outages) .none kVq29 dcq29 pmq29 anq29 cdq29 ctq29), slq29⟩)
    (cq29 : PySem.W.codeIn K cdq29 "check_outages" = true)
    (kq29 : PySem.W.keepIn K (.ref fq29) = true)
    (aq30 : PySem.W.nsIn K mainGlobals "is_outage" = some (some (.ref fq30)))
    (lq30 : K.lookup fq30 = some ⟨ocq30, odq30, .func (PySem.W.fnOf "is_outage" "is_outage" (defArgs st_is_outage) (defBody st_is_outage) (defScope st_is_outage) .none kVq30 dcq30 pmq30 anq30 cdq30 ctq30), slq30⟩)
    (cq30 : PySem.W.codeIn K cdq30 "is_outage" = true)
    (kq30 : PySem.W.keepIn K (.ref fq30) = true)
    (aq31 : PySem.W.nsIn K mainGlobals "teeth_of" = some (some (.ref fq31)))
    (lq31 : K.lookup fq31 = some ⟨ocq31, odq31, .func (PySem.W.fnOf "teeth_of" "teeth_of" (defArgs st_teeth_of) (defBody st_teeth_of) (defScope st_teeth_of) .none kVq31 dcq31 pmq31 anq31 cdq31 ctq31), slq31⟩)
    (cq31 : PySem.W.codeIn K cdq31 "teeth_of" = true)
    (kq31 : PySem.W.keepIn K (.ref fq31) = true)
    (aq32 : PySem.W.nsIn K mainGlobals "delay_of" = some (some (.ref fq32)))
    (lq32 : K.lookup fq32 = some ⟨ocq32, odq32, .func (PySem.W.fnOf "delay_of" "delay_of" (defArgs st_delay_of) (defBody st_delay_of) (defScope st_delay_of) .none kVq32 dcq32 pmq32 anq32 cdq32 ctq32), slq32⟩)
    (cq32 : PySem.W.codeIn K cdq32 "delay_of" = true)
    (kq32 : PySem.W.keepIn K (.ref fq32) = true)
    (aq33 : PySem.W.nsIn K mainGlobals "reached_ends" = some (some (.ref fq33)))
    (lq33 : K.lookup fq33 = some ⟨ocq33, odq33, .func (PySem.W.fnOf "reached_ends" "reached_ends" (defArgs st_reached_ends) (defBody st_reached_ends) (defScope st_reached_ends) .none kVq33 dcq33 pmq33 anq33 cdq33 ctq33), slq33⟩)
    (cq33 : PySem.W.codeIn K cdq33 "reached_ends" = true)
    (kq33 : PySem.W.keepIn K (.ref fq33) = true)
    (aq34 : PySem.W.nsIn K mainGlobals "check_first" = some (some (.ref fq34)))
    (lq34 : K.lookup fq34 = some ⟨ocq34, odq34, .func (PySem.W.fnOf "check_first" "check_first" (defArgs st_check_first) (defBody st_check_first) (defScope st_check_first) .none kVq34 dcq34 pmq34 anq34 cdq34 ctq34), slq34⟩)
    (cq34 : PySem.W.codeIn K cdq34 "check_first" = true)
    (kq34 : PySem.W.keepIn K (.ref fq34) = true)
    (aq35 : PySem.W.nsIn K mainGlobals "check_last" = some (some (.ref fq35)))
    (lq35 : K.lookup fq35 = some ⟨ocq35, odq35, .func (PySem.W.fnOf "check_last" "check_last" (defArgs st_check_last) (defBody st_check_last) (defScope st_check_last) .none kVq35 dcq35 pmq35 anq35 cdq35 ctq35), slq35⟩)
    (cq35 : PySem.W.codeIn K cdq35 "check_last" = true)
    (kq35 : PySem.W.keepIn K (.ref fq35) = true)
    (aq36 : PySem.W.nsIn K mainGlobals "check_most" = some (some (.ref fq36)))
    (lq36 : K.lookup fq36 = some ⟨ocq36, odq36, .func (PySem.W.fnOf "check_most" "check_most" (defArgs st_check_most) (defBody st_check_most) (defScope st_check_most) .none kVq36 dcq36 pmq36 anq36 cdq36 ctq36), slq36⟩)
    (cq36 : PySem.W.codeIn K cdq36 "check_most" = true)
    (kq36 : PySem.W.keepIn K (.ref fq36) = true)
    (aq37 : PySem.W.nsIn K mainGlobals "tops" = some (some (.ref fq37)))
    (lq37 : K.lookup fq37 = some ⟨ocq37, odq37, .func (PySem.W.fnOf "tops" "tops" (defArgs st_tops) (defBody st_tops) (defScope st_tops) .none kVq37 dcq37 pmq37 anq37 cdq37 ctq37), slq37⟩)
    (cq37 : PySem.W.codeIn K cdq37 "tops" = true)
    (kq37 : PySem.W.keepIn K (.ref fq37) = true)
    (aq38 : PySem.W.nsIn K mainGlobals "greatest_delay" = some (some (.ref fq38)))
    (lq38 : K.lookup fq38 = some ⟨ocq38, odq38, .func (PySem.W.fnOf "greatest_delay" "greatest_delay" (defArgs st_greatest_delay) (defBody st_greatest_delay) (defScope st_greatest_delay) .none kVq38 dcq38 pmq38 anq38 cdq38 ctq38), slq38⟩)
    (cq38 : PySem.W.codeIn K cdq38 "greatest_delay" = true)
    (kq38 : PySem.W.keepIn K (.ref fq38) = true)
    (aq39 : PySem.W.nsIn K mainGlobals "first_above" = some (some (.ref fq39)))
    (lq39 : K.lookup fq39 = some ⟨ocq39, odq39, .func (PySem.W.fnOf "first_above" "first_above" (defArgs st_first_above) (defBody st_first_above) (defScope st_first_above) .none kVq39 dcq39 pmq39 anq39 cdq39 ctq39), slq39⟩)
    (cq39 : PySem.W.codeIn K cdq39 "first_above" = true)
    (kq39 : PySem.W.keepIn K (.ref fq39) = true)
    (aq40 : PySem.W.nsIn K mainGlobals "total_before" = some (some (.ref fq40)))
    (lq40 : K.lookup fq40 = some ⟨ocq40, odq40, .func (PySem.W.fnOf "total_before" "total_before" (defArgs st_total_before) (defBody st_total_before) (defScope st_total_before) .none kVq40 dcq40 pmq40 anq40 cdq40 ctq40), slq40⟩)
    (cq40 : PySem.W.codeIn K cdq40 "total_before" = true)
    (kq40 : PySem.W.keepIn K (.ref fq40) = true)
    (aq41 : PySem.W.nsIn K mainGlobals "total_delay" = some (some (.ref fq41)))
    (lq41 : K.lookup fq41 = some ⟨ocq41, odq41, .func (PySem.W.fnOf "total_delay" "total_delay" (defArgs st_total_delay) (defBody st_total_delay) (defScope st_total_delay) .none kVq41 dcq41 pmq41 anq41 cdq41 ctq41), slq41⟩)
    (cq41 : PySem.W.codeIn K cdq41 "total_delay" = true)
    (kq41 : PySem.W.keepIn K (.ref fq41) = true)
    (aq42 : PySem.W.nsIn K mainGlobals "mean_delay" = some (some (.ref fq42)))
    (lq42 : K.lookup fq42 = some ⟨ocq42, odq42, .func (PySem.W.fnOf "mean_delay" "mean_delay" (defArgs st_mean_delay) (defBody st_mean_delay) (defScope st_mean_delay) .none kVq42 dcq42 pmq42 anq42 cdq42 ctq42), slq42⟩)
    (cq42 : PySem.W.codeIn K cdq42 "mean_delay" = true)
    (kq42 : PySem.W.keepIn K (.ref fq42) = true)
    (aq43 : PySem.W.nsIn K mainGlobals "within_before" = some (some (.ref fq43)))
    (lq43 : K.lookup fq43 = some ⟨ocq43, odq43, .func (PySem.W.fnOf "within_before" "within_before" (defArgs st_within_before) (defBody st_within_before) (defScope st_within_before) .none kVq43 dcq43 pmq43 anq43 cdq43 ctq43), slq43⟩)
    (cq43 : PySem.W.codeIn K cdq43 "within_before" = true)
    (kq43 : PySem.W.keepIn K (.ref fq43) = true)
    (aq44 : PySem.W.nsIn K mainGlobals "count_within" = some (some (.ref fq44)))
    (lq44 : K.lookup fq44 = some ⟨ocq44, odq44, .func (PySem.W.fnOf "count_within" "count_within" (defArgs st_count_within) (defBody st_count_within) (defScope st_count_within) .none kVq44 dcq44 pmq44 anq44 cdq44 ctq44), slq44⟩)
    (cq44 : PySem.W.codeIn K cdq44 "count_within" = true)
    (kq44 : PySem.W.keepIn K (.ref fq44) = true)
    (aq45 : PySem.W.nsIn K mainGlobals "settled" = some (some (.ref fq45)))
    (lq45 : K.lookup fq45 = some ⟨ocq45, odq45, .func (PySem.W.fnOf "settled" "settled" (defArgs st_settled) (defBody st_settled) (defScope st_settled) .none kVq45 dcq45 pmq45 anq45 cdq45 ctq45), slq45⟩)
    (cq45 : PySem.W.codeIn K cdq45 "settled" = true)
    (kq45 : PySem.W.keepIn K (.ref fq45) = true)
    (aq46 : PySem.W.nsIn K mainGlobals "_law_mixed" = some (some (.ref fq46)))
    (lq46 : K.lookup fq46 = some ⟨ocq46, odq46, .func (PySem.W.fnOf "_law_mixed" "_law_mixed" (defArgs st__law_mixed) (defBody st__law_mixed) (defScope st__law_mixed) .none kVq46 dcq46 pmq46 anq46 cdq46 ctq46), slq46⟩)
    (cq46 : PySem.W.codeIn K cdq46 "_law_mixed" = true)
    (kq46 : PySem.W.keepIn K (.ref fq46) = true)
    (aq47 : PySem.W.nsIn K mainGlobals "_law_well" = some (some (.ref fq47)))
    (lq47 : K.lookup fq47 = some ⟨ocq47, odq47, .func (PySem.W.fnOf "_law_well" "_law_well" (defArgs st__law_well) (defBody st__law_well) (defScope st__law_well) .none kVq47 dcq47 pmq47 anq47 cdq47 ctq47), slq47⟩)
    (cq47 : PySem.W.codeIn K cdq47 "_law_well" = true)
    (kq47 : PySem.W.keepIn K (.ref fq47) = true)
    (aq48 : PySem.W.nsIn K mainGlobals "_law_draw" = some (some (.ref fq48)))
    (lq48 : K.lookup fq48 = some ⟨ocq48, odq48, .func (PySem.W.fnOf "_law_draw" "_law_draw" (defArgs st__law_draw) (defBody st__law_draw) (defScope st__law_draw) .none kVq48 dcq48 pmq48 anq48 cdq48 ctq48), slq48⟩)
    (cq48 : PySem.W.codeIn K cdq48 "_law_draw" = true)
    (kq48 : PySem.W.keepIn K (.ref fq48) = true)
    (aq49 : PySem.W.nsIn K mainGlobals "_law_one" = some (some (.ref fq49)))
    (lq49 : K.lookup fq49 = some ⟨ocq49, odq49, .func (PySem.W.fnOf "_law_one" "_law_one" (defArgs st__law_one) (defBody st__law_one) (defScope st__law_one) .none kVq49 dcq49 pmq49 anq49 cdq49 ctq49), slq49⟩)
    (cq49 : PySem.W.codeIn K cdq49 "_law_one" = true)
    (kq49 : PySem.W.keepIn K (.ref fq49) = true)
    (aq50 : PySem.W.nsIn K mainGlobals "_law_row" = some (some (.ref fq50)))
    (lq50 : K.lookup fq50 = some ⟨ocq50, odq50, .func (PySem.W.fnOf "_law_row" "_law_row" (defArgs st__law_row) (defBody st__law_row) (defScope st__law_row) .none kVq50 dcq50 pmq50 anq50 cdq50 ctq50), slq50⟩)
    (cq50 : PySem.W.codeIn K cdq50 "_law_row" = true)
    (kq50 : PySem.W.keepIn K (.ref fq50) = true)
    (aq51 : PySem.W.nsIn K mainGlobals "_law_downs" = some (some (.ref fq51)))
    (lq51 : K.lookup fq51 = some ⟨ocq51, odq51, .func (PySem.W.fnOf "_law_downs" "_law_downs" (defArgs st__law_downs) (defBody st__law_downs) (defScope st__law_downs) .none kVq51 dcq51 pmq51 anq51 cdq51 ctq51), slq51⟩)
    (cq51 : PySem.W.codeIn K cdq51 "_law_downs" = true)
    (kq51 : PySem.W.keepIn K (.ref fq51) = true)
    (aq52 : PySem.W.nsIn K mainGlobals "_law_made" = some (some (.ref fq52)))
    (lq52 : K.lookup fq52 = some ⟨ocq52, odq52, .func (PySem.W.fnOf "_law_made" "_law_made" (defArgs st__law_made) (defBody st__law_made) (defScope st__law_made) .none kVq52 dcq52 pmq52 anq52 cdq52 ctq52), slq52⟩)
    (cq52 : PySem.W.codeIn K cdq52 "_law_made" = true)
    (kq52 : PySem.W.keepIn K (.ref fq52) = true)
    (aq53 : PySem.W.nsIn K mainGlobals "_law_begin" = some (some (.ref fq53)))
    (lq53 : K.lookup fq53 = some ⟨ocq53, odq53, .func (PySem.W.fnOf "_law_begin" "_law_begin" (defArgs st__law_begin) (defBody st__law_begin) (defScope st__law_begin) .none kVq53 dcq53 pmq53 anq53 cdq53 ctq53), slq53⟩)
    (cq53 : PySem.W.codeIn K cdq53 "_law_begin" = true)
    (kq53 : PySem.W.keepIn K (.ref fq53) = true)
    (aq54 : PySem.W.nsIn K mainGlobals "_law_window_right" = some (some (.ref fq54)))
    (lq54 : K.lookup fq54 = some ⟨ocq54, odq54, .func (PySem.W.fnOf "_law_window_right" "_law_window_right" (defArgs st__law_window_right) (defBody st__law_window_right) (defScope st__law_window_right) .none kVq54 dcq54 pmq54 anq54 cdq54 ctq54), slq54⟩)
    (cq54 : PySem.W.codeIn K cdq54 "_law_window_right" = true)
    (kq54 : PySem.W.keepIn K (.ref fq54) = true)
    (aq55 : PySem.W.nsIn K mainGlobals "_law_right" = some (some (.ref fq55)))
    (lq55 : K.lookup fq55 = some ⟨ocq55, odq55, .func (PySem.W.fnOf "_law_right" "_law_right" (defArgs st__law_right) (defBody st__law_right) (defScope st__law_right) .none kVq55 dcq55 pmq55 anq55 cdq55 ctq55), slq55⟩)
    (cq55 : PySem.W.codeIn K cdq55 "_law_right" = true)
    (kq55 : PySem.W.keepIn K (.ref fq55) = true)
    (gcRow : PySem.W.nsIn K mainGlobals "Row" = some (some (.ref CRow)))
    (gRow0 : PySem.W.plainGet K CRow Str.empty = true)
    (gRow1 : PySem.W.hasDictIn K CRow = true)
    (gRow2 : PySem.W.plainOver K CRow = true)
    (gRow3 : PySem.W.findIn K (.ref CRow) "__setattr__" = some (some (.builtin "object.__setattr__")))
    (gRow4 : PySem.W.makesIn K CRow = true)
    (gRow5 : PySem.W.keepIn K (.ref CRow) = true)
    (gRow6 : PySem.W.isClsIn K CRow = true)
    (gRow7 : PySem.W.typeIn K (.ref CRow) = some (.type "type"))
    (gRow8 : PySem.W.findIn K (.ref CRow) "__class__" = some (some (.builtin "object.__class__")))
    (gRow9 : PySem.W.mroIn K CRow (.type "object") = some true)
    (gRow10 : PySem.W.selfFirst K CRow = true)
    (gRow11 : PySem.W.findIn K (.ref CRow) "__ne__" = some (some (.builtin "object.__ne__")))
    (gO1 : PySem.W.specialIn K (.builtin "object.__class__") "__get__" = some (some (.builtin "getset_descriptor.__get__")))
    (gO2 : PySem.W.takesIn K (.builtin "object.__class__") = some true)
    (nfRow_breakers : PySem.W.findIn K (.ref CRow) "breakers" = some none)
    (nfRow_step : PySem.W.findIn K (.ref CRow) "step" = some none)
    (nfRow_phase : PySem.W.findIn K (.ref CRow) "phase" = some none)
    (aNRow : PySem.W.findIn K (.ref CRow) "__init__" = some (some (.ref aIRow)))
    (iNRow : PySem.W.isFn K (.ref aIRow) = true)
    (lNRow : K.lookup aIRow = some ⟨ocNRow, odNRow, .func (PySem.W.fnOf "__init__" "Row.__init__" (defArgs st_Row_init) (defBody st_Row_init) (defScope st_Row_init) .none (.ref aDRow) dcNRow pmNRow anNRow cdNRow ctNRow), slNRow⟩)
    (cNRow : PySem.W.codeIn K cdNRow "Row.__init__" = true)
    (kNRow : PySem.W.keepIn K (.ref aIRow) = true)
    (dRow : PySem.W.nsIn K aDRow "phase" = some (some (.int 0 tkRow)))
    (aq56 : PySem.W.findIn K (.ref CRow) "breaker_list" = some (some (.ref fq56)))
    (iq56 : PySem.W.isFn K (.ref fq56) = true)
    (nq56 : PySem.W.fnIn K fq56 = true)
    (lq56 : K.lookup fq56 = some ⟨ocq56, odq56, .func (PySem.W.fnOf "breaker_list" "Row.breaker_list" (defArgs st_Row_breaker_list) (defBody st_Row_breaker_list) (defScope st_Row_breaker_list) .none kVq56 dcq56 pmq56 anq56 cdq56 ctq56), slq56⟩)
    (cq56 : PySem.W.codeIn K cdq56 "Row.breaker_list" = true)
    (kq56 : PySem.W.keepIn K (.ref fq56) = true)
    (aq57 : PySem.W.findIn K (.ref CRow) "step_length" = some (some (.ref fq57)))
    (iq57 : PySem.W.isFn K (.ref fq57) = true)
    (nq57 : PySem.W.fnIn K fq57 = true)
    (lq57 : K.lookup fq57 = some ⟨ocq57, odq57, .func (PySem.W.fnOf "step_length" "Row.step_length" (defArgs st_Row_step_length) (defBody st_Row_step_length) (defScope st_Row_step_length) .none kVq57 dcq57 pmq57 anq57 cdq57 ctq57), slq57⟩)
    (cq57 : PySem.W.codeIn K cdq57 "Row.step_length" = true)
    (kq57 : PySem.W.keepIn K (.ref fq57) = true)
    (aq58 : PySem.W.findIn K (.ref CRow) "phase_time" = some (some (.ref fq58)))
    (iq58 : PySem.W.isFn K (.ref fq58) = true)
    (nq58 : PySem.W.fnIn K fq58 = true)
    (lq58 : K.lookup fq58 = some ⟨ocq58, odq58, .func (PySem.W.fnOf "phase_time" "Row.phase_time" (defArgs st_Row_phase_time) (defBody st_Row_phase_time) (defScope st_Row_phase_time) .none kVq58 dcq58 pmq58 anq58 cdq58 ctq58), slq58⟩)
    (cq58 : PySem.W.codeIn K cdq58 "Row.phase_time" = true)
    (kq58 : PySem.W.keepIn K (.ref fq58) = true)
    (aq59 : PySem.W.findIn K (.ref CRow) "__len__" = some (some (.ref fq59)))
    (iq59 : PySem.W.isFn K (.ref fq59) = true)
    (nq59 : PySem.W.fnIn K fq59 = true)
    (lq59 : K.lookup fq59 = some ⟨ocq59, odq59, .func (PySem.W.fnOf "__len__" "Row.__len__" (defArgs st_Row_len) (defBody st_Row_len) (defScope st_Row_len) .none kVq59 dcq59 pmq59 anq59 cdq59 ctq59), slq59⟩)
    (cq59 : PySem.W.codeIn K cdq59 "Row.__len__" = true)
    (kq59 : PySem.W.keepIn K (.ref fq59) = true)
    (aq60 : PySem.W.findIn K (.ref CRow) "__getitem__" = some (some (.ref fq60)))
    (iq60 : PySem.W.isFn K (.ref fq60) = true)
    (nq60 : PySem.W.fnIn K fq60 = true)
    (lq60 : K.lookup fq60 = some ⟨ocq60, odq60, .func (PySem.W.fnOf "__getitem__" "Row.__getitem__" (defArgs st_Row_getitem) (defBody st_Row_getitem) (defScope st_Row_getitem) .none kVq60 dcq60 pmq60 anq60 cdq60 ctq60), slq60⟩)
    (cq60 : PySem.W.codeIn K cdq60 "Row.__getitem__" = true)
    (kq60 : PySem.W.keepIn K (.ref fq60) = true)
    (aq61 : PySem.W.findIn K (.ref CRow) "__contains__" = some (some (.ref fq61)))
    (iq61 : PySem.W.isFn K (.ref fq61) = true)
    (nq61 : PySem.W.fnIn K fq61 = true)
    (lq61 : K.lookup fq61 = some ⟨ocq61, odq61, .func (PySem.W.fnOf "__contains__" "Row.__contains__" (defArgs st_Row_contains) (defBody st_Row_contains) (defScope st_Row_contains) .none kVq61 dcq61 pmq61 anq61 cdq61 ctq61), slq61⟩)
    (cq61 : PySem.W.codeIn K cdq61 "Row.__contains__" = true)
    (kq61 : PySem.W.keepIn K (.ref fq61) = true)
    (aq62 : PySem.W.findIn K (.ref CRow) "__add__" = some (some (.ref fq62)))
    (iq62 : PySem.W.isFn K (.ref fq62) = true)
    (nq62 : PySem.W.fnIn K fq62 = true)
    (lq62 : K.lookup fq62 = some ⟨ocq62, odq62, .func (PySem.W.fnOf "__add__" "Row.__add__" (defArgs st_Row_add) (defBody st_Row_add) (defScope st_Row_add) .none kVq62 dcq62 pmq62 anq62 cdq62 ctq62), slq62⟩)
    (cq62 : PySem.W.codeIn K cdq62 "Row.__add__" = true)
    (kq62 : PySem.W.keepIn K (.ref fq62) = true)
    (aq63 : PySem.W.findIn K (.ref CRow) "__eq__" = some (some (.ref fq63)))
    (iq63 : PySem.W.isFn K (.ref fq63) = true)
    (nq63 : PySem.W.fnIn K fq63 = true)
    (lq63 : K.lookup fq63 = some ⟨ocq63, odq63, .func (PySem.W.fnOf "__eq__" "Row.__eq__" (defArgs st_Row_eq) (defBody st_Row_eq) (defScope st_Row_eq) .none kVq63 dcq63 pmq63 anq63 cdq63 ctq63), slq63⟩)
    (cq63 : PySem.W.codeIn K cdq63 "Row.__eq__" = true)
    (kq63 : PySem.W.keepIn K (.ref fq63) = true)
    (gcSpell : PySem.W.nsIn K mainGlobals "Spell" = some (some (.ref CSpell)))
    (gSpell0 : PySem.W.plainGet K CSpell Str.empty = true)
    (gSpell1 : PySem.W.hasDictIn K CSpell = true)
    (gSpell2 : PySem.W.plainOver K CSpell = true)
    (gSpell3 : PySem.W.findIn K (.ref CSpell) "__setattr__" = some (some (.builtin "object.__setattr__")))
    (gSpell4 : PySem.W.makesIn K CSpell = true)
    (gSpell5 : PySem.W.keepIn K (.ref CSpell) = true)
    (gSpell6 : PySem.W.isClsIn K CSpell = true)
    (gSpell7 : PySem.W.typeIn K (.ref CSpell) = some (.type "type"))
    (gSpell8 : PySem.W.findIn K (.ref CSpell) "__class__" = some (some (.builtin "object.__class__")))
    (gSpell9 : PySem.W.mroIn K CSpell (.type "object") = some true)
    (gSpell10 : PySem.W.selfFirst K CSpell = true)
    (gSpell11 : PySem.W.findIn K (.ref CSpell) "__ne__" = some (some (.builtin "object.__ne__")))
    (nfSpell_first : PySem.W.findIn K (.ref CSpell) "first" = some none)
    (nfSpell_recovered : PySem.W.findIn K (.ref CSpell) "recovered" = some none)
    (nfSpell_begun : PySem.W.findIn K (.ref CSpell) "begun" = some none)
    (nfSpell_runs : PySem.W.findIn K (.ref CSpell) "runs" = some none)
    (nfSpell_opened : PySem.W.findIn K (.ref CSpell) "opened" = some none)
    (aNSpell : PySem.W.findIn K (.ref CSpell) "__init__" = some (some (.ref aISpell)))
    (iNSpell : PySem.W.isFn K (.ref aISpell) = true)
    (lNSpell : K.lookup aISpell = some ⟨ocNSpell, odNSpell, .func (PySem.W.fnOf "__init__" "Spell.__init__" (defArgs st_Spell_init) (defBody st_Spell_init) (defScope st_Spell_init) .none kVNSpell dcNSpell pmNSpell anNSpell cdNSpell ctNSpell), slNSpell⟩)
    (cNSpell : PySem.W.codeIn K cdNSpell "Spell.__init__" = true)
    (kNSpell : PySem.W.keepIn K (.ref aISpell) = true)
    (gcDelays : PySem.W.nsIn K mainGlobals "Delays" = some (some (.ref CDelays)))
    (gDelays0 : PySem.W.plainGet K CDelays Str.empty = true)
    (gDelays1 : PySem.W.hasDictIn K CDelays = true)
    (gDelays2 : PySem.W.plainOver K CDelays = true)
    (gDelays3 : PySem.W.findIn K (.ref CDelays) "__setattr__" = some (some (.builtin "object.__setattr__")))
    (gDelays4 : PySem.W.makesIn K CDelays = true)
    (gDelays5 : PySem.W.keepIn K (.ref CDelays) = true)
    (gDelays6 : PySem.W.isClsIn K CDelays = true)
    (gDelays7 : PySem.W.typeIn K (.ref CDelays) = some (.type "type"))
    (gDelays8 : PySem.W.findIn K (.ref CDelays) "__class__" = some (some (.builtin "object.__class__")))
    (gDelays9 : PySem.W.mroIn K CDelays (.type "object") = some true)
    (gDelays10 : PySem.W.selfFirst K CDelays = true)
    (gDelays11 : PySem.W.findIn K (.ref CDelays) "__ne__" = some (some (.builtin "object.__ne__")))
    (nfDelays_begin : PySem.W.findIn K (.ref CDelays) "begin" = some none)
    (nfDelays_runs : PySem.W.findIn K (.ref CDelays) "runs" = some none)
    (nfDelays_teeth : PySem.W.findIn K (.ref CDelays) "teeth" = some none)
    (aNDelays : PySem.W.findIn K (.ref CDelays) "__init__" = some (some (.ref aIDelays)))
    (iNDelays : PySem.W.isFn K (.ref aIDelays) = true)
    (lNDelays : K.lookup aIDelays = some ⟨ocNDelays, odNDelays, .func (PySem.W.fnOf "__init__" "Delays.__init__" (defArgs st_Delays_init) (defBody st_Delays_init) (defScope st_Delays_init) .none kVNDelays dcNDelays pmNDelays anNDelays cdNDelays ctNDelays), slNDelays⟩)
    (cNDelays : PySem.W.codeIn K cdNDelays "Delays.__init__" = true)
    (kNDelays : PySem.W.keepIn K (.ref aIDelays) = true)
    (aq64 : PySem.W.findIn K (.ref CDelays) "__getitem__" = some (some (.ref fq64)))
    (iq64 : PySem.W.isFn K (.ref fq64) = true)
    (nq64 : PySem.W.fnIn K fq64 = true)
    (lq64 : K.lookup fq64 = some ⟨ocq64, odq64, .func (PySem.W.fnOf "__getitem__" "Delays.__getitem__" (defArgs st_Delays_getitem) (defBody st_Delays_getitem) (defScope st_Delays_getitem) .none kVq64 dcq64 pmq64 anq64 cdq64 ctq64), slq64⟩)
    (cq64 : PySem.W.codeIn K cdq64 "Delays.__getitem__" = true)
    (kq64 : PySem.W.keepIn K (.ref fq64) = true)
    (gNMOST_BREAKERS : PySem.W.nsIn K mainGlobals "MOST_BREAKERS" = some (some (.int 12 tNMOST_BREAKERS)))
    (gNMOST_OUTAGES : PySem.W.nsIn K mainGlobals "MOST_OUTAGES" = some (some (.int 50 tNMOST_OUTAGES)))
    (aY : PySem.W.nsIn K mainGlobals "law" = some (some (.ref aLaw)))
    (lY : K.lookup aLaw = some ⟨ocY, odY, .func (PySem.W.fnOf "law" "law" (defArgs st_law) (defBody st_law) (defScope st_law) .none kVY dcY pmY anY cdY ctY), slY⟩)
    (cY : PySem.W.codeIn K cdY "law" = true)
    (kY : PySem.W.keepIn K (.ref aLaw) = true)
    (z_bool : PySem.W.nsIn K mainGlobals "bool" = some none)
    (z_divmod : PySem.W.nsIn K mainGlobals "divmod" = some none)
    (z_enumerate : PySem.W.nsIn K mainGlobals "enumerate" = some none)
    (z_int : PySem.W.nsIn K mainGlobals "int" = some none)
    (z_isinstance : PySem.W.nsIn K mainGlobals "isinstance" = some none)
    (z_len : PySem.W.nsIn K mainGlobals "len" = some none)
    (z_list : PySem.W.nsIn K mainGlobals "list" = some none)
    (z_max : PySem.W.nsIn K mainGlobals "max" = some none)
    (z_min : PySem.W.nsIn K mainGlobals "min" = some none)
    (z_range : PySem.W.nsIn K mainGlobals "range" = some none)
    (z_sum : PySem.W.nsIn K mainGlobals "sum" = some none)
    (z_tuple : PySem.W.nsIn K mainGlobals "tuple" = some none)
    (z_zip : PySem.W.nsIn K mainGlobals "zip" = some none) :
    ∃ fd : FuncData, (∀ (s : Shared) (v : Value), BindsTo s fd ⟨[v], []⟩ [("_law_script", v)]) ∧ ∀ base : Heap, K.In base → base.Ns mainGlobals mg → FnOk P w K mg base CX0 12 fa fd ["_law_script"] (spLaw K) := by
  have e := hfa.symm.trans (PySem.W.mg_of X G aY)
  cases e
  obtain ⟨vMOST_COUNT, hvMOST_COUNT, rMOST_COUNT⟩ := LL.val _ hLMOST_COUNT
  obtain ⟨tMOST_COUNT, rfl, -⟩ := PySem.W.readsW_int_inv rMOST_COUNT
  obtain ⟨vMOST_TIME, hvMOST_TIME, rMOST_TIME⟩ := LL.val _ hLMOST_TIME
  obtain ⟨tMOST_TIME, rfl, -⟩ := PySem.W.readsW_int_inv rMOST_TIME
  have T : LX K mg ⟨fq0, fq1, fq2, fq3, fq4, fq5, fq6, fq7, fq8, fq9, fq10, fq11, fq12, fq13, fq14, fq15, fq16, fq17, fq18, fq19, fq20, fq21, fq22, fq23, fq24, fq25, fq26, fq27, fq28, fq29, fq30, fq31, fq32, fq33, fq34, fq35, fq36, fq37, fq38, fq39, fq40, fq41, fq42, fq43, fq44, fq45, fq46, fq47, fq48, fq49, fq50, fq51, fq52, fq53, fq54, fq55, CRow, aIRow, fq56, fq57, fq58, fq59, fq60, fq61, fq62, fq63, CSpell, aISpell, CDelays, aIDelays, fq64⟩ := ⟨PySem.W.mg_none_of X G z_bool,
    PySem.W.mg_none_of X G z_divmod,
    PySem.W.mg_none_of X G z_enumerate,
    PySem.W.mg_none_of X G z_int,
    PySem.W.mg_none_of X G z_isinstance,
    PySem.W.mg_none_of X G z_len,
    PySem.W.mg_none_of X G z_list,
    PySem.W.mg_none_of X G z_max,
    PySem.W.mg_none_of X G z_min,
    PySem.W.mg_none_of X G z_range,
    PySem.W.mg_none_of X G z_sum,
    PySem.W.mg_none_of X G z_tuple,
    PySem.W.mg_none_of X G z_zip,
    ⟨_, PySem.W.mg_of X G gNMOST_BREAKERS⟩,
    ⟨_, hvMOST_COUNT⟩,
    ⟨_, hvMOST_TIME⟩,
    ⟨_, PySem.W.mg_of X G gNMOST_OUTAGES⟩,
    mk_dfn X G aq0 lq0 cq0 kq0 bn_q0,
    mk_dfn X G aq1 lq1 cq1 kq1 bn_q1,
    mk_dfn X G aq2 lq2 cq2 kq2 bn_q2,
    mk_dfn X G aq3 lq3 cq3 kq3 bn_q3,
    mk_dfn X G aq4 lq4 cq4 kq4 bn_q4,
    mk_dfn X G aq5 lq5 cq5 kq5 bn_q5,
    mk_dfn X G aq6 lq6 cq6 kq6 bn_q6,
    mk_dfn X G aq7 lq7 cq7 kq7 bn_q7,
    mk_dfn X G aq8 lq8 cq8 kq8 bn_q8,
    mk_dfn X G aq9 lq9 cq9 kq9 bn_q9,
    mk_dfn X G aq10 lq10 cq10 kq10 bn_q10,
    mk_dfn X G aq11 lq11 cq11 kq11 bn_q11,
    mk_dfn X G aq12 lq12 cq12 kq12 bn_q12,
    mk_dfn X G aq13 lq13 cq13 kq13 bn_q13,
    mk_dfn X G aq14 lq14 cq14 kq14 bn_q14,
    mk_dfn X G aq15 lq15 cq15 kq15 bn_q15,
    mk_dfn X G aq16 lq16 cq16 kq16 bn_q16,
    mk_dfn X G aq17 lq17 cq17 kq17 bn_q17,
    mk_dfn X G aq18 lq18 cq18 kq18 bn_q18,
    mk_dfn X G aq19 lq19 cq19 kq19 bn_q19,
    mk_dfn X G aq20 lq20 cq20 kq20 bn_q20,
    mk_dfn X G aq21 lq21 cq21 kq21 bn_q21,
    mk_dfn X G aq22 lq22 cq22 kq22 bn_q22,
    mk_dfn X G aq23 lq23 cq23 kq23 bn_q23,
    mk_dfn X G aq24 lq24 cq24 kq24 bn_q24,
    mk_dfn X G aq25 lq25 cq25 kq25 bn_q25,
    mk_dfn X G aq26 lq26 cq26 kq26 bn_q26,
    mk_dfn X G aq27 lq27 cq27 kq27 bn_q27,
    mk_dfn X G aq28 lq28 cq28 kq28 bn_q28,
    mk_dfn X G aq29 lq29 cq29 kq29 bn_q29,
    mk_dfn X G aq30 lq30 cq30 kq30 bn_q30,
    mk_dfn X G aq31 lq31 cq31 kq31 bn_q31,
    mk_dfn X G aq32 lq32 cq32 kq32 bn_q32,
    mk_dfn X G aq33 lq33 cq33 kq33 bn_q33,
    mk_dfn X G aq34 lq34 cq34 kq34 bn_q34,
    mk_dfn X G aq35 lq35 cq35 kq35 bn_q35,
    mk_dfn X G aq36 lq36 cq36 kq36 bn_q36,
    mk_dfn X G aq37 lq37 cq37 kq37 bn_q37,
    mk_dfn X G aq38 lq38 cq38 kq38 bn_q38,
    mk_dfn X G aq39 lq39 cq39 kq39 bn_q39,
    mk_dfn X G aq40 lq40 cq40 kq40 bn_q40,
    mk_dfn X G aq41 lq41 cq41 kq41 bn_q41,
    mk_dfn X G aq42 lq42 cq42 kq42 bn_q42,
    mk_dfn X G aq43 lq43 cq43 kq43 bn_q43,
    mk_dfn X G aq44 lq44 cq44 kq44 bn_q44,
    mk_dfn X G aq45 lq45 cq45 kq45 bn_q45,
    mk_dfn X G aq46 lq46 cq46 kq46 bn_q46,
    mk_dfn X G aq47 lq47 cq47 kq47 bn_q47,
    mk_dfn X G aq48 lq48 cq48 kq48 bn_q48,
    mk_dfn X G aq49 lq49 cq49 kq49 bn_q49,
    mk_dfn X G aq50 lq50 cq50 kq50 bn_q50,
    mk_dfn X G aq51 lq51 cq51 kq51 bn_q51,
    mk_dfn X G aq52 lq52 cq52 kq52 bn_q52,
    mk_dfn X G aq53 lq53 cq53 kq53 bn_q53,
    mk_dfn X G aq54 lq54 cq54 kq54 bn_q54,
    mk_dfn X G aq55 lq55 cq55 kq55 bn_q55,
    PySem.W.mg_of X G gcRow,
    ⟨⟨gRow0, gRow1, gRow2, gRow3⟩, gRow6, gRow7, gRow8, gO1, gO2, gRow9, gRow10, gRow11⟩,
    ⟨gRow4, aNRow, iNRow, gRow5⟩,
    nfRow_breakers,
    nfRow_step,
    nfRow_phase,
    ⟨_, ⟨⟨ocNRow, odNRow, .none, .ref aDRow, dcNRow, pmNRow, anNRow, cdNRow, ctNRow, slNRow, rfl, lNRow, cNRow, .inl ⟨rfl, rfl⟩, .inr ⟨aDRow, rfl, fun q hq => by rw [List.mem_singleton.mp hq]; exact ⟨_, dRow, _, rfl⟩⟩⟩, kNRow⟩⟩,
    mk_mth aq56 iq56 nq56 lq56 cq56 kq56 bn_q56,
    mk_mth aq57 iq57 nq57 lq57 cq57 kq57 bn_q57,
    mk_mth aq58 iq58 nq58 lq58 cq58 kq58 bn_q58,
    mk_mth aq59 iq59 nq59 lq59 cq59 kq59 bn_q59,
    mk_mth aq60 iq60 nq60 lq60 cq60 kq60 bn_q60,
    mk_mth aq61 iq61 nq61 lq61 cq61 kq61 bn_q61,
    mk_mth aq62 iq62 nq62 lq62 cq62 kq62 bn_q62,
    mk_mth aq63 iq63 nq63 lq63 cq63 kq63 bn_q63,
    PySem.W.mg_of X G gcSpell,
    ⟨⟨gSpell0, gSpell1, gSpell2, gSpell3⟩, gSpell6, gSpell7, gSpell8, gO1, gO2, gSpell9, gSpell10, gSpell11⟩,
    ⟨gSpell4, aNSpell, iNSpell, gSpell5⟩,
    nfSpell_first,
    nfSpell_recovered,
    nfSpell_begun,
    nfSpell_runs,
    nfSpell_opened,
    ⟨_, fun_mk lNSpell cNSpell kNSpell, (fun_mk lNSpell cNSpell kNSpell).binds bn_NSpell⟩,
    PySem.W.mg_of X G gcDelays,
    ⟨⟨gDelays0, gDelays1, gDelays2, gDelays3⟩, gDelays6, gDelays7, gDelays8, gO1, gO2, gDelays9, gDelays10, gDelays11⟩,
    ⟨gDelays4, aNDelays, iNDelays, gDelays5⟩,
    nfDelays_begin,
    nfDelays_runs,
    nfDelays_teeth,
    ⟨_, fun_mk lNDelays cNDelays kNDelays, (fun_mk lNDelays cNDelays kNDelays).binds bn_NDelays⟩,
    mk_mth aq64 iq64 nq64 lq64 cq64 kq64 bn_q64⟩
  exact ⟨_, fun s v => .of_eq rfl, fun base _ _ => ok_law (fun_mk lY cY kY) T⟩
/-- as the hand layer's end, with what the loose names hold -/
theorem walk_loose {l : PySem.W.OpenLaw} {q p : Program} {lv : List (Str × PySem.W.WData)} {loose : List Str} {YP : World → Heap → Prop} {d : DefRec} {K : Params → PySem.W.Frag} (hn : l.most = some 63) (hd : d.params.defaults = []) (hY : ∀ (w : World) (h : Heap), YP w h → (K w.params).In h)
    (F : ∀ (w : World) (mg : Str → Option Value) (fa : Addr) (h : Heap), (K w.params).In h → h.Ns mainGlobals mg → PySem.W.LooseAre lv mg h → mg d.name = some (.ref fa) → ∃ fd : FuncData, (∀ (s : Shared) (u : Value), BindsTo s fd ⟨[u], []⟩ [("_law_script", u)]) ∧ ∀ base : Heap, (K w.params).In base → base.Ns mainGlobals mg → FnOk l.prog w (K w.params) mg base CX0 12 fa fd ["_law_script"] (spLaw (K w.params))) :
    PySem.W.WalkO q loose (PySem.W.XL p lv) YP l.row.toRowW d [] (fun f vs => PySem.call f vs) := Att.attach_call hn hd fun w _ s₁ mg mb fa _ _ _ _ a vs ns G Y _ _ _ hmg hobj hints hlen hg => by
  obtain ⟨fd, hb, hF⟩ := F w mg fa s₁.heap (hY w s₁.heap Y) G.T.g G.X.2 hmg
  exact law_call (hY w s₁.heap Y) G.T.g G.T.b G.T.builtins G.T.nolimit hg hobj hints (Nat.le_trans hlen (by decide)) ⟨rfl, by decide, by decide⟩ hF hb (fun H _ hS => ⟨a, ns, rfl, hS, hlen, fun _ => rfl⟩) fun _ _ _ z => z

end Toy
open PySem PySem.W PyProof.Rows
set_option maxRecDepth 100000 in
set_option maxHeartbeats 0 in
theorem PySem.Challenge.cw_breakerrow_k33_windows_of_delays_holds : PySem.Challenge.rw_breakerrow_k33_windows_of_delays.Holds := by
  w_on; o_law; k_head; (case hw => w_witness2)
  k_fill
  refine Toy.walk_loose (l := PySem.Challenge.rw_breakerrow_k33_windows_of_delays) rfl rfl (fun w h Y => PySem.W.kIn_of Y) ?F
  intro w mg fa h KX G LL hmg
  refine' Toy.all_mk KX G LL (by first | exact .head _ | exact .tail _ (.head _) | exact .tail _ (.tail _ (.head _)) | exact .tail _ (.tail _ (.tail _ (.head _))) | exact .tail _ (.tail _ (.tail _ (.tail _ (.head _)))) | exact .tail _ (.tail _ (.tail _ (.tail _ (.tail _ (.head _))))) | exact .tail _ (.tail _ (.tail _ (.tail _ (.tail _ (.tail _ (.head _)))))) | exact .tail _ (.tail _ (.tail _ (.tail _ (.tail _ (.tail _ (.tail _ (.head _))))))) | exact .tail _ (.tail _ (.tail _ (.tail _ (.tail _ (.tail _ (.tail _ (.tail _ (.head _)))))))) | exact .tail _ (.tail _ (.tail _ (.tail _ (.tail _ (.tail _ (.tail _ (.tail _ (.tail _ (.head _)))))))))) (by first | exact .head _ | exact .tail _ (.head _) | exact .tail _ (.tail _ (.head _)) | exact .tail _ (.tail _ (.tail _ (.head _))) | exact .tail _ (.tail _ (.tail _ (.tail _ (.head _)))) | exact .tail _ (.tail _ (.tail _ (.tail _ (.tail _ (.head _))))) | exact .tail _ (.tail _ (.tail _ (.tail _ (.tail _ (.tail _ (.head _)))))) | exact .tail _ (.tail _ (.tail _ (.tail _ (.tail _ (.tail _ (.tail _ (.head _))))))) | exact .tail _ (.tail _ (.tail _ (.tail _ (.tail _ (.tail _ (.tail _ (.tail _ (.head _)))))))) | exact .tail _ (.tail _ (.tail _ (.tail _ (.tail _ (.tail _ (.tail _ (.tail _ (.tail _ (.head _)))))))))) hmg ?aq0 ?lq0 ?cq0 ?kq0 ?aq1 ?lq1 ?cq1 ?kq1 ?aq2 ?lq2 ?cq2 ?kq2 ?aq3 ?lq3 ?cq3 ?kq3 ?aq4 ?lq4 ?cq4 ?kq4 ?aq5 ?lq5 ?cq5 ?kq5 ?aq6 ?lq6 ?cq6 ?kq6 ?aq7 ?lq7 ?cq7 ?kq7 ?aq8 ?lq8 ?cq8 ?kq8 ?aq9 ?lq9 ?cq9 ?kq9 ?aq10 ?lq10 ?cq10 ?kq10 ?aq11 ?lq11 ?cq11 ?kq11 ?aq12 ?lq12 ?cq12 ?kq12 ?aq13 ?lq13 ?cq13 ?kq13 ?aq14 ?lq14 ?cq14 ?kq14 ?aq15 ?lq15 ?cq15 ?kq15 ?aq16 ?lq16 ?cq16 ?kq16 ?aq17 ?lq17 ?cq17 ?kq17 ?aq18 ?lq18 ?cq18 ?kq18 ?aq19 ?lq19 ?cq19 ?kq19 ?aq20 ?lq20 ?cq20 ?kq20 ?aq21 ?lq21 ?cq21 ?kq21 ?aq22 ?lq22 ?cq22 ?kq22 ?aq23 ?lq23 ?cq23 ?kq23 ?aq24 ?lq24 ?cq24 ?kq24 ?aq25 ?lq25 ?cq25 ?kq25 ?aq26 ?lq26 ?cq26 ?kq26 ?aq27 ?lq27 ?cq27 ?kq27 ?aq28 ?lq28 ?cq28 ?kq28 ?aq29 ?lq29 ?cq29 ?kq29 ?aq30 ?lq30 ?cq30 ?kq30 ?aq31 ?lq31 ?cq31 ?kq31 ?aq32 ?lq32 ?cq32 ?kq32 ?aq33 ?lq33 ?cq33 ?kq33 ?aq34 ?lq34 ?cq34 ?kq34 ?aq35 ?lq35 ?cq35 ?kq35 ?aq36 ?lq36 ?cq36 ?kq36 ?aq37 ?lq37 ?cq37 ?kq37 ?aq38 ?lq38 ?cq38 ?kq38 ?aq39 ?lq39 ?cq39 ?kq39 ?aq40 ?lq40 ?cq40 ?kq40 ?aq41 ?lq41 ?cq41 ?kq41 ?aq42 ?lq42 ?cq42 ?kq42 ?aq43 ?lq43 ?cq43 ?kq43 ?aq44 ?lq44 ?cq44 ?kq44 ?aq45 ?lq45 ?cq45 ?kq45 ?aq46 ?lq46 ?cq46 ?kq46 ?aq47 ?lq47 ?cq47 ?kq47 ?aq48 ?lq48 ?cq48 ?kq48 ?aq49 ?lq49 ?cq49 ?kq49 ?aq50 ?lq50 ?cq50 ?kq50 ?aq51 ?lq51 ?cq51 ?kq51 ?aq52 ?lq52 ?cq52 ?kq52 ?aq53 ?lq53 ?cq53 ?kq53 ?aq54 ?lq54 ?cq54 ?kq54 ?aq55 ?lq55 ?cq55 ?kq55 ?gcRow ?gRow0 ?gRow1 ?gRow2 ?gRow3 ?gRow4 ?gRow5 ?gRow6 ?gRow7 ?gRow8 ?gRow9 ?gRow10 ?gRow11 ?gO1 ?gO2 ?nfRow_breakers ?nfRow_step ?nfRow_phase ?aNRow ?iNRow ?lNRow ?cNRow ?kNRow ?dRow ?aq56 ?iq56 ?nq56 ?lq56 ?cq56 ?kq56 ?aq57 ?iq57 ?nq57 ?lq57 ?cq57 ?kq57 ?aq58 ?iq58 ?nq58 ?lq58 ?cq58 ?kq58 ?aq59 ?iq59 ?nq59 ?lq59 ?cq59 ?kq59 ?aq60 ?iq60 ?nq60 ?lq60 ?cq60 ?kq60 ?aq61 ?iq61 ?nq61 ?lq61 ?cq61 ?kq61 ?aq62 ?iq62 ?nq62 ?lq62 ?cq62 ?kq62 ?aq63 ?iq63 ?nq63 ?lq63 ?cq63 ?kq63 ?gcSpell ?gSpell0 ?gSpell1 ?gSpell2 ?gSpell3 ?gSpell4 ?gSpell5 ?gSpell6 ?gSpell7 ?gSpell8 ?gSpell9 ?gSpell10 ?gSpell11 ?nfSpell_first ?nfSpell_recovered ?nfSpell_begun ?nfSpell_runs ?nfSpell_opened ?aNSpell ?iNSpell ?lNSpell ?cNSpell ?kNSpell ?gcDelays ?gDelays0 ?gDelays1 ?gDelays2 ?gDelays3 ?gDelays4 ?gDelays5 ?gDelays6 ?gDelays7 ?gDelays8 ?gDelays9 ?gDelays10 ?gDelays11 ?nfDelays_begin ?nfDelays_runs ?nfDelays_teeth ?aNDelays ?iNDelays ?lNDelays ?cNDelays ?kNDelays ?aq64 ?iq64 ?nq64 ?lq64 ?cq64 ?kq64 ?gNMOST_BREAKERS ?gNMOST_OUTAGES ?aY ?lY ?cY ?kY ?z_bool ?z_divmod ?z_enumerate ?z_int ?z_isinstance ?z_len ?z_list ?z_max ?z_min ?z_range ?z_sum ?z_tuple ?z_zip
  (case aq0 => k_is)
  (case lq0 => k_is)
  (case cq0 => k_is)
  (case kq0 => k_is)
  (case aq1 => k_is)
  (case lq1 => k_is)
  (case cq1 => k_is)
  (case kq1 => k_is)
  (case aq2 => k_is)
  (case lq2 => k_is)
  (case cq2 => k_is)
  (case kq2 => k_is)
  (case aq3 => k_is)
  (case lq3 => k_is)
  (case cq3 => k_is)
  (case kq3 => k_is)
  (case aq4 => k_is)
  (case lq4 => k_is)
  (case cq4 => k_is)
  (case kq4 => k_is)
  (case aq5 => k_is)
  (case lq5 => k_is)
  (case cq5 => k_is)
  (case kq5 => k_is)
  (case aq6 => k_is)
  (case lq6 => k_is)
  (case cq6 => k_is)
  (case kq6 => k_is)
  (case aq7 => k_is)
  (case lq7 => k_is)
  (case cq7 => k_is)
  (case kq7 => k_is)
  (case aq8 => k_is)
  (case lq8 => k_is)
  (case cq8 => k_is)
  (case kq8 => k_is)
  (case aq9 => k_is)
  (case lq9 => k_is)
  (case cq9 => k_is)
  (case kq9 => k_is)
  (case aq10 => k_is)
  (case lq10 => k_is)
  (case cq10 => k_is)
  (case kq10 => k_is)
  (case aq11 => k_is)
  (case lq11 => k_is)
  (case cq11 => k_is)
  (case kq11 => k_is)
  (case aq12 => k_is)
  (case lq12 => k_is)
  (case cq12 => k_is)
  (case kq12 => k_is)
  (case aq13 => k_is)
  (case lq13 => k_is)
  (case cq13 => k_is)
  (case kq13 => k_is)
  (case aq14 => k_is)
  (case lq14 => k_is)
  (case cq14 => k_is)
  (case kq14 => k_is)
  (case aq15 => k_is)
  (case lq15 => k_is)
  (case cq15 => k_is)
  (case kq15 => k_is)
  (case aq16 => k_is)
  (case lq16 => k_is)
  (case cq16 => k_is)
  (case kq16 => k_is)
  (case aq17 => k_is)
  (case lq17 => k_is)
  (case cq17 => k_is)
  (case kq17 => k_is)
  (case aq18 => k_is)
  (case lq18 => k_is)
  (case cq18 => k_is)
  (case kq18 => k_is)
  (case aq19 => k_is)
  (case lq19 => k_is)
  (case cq19 => k_is)
  (case kq19 => k_is)
  (case aq20 => k_is)
  (case lq20 => k_is)
  (case cq20 => k_is)
  (case kq20 => k_is)
  (case aq21 => k_is)
  (case lq21 => k_is)
  (case cq21 => k_is)
  (case kq21 => k_is)
  (case aq22 => k_is)
  (case lq22 => k_is)
  (case cq22 => k_is)
  (case kq22 => k_is)
  (case aq23 => k_is)
  (case lq23 => k_is)
  (case cq23 => k_is)
  (case kq23 => k_is)
  (case aq24 => k_is)
  (case lq24 => k_is)
  (case cq24 => k_is)
  (case kq24 => k_is)
  (case aq25 => k_is)
  (case lq25 => k_is)
  (case cq25 => k_is)
  (case kq25 => k_is)
  (case aq26 => k_is)
  (case lq26 => k_is)
  (case cq26 => k_is)
  (case kq26 => k_is)
  (case aq27 => k_is)
  (case lq27 => k_is)
  (case cq27 => k_is)
  (case kq27 => k_is)
  (case aq28 => k_is)
  (case lq28 => k_is)
  (case cq28 => k_is)
  (case kq28 => k_is)
  (case aq29 => k_is)
  (case lq29 => k_is)
  (case cq29 => k_is)
  (case kq29 => k_is)
  (case aq30 => k_is)
  (case lq30 => k_is)
  (case cq30 => k_is)
  (case kq30 => k_is)
  (case aq31 => k_is)
  (case lq31 => k_is)
  (case cq31 => k_is)
  (case kq31 => k_is)
  (case aq32 => k_is)
  (case lq32 => k_is)
  (case cq32 => k_is)
  (case kq32 => k_is)
  (case aq33 => k_is)
  (case lq33 => k_is)
  (case cq33 => k_is)
  (case kq33 => k_is)
  (case aq34 => k_is)
  (case lq34 => k_is)
  (case cq34 => k_is)
  (case kq34 => k_is)
  (case aq35 => k_is)
  (case lq35 => k_is)
  (case cq35 => k_is)
  (case kq35 => k_is)
  (case aq36 => k_is)
  (case lq36 => k_is)
  (case cq36 => k_is)
  (case kq36 => k_is)
  (case aq37 => k_is)
  (case lq37 => k_is)
  (case cq37 => k_is)
  (case kq37 => k_is)
  (case aq38 => k_is)
  (case lq38 => k_is)
  (case cq38 => k_is)
  (case kq38 => k_is)
  (case aq39 => k_is)
  (case lq39 => k_is)
  (case cq39 => k_is)
  (case kq39 => k_is)
  (case aq40 => k_is)
  (case lq40 => k_is)
  (case cq40 => k_is)
  (case kq40 => k_is)
  (case aq41 => k_is)
  (case lq41 => k_is)
  (case cq41 => k_is)
  (case kq41 => k_is)
  (case aq42 => k_is)
  (case lq42 => k_is)
  (case cq42 => k_is)
  (case kq42 => k_is)
  (case aq43 => k_is)
  (case lq43 => k_is)
  (case cq43 => k_is)
  (case kq43 => k_is)
  (case aq44 => k_is)
  (case lq44 => k_is)
  (case cq44 => k_is)
  (case kq44 => k_is)
  (case aq45 => k_is)
  (case lq45 => k_is)
  (case cq45 => k_is)
  (case kq45 => k_is)
  (case aq46 => k_is)
  (case lq46 => k_is)
  (case cq46 => k_is)
  (case kq46 => k_is)
  (case aq47 => k_is)
  (case lq47 => k_is)
  (case cq47 => k_is)
  (case kq47 => k_is)
  (case aq48 => k_is)
  (case lq48 => k_is)
  (case cq48 => k_is)
  (case kq48 => k_is)
  (case aq49 => k_is)
  (case lq49 => k_is)
  (case cq49 => k_is)
  (case kq49 => k_is)
  (case aq50 => k_is)
  (case lq50 => k_is)
  (case cq50 => k_is)
  (case kq50 => k_is)
  (case aq51 => k_is)
  (case lq51 => k_is)
  (case cq51 => k_is)
  (case kq51 => k_is)
  (case aq52 => k_is)
  (case lq52 => k_is)
  (case cq52 => k_is)
  (case kq52 => k_is)
  (case aq53 => k_is)
  (case lq53 => k_is)
  (case cq53 => k_is)
  (case kq53 => k_is)
  (case aq54 => k_is)
  (case lq54 => k_is)
  (case cq54 => k_is)
  (case kq54 => k_is)
  (case aq55 => k_is)
  (case lq55 => k_is)
  (case cq55 => k_is)
  (case kq55 => k_is)
  (case gcRow => k_is)
  (case gRow0 => k_is)
  (case gRow1 => k_is)
  (case gRow2 => k_is)
  (case gRow3 => k_is)
  (case gRow4 => k_is)
  (case gRow5 => k_is)
  (case gRow6 => k_is)
  (case gRow7 => k_is)
  (case gRow8 => k_is)
  (case gRow9 => k_is)
  (case gRow10 => k_is)
  (case gRow11 => k_is)
  (case gO1 => k_is)
  (case gO2 => k_is)
  (case nfRow_breakers => k_is)
  (case nfRow_step => k_is)
  (case nfRow_phase => k_is)
  (case aNRow => k_is)
  (case iNRow => k_is)
  (case lNRow => k_is)
  (case cNRow => k_is)
  (case kNRow => k_is)
  (case dRow => k_is)
  (case aq56 => k_is)
  (case iq56 => k_is)
  (case nq56 => k_is)
  (case lq56 => k_is)
  (case cq56 => k_is)
  (case kq56 => k_is)
  (case aq57 => k_is)
  (case iq57 => k_is)
  (case nq57 => k_is)
  (case lq57 => k_is)
  (case cq57 => k_is)
  (case kq57 => k_is)
  (case aq58 => k_is)
  (case iq58 => k_is)
  (case nq58 => k_is)
  (case lq58 => k_is)
  (case cq58 => k_is)
  (case kq58 => k_is)
  (case aq59 => k_is)
  (case iq59 => k_is)
  (case nq59 => k_is)
  (case lq59 => k_is)
  (case cq59 => k_is)
  (case kq59 => k_is)
  (case aq60 => k_is)
  (case iq60 => k_is)
  (case nq60 => k_is)
  (case lq60 => k_is)
  (case cq60 => k_is)
  (case kq60 => k_is)
  (case aq61 => k_is)
  (case iq61 => k_is)
  (case nq61 => k_is)
  (case lq61 => k_is)
  (case cq61 => k_is)
  (case kq61 => k_is)
  (case aq62 => k_is)
  (case iq62 => k_is)
  (case nq62 => k_is)
  (case lq62 => k_is)
  (case cq62 => k_is)
  (case kq62 => k_is)
  (case aq63 => k_is)
  (case iq63 => k_is)
  (case nq63 => k_is)
  (case lq63 => k_is)
  (case cq63 => k_is)
  (case kq63 => k_is)
  (case gcSpell => k_is)
  (case gSpell0 => k_is)
  (case gSpell1 => k_is)
  (case gSpell2 => k_is)
  (case gSpell3 => k_is)
  (case gSpell4 => k_is)
  (case gSpell5 => k_is)
  (case gSpell6 => k_is)
  (case gSpell7 => k_is)
  (case gSpell8 => k_is)
  (case gSpell9 => k_is)
  (case gSpell10 => k_is)
  (case gSpell11 => k_is)
  (case nfSpell_first => k_is)
  (case nfSpell_recovered => k_is)
  (case nfSpell_begun => k_is)
  (case nfSpell_runs => k_is)
  (case nfSpell_opened => k_is)
  (case aNSpell => k_is)
  (case iNSpell => k_is)
  (case lNSpell => k_is)
  (case cNSpell => k_is)
  (case kNSpell => k_is)
  (case gcDelays => k_is)
  (case gDelays0 => k_is)
  (case gDelays1 => k_is)
  (case gDelays2 => k_is)
  (case gDelays3 => k_is)
  (case gDelays4 => k_is)
  (case gDelays5 => k_is)
  (case gDelays6 => k_is)
  (case gDelays7 => k_is)
  (case gDelays8 => k_is)
  (case gDelays9 => k_is)
  (case gDelays10 => k_is)
  (case gDelays11 => k_is)
  (case nfDelays_begin => k_is)
  (case nfDelays_runs => k_is)
  (case nfDelays_teeth => k_is)
  (case aNDelays => k_is)
  (case iNDelays => k_is)
  (case lNDelays => k_is)
  (case cNDelays => k_is)
  (case kNDelays => k_is)
  (case aq64 => k_is)
  (case iq64 => k_is)
  (case nq64 => k_is)
  (case lq64 => k_is)
  (case cq64 => k_is)
  (case kq64 => k_is)
  (case gNMOST_BREAKERS => k_is)
  (case gNMOST_OUTAGES => k_is)
  (case aY => k_is)
  (case lY => k_is)
  (case cY => k_is)
  (case kY => k_is)
  (case z_bool => k_is)
  (case z_divmod => k_is)
  (case z_enumerate => k_is)
  (case z_int => k_is)
  (case z_isinstance => k_is)
  (case z_len => k_is)
  (case z_list => k_is)
  (case z_max => k_is)
  (case z_min => k_is)
  (case z_range => k_is)
  (case z_sum => k_is)
  (case z_tuple => k_is)
  (case z_zip => k_is)
