import PyProof.Rows.All
import Wide.All
import OpenK.AllK
import Wide.FinOn
import HandS.ForMost
import HandS.IsInst
import HandS.Wide
import HandS.Style
import HandS.Defaults
import HandS.MakeKwOnly
import HandS.Zip
import HandS.SortRule
import HandS.TupAny
import HandS.Lambda
import KE.GoesEnum
import HandS.Flow
import HandS.Codes
import HandS.WideBits
import PySem.Challenge.RW_breakerrow_k15_times_shared
set_option Elab.async false
set_option linter.all false
set_option maxRecDepth 100000
set_option maxHeartbeats 4000000
namespace Own
open PySem PySem.Spec PyProof.Rows L2
open Builtin

section
variable {X : Cx} {CX : CXT} {k : Nat} {f C : Addr} {fd : FuncData} {ps : List Str} {sp : Sp} {E : XK}

theorem rr {p : Addr} : L2.RelV (.ref p) (.ref p) := rfl
/-- a promise used under any frame below the body -/
theorem run_at {A : Around} {pins : List (Addr × Obj)} {σ : L2.St} {H : Hp} {s : Shared} {Q : VK} {us : List Value} {vs : List V} (F : FnOk X.prog X.w X.K X.mg X.base CX k f fd ps sp) (hr : Room k A) (hA : A.frames = X.A.frames)
    (hb : Binds X.K fd ps []) (hx : Passes CX X E) (I : Inv X pins σ H s) (r : Vals vs us) (h : sp vs H Q E) : wpAny (model X.prog X.w) A (call (.ref f) us) (EP X pins σ Q) X.xe s := by
  have hl : us.length = ps.length := by rw [← r.length]; exact F.len _ _ _ _ h
  have e0 : Env0 X.prog X.w X.K X.mg X.base A X.stack s H := by
    have e := I.env0
    exact ⟨by rw [hA]; exact e.frames, e.mod, e.bs, e.bsz, e.funs, e.frf, e.hok, e.bare⟩
  have hB : BindsTo s fd ⟨us, []⟩ (ps.zip us) := by
    have := hb s us I.kIn (by rw [List.append_nil]; exact hl)
    rwa [List.append_nil] at this
  refine wpAny_call (codeAny_mono (F.run A X.stack s H ⟨us, []⟩ us vs Q E hr e0 hB r h) fun r s' hq => ?_)
  cases r with
  | error e => exact hx pins σ H s e s' I hq
  | ok fl =>
    cases fl with
    | ret u => exact I.after hq
    | next => exact False.elim hq
    | brk => exact False.elim hq
    | cont => exact False.elim hq

theorem inst_of {pins : List (Addr × Obj)} {σ : L2.St} {H : Hp} {s : Shared} {p dx : Addr} {fs : List (Str × V)} (I : Inv X pins σ H s) (e : H p = some (.ins C dx fs)) : ∃ od, PySem.W.InstAt s.heap p (PySem.W.instObj C dx) C od := by
  obtain ⟨mA, O, _⟩ := ins_get I.hok e
  obtain ⟨od, J, _⟩ := O.look
  exact ⟨_, J⟩

/-- a bool is wanted of the method -/
def BlQ (Q : VK) (g : Bool → Bool) : VK := fun v H' => ∃ b, v = .bl b ∧ Q (.bl (g b)) H'
def rOwnIn (C : Addr) (sp : Sp) (E : XK) (g : Bool → Bool) : R2 := fun x y H Q => ∃ p dx fs, y = .ref p ∧ H p = some (.ins C dx fs) ∧ sp [.ref p, x] H (BlQ Q g) E
theorem op_own_in (F : FnOk X.prog X.w X.K X.mg X.base CX k f fd ps sp) (hr : Room k X.A) (hs : PySem.W.findIn X.K (.ref C) "__contains__" = some (some (.ref f))) (hf : PySem.W.isFn X.K (.ref f) = true) (hb : Binds X.K fd ps []) (hx : Passes CX X E) :
    OpR X (compareOp .In) (rOwnIn C sp E id) := by
  intro pins s σ H x y v u Q I rx ry h
  obtain ⟨p, dx, fs, rfl, hp, q⟩ := h
  cases ry
  obtain ⟨od, J⟩ := inst_of I hp
  obtain ⟨m, hF⟩ := I.fr
  refine PySem.W.in_K hF I.ok.mod.kin J hs hf (thn (run_at F hr rfl hb hx I (.cons rr (.cons rx .nil)) q) fun r s' hh => ?_)
  obtain ⟨z, H', I', rz, b, ez, q'⟩ := hh
  subst ez
  cases rz
  exact wpAny_truthy_bool ⟨.bl b, H', I', rfl, q'⟩
theorem op_own_notin (F : FnOk X.prog X.w X.K X.mg X.base CX k f fd ps sp) (hr : Room k X.A) (hs : PySem.W.findIn X.K (.ref C) "__contains__" = some (some (.ref f))) (hf : PySem.W.isFn X.K (.ref f) = true) (hb : Binds X.K fd ps []) (hx : Passes CX X E) :
    OpR X (compareOp .NotIn) (rOwnIn C sp E not) := by
  intro pins s σ H x y v u Q I rx ry h
  obtain ⟨p, dx, fs, rfl, hp, q⟩ := h
  cases ry
  obtain ⟨od, J⟩ := inst_of I hp
  obtain ⟨m, hF⟩ := I.fr
  refine PySem.W.notIn_K hF I.ok.mod.kin J hs hf (thn (run_at F hr rfl hb hx I (.cons rr (.cons rx .nil)) q) fun r s' hh => ?_)
  obtain ⟨z, H', I', rz, b, ez, q'⟩ := hh
  subst ez
  cases rz
  exact wpAny_truthy_bool ⟨.bl (!b), H', I', rfl, q'⟩
/-- len(o) -/
def rOwnLen (C : Addr) (sp : Sp) (E : XK) : List V → Hp → VK → Prop := fun xs H Q => ∃ p dx fs, xs = [.ref p] ∧ H p = some (.ins C dx fs) ∧ sp [.ref p] H (fun v H' => ∃ n : Int, v = .int n ∧ 0 ≤ n ∧ n < 2 ^ 63 ∧ Q (.int n) H') E
theorem call_own_len (F : FnOk X.prog X.w X.K X.mg X.base CX k f fd ps sp) (hr : Room (k + 1) X.A) (hs : PySem.W.findIn X.K (.ref C) "__len__" = some (some (.ref f))) (hf : PySem.W.isFn X.K (.ref f) = true) (hb : Binds X.K fd ps []) (hx : Passes CX X E) :
    CallR X (.builtin "len") (rOwnLen C sp E) := by
  intro pins s σ H xs us Q I r h
  obtain ⟨p, dx, fs, rfl, hp, q⟩ := h
  obtain ⟨u, rfl, ru⟩ := vals1 r
  cases ru
  obtain ⟨od, J⟩ := inst_of I hp
  obtain ⟨m, hF⟩ := I.fr
  refine PySem.W.len_K hF I.ok.mod.kin J hs hf (thn (run_at F hr.in1 rfl hb hx I (.cons rr .nil) q) fun r s' hh => ?_)
  obtain ⟨z, H', I', rz, n, ez, h0, h1, q'⟩ := hh
  subst ez
  obtain ⟨t, rfl⟩ := rz
  exact ⟨⟨h0, h1⟩, ⟨.int n, H', I'.tok _, ⟨_, rfl⟩, q'⟩⟩
/-- o + p, both of the class -/
def rOwnAdd (C : Addr) (sp : Sp) (E : XK) : R2 := fun x y H Q => ∃ p dx fs q dy gs, x = .ref p ∧ H p = some (.ins C dx fs) ∧ y = .ref q ∧ H q = some (.ins C dy gs) ∧ sp [.ref p, .ref q] H (fun v H' => (∃ a, v = .ref a) ∧ Q v H') E
theorem op_own_add (F : FnOk X.prog X.w X.K X.mg X.base CX k f fd ps sp) (hr : Room k X.A) (hc : PySem.W.selfFirst X.K C = true) (hs : PySem.W.findIn X.K (.ref C) "__add__" = some (some (.ref f))) (hf : PySem.W.isFn X.K (.ref f) = true) (hb : Binds X.K fd ps []) (hx : Passes CX X E) :
    OpR X (binaryOp .Add) (rOwnAdd C sp E) := by
  intro pins s σ H x y v u Q I rx ry h
  obtain ⟨p, dx, fs, q, dy, gs, rfl, hp, rfl, hq, hh⟩ := h
  cases rx
  cases ry
  obtain ⟨od, J⟩ := inst_of I hp
  obtain ⟨od', J'⟩ := inst_of I hq
  obtain ⟨m, hF⟩ := I.fr
  refine PySem.W.binop_K hF I.ok.mod.kin J J'.type hc hs hf (thn (run_at F hr rfl hb hx I (.cons rr (.cons rr .nil)) hh) fun r s' hh => ?_)
  obtain ⟨z, H', I', rz, ⟨a, ez⟩, q'⟩ := hh
  subst ez
  cases rz
  exact ⟨.ref a, H', I', rfl, q'⟩
/-- o[i] -/
def rOwnIx (C : Addr) (sp : Sp) (E : XK) : R2 := fun x y H Q => ∃ p dx fs, x = .ref p ∧ H p = some (.ins C dx fs) ∧ sp [.ref p, y] H Q E
theorem pe_own_ix {a b : Expr} {ta tb : TE} {pos : Pos} (F : FnOk X.prog X.w X.K X.mg X.base CX k f fd ps sp) (hr : Room (k + 1) X.A) (hs : PySem.W.findIn X.K (.ref C) "__getitem__" = some (some (.ref f))) (hfn : PySem.W.fnIn X.K f = true) (hf : PySem.W.isFn X.K (.ref f) = true)
    (hb : Binds X.K fd ps []) (hx : Passes CX X E) (ha : PE X a ta) (hb' : PE X b tb) (hsl : ∀ o i, subscripted b true o i = runValue (.builtin "lifetime.subscript" ⟨[o, i], []⟩) := by exact fun _ _ => rfl) :
    PE X (.Subscript a b pos) (tOp (rOwnIx C sp E) ta tb) := by
  refine ⟨fun pins s σ H Q I h => ?_⟩
  refine Subscript_ (binT ha hb' I h fun v u s2 x y H2 I2 rx ry q => ?_)
  obtain ⟨p, dx, fs, rfl, hp, q⟩ := q
  cases rx
  obtain ⟨od, J⟩ := inst_of I2 hp
  obtain ⟨m, hF⟩ := I2.fr
  exact PySem.W.sub_K hF I2.ok.mod.kin J hs hfn hf (run_at F hr.in1 rfl hb hx I2 (.cons rr (.cons ry .nil)) q) (hsl _ _)

/-! ### own == and the != that comes with it -/
theorem sub_ty {K : PySem.W.Frag} {C : Addr} {T : String} {l : List String} (e : fastBuiltinMro T = some (l.map Value.type)) : PySem.W.subIn K (.type T) (.ref C) = some false := by
  show (fastBuiltinMro T).map (·.contains (.ref C)) = some false
  rw [e]
  have : ∀ l : List String, (l.map Value.type).contains (Value.ref C) = false := by
    intro l
    induction l with
    | nil => rfl
    | cons a r ih =>
      rw [List.map_cons, List.contains_cons, ih]
      rfl
  rw [Option.map_some, this]
/-- a value's type, not one below the class C -/
inductive TyN (H : Hp) (C : Addr) : V → Value → Prop where
  | non : TyN H C .non (.type "NoneType")
  | bl (x : Bool) : TyN H C (.bl x) (.type "bool")
  | int (i : Int) : TyN H C (.int i) (.type "int")
  | str (x : Str) : TyN H C (.str x) (.type "str")
  | lst {a : Addr} {xs : List V} (e : H a = some (.lst xs)) : TyN H C (.ref a) (.type "list")
  | tup {a : Addr} {xs : List V} (e : H a = some (.tup xs)) : TyN H C (.ref a) (.type "tuple")
  | ins {a dx : Addr} {fs : List (Str × V)} (e : H a = some (.ins C dx fs)) : TyN H C (.ref a) (.ref C)
theorem TyN.notFirst {K : PySem.W.Frag} {H : Hp} {x : V} {t : Value} (h : TyN H C x t) : PySem.W.notFirst K C t = true := by
  cases h with
  | non => exact Bool.or_eq_true_iff.mpr (.inr (beq_iff_eq.mpr (sub_ty (l := ["NoneType", "object"]) (by decide +kernel))))
  | bl _ => exact Bool.or_eq_true_iff.mpr (.inr (beq_iff_eq.mpr (sub_ty (l := ["bool", "int", "object"]) (by decide +kernel))))
  | int _ => exact Bool.or_eq_true_iff.mpr (.inr (beq_iff_eq.mpr (sub_ty (l := ["int", "object"]) (by decide +kernel))))
  | str _ => exact Bool.or_eq_true_iff.mpr (.inr (beq_iff_eq.mpr (sub_ty (l := ["str", "object"]) (by decide +kernel))))
  | lst _ => exact Bool.or_eq_true_iff.mpr (.inr (beq_iff_eq.mpr (sub_ty (l := ["list", "object"]) (by decide +kernel))))
  | tup _ => exact Bool.or_eq_true_iff.mpr (.inr (beq_iff_eq.mpr (sub_ty (l := ["tuple", "object"]) (by decide +kernel))))
  | ins _ => exact Bool.or_eq_true_iff.mpr (.inl (by simp))
theorem looks_obj {M : Model} {h : Heap} {a : Addr} {o : Obj} (e : h.get? a = some o) : PySem.W.Looks M h (typeOf (.ref a)) o.cls := fun A Q E s kp q => PySem.wpAny_typeOf_ref (kp _ _ e) q
theorem TyN.looks {M : Model} {pins : List (Addr × Obj)} {σ : L2.St} {H : Hp} {s : Shared} {x : V} {u t : Value} (I : Inv X pins σ H s) (r : RelV x u) (h : TyN H C x t) : PySem.W.Looks M s.heap (typeOf u) t := by
  cases h with
  | non => cases r; exact PySem.W.Looks.of_pure rfl
  | bl _ => cases r; exact PySem.W.Looks.of_pure rfl
  | int _ => obtain ⟨_, rfl⟩ := r; exact PySem.W.Looks.of_pure rfl
  | str _ => obtain ⟨_, rfl⟩ := r; exact PySem.W.Looks.of_pure rfl
  | @lst a xs e =>
    cases r
    obtain ⟨_, _, n, _, h1⟩ := (show ObjOk X.prog X.w H s.heap a (.lst xs) from I.hok a _ e)
    exact looks_obj h1
  | @tup a xs e =>
    cases r
    obtain ⟨_, _, _, o, h1, h2, _⟩ := (show ObjOk X.prog X.w H s.heap a (.tup xs) from I.hok a _ e)
    have := looks_obj (M := M) h1
    rw [h2] at this
    exact this
  | ins e =>
    cases r
    obtain ⟨od, J⟩ := inst_of I e
    exact J.type
def rOwnEq (C : Addr) (sp : Sp) (E : XK) (g : Bool → Bool) : R2 := fun x y H Q => ∃ p dx fs t, x = .ref p ∧ H p = some (.ins C dx fs) ∧ TyN H C y t ∧ sp [.ref p, y] H (BlQ Q g) E
theorem op_own_eq (F : FnOk X.prog X.w X.K X.mg X.base CX k f fd ps sp) (hr : Room k X.A) (hs : PySem.W.findIn X.K (.ref C) "__eq__" = some (some (.ref f))) (hf : PySem.W.isFn X.K (.ref f) = true) (hb : Binds X.K fd ps []) (hx : Passes CX X E) :
    OpR X (compareOp .Eq) (rOwnEq C sp E id) := by
  intro pins s σ H x y v u Q I rx ry h
  obtain ⟨p, dx, fs, t, rfl, hp, ty, q⟩ := h
  cases rx
  obtain ⟨od, J⟩ := inst_of I hp
  obtain ⟨m, hF⟩ := I.fr
  show wpAny (model X.prog X.w) X.A (richCompare .Eq (.ref p) u) (EP X pins σ Q) X.xe s
  refine PySem.W.cmp_K (op := .Eq) hr.units0 hF I.ok.mod.kin J (ty.looks I ry) ty.notFirst hs hf (thn (run_at F hr rfl hb hx I (.cons rr (.cons ry .nil)) q) fun r s' hh => ?_)
  obtain ⟨z, H', I', rz, b, ez, q'⟩ := hh
  subst ez
  cases rz
  exact ⟨.bl b, H', I', rfl, q'⟩
section
variable {prog : Program} {w : World} {A : Around} {E' : Value → Shared → Prop} {s : Shared} {K : PySem.W.Frag} {x : Addr} {ox : Obj} {od : Option Obj} {b : Value}
theorem objNe_entry (hX : K.In s.heap) (I : PySem.W.InstAt s.heap x ox C od) (hs : PySem.W.findIn K (.ref C) "__eq__" = some (some (.ref f))) (hf : PySem.W.isFn K (.ref f) = true) (hu : A.units < cLine) {Q : Fin → Shared → Prop}
    (hcall : wpAny (model prog w) A (call (.ref f) [.ref x, b]) (fun v s' => ∃ k, v = .bool k ∧ Q (.done (.ret (.bool (!k)))) s') E' s) :
    wpAny (model prog w) A (Builtin.«object.__ne__» ⟨[.ref x, b], []⟩) Q E' s := by
  unfold Builtin.«object.__ne__»
  repeat (first
    | with_reducible refine wpAny_cRoomFor hu ?_
    | (refine wpAny_bind (m := callSpecialIfBound? (.ref x) (Str.ofString "__eq__") [b])
        (PySem.W.ifBound_K hX I hs hf (wpAny_mono hcall (fun r s' hr => by
          obtain ⟨k, rfl, hq⟩ := hr
          repeat (first | exact hq | exact wpAny_pure hq | exact wpAny_truthy_bool hq | (refine wpAny_bind (m := truthy (.bool _)) (wpAny_truthy_bool ?_)) | wp_step)) fun _ _ e => e)))
    | wp_step)
theorem call_objNe (hX : K.In s.heap) (I : PySem.W.InstAt s.heap x ox C od) (hm : PySem.W.mroIn K C (.type "object") = some true) (hs : PySem.W.findIn K (.ref C) "__eq__" = some (some (.ref f))) (hf : PySem.W.isFn K (.ref f) = true) (hu : A.units + 1 < cLine) {Q : Value → Shared → Prop}
    (hcall : wpAny (model prog w) A.in1 (call (.ref f) [.ref x, b]) (fun v s' => ∃ k, v = .bool k ∧ Q (.bool (!k)) s') E' s) :
    wpAny (model prog w) A (call (.builtin "object.__ne__") [.ref x, b]) Q E' s :=
  wpAny_call (codeAny_call_builtin PySem.F.cmp_object.ne.plain PySem.F.cmpEntry_ne (PySem.W.check_slot PySem.F.cmpKind_ne PySem.F.cmpSplit_ne (I.type.andThen (PySem.W.looks_mroIn hX hm)) (PySem.F.cmpArgs_ne _ _)
    (objNe_entry (A := A.in1) hX I hs hf hu (wpAny_mono hcall (fun v s' hv => by
      obtain ⟨k, e, hq⟩ := hv
      exact ⟨k, e, hq⟩) fun _ _ e => e))))
theorem ifBound_objNe {M : Model} {args : List Value} {Q : Option Value → Shared → Prop} (hX : K.In s.heap) (I : PySem.W.InstAt s.heap x ox C od) (hs : PySem.W.findIn K (.ref C) "__ne__" = some (some (.builtin "object.__ne__")))
    (h : wpAny M A (call (.builtin "object.__ne__") (.ref x :: args)) (fun v => Q (some v)) E' s) : wpAny M A (callSpecialIfBound? (.ref x) "__ne__" args) Q E' s := by
  simp only [callSpecialIfBound?, bindSpecialIfBound?]
  refine wpAny_holding (wpAny_bind (wpAny_bind (wpAny_bind (I.type.here ((PySem.W.looks_findIn hX hs).here ?_)))))
  refine wpAny_bind (wpAny_askSetting (wpAny_ite ?_))
  have fin : wpAny M A (call (.builtin "object.__ne__") ([.ref x] ++ args) >>= fun v => pure (some v)) Q E' s := wpAny_bind (wpAny_mono h (fun v s' h' => wpAny_pure h') fun _ _ h' => h')
  split
  · exact wpAny_bind (wpAny_of_eq (PySem.F.cmp_object.ne.bind _) (wpAny_pure (by exact fin)))
  · exact wpAny_tryCatch (wpAny_bind (wpAny_of_eq (PySem.F.cmp_object.ne.bind _) (wpAny_pure (by exact fin))))
theorem rc_ne {tb : Value} {Q : Value → Shared → Prop} (hu : A.units + 1 < cLine) (hX : K.In s.heap) (I : PySem.W.InstAt s.heap x ox C od) (hb : PySem.W.Looks (model prog w) s.heap (typeOf b) tb) (hn : PySem.W.notFirst K C tb = true)
    (hm : PySem.W.mroIn K C (.type "object") = some true) (hne : PySem.W.findIn K (.ref C) "__ne__" = some (some (.builtin "object.__ne__"))) (hs : PySem.W.findIn K (.ref C) "__eq__" = some (some (.ref f))) (hf : PySem.W.isFn K (.ref f) = true)
    (hcall : wpAny (model prog w) A.in1 (call (.ref f) [.ref x, b]) (fun v s' => ∃ k, v = .bool k ∧ Q (.bool (!k)) s') E' s) : wpAny (model prog w) A (richCompare .NotEq (.ref x) b) Q E' s := by
  have one : wpAny (model prog w) A (tryCompare (.ref x) "__ne__" b) (fun r s' => ∃ v, r = some v ∧ Q v s') E' s := by
    unfold tryCompare
    refine wpAny_bind (ifBound_objNe hX I hne (call_objNe hX I hm hs hf hu (wpAny_mono hcall (fun v s' hv => ?_) fun _ _ e => e)))
    obtain ⟨k, rfl, hq⟩ := hv
    exact ⟨k, rfl, wpAny_pure ⟨_, rfl, hq⟩⟩
  unfold richCompare
  simp only [oneThing_ref, cmpInfo_NotEq]
  refine wpAny_holding (wpAny_bind (wpAny_cRoomFor (Nat.lt_of_succ_lt hu) ?_))
  refine wpAny_bind (I.type.here (wpAny_bind (hb.here ?_)))
  split
  · rename_i q
    have e : PySem.W.subIn K tb (.ref C) = some false := by
      rcases Bool.or_eq_true_iff.mp hn with e | e
      · rw [beq_iff_eq.mp e] at q; simp at q
      · exact beq_iff_eq.mp e
    refine wpAny_bind ((PySem.W.looks_subIn hX e).here ?_)
    simp only [Bool.false_eq_true, if_false]
    refine wpAny_bind (wpAny_mono one (fun r s' z => ?_) fun _ _ e => e)
    obtain ⟨v, rfl, hq⟩ := z
    exact wpAny_pure hq
  · refine wpAny_bind (wpAny_pure ?_)
    simp only [Bool.false_eq_true, if_false]
    refine wpAny_bind (wpAny_mono one (fun r s' z => ?_) fun _ _ e => e)
    obtain ⟨v, rfl, hq⟩ := z
    exact wpAny_pure hq
end
theorem op_own_ne (F : FnOk X.prog X.w X.K X.mg X.base CX k f fd ps sp) (hr : Room (k + 1) X.A) (hm : PySem.W.mroIn X.K C (.type "object") = some true) (hne : PySem.W.findIn X.K (.ref C) "__ne__" = some (some (.builtin "object.__ne__")))
    (hs : PySem.W.findIn X.K (.ref C) "__eq__" = some (some (.ref f))) (hf : PySem.W.isFn X.K (.ref f) = true) (hb : Binds X.K fd ps []) (hx : Passes CX X E) :
    OpR X (compareOp .NotEq) (rOwnEq C sp E not) := by
  intro pins s σ H x y v u Q I rx ry h
  obtain ⟨p, dx, fs, t, rfl, hp, ty, q⟩ := h
  cases rx
  obtain ⟨od, J⟩ := inst_of I hp
  show wpAny (model X.prog X.w) X.A (richCompare .NotEq (.ref p) u) (EP X pins σ Q) X.xe s
  refine rc_ne (hu_of hr) I.kIn J (ty.looks I ry) ty.notFirst hm hne hs hf (thn (run_at F hr.in1 rfl hb hx I (.cons rr (.cons ry .nil)) q) fun r s' hh => ?_)
  obtain ⟨z, H', I', rz, b, ez, q'⟩ := hh
  subst ez
  cases rz
  exact ⟨b, rfl, .bl (!b), H', I', rfl, q'⟩
end
end Own

namespace Toy
open PySem L2 Own
/-! ### the text by places -/
def top (i : Nat) : Stmt := PySem.Challenge.pw_breakerrow_k15_times_shared.main.body.getD i (.Pass ⟨0, 0, 0, 0⟩)
abbrev st_InvalidTime_init : Stmt := inClass (top 2) 0
abbrev st_InvalidTrains_init : Stmt := inClass (top 3) 0
abbrev st_InvalidIndex_init : Stmt := inClass (top 4) 0
abbrev st_InvalidBound_init : Stmt := inClass (top 5) 0
abbrev st_LimitExceeded_init : Stmt := inClass (top 6) 0
abbrev st_is_integer : Stmt := top 8
abbrev st_is_at_least : Stmt := top 9
abbrev st_steps_to : Stmt := top 10
abbrev st_count_below : Stmt := top 11
abbrev st_divisor_and_factor : Stmt := top 12
abbrev st_is_train : Stmt := top 14
abbrev st_last_time : Stmt := top 15
abbrev st_times_before : Stmt := top 16
abbrev st_part_of : Stmt := top 17
abbrev st_window_of : Stmt := top 18
abbrev st_window_runs : Stmt := top 19
abbrev st_joined : Stmt := top 20
abbrev st_normal_form : Stmt := top 21
abbrev st_with_plain_step : Stmt := top 22
abbrev st_counts_ahead : Stmt := top 23
abbrev st_total_count : Stmt := top 24
abbrev st_ends_first : Stmt := top 25
abbrev st_meeting : Stmt := top 26
abbrev st_meetings : Stmt := top 27
abbrev st_Trains_init : Stmt := inClass (top 30) 0
abbrev st_Trains_train_list : Stmt := inClass (top 30) 1
abbrev st_Trains_len : Stmt := inClass (top 30) 2
abbrev st_Trains_contains : Stmt := inClass (top 30) 3
abbrev st_Trains_getitem : Stmt := inClass (top 30) 4
abbrev st_Trains_iter : Stmt := inClass (top 30) 5
abbrev st_Trains_add : Stmt := inClass (top 30) 6
abbrev st_Trains_eq : Stmt := inClass (top 30) 7
abbrev st_check_trains : Stmt := top 31
abbrev st_is_behind : Stmt := top 32
abbrev st_trains_of : Stmt := top 33
abbrev st_time_count : Stmt := top 34
abbrev st_count_before : Stmt := top 35
abbrev st_window : Stmt := top 36
abbrev st_shared : Stmt := top 37
abbrev st__law_cell_at : Stmt := top 39
abbrev st__law_source_of : Stmt := top 40
abbrev st__law_draw : Stmt := top 41
abbrev st__law_choice : Stmt := top 42
abbrev st__law_rows : Stmt := top 43
abbrev st__law_times : Stmt := top 44
abbrev st__law_far_right : Stmt := top 45
abbrev st__law_divisor : Stmt := top 46
abbrev st__law_meeting_right : Stmt := top 47
abbrev st__law_holds : Stmt := top 48
abbrev st_law : Stmt := top 49
/-- a def of the top -/
structure Dfn (K : PySem.W.Frag) (mg : Str → Option Value) (x : Str) (st : Stmt) (f : Addr) (ps : List Str) : Prop where
  ex : ∃ fd, Fun K x x st f fd ∧ Binds K fd ps []
  g : mg x = some (.ref f)
structure Mth (K : PySem.W.Frag) (C : Addr) (m q : Str) (st : Stmt) (f : Addr) (ps : List Str) : Prop where
  ex : ∃ fd, Fun K m q st f fd ∧ Binds K fd ps []
  at_ : PySem.W.findIn K (.ref C) m = some (some (.ref f))
  fn : PySem.W.isFn K (.ref f) = true
  fk : PySem.W.fnIn K f = true
/-- a def that is called by its name, with its promise -/
structure Cal (P : Program) (w : World) (K : PySem.W.Frag) (mg : Str → Option Value) (base : Heap) (x : Str) (k : Nat) (f : Addr) (ps : List Str) (sp : Sp) : Prop where
  ex : ∃ fd, FnOk P w K mg base CX0 k f fd ps sp ∧ Binds K fd ps []
  g : mg x = some (.ref f)
  kp : PySem.W.keepIn K (.ref f) = true
theorem Dfn.cal {P : Program} {w : World} {K : PySem.W.Frag} {mg : Str → Option Value} {base : Heap} {x : Str} {st : Stmt} {f : Addr} {ps : List Str} {k : Nat} {sp : Sp} (D : Dfn K mg x st f ps) (h : ∀ fd, Fun K x x st f fd → FnOk P w K mg base CX0 k f fd ps sp) : Cal P w K mg base x k f ps sp := by
  obtain ⟨fd, F, b⟩ := D.ex
  exact ⟨⟨fd, h fd F, b⟩, D.g, F.kp⟩
theorem pe_c {X : Cx} {x : Str} {k : Nat} {f : Addr} {ps : List Str} {sp : Sp} {t : TA} {e : Expr} {es : List Expr} {p pos : Pos} (c : Cal X.prog X.w X.K X.mg X.base x k f ps sp) (hr : Room k X.A) (hg : Gl X x)
    (ha : PA X (e :: es) t) (hdb : (x == ("__debug__" : Str)) = false := by decide) (he : starEach (e :: es) X.env = (false, eval e X.env) :: starEach es X.env := by rfl) (hpl : (backTo pos (starEach es X.env)).any (·.1) = false := by rfl) :
    PE X (.Call (.Name x p) (e :: es) [] pos) (tCall sp [] E0 t) := by
  obtain ⟨fd, F, b⟩ := c.ex
  exact pe_call F hr hg c.g c.kp b .nil pass0 ha hdb he hpl
/-- a method with its promise -/
structure Met (P : Program) (w : World) (K : PySem.W.Frag) (mg : Str → Option Value) (base : Heap) (C : Addr) (m : Str) (k : Nat) (f : Addr) (ps : List Str) (sp : Sp) : Prop where
  ex : ∃ fd, FnOk P w K mg base CX0 k f fd ps sp ∧ Binds K fd ps []
  me : Meth K C m f
  fk : PySem.W.fnIn K f = true
theorem Mth.met {P : Program} {w : World} {K : PySem.W.Frag} {mg : Str → Option Value} {base : Heap} {C : Addr} {m q : Str} {st : Stmt} {f : Addr} {ps : List Str} {k : Nat} {sp : Sp} (D : Mth K C m q st f ps) (h : ∀ fd, Fun K m q st f fd → FnOk P w K mg base CX0 k f fd ps sp) : Met P w K mg base C m k f ps sp := by
  obtain ⟨fd, F, b⟩ := D.ex
  exact ⟨⟨fd, h fd F, b⟩, ⟨D.at_, D.fn, F.kp⟩, D.fk⟩

/-! ### values of plain kinds -/
inductive Kd (H : Hp) : V → String → Prop where
  | non : Kd H .non "NoneType"
  | bl (b : Bool) : Kd H (.bl b) "bool"
  | int (i : Int) : Kd H (.int i) "int"
  | str (x : Str) : Kd H (.str x) "str"
  | lst {a : Addr} {xs : List V} (e : H a = some (.lst xs)) : Kd H (.ref a) "list"
  | tup {a : Addr} {xs : List V} (e : H a = some (.tup xs)) : Kd H (.ref a) "tuple"
  | dK {a : Addr} {xs : List (Key × V)} (e : H a = some (.dK xs)) : Kd H (.ref a) "dict"
theorem Kd.ty {K : PySem.W.Frag} {H : Hp} {v : V} {n : String} (h : Kd H v n) : TyX K H v (.type n) := by
  cases h with
  | non => exact .base .non
  | bl b => exact .base (.bl b)
  | int i => exact .base (.int i)
  | str x => exact .base (.str x)
  | lst e => exact .base (.lst e)
  | tup e => exact .base (.tup e)
  | dK e => exact .base (.dK e)
def isI : V → Bool
  | .int _ => true
  | _ => false
def toI : V → Int
  | .int i => i
  | _ => 0
theorem Kd.kit {K : PySem.W.Frag} {H : Hp} {v : V} {n : String} (h : Kd H v n) (c : String) (b : Bool) (hc : c = "int" ∧ b = (n == "int" || n == "bool") ∨ c ≠ "int" ∧ c ∈ ["bool", "list", "tuple"] ∧ b = (n == c)) : PySem.W.kitOne K (.type n) (.type c) = some b := by
  rcases hc with ⟨rfl, rfl⟩ | ⟨_, hc, rfl⟩
  · cases h <;> exact kit_ty (by decide +kernel)
  · simp only [List.mem_cons, List.mem_nil_iff, or_false] at hc
    rcases hc with rfl | rfl | rfl <;> cases h <;> exact kit_ty (by decide +kernel)
theorem Kd.same {H H' : Hp} {v : V} {n : String} (h : Kd H v n) (s : ∀ b o, v = .ref b → H b = some o → H' b = some o) : Kd H' v n := by
  cases h with
  | non => exact .non
  | bl b => exact .bl b
  | int i => exact .int i
  | str x => exact .str x
  | lst e => exact .lst (s _ _ rfl e)
  | tup e => exact .tup (s _ _ rfl e)
  | dK e => exact .dK (s _ _ rfl e)
/-- all but what stands at a is kept -/
def Kp (a : Addr) (H H' : Hp) : Prop := ∀ b o, b ≠ a → H b = some o → H' b = some o
theorem Kp.refl {a : Addr} {H : Hp} : Kp a H H := fun _ _ _ h => h
theorem Kp.trans {a : Addr} {H H1 H2 : Hp} (h : Kp a H H1) (h' : Kp a H1 H2) : Kp a H H2 := fun b o n e => h' b o n (h b o n e)
theorem Kp.of {a : Addr} {H H' : Hp} (s : Same H H') : Kp a H H' := fun b o _ e => s b o e
theorem Kp.upd {a : Addr} {H : Hp} {o : HO} : Kp a H (upd H a o) := fun b _ n e => by rw [upd_ne n]; exact e
theorem Same.upd {H : Hp} {p : Addr} {o : HO} (h : H p = none) : Same H (L2.upd H p o) := fun b u e => by rw [upd_ne (ne_of_none e h)]; exact e
theorem Kp.free {a b : Addr} {H H' : Hp} {o : HO} (k : Kp a H H') (ha : H a = some o) (h : H' b = none) (n : b ≠ a) : H b = none := by
  cases q : H b with
  | none => rfl
  | some u => rw [k b u n q] at h; cases h

/-! ### the promises of the small defs -/
def spIsInt : Sp := fun vs H Q _ => ∃ v n, vs = [v] ∧ Kd H v n ∧ Q (.bl (isI v)) H
def spAtL : Sp := fun vs H Q _ => ∃ v n l, vs = [v, .int l] ∧ Kd H v n ∧ Q (.bl (isI v && decide (l ≤ toI v))) H
def spWithin : Sp := fun vs H Q _ => ∃ v n l m, vs = [v, .int l, .int m] ∧ Kd H v n ∧ Q (.bl (isI v && (decide (l ≤ toI v) && decide (toI v ≤ m)))) H
/-- how many steps -/
def stepsUp (d s : Int) : Int := if -(-d / s) > 0 then -(-d / s) else 0
def spSteps : Sp := fun vs H Q _ => ∃ d s, vs = [.int d, .int s] ∧ 0 < s ∧ s.natAbs.log2 < 9000 ∧ Q (.int (stepsUp d s)) H

/-- what the walk asks of the small defs -/
structure Tx0 (K : PySem.W.Frag) (mg : Str → Option Value) (aI aL aS : Addr) : Prop where
  isinstance : mg "isinstance" = none
  int : mg "int" = none
  bool : mg "bool" = none
  max : mg "max" = none
  dI : Dfn K mg "is_integer" st_is_integer aI ["value"]
  dL : Dfn K mg "is_at_least" st_is_at_least aL ["value", "least"]
  dS : Dfn K mg "steps_to" st_steps_to aS ["distance", "step"]
section
variable {P : Program} {w : World} {K : PySem.W.Frag} {mg : Str → Option Value} {base : Heap} {aI aL aS : Addr}
theorem sc_isint : FnScope ["value"] ["value"] (defScope st_is_integer) := ⟨rfl, rfl, rfl, by decide +kernel, rfl, by decide +kernel, by decide +kernel⟩
theorem ok_isint (T : Tx0 K mg aI aL aS) : Cal P w K mg base "is_integer" 1 aI ["value"] spIsInt := T.dI.cal fun fd F => by
  refine F.ok sc_isint (fun vs H Q E h => ?_) (fun cdv A outer s H vs Q E hr h => ?_)
  · obtain ⟨v, n, rfl, _⟩ := h
    rfl
  · obtain ⟨v, n, rfl, hv, k⟩ := h
    refine ⟨_, pss_one (ps_ret (pe_and (pe_callB call_isi (by rfl) T.isinstance (by decide +kernel) (pa_cons (pv 0) (pa_cons (pe_bltn (by rfl) T.int (by decide +kernel : bootBuiltins "int" = some (.type "int")) (v := .ty "int") rfl) pa_nil)))
      (pe_one (pe_not (pe_callB call_isi (by rfl) T.isinstance (by decide +kernel) (pa_cons (pv 0) (pa_cons (pe_bltn (by rfl) T.bool (by decide +kernel : bootBuiltins "bool" = some (.type "bool")) (v := .ty "bool") rfl) pa_nil))))))), ?_⟩
    refine ⟨_, rfl, v, .ty "int", _, _, _, rfl, .ty "int", hv.ty, hv.kit "int" _ (.inl ⟨rfl, rfl⟩), _, rfl, ?_⟩
    refine ite2 (fun c => ?_) (fun c => ?_)
    · refine ⟨_, rfl, v, .ty "bool", _, _, _, rfl, .ty "bool", hv.ty, hv.kit "bool" _ (.inr ⟨by decide, by decide, rfl⟩), _, rfl, ?_⟩
      cases hv <;> first | exact k | (exact absurd c (by decide))
    · cases hv <;> first | exact k | (exact absurd (by decide) c)
theorem sc_atl : FnScope ["value", "least"] ["value", "least"] (defScope st_is_at_least) := ⟨rfl, rfl, rfl, by decide +kernel, rfl, by decide +kernel, by decide +kernel⟩
theorem ok_atl (T : Tx0 K mg aI aL aS) : Cal P w K mg base "is_at_least" 2 aL ["value", "least"] spAtL := T.dL.cal fun fd F => by
  have G : Cal P w K mg base "is_integer" 1 aI ["value"] spIsInt := ok_isint T
  refine F.ok sc_atl (fun vs H Q E h => ?_) (fun cdv A outer s H vs Q E hr h => ?_)
  · obtain ⟨v, n, l, rfl, _⟩ := h
    rfl
  · obtain ⟨v, n, l, rfl, hv, k⟩ := h
    refine ⟨_, pss_one (ps_ret (pe_and (pe_c G hr rfl (pa_cons (pv 0) pa_nil)) (pe_one (pe_cmpR op_ge (pv 0) (pv 1) (nomark _))))), ?_⟩
    refine ⟨_, rfl, v, n, rfl, hv, _, rfl, ?_⟩
    cases v with
    | int i => exact iteT ⟨_, rfl, _, rfl, _, _, rfl, rfl, k⟩
    | _ => exact iteF k
theorem sc_steps : FnScope ["distance", "step"] ["distance", "step"] (defScope st_steps_to) := ⟨rfl, rfl, rfl, by decide +kernel, rfl, by decide +kernel, by decide +kernel⟩
theorem ok_steps (T : Tx0 K mg aI aL aS) : Cal P w K mg base "steps_to" 1 aS ["distance", "step"] spSteps := T.dS.cal fun fd F => by
  refine F.ok sc_steps (fun vs H Q E h => ?_) (fun cdv A outer s H vs Q E hr h => ?_)
  · obtain ⟨d, s, rfl, _⟩ := h
    rfl
  · obtain ⟨d, st, rfl, h0, h1, k⟩ := h
    refine ⟨_, pss_one (ps_ret (pe_callB (call_max2 rfl) (by rfl) T.max (by decide +kernel) (pa_cons pe_int (pa_cons (pe_un un_neg (pe_op op_fdivW (pe_un un_neg (pv 0)) (pv 1))) pa_nil)))), ?_⟩
    exact ⟨_, rfl, _, rfl, _, rfl, _, _, rfl, rfl, ⟨h0, h1⟩, _, rfl, _, _, rfl, k⟩
end
/-! ### trains as data -/
abbrev Trn := Int × Int × Option Int
def OkTr (t : Trn) : Prop := 0 ≤ t.1 ∧ 1 ≤ t.2.1 ∧ ∀ c, t.2.2 = some c → 1 ≤ c
/-- all times of the first are before the second -/
def Lt (t u : Trn) : Prop := ∃ c, t.2.2 = some c ∧ t.1 + (c - 1) * t.2.1 < u.1
def Srt (ts : List Trn) : Prop := (∀ t ∈ ts, OkTr t) ∧ ts.Pairwise Lt
def minO (n : Int) : Option Int → Int
  | none => n
  | some c => if c < n then c else n
/-- how many times of a train are before x -/
def nbT (t : Trn) (x : Int) : Int := minO (stepsUp (x - t.1) t.2.1) t.2.2
def NB : List Trn → Int → Int
  | [], _ => 0
  | t :: ts, x => nbT t x + NB ts x
def At : List Trn → Int → Option Int
  | [], _ => none
  | t :: ts, i => match t.2.2 with
    | none => some (t.1 + i * t.2.1)
    | some c => if i < c then some (t.1 + i * t.2.1) else At ts (i - c)
def addO (c : Int) : Option Int → Option Int
  | none => none
  | some n => some (c + n)
def Tot : List Trn → Option Int
  | [] => some 0
  | t :: ts => match t.2.2 with
    | none => none
    | some c => addO c (Tot ts)
/-- d / s, rounded up -/
def cl (d s : Int) : Int := -(-d / s)
theorem stepsUp_cl (d s : Int) : stepsUp d s = if cl d s > 0 then cl d s else 0 := rfl
theorem cl_sub (d s c : Int) (hs : 0 < s) : cl (d - c * s) s = cl d s - c := by
  unfold cl
  have e : -(d - c * s) = -d + c * s := by omega
  rw [e, Int.add_mul_ediv_right _ _ (show s ≠ 0 by omega)]
  omega
theorem cl_le {d s n : Int} (hs : 0 < s) : cl d s ≤ n ↔ d ≤ n * s := by
  unfold cl
  have h : -n ≤ -d / s ↔ -n * s ≤ -d := Int.le_ediv_iff_mul_le hs
  rw [Int.neg_mul] at h
  omega
theorem cl_gt {d s n : Int} (hs : 0 < s) : n < cl d s ↔ n * s < d := by
  have h := cl_le (d := d) (s := s) (n := n) hs
  omega
def subO (k : Option Int) (c : Int) : Option Int := match k with
  | none => none
  | some n => some (n - c)
/-- a train is its first c times, and the others -/
theorem nbT_split {s p c : Int} {k : Option Int} (hp : 0 < p) (hc : 0 ≤ c) (hk : ∀ n, k = some n → c ≤ n) (x : Int) : nbT (s, p, k) x = nbT (s, p, some c) x + nbT (s + c * p, p, subO k c) x := by
  have e : x - (s + c * p) = x - s - c * p := by omega
  show minO (stepsUp (x - s) p) k = minO (stepsUp (x - s) p) (some c) + minO (stepsUp (x - (s + c * p)) p) (subO k c)
  rw [e, stepsUp_cl, stepsUp_cl, cl_sub _ _ _ hp]
  cases k with
  | none =>
    show (if cl (x - s) p > 0 then cl (x - s) p else 0) = (if c < (if cl (x - s) p > 0 then cl (x - s) p else 0) then c else (if cl (x - s) p > 0 then cl (x - s) p else 0)) + (if cl (x - s) p - c > 0 then cl (x - s) p - c else 0)
    split <;> split <;> split <;> omega
  | some n =>
    have := hk n rfl
    show (if n < (if cl (x - s) p > 0 then cl (x - s) p else 0) then n else (if cl (x - s) p > 0 then cl (x - s) p else 0)) = (if c < (if cl (x - s) p > 0 then cl (x - s) p else 0) then c else (if cl (x - s) p > 0 then cl (x - s) p else 0)) + (if n - c < (if cl (x - s) p - c > 0 then cl (x - s) p - c else 0) then n - c else (if cl (x - s) p - c > 0 then cl (x - s) p - c else 0))
    split <;> split <;> split <;> split <;> (try split) <;> omega
/-- the step of a single time is nothing -/
theorem nbT_one {s p q : Int} (hp : 0 < p) (hq : 0 < q) (x : Int) : nbT (s, p, some 1) x = nbT (s, q, some 1) x := by
  have one : ∀ p : Int, 0 < p → nbT (s, p, some 1) x = if s < x then 1 else 0 := fun p hp => by
    show (if (1 : Int) < (if cl (x - s) p > 0 then cl (x - s) p else 0) then (1 : Int) else (if cl (x - s) p > 0 then cl (x - s) p else 0)) = _
    have h0 : 0 < cl (x - s) p ↔ 0 * p < x - s := cl_gt hp
    rw [Int.zero_mul] at h0
    split <;> split <;> split <;> omega
  rw [one p hp, one q hq]
theorem NB_app : ∀ (ts us : List Trn) (x : Int), NB (ts ++ us) x = NB ts x + NB us x
  | [], us, x => by show NB us x = 0 + NB us x; omega
  | t :: ts, us, x => by
    show nbT t x + NB (ts ++ us) x = nbT t x + NB ts x + NB us x
    rw [NB_app ts us x]
    omega
theorem addO_addO (a b : Int) (k : Option Int) : addO a (addO b k) = addO (a + b) k := by
  cases k with
  | none => rfl
  | some n => show some (a + (b + n)) = some (a + b + n); rw [Int.add_assoc]
theorem nbT_nn {t : Trn} (h : OkTr t) (x : Int) : 0 ≤ nbT t x := by
  obtain ⟨s, p, k⟩ := t
  show 0 ≤ minO (stepsUp (x - s) p) k
  rw [stepsUp_cl]
  cases k with
  | none => show 0 ≤ if cl (x - s) p > 0 then cl (x - s) p else 0; split <;> omega
  | some c =>
    have := h.2.2 c rfl
    show 0 ≤ if c < (if cl (x - s) p > 0 then cl (x - s) p else 0) then c else (if cl (x - s) p > 0 then cl (x - s) p else 0)
    split <;> (try split) <;> omega
theorem nbT_zero {t : Trn} (h : OkTr t) {x : Int} (hx : x ≤ t.1) : nbT t x = 0 := by
  obtain ⟨s, p, k⟩ := t
  have hp : 0 < p := by
    have h2 : 1 ≤ p := h.2.1
    omega
  have h1 : cl (x - s) p ≤ 0 := (cl_le hp).mpr (by
    have h2 : x ≤ s := hx
    omega)
  show minO (stepsUp (x - s) p) k = 0
  rw [stepsUp_cl, if_neg (by omega)]
  cases k with
  | none => rfl
  | some c =>
    have := h.2.2 c rfl
    show (if c < 0 then c else 0) = 0
    rw [if_neg (by omega)]
theorem nbT_all {t : Trn} (h : OkTr t) {x c : Int} (hc : t.2.2 = some c) (hx : t.1 + (c - 1) * t.2.1 < x) : nbT t x = c := by
  obtain ⟨s, p, k⟩ := t
  have hp : 0 < p := by
    have h2 : 1 ≤ p := h.2.1
    omega
  have h0 : k = some c := hc
  subst h0
  have h1 : c - 1 < cl (x - s) p := (cl_gt hp).mpr (by
    have h2 : s + (c - 1) * p < x := hx
    omega)
  have := h.2.2 c rfl
  show (if c < stepsUp (x - s) p then c else stepsUp (x - s) p) = c
  rw [stepsUp_cl]
  split <;> (try split at *) <;> omega
theorem NB_nn {ts : List Trn} (h : ∀ t ∈ ts, OkTr t) (x : Int) : 0 ≤ NB ts x := by
  induction ts with
  | nil => exact Int.le_refl _
  | cons t ts ih =>
    have h1 := nbT_nn (h t (List.mem_cons_self ..)) x
    have h2 := ih fun u hu => h u (List.mem_cons_of_mem _ hu)
    show 0 ≤ nbT t x + NB ts x
    omega
theorem NB_zero {ts : List Trn} (h : ∀ t ∈ ts, OkTr t) {x : Int} (hx : ∀ t ∈ ts, x ≤ t.1) : NB ts x = 0 := by
  induction ts with
  | nil => rfl
  | cons t ts ih =>
    show nbT t x + NB ts x = 0
    rw [nbT_zero (h t (List.mem_cons_self ..)) (hx t (List.mem_cons_self ..)), ih (fun u hu => h u (List.mem_cons_of_mem _ hu)) fun u hu => hx u (List.mem_cons_of_mem _ hu)]
    rfl
theorem Srt.tail {t : Trn} {ts : List Trn} (h : Srt (t :: ts)) : Srt ts := ⟨fun u hu => h.1 u (List.mem_cons_of_mem _ hu), (List.pairwise_cons.mp h.2).2⟩
theorem Srt.head {t : Trn} {ts : List Trn} (h : Srt (t :: ts)) : OkTr t := h.1 t (List.mem_cons_self ..)
theorem Srt.lt {t : Trn} {ts : List Trn} (h : Srt (t :: ts)) : ∀ u ∈ ts, Lt t u := (List.pairwise_cons.mp h.2).1
theorem lt_start {t u : Trn} (h : OkTr t) (l : Lt t u) : t.1 < u.1 := by
  obtain ⟨c, e, q⟩ := l
  have hc := h.2.2 c e
  have : 0 ≤ (c - 1) * t.2.1 := Int.mul_nonneg (by omega) (by have := h.2.1; omega)
  omega
/-! what is before x, and which time is the i-th -/
theorem nbT_le {t : Trn} {x c : Int} (e : t.2.2 = some c) : nbT t x ≤ c := by
  unfold nbT
  rw [e]
  show (if c < stepsUp (x - t.1) t.2.1 then c else stepsUp (x - t.1) t.2.1) ≤ c
  split <;> omega
/-- the times before x are those with an index below nbT -/
theorem nbT_lt {t : Trn} (h : OkTr t) {x i : Int} (i0 : 0 ≤ i) (hi : ∀ c, t.2.2 = some c → i < c) : i < nbT t x ↔ t.1 + i * t.2.1 < x := by
  obtain ⟨s, p, k⟩ := t
  have hp : 0 < p := by
    have h2 : 1 ≤ p := h.2.1
    omega
  have h1 : i < cl (x - s) p ↔ i * p < x - s := cl_gt hp
  have e : (s + i * p < x) ↔ i * p < x - s := by omega
  show i < minO (stepsUp (x - s) p) k ↔ s + i * p < x
  rw [stepsUp_cl, e, ← h1]
  cases k with
  | none =>
    show i < (if cl (x - s) p > 0 then cl (x - s) p else 0) ↔ _
    split <;> omega
  | some c =>
    have := hi c rfl
    show i < (if c < (if cl (x - s) p > 0 then cl (x - s) p else 0) then c else (if cl (x - s) p > 0 then cl (x - s) p else 0)) ↔ _
    split <;> (try split) <;> (try split at *) <;> omega
theorem At_lt : ∀ {ts : List Trn}, Srt ts → ∀ {i y : Int}, 0 ≤ i → At ts i = some y → ∀ x, i < NB ts x ↔ y < x
  | [], _, i, y, _, e, _ => by cases e
  | t :: ts, h, i, y, i0, e, x => by
    have ht := h.head
    have hs := h.tail
    have nn := NB_nn hs.1 x
    cases hk : t.2.2 with
    | none =>
      have e' : At (t :: ts) i = some (t.1 + i * t.2.1) := by
        show (match t.2.2 with | none => some (t.1 + i * t.2.1) | some c => if i < c then some (t.1 + i * t.2.1) else At ts (i - c)) = _
        rw [hk]
      rw [e'] at e
      have ey := Option.some.inj e
      subst ey
      have nt : ts = [] := by
        cases ts with
        | nil => rfl
        | cons u us =>
          obtain ⟨c, hc, _⟩ := h.lt u (List.mem_cons_self ..)
          rw [hk] at hc
          cases hc
      subst nt
      have := nbT_lt ht (x := x) i0 (fun c hc => by rw [hk] at hc; cases hc)
      show i < nbT t x + 0 ↔ _
      rw [Int.add_zero]
      exact this
    | some c =>
      have e' : At (t :: ts) i = if i < c then some (t.1 + i * t.2.1) else At ts (i - c) := by
        show (match t.2.2 with | none => some (t.1 + i * t.2.1) | some c => if i < c then some (t.1 + i * t.2.1) else At ts (i - c)) = _
        rw [hk]
      rw [e'] at e
      show i < nbT t x + NB ts x ↔ y < x
      by_cases hi : i < c
      · rw [if_pos hi] at e
        have ey := Option.some.inj e
        have h1 := nbT_lt ht (x := x) i0 (fun c' hc => by rw [hk] at hc; cases hc; exact hi)
        by_cases hl : t.1 + (c - 1) * t.2.1 < x
        · have h2 := nbT_all ht hk hl
          omega
        · have h3 : NB ts x = 0 := NB_zero hs.1 fun u hu => by
            obtain ⟨c', hc, q⟩ := h.lt u hu
            rw [hk] at hc
            cases hc
            omega
          omega
      · rw [if_neg hi] at e
        have ih := At_lt hs (i := i - c) (by omega) e x
        have h2 := nbT_le (x := x) hk
        by_cases hl : t.1 + (c - 1) * t.2.1 < x
        · have h3 := nbT_all ht hk hl
          omega
        · have h3 : NB ts x = 0 := NB_zero hs.1 fun u hu => by
            obtain ⟨c', hc, q⟩ := h.lt u hu
            rw [hk] at hc
            cases hc
            omega
          omega
theorem tot_nn : ∀ {ts : List Trn}, (∀ t ∈ ts, OkTr t) → ∀ n, Tot ts = some n → 0 ≤ n
  | [], _, n, e => by cases e; exact Int.le_refl _
  | t :: ts, h, n, e => by
    cases hk : t.2.2 with
    | none =>
      have e2 : Tot (t :: ts) = none := by
        show (match t.2.2 with | none => none | some c => addO c (Tot ts)) = _
        rw [hk]
      rw [e2] at e
      cases e
    | some c =>
      have e2 : Tot (t :: ts) = addO c (Tot ts) := by
        show (match t.2.2 with | none => none | some c => addO c (Tot ts)) = _
        rw [hk]
      rw [e2] at e
      cases ht : Tot ts with
      | none => rw [ht] at e; cases e
      | some m =>
        rw [ht] at e
        have z' : c + m = n := Option.some.inj e
        have := tot_nn (fun u hu => h u (List.mem_cons_of_mem _ hu)) m ht
        have := (h t (List.mem_cons_self ..)).2.2 c hk
        omega
theorem At_none : ∀ {ts : List Trn}, (∀ t ∈ ts, OkTr t) → ∀ {i : Int}, 0 ≤ i → (At ts i = none ↔ ∃ n, Tot ts = some n ∧ n ≤ i)
  | [], _, i, i0 => ⟨fun _ => ⟨0, rfl, i0⟩, fun _ => rfl⟩
  | t :: ts, h, i, i0 => by
    cases hk : t.2.2 with
    | none =>
      have e' : At (t :: ts) i = some (t.1 + i * t.2.1) := by
        show (match t.2.2 with | none => some (t.1 + i * t.2.1) | some c => if i < c then some (t.1 + i * t.2.1) else At ts (i - c)) = _
        rw [hk]
      have e2 : Tot (t :: ts) = none := by
        show (match t.2.2 with | none => none | some c => addO c (Tot ts)) = _
        rw [hk]
      rw [e', e2]
      exact ⟨fun z => (by cases z), fun ⟨n, z, _⟩ => (by cases z)⟩
    | some c =>
      have e' : At (t :: ts) i = if i < c then some (t.1 + i * t.2.1) else At ts (i - c) := by
        show (match t.2.2 with | none => some (t.1 + i * t.2.1) | some c => if i < c then some (t.1 + i * t.2.1) else At ts (i - c)) = _
        rw [hk]
      have e2 : Tot (t :: ts) = addO c (Tot ts) := by
        show (match t.2.2 with | none => none | some c => addO c (Tot ts)) = _
        rw [hk]
      have tn : ∀ n, Tot ts = some n → 0 ≤ n := tot_nn fun u hu => h u (List.mem_cons_of_mem _ hu)
      rw [e', e2]
      by_cases hi : i < c
      · rw [if_pos hi]
        refine ⟨fun z => (by cases z), fun ⟨n, z, hn⟩ => ?_⟩
        cases ht : Tot ts with
        | none => rw [ht] at z; cases z
        | some m =>
          rw [ht] at z
          have := tn m ht
          have z' : c + m = n := Option.some.inj z
          omega
      · rw [if_neg hi]
        have ih := At_none (ts := ts) (fun u hu => h u (List.mem_cons_of_mem _ hu)) (i := i - c) (by omega)
        rw [ih]
        constructor
        · rintro ⟨n, e, hn⟩
          exact ⟨c + n, by rw [e]; rfl, by omega⟩
        · rintro ⟨n, e, hn⟩
          cases ht : Tot ts with
          | none => rw [ht] at e; cases e
          | some m =>
            rw [ht] at e
            have z' : c + m = n := Option.some.inj e
            exact ⟨m, rfl, by omega⟩
theorem NB_tot : ∀ {ts : List Trn}, (∀ t ∈ ts, OkTr t) → ∀ {n : Int}, Tot ts = some n → ∀ x, NB ts x ≤ n
  | [], _, n, e, x => by cases e; exact Int.le_refl _
  | t :: ts, h, n, e, x => by
    cases hk : t.2.2 with
    | none =>
      have e2 : Tot (t :: ts) = none := by
        show (match t.2.2 with | none => none | some c => addO c (Tot ts)) = _
        rw [hk]
      rw [e2] at e
      cases e
    | some c =>
      have e2 : Tot (t :: ts) = addO c (Tot ts) := by
        show (match t.2.2 with | none => none | some c => addO c (Tot ts)) = _
        rw [hk]
      rw [e2] at e
      cases ht : Tot ts with
      | none => rw [ht] at e; cases e
      | some m =>
        rw [ht] at e
        have z' : c + m = n := Option.some.inj e
        have h1 := nbT_le (x := x) hk
        have h2 := NB_tot (fun u hu => h u (List.mem_cons_of_mem _ hu)) ht x
        show nbT t x + NB ts x ≤ n
        omega
theorem nbT_step {t : Trn} (h : OkTr t) (x : Int) : nbT t (x + 1) ≤ nbT t x + 1 := by
  obtain ⟨s, p, k⟩ := t
  have hp : 1 ≤ p := h.2.1
  have h1 : cl (x + 1 - s) p ≤ cl (x - s) p + 1 := by
    refine (cl_le (by omega)).mpr ?_
    have h2 : x - s ≤ cl (x - s) p * p := (cl_le (by omega)).mp (Int.le_refl _)
    rw [Int.add_mul, Int.one_mul]
    omega
  show minO (stepsUp (x + 1 - s) p) k ≤ minO (stepsUp (x - s) p) k + 1
  rw [stepsUp_cl, stepsUp_cl]
  cases k with
  | none =>
    show (if cl (x + 1 - s) p > 0 then cl (x + 1 - s) p else 0) ≤ (if cl (x - s) p > 0 then cl (x - s) p else 0) + 1
    split <;> split <;> omega
  | some c =>
    show (if c < (if cl (x + 1 - s) p > 0 then cl (x + 1 - s) p else 0) then c else (if cl (x + 1 - s) p > 0 then cl (x + 1 - s) p else 0)) ≤ (if c < (if cl (x - s) p > 0 then cl (x - s) p else 0) then c else (if cl (x - s) p > 0 then cl (x - s) p else 0)) + 1
    repeat' split
    all_goals omega
theorem NB_step : ∀ {ts : List Trn}, Srt ts → ∀ x, NB ts (x + 1) ≤ NB ts x + 1
  | [], _, x => by show (0 : Int) ≤ 0 + 1; omega
  | t :: ts, h, x => by
    have ht := h.head
    have hs := h.tail
    have st := nbT_step ht x
    show nbT t (x + 1) + NB ts (x + 1) ≤ nbT t x + NB ts x + 1
    cases hk : t.2.2 with
    | none =>
      have nt : ts = [] := by
        cases ts with
        | nil => rfl
        | cons u us =>
          obtain ⟨c, hc, _⟩ := h.lt u (List.mem_cons_self ..)
          rw [hk] at hc
          cases hc
      subst nt
      show nbT t (x + 1) + 0 ≤ nbT t x + 0 + 1
      omega
    | some c =>
      by_cases hl : t.1 + (c - 1) * t.2.1 < x
      · have h1 := nbT_all ht hk hl
        have h2 := nbT_all ht hk (show t.1 + (c - 1) * t.2.1 < x + 1 by omega)
        have h3 := NB_step hs x
        omega
      · have z : ∀ y, y ≤ x + 1 → NB ts y = 0 := fun y hy => NB_zero hs.1 fun u hu => by
          obtain ⟨c', hc, q⟩ := h.lt u hu
          rw [hk] at hc
          cases hc
          omega
        have h1 := z x (by omega)
        have h2 := z (x + 1) (Int.le_refl _)
        omega
/-- the i-th time is told by what is before x -/
theorem At_iff {ts : List Trn} (h : Srt ts) {i y : Int} (i0 : 0 ≤ i) : At ts i = some y ↔ NB ts y = i ∧ NB ts (y + 1) = i + 1 := by
  have one : ∀ {z}, At ts i = some z → NB ts z = i ∧ NB ts (z + 1) = i + 1 := fun {z} e => by
    have h1 := At_lt h i0 e z
    have h2 := At_lt h i0 e (z + 1)
    have h3 := NB_step h z
    omega
  refine ⟨one, fun ⟨e1, e2⟩ => ?_⟩
  cases q : At ts i with
  | none =>
    obtain ⟨n, e3, e4⟩ := (At_none h.1 i0).mp q
    have := NB_tot h.1 e3 (y + 1)
    omega
  | some w =>
    have h3 := At_lt h i0 q y
    have h4 := At_lt h i0 q (y + 1)
    congr 1
    omega
/-- trains with the same counts have the same times -/
theorem At_same {ts us : List Trn} (h : Srt ts) (h' : Srt us) (e : ∀ x, NB ts x = NB us x) {i : Int} (i0 : 0 ≤ i) : At ts i = At us i := by
  cases q : At ts i with
  | some y =>
    obtain ⟨e1, e2⟩ := (At_iff h i0).mp q
    exact ((At_iff h' i0).mpr ⟨by rw [← e]; exact e1, by rw [← e]; exact e2⟩).symm
  | none =>
    cases q2 : At us i with
    | none => rfl
    | some y =>
      obtain ⟨e1, e2⟩ := (At_iff h' i0).mp q2
      rw [(At_iff h i0).mpr ⟨by rw [e]; exact e1, by rw [e]; exact e2⟩] at q
      cases q
/-! ### the normal form as data -/
def partL (t : Trn) (low : Int) (high : Option Int) : List Trn := match high with
  | none => [(t.1 + low * t.2.1, t.2.1, none)]
  | some h => if low = h then [] else [(t.1 + low * t.2.1, t.2.1, some (h - low))]
def joinS (t f : Trn) (c : Int) : Int := if c = 1 then f.1 - t.1 else t.2.1
def joinC (t f : Trn) (c : Int) : List Trn :=
  if t.1 + c * joinS t f c = f.1 then
    if f.2.1 = joinS t f c then [(t.1, joinS t f c, addO c f.2.2)]
    else (t.1, joinS t f c, some (c + 1)) :: partL f 1 f.2.2
  else [t, f]
def joinL (t f : Trn) : List Trn := match t.2.2 with
  | none => [f]
  | some c => joinC t f c
def plainT (t : Trn) : Trn := if t.2.2 = some 1 then (t.1, 1, some 1) else t
def nfG (cl : List Trn) : Option Trn → List Trn → List Trn
  | h, [] => cl ++ (h.map plainT).toList
  | none, f :: r => nfG cl (some f) r
  | some t, f :: r => nfG (cl ++ (joinL t f).dropLast) (joinL t f).getLast? r
def nfs (ts : List Trn) : List Trn := nfG [] none ts
theorem nbT_none_zero {s p : Int} (hp : 0 < p) (x : Int) : nbT (s, p, some 0) x = 0 := by
  show (if (0 : Int) < stepsUp (x - s) p then 0 else stepsUp (x - s) p) = 0
  rw [stepsUp_cl]
  repeat' split
  all_goals omega
theorem nbT_part {f : Trn} (h : OkTr f) (x : Int) : nbT f x = nbT (f.1, f.2.1, some 1) x + NB (partL f 1 f.2.2) x := by
  obtain ⟨s, p, k⟩ := f
  have hp : 1 ≤ p := h.2.1
  have e := nbT_split (s := s) (p := p) (c := 1) (k := k) (by omega) (by decide) (fun n hn => h.2.2 n hn) x
  rw [e]
  cases k with
  | none => show _ = _ + (nbT (s + 1 * p, p, none) x + 0); rw [Int.add_zero]; rfl
  | some d =>
    show _ = _ + NB (if 1 = d then [] else [(s + 1 * p, p, some (d - 1))]) x
    by_cases c : 1 = d
    · subst c
      rw [if_pos rfl]
      have := nbT_none_zero (s := s + 1 * p) (p := p) (by omega) x
      show _ + nbT (s + 1 * p, p, some (1 - 1)) x = _ + 0
      rw [show (1 : Int) - 1 = 0 by rfl, this]
    · rw [if_neg c]
      show _ = _ + (nbT (s + 1 * p, p, some (d - 1)) x + 0)
      rw [Int.add_zero]
      rfl
structure Joined (t f : Trn) (g : List Trn) : Prop where
  ok : ∀ u ∈ g, OkTr u
  pw : g.Pairwise Lt
  nb : ∀ x, NB g x = nbT t x + nbT f x
  lo : ∀ u ∈ g, t.1 ≤ u.1
  hi : ∀ r, Lt f r → ∀ u ∈ g, Lt u r
  ne : g ≠ []
theorem joinL_ok {t f : Trn} (ht : OkTr t) (hf : OkTr f) (hl : Lt t f) : Joined t f (joinL t f) := by
  obtain ⟨c, hc, hlt⟩ := hl
  have c1 := ht.2.2 c hc
  have p1 := ht.2.1
  have q1 := hf.2.1
  have start : t.1 < f.1 := lt_start ht ⟨c, hc, hlt⟩
  have ej : joinL t f = joinC t f c := by unfold joinL; rw [hc]
  rw [ej]
  have ps : 1 ≤ joinS t f c := by
    unfold joinS
    by_cases e : c = 1
    · rw [if_pos e]; omega
    · rw [if_neg e]; exact p1
  have et : ∀ x, nbT t x = nbT (t.1, joinS t f c, some c) x := fun x => by
    have e0 : t = (t.1, t.2.1, some c) := by rw [← hc]
    unfold joinS
    by_cases e : c = 1
    · subst e
      rw [if_pos rfl]
      have h1 := nbT_one (s := t.1) (p := t.2.1) (q := f.1 - t.1) (by omega) (by omega) x
      rw [← h1, ← e0]
    · rw [if_neg e, ← e0]
  have fl : ∀ {d}, f.2.2 = some d → f.1 ≤ f.1 + (d - 1) * f.2.1 := fun {d} hd => by
    have := hf.2.2 d hd
    have : 0 ≤ (d - 1) * f.2.1 := Int.mul_nonneg (by omega) (by omega)
    omega
  unfold joinC
  by_cases j1 : t.1 + c * joinS t f c = f.1
  · rw [if_pos j1]
    by_cases j2 : f.2.1 = joinS t f c
    · rw [if_pos j2]
      refine ⟨fun u hu => ?_, List.pairwise_singleton _ _, fun x => ?_, fun u hu => ?_, fun r hr u hu => ?_, by simp⟩
      · have e : u = _ := List.mem_singleton.mp hu
        subst e
        refine ⟨ht.1, ps, fun n hn => ?_⟩
        have hn : addO c f.2.2 = some n := hn
        cases hk : f.2.2 with
        | none => rw [hk] at hn; cases hn
        | some d =>
          rw [hk] at hn
          have := hf.2.2 d hk
          have z : c + d = n := Option.some.inj hn
          omega
      · show nbT (t.1, joinS t f c, addO c f.2.2) x + 0 = _
        rw [Int.add_zero, nbT_split (c := c) (by omega) (by omega) (fun n hn => ?_) x, et x, j1]
        · have e3 : subO (addO c f.2.2) c = f.2.2 := by
            cases f.2.2 with
            | none => rfl
            | some d => show some (c + d - c) = some d; congr 1; omega
          rw [e3, ← j2]
        · cases hk : f.2.2 with
          | none => rw [hk] at hn; cases hn
          | some d =>
            rw [hk] at hn
            have := hf.2.2 d hk
            have z : c + d = n := Option.some.inj hn
            omega
      · have e : u = _ := List.mem_singleton.mp hu
        subst e
        exact Int.le_refl _
      · have e : u = _ := List.mem_singleton.mp hu
        subst e
        obtain ⟨d, hd, hr⟩ := hr
        refine ⟨c + d, by show addO c f.2.2 = _; rw [hd]; rfl, ?_⟩
        show t.1 + (c + d - 1) * joinS t f c < r.1
        rw [show c + d - 1 = c + (d - 1) by omega, Int.add_mul, ← j2]
        rw [← j2] at j1
        omega
    · rw [if_neg j2]
      have hp := nbT_part hf
      have hpt : ∀ u ∈ partL f 1 f.2.2, OkTr u ∧ f.1 < u.1 ∧ ∀ r, Lt f r → Lt u r := fun u hu => by
        unfold partL at hu
        have h0 := hf.1
        cases hk : f.2.2 with
        | none =>
          rw [hk] at hu
          have e : u = _ := List.mem_singleton.mp hu
          subst e
          refine ⟨⟨by show 0 ≤ f.1 + 1 * f.2.1; omega, q1, fun n hn => by cases hn⟩, by show f.1 < f.1 + 1 * f.2.1; omega, fun r ⟨d, hd, _⟩ => ?_⟩
          rw [hk] at hd
          cases hd
        | some d =>
          rw [hk] at hu
          have hu : u ∈ (if 1 = d then [] else [(f.1 + 1 * f.2.1, f.2.1, some (d - 1))] : List Trn) := hu
          have d1 := hf.2.2 d hk
          by_cases z : 1 = d
          · rw [if_pos z] at hu; simp at hu
          · rw [if_neg z] at hu
            have e : u = _ := List.mem_singleton.mp hu
            subst e
            refine ⟨⟨by show 0 ≤ f.1 + 1 * f.2.1; omega, q1, fun n hn => by have z : d - 1 = n := Option.some.inj hn; omega⟩, by show f.1 < f.1 + 1 * f.2.1; omega, fun r ⟨d', hd, hr⟩ => ?_⟩
            rw [hk] at hd
            cases hd
            refine ⟨d - 1, rfl, ?_⟩
            show f.1 + 1 * f.2.1 + (d - 1 - 1) * f.2.1 < r.1
            rw [show d - 1 - 1 = (d - 1) + -1 by omega, Int.add_mul]
            omega
      refine ⟨fun u hu => ?_, List.pairwise_cons.mpr ⟨fun u hu => ?_, ?_⟩, fun x => ?_, fun u hu => ?_, fun r hr u hu => ?_, by simp⟩
      · rcases List.mem_cons.mp hu with rfl | hu
        · exact ⟨ht.1, ps, fun n hn => by have z : c + 1 = n := Option.some.inj hn; omega⟩
        · exact (hpt u hu).1
      · refine ⟨c + 1, rfl, ?_⟩
        show t.1 + (c + 1 - 1) * joinS t f c < u.1
        rw [Int.add_sub_cancel]
        have := (hpt u hu).2.1
        omega
      · unfold partL
        cases f.2.2 with
        | none => exact List.pairwise_singleton _ _
        | some d =>
          show ((if 1 = d then [] else [(f.1 + 1 * f.2.1, f.2.1, some (d - 1))] : List Trn)).Pairwise Lt
          by_cases z : 1 = d
          · rw [if_pos z]; exact List.Pairwise.nil
          · rw [if_neg z]; exact List.pairwise_singleton _ _
      · show nbT (t.1, joinS t f c, some (c + 1)) x + NB (partL f 1 f.2.2) x = _
        rw [hp x, et x, nbT_split (c := c) (k := some (c + 1)) (by omega) (by omega) (fun n hn => by have z : c + 1 = n := Option.some.inj hn; omega) x, j1]
        have e3 : subO (some (c + 1)) c = some 1 := by show some (c + 1 - c) = some 1; congr 1; omega
        rw [e3, nbT_one (s := f.1) (p := joinS t f c) (q := f.2.1) (by omega) (by omega) x]
        omega
      · rcases List.mem_cons.mp hu with rfl | hu
        · exact Int.le_refl _
        · have := (hpt u hu).2.1
          omega
      · rcases List.mem_cons.mp hu with rfl | hu
        · obtain ⟨d, hd, hr⟩ := hr
          refine ⟨c + 1, rfl, ?_⟩
          show t.1 + (c + 1 - 1) * joinS t f c < r.1
          rw [Int.add_sub_cancel]
          have := fl hd
          omega
        · exact (hpt u hu).2.2 r hr
  · rw [if_neg j1]
    refine ⟨fun u hu => ?_, ?_, fun x => ?_, fun u hu => ?_, fun r hr u hu => ?_, by simp⟩
    · simp only [List.mem_cons, List.mem_nil_iff, or_false] at hu
      rcases hu with rfl | rfl
      · exact ht
      · exact hf
    · exact List.pairwise_cons.mpr ⟨fun u hu => by rw [List.mem_singleton.mp hu]; exact ⟨c, hc, hlt⟩, List.pairwise_singleton _ _⟩
    · show nbT t x + (nbT f x + 0) = _
      omega
    · simp only [List.mem_cons, List.mem_nil_iff, or_false] at hu
      rcases hu with rfl | rfl <;> omega
    · simp only [List.mem_cons, List.mem_nil_iff, or_false] at hu
      rcases hu with rfl | rfl
      · obtain ⟨d, hd, hr⟩ := hr
        have := fl hd
        exact ⟨c, hc, by omega⟩
      · exact hr
theorem plainT_ok {t : Trn} (h : OkTr t) : OkTr (plainT t) ∧ (plainT t).1 = t.1 ∧ (∀ x, nbT (plainT t) x = nbT t x) ∧ (∀ r, Lt t r → Lt (plainT t) r) := by
  unfold plainT
  by_cases c : t.2.2 = some 1
  · rw [if_pos c]
    obtain ⟨s, p, k⟩ := t
    have hp : 1 ≤ p := h.2.1
    have e : k = some 1 := c
    subst e
    refine ⟨⟨h.1, Int.le_refl _, fun n hn => by cases hn; exact Int.le_refl _⟩, rfl, fun x => nbT_one (by decide) (by omega) x, fun r ⟨d, hd, hr⟩ => ?_⟩
    cases hd
    refine ⟨1, rfl, ?_⟩
    show s + (1 - 1) * 1 < r.1
    have hr : s + (1 - 1) * p < r.1 := hr
    simp at hr ⊢
    exact hr
  · rw [if_neg c]
    exact ⟨h, rfl, fun _ => rfl, fun _ z => z⟩
theorem lt_of_start {a t b : Trn} (h : Lt a t) (l : t.1 ≤ b.1) : Lt a b := by
  obtain ⟨c, e, q⟩ := h
  exact ⟨c, e, by omega⟩
theorem nfG_ok : ∀ (r cl : List Trn) (h : Option Trn), Srt (cl ++ h.toList ++ r) → Srt (nfG cl h r) ∧ ∀ x, NB (nfG cl h r) x = NB (cl ++ h.toList ++ r) x
  | [], cl, none, hs => by
    rw [List.append_nil] at hs ⊢
    exact ⟨hs, fun _ => rfl⟩
  | [], cl, some t, hs => by
    rw [List.append_nil] at hs ⊢
    show Srt (cl ++ [plainT t]) ∧ ∀ x, NB (cl ++ [plainT t]) x = NB (cl ++ [t]) x
    have hs : Srt (cl ++ [t]) := hs
    obtain ⟨a1, a2, a3⟩ := List.pairwise_append.mp hs.2
    obtain ⟨q1, q2, q3, q4⟩ := plainT_ok (hs.1 t (List.mem_append_right _ (List.mem_singleton.mpr rfl)))
    refine ⟨⟨fun u hu => ?_, List.pairwise_append.mpr ⟨a1, List.pairwise_singleton _ _, fun u hu v hv => ?_⟩⟩, fun x => ?_⟩
    · rcases List.mem_append.mp hu with hu | hu
      · exact hs.1 u (List.mem_append_left _ hu)
      · rw [List.mem_singleton.mp hu]; exact q1
    · rw [List.mem_singleton.mp hv]
      exact lt_of_start (a3 u hu t (List.mem_singleton.mpr rfl)) (by rw [q2]; exact Int.le_refl _)
    · rw [NB_app, NB_app]
      show _ + (nbT (plainT t) x + 0) = _ + (nbT t x + 0)
      rw [q3]
  | f :: r, cl, none, hs => by
    have e : cl ++ (none : Option Trn).toList ++ f :: r = cl ++ (some f).toList ++ r := by simp
    rw [e] at hs ⊢
    exact nfG_ok r cl (some f) hs
  | f :: r, cl, some t, hs => by
    have e0 : cl ++ (some t).toList ++ f :: r = cl ++ (t :: f :: r) := by simp
    rw [e0] at hs ⊢
    obtain ⟨a1, a2, a3⟩ := List.pairwise_append.mp hs.2
    obtain ⟨b1, b2⟩ := List.pairwise_cons.mp a2
    obtain ⟨c1, c2⟩ := List.pairwise_cons.mp b2
    have ht : OkTr t := hs.1 t (by simp)
    have hf : OkTr f := hs.1 f (by simp)
    have J := joinL_ok ht hf (b1 f (List.mem_cons_self ..))
    have eg : (joinL t f).dropLast ++ ((joinL t f).getLast?).toList = joinL t f := by
      rw [List.getLast?_eq_some_getLast J.ne]
      exact List.dropLast_concat_getLast J.ne
    have e1 : cl ++ (joinL t f).dropLast ++ ((joinL t f).getLast?).toList ++ r = cl ++ (joinL t f ++ r) := by
      rw [List.append_assoc cl, eg, List.append_assoc]
    have hs' : Srt (cl ++ (joinL t f ++ r)) := by
      refine ⟨fun u hu => ?_, List.pairwise_append.mpr ⟨a1, List.pairwise_append.mpr ⟨J.pw, c2, fun u hu v hv => J.hi v (c1 v hv) u hu⟩, fun u hu v hv => ?_⟩⟩
      · rcases List.mem_append.mp hu with hu | hu
        · exact hs.1 u (List.mem_append_left _ hu)
        · rcases List.mem_append.mp hu with hu | hu
          · exact J.ok u hu
          · exact hs.1 u (List.mem_append_right _ (List.mem_cons_of_mem _ (List.mem_cons_of_mem _ hu)))
      · have l := a3 u hu t (List.mem_cons_self ..)
        rcases List.mem_append.mp hv with hv | hv
        · exact lt_of_start l (J.lo v hv)
        · exact a3 u hu v (List.mem_cons_of_mem _ (List.mem_cons_of_mem _ hv))
    rw [← e1] at hs'
    obtain ⟨k1, k2⟩ := nfG_ok r _ _ hs'
    refine ⟨k1, fun x => ?_⟩
    show NB (nfG (cl ++ (joinL t f).dropLast) (joinL t f).getLast? r) x = _
    rw [k2 x, e1, NB_app, NB_app, NB_app, J.nb]
    show _ = NB cl x + (nbT t x + (nbT f x + NB r x))
    omega
theorem nfs_srt {ts : List Trn} (h : Srt ts) : Srt (nfs ts) := (nfG_ok ts [] none (by simpa using h)).1
theorem nfs_nb {ts : List Trn} (h : Srt ts) (x : Int) : NB (nfs ts) x = NB ts x :=
  (nfG_ok ts [] none (by simpa using h)).2 x
theorem nfs_at {ts : List Trn} (h : Srt ts) {i : Int} (i0 : 0 ≤ i) : At (nfs ts) i = At ts i := At_same (nfs_srt h) h (nfs_nb h) i0
theorem tot_of_at {ts us : List Trn} (h : ∀ t ∈ ts, OkTr t) (h' : ∀ t ∈ us, OkTr t) (e : ∀ i, 0 ≤ i → At ts i = At us i) : Tot ts = Tot us := by
  cases q : Tot ts with
  | some n =>
    have n0 := tot_nn h n q
    have := (At_none h n0).mpr ⟨n, q, Int.le_refl _⟩
    rw [e n n0] at this
    obtain ⟨m, e1, e2⟩ := (At_none h' n0).mp this
    have m0 := tot_nn h' m e1
    have := (At_none h' m0).mpr ⟨m, e1, Int.le_refl _⟩
    rw [← e m m0] at this
    obtain ⟨k, e3, e4⟩ := (At_none h m0).mp this
    rw [q] at e3
    cases e3
    rw [e1]
    congr 1
    omega
  | none =>
    cases q2 : Tot us with
    | none => rfl
    | some m =>
      have m0 := tot_nn h' m q2
      have := (At_none h' m0).mpr ⟨m, q2, Int.le_refl _⟩
      rw [← e m m0] at this
      obtain ⟨k, e3, e4⟩ := (At_none h m0).mp this
      rw [q] at e3
      cases e3
theorem nfs_tot {ts : List Trn} (h : Srt ts) : Tot (nfs ts) = Tot ts := tot_of_at (nfs_srt h).1 h.1 fun i i0 => nfs_at h i0
/-! ### trains in the heap -/
def cV : Option Int → V
  | none => .non
  | some c => .int c
def TrV (t : Trn) : List V := [.int t.1, .int t.2.1, cV t.2.2]
def TrAt (H : Hp) (x : V) (t : Trn) : Prop := ∃ a, x = .ref a ∧ H a = some (.tup (TrV t))
abbrev Trs (H : Hp) (xs : List V) (ts : List Trn) : Prop := Paired (TrAt H) xs ts
/-- what is no list is kept -/
def NL (H H' : Hp) : Prop := ∀ b o, H b = some o → (∀ xs, o ≠ .lst xs) → H' b = some o
theorem NL.refl {H : Hp} : NL H H := fun _ _ h _ => h
theorem NL.trans {H H1 H2 : Hp} (a : NL H H1) (b : NL H1 H2) : NL H H2 := fun c o h n => b c o (a c o h n) n
theorem NL.of {H H' : Hp} (s : Same H H') : NL H H' := fun b o e _ => s b o e
theorem Kp.nl {a : Addr} {H H' : Hp} {xs : List V} (k : Kp a H H') (h : H a = some (.lst xs)) : NL H H' := fun b o e n => k b o (fun z => by subst z; rw [h] at e; exact n xs (Option.some.inj e).symm) e
theorem NL.upd {H : Hp} {p : Addr} {xs : List V} {o : HO} (h : H p = some (.lst xs)) : NL H (L2.upd H p o) := Kp.nl Kp.upd h
theorem TrAt.nl {H H' : Hp} (k : NL H H') {x : V} {t : Trn} (h : TrAt H x t) : TrAt H' x t := by
  obtain ⟨a, e, h⟩ := h
  exact ⟨a, e, k _ _ h fun _ z => nomatch z⟩
theorem TrAt.same {H H' : Hp} (k : Same H H') {x : V} {t : Trn} (h : TrAt H x t) : TrAt H' x t := h.nl (NL.of k)
theorem Trs.nl {H H' : Hp} (k : NL H H') {xs : List V} {ts : List Trn} (h : Trs H xs ts) : Trs H' xs ts := L2.Paired.mapP h fun _ _ z => z.nl k
theorem Trs.same {H H' : Hp} (k : Same H H') {xs : List V} {ts : List Trn} (h : Trs H xs ts) : Trs H' xs ts := Trs.nl (NL.of k) h
theorem Trs.len {H : Hp} : ∀ {xs : List V} {ts : List Trn}, Trs H xs ts → xs.length = ts.length
  | _, _, .nil => rfl
  | _, _, .cons _ t => congrArg Nat.succ (Trs.len t)
theorem Trs.get {H : Hp} : ∀ {xs : List V} {ts : List Trn} {i : Nat} {x : V}, Trs H xs ts → xs[i]? = some x → ∃ t, ts[i]? = some t ∧ TrAt H x t
  | _, _, _, _, .nil, e => by simp at e
  | _, _, 0, _, .cons r _, e => by simp at e; subst e; exact ⟨_, rfl, r⟩
  | _, _, i + 1, x, .cons _ t, e => by
    obtain ⟨u, h1, h2⟩ := Trs.get (i := i) (x := x) t (by simpa using e)
    exact ⟨u, by simpa using h1, h2⟩
theorem Trs.app {H : Hp} : ∀ {xs ys : List V} {ts us : List Trn}, Trs H xs ts → Trs H ys us → Trs H (xs ++ ys) (ts ++ us)
  | _, _, _, _, .nil, s => s
  | _, _, _, _, .cons r t, s => .cons r (Trs.app t s)
theorem Trs.take {H : Hp} : ∀ {xs : List V} {ts : List Trn} (n : Nat), Trs H xs ts → Trs H (xs.take n) (ts.take n)
  | _, _, 0, _ => .nil
  | _, _, _ + 1, .nil => .nil
  | _, _, n + 1, .cons r t => .cons r (Trs.take n t)
theorem Trs.drop {H : Hp} : ∀ {xs : List V} {ts : List Trn} (n : Nat), Trs H xs ts → Trs H (xs.drop n) (ts.drop n)
  | _, _, 0, r => r
  | _, _, _ + 1, .nil => .nil
  | _, _, n + 1, .cons _ t => Trs.drop n t
theorem Trs.one {H : Hp} {x : V} {t : Trn} (h : TrAt H x t) : Trs H [x] [t] := .cons h .nil
theorem pe_gI {X : Cx} {x : Str} {i : Int} {t : Tok} {pos : Pos} (hm : X.mg x = some (.int i t)) (hg : Gl X x := by rfl) (hd : (x == ("__debug__" : Str)) = false := by decide) : PE X (.Name x pos) (tC (.int i)) := pe_glob hg hm ⟨t, rfl⟩ hd
/-! bounds -/
@[irreducible] def PB (n : Nat) : Int := 2 ^ n
theorem PB_succ (n : Nat) : PB (n + 1) = PB n + PB n := by
  unfold PB
  rw [Int.pow_succ]
  omega
theorem PB_pos (n : Nat) : 1 ≤ PB n := by
  unfold PB
  have : (0 : Int) < 2 ^ n := Int.pow_pos (by decide)
  omega
theorem PB_le {n m : Nat} (h : n ≤ m) : PB n ≤ PB m := by
  induction m with
  | zero => rw [Nat.le_zero.mp h]; exact Int.le_refl _
  | succ m ih =>
    by_cases e : n = m + 1
    · rw [e]; exact Int.le_refl _
    · have h1 := ih (by omega)
      have h2 := PB_succ m
      have h3 := PB_pos m
      omega
theorem PB_abs {i : Int} {n : Nat} (h0 : 0 ≤ i) (h : i ≤ PB n) : i.natAbs < 2 ^ (n + 1) := by
  unfold PB at h
  have e : (2 : Nat) ^ (n + 1) = 2 ^ n * 2 := Nat.pow_succ 2 n
  have e2 : ((2 ^ n : Nat) : Int) = 2 ^ n := by rw [Int.natCast_pow]; rfl
  rw [← e2] at h
  have : 0 < 2 ^ n := Nat.pow_pos (by decide)
  rw [e]
  generalize 2 ^ n = w at *
  omega
theorem PB_of {i : Int} {n : Nat} (h : i.natAbs < 2 ^ n) : i ≤ PB n := by
  unfold PB
  have e2 : ((2 ^ n : Nat) : Int) = 2 ^ n := by rw [Int.natCast_pow]; rfl
  rw [← e2]
  generalize 2 ^ n = w at *
  omega
def BB : Int := PB 5000
theorem BB0 : 0 ≤ BB := by
  have := PB_pos 5000
  unfold BB
  omega
theorem bb_lt {i : Int} (h0 : 0 ≤ i) (h : i ≤ BB + BB) : i.natAbs < 2 ^ 5002 := PB_abs h0 (by rw [PB_succ]; exact h)
structure BT (n : Nat) (t : Trn) : Prop where
  s : t.1 ≤ PB n
  p : t.2.1 ≤ PB n
  c : ∀ c, t.2.2 = some c → t.1 + (c - 1) * t.2.1 ≤ PB n
theorem BT.le {n m : Nat} {t : Trn} (b : BT n t) (h : n ≤ m) : BT m t := by
  have := PB_le h
  exact ⟨by have := b.s; omega, by have := b.p; omega, fun c e => by have := b.c c e; omega⟩
theorem BT.cnt {n : Nat} {t : Trn} (b : BT n t) (h : OkTr t) {c : Int} (e : t.2.2 = some c) : c ≤ PB n + 1 := by
  have h1 := b.c c e
  have c1 := h.2.2 c e
  have p1 := h.2.1
  have s0 := h.1
  have : (c - 1) * 1 ≤ (c - 1) * t.2.1 := Int.mul_le_mul_of_nonneg_left p1 (by omega)
  omega
theorem mulBB {i j : Int} (i0 : 0 ≤ i) (i1 : i ≤ BB + BB) (j0 : 0 ≤ j) (j1 : j ≤ BB + BB) : CMulW i j := wide_mul (bb_lt i0 i1) (bb_lt j0 j1) (by decide) (by decide) (by decide)
theorem BB1 : 1 ≤ BB := PB_pos 5000
theorem divBB {j : Int} (j0 : 1 ≤ j) (j1 : j ≤ BB) : j.natAbs.log2 < 9000 := (wide_div (i := 0) (by omega : 0 < j) (bb_lt (by omega) (by have := BB0; omega)) (by decide) (by decide)).2
theorem Kd.cV (H : Hp) (k : Option Int) : ∃ n, Kd H (cV k) n := by
  cases k with
  | none => exact ⟨_, .non⟩
  | some c => exact ⟨_, .int c⟩
/-- the built-ins -/
structure Bi (mg : Str → Option Value) : Prop where
  isinstance : mg "isinstance" = none
  int : mg "int" = none
  bool : mg "bool" = none
  max : mg "max" = none
  min : mg "min" = none
  len : mg "len" = none
  list : mg "list" = none
  tuple : mg "tuple" = none
  enumerate : mg "enumerate" = none
  sum : mg "sum" = none
  range : mg "range" = none
/-! promises -/
def lastV (t : Trn) : V := match t.2.2 with
  | none => .non
  | some c => .int (t.1 + (c - 1) * t.2.1)
def spIsTr : Sp := fun vs H Q _ => ∃ x t, vs = [x] ∧ TrAt H x t ∧ OkTr t ∧ Q (.bl true) H
def spLast : Sp := fun vs H Q _ => ∃ x t, vs = [x] ∧ TrAt H x t ∧ OkTr t ∧ BT 5000 t ∧ Q (lastV t) H
def spTb : Sp := fun vs H Q _ => ∃ x t z, vs = [x, .int z] ∧ TrAt H x t ∧ OkTr t ∧ BT 5000 t ∧ Q (.int (nbT t z)) H
def spPart : Sp := fun vs H Q _ => ∃ x t low high, vs = [x, .int low, cV high] ∧ TrAt H x t ∧ CMulW low t.2.1 ∧ ∀ l zs H', H' l = some (.lst zs) → Trs H' zs (partL t low high) → Same H H' → H l = none → Q (.ref l) H'
def spJoin : Sp := fun vs H Q _ => ∃ x t y f c, vs = [x, y] ∧ TrAt H x t ∧ TrAt H y f ∧ OkTr t ∧ OkTr f ∧ BT 5000 t ∧ BT 5000 f ∧ t.2.2 = some c ∧ Lt t f ∧ ∀ l zs H', H' l = some (.lst zs) → Trs H' zs (joinL t f) → Same H H' → H l = none → Q (.ref l) H'
def spPlain : Sp := fun vs H Q _ => ∃ x t, vs = [x] ∧ TrAt H x t ∧ ∀ p, H p = none → Q (.ref p) (upd H p (.tup (TrV (plainT t))))
structure Tx2 (K : PySem.W.Frag) (mg : Str → Option Value) (aB aK aX aY aZ aU : Addr) : Prop where
  B : Bi mg
  dB : Dfn K mg "is_train" st_is_train aB ["value"]
  dK : Dfn K mg "last_time" st_last_time aK ["train"]
  dX : Dfn K mg "times_before" st_times_before aX ["train", "time"]
  dY : Dfn K mg "part_of" st_part_of aY ["train", "low", "high"]
  dZ : Dfn K mg "joined" st_joined aZ ["train", "following"]
  dU : Dfn K mg "with_plain_step" st_with_plain_step aU ["train"]
theorem cV_non {k : Option Int} : (cV k = .non) = (k = none) := by cases k <;> simp [cV]
section
variable {P : Program} {w : World} {K : PySem.W.Frag} {mg : Str → Option Value} {base : Heap} {aI aL aS aB aK aX aY aZ aU : Addr}
theorem sc_istr : FnScope ["value", "start", "step", "count"] ["value"] (defScope st_is_train) := ⟨rfl, rfl, rfl, by decide +kernel, rfl, by decide +kernel, by decide +kernel⟩
theorem ok_istr (T : Tx0 K mg aI aL aS) (T2 : Tx2 K mg aB aK aX aY aZ aU) : Cal P w K mg base "is_train" 3 aB ["value"] spIsTr := T2.dB.cal fun fd F => by
  have G : Cal P w K mg base "is_at_least" 2 aL ["value", "least"] spAtL := ok_atl T
  have nd := sc_istr.nd
  refine F.ok sc_istr (fun vs H Q E h => ?_) (fun cdv A outer s H vs Q E hr h => ?_)
  · obtain ⟨x, t, rfl, _⟩ := h
    rfl
  · obtain ⟨x, t, rfl, ⟨a, rfl, ha⟩, ⟨h1, h2, h3⟩, k⟩ := h
    refine ⟨_, pss_cons (ps_if (PW.pt (pw_or (pt_not (pt_val (pe_callB call_isi (by rfl) T.isinstance (by decide +kernel) (pa_cons (pv 0) (pa_cons (pe_bltn (by rfl) T2.B.tuple (by decide +kernel : bootBuiltins "tuple" = some (.type "tuple")) (v := .ty "tuple") rfl) pa_nil)))))
        (pw_or1 (pt_cmpR op_ne (pe_callB call_len_seq (by rfl) T2.B.len PySem.boot_len (pa_cons (pv 0) pa_nil)) pe_int (nomark _))))) (pss_one (ps_ret pe_bl)) pss_nil)
      (pss_cons (ps_asg (pv 0) (pg_tup rfl (pgs_cons (pg_name (i := 1) nd rfl (Or.inl rfl)) (pgs_cons (pg_name (i := 2) nd rfl (Or.inl rfl)) (pgs_cons (pg_name (i := 3) nd rfl (Or.inl rfl)) pgs_nil)))))
      (pss_one (ps_ret (pe_and (pe_c G hr rfl (pa_cons (pv 1) (pa_cons pe_int pa_nil))) (pe_and (pe_c G hr rfl (pa_cons (pv 2) (pa_cons pe_int pa_nil))) (pe_one (pe_or (pe_cmp (pc_isN (pv 3))) (pe_one (pe_c G hr rfl (pa_cons (pv 3) (pa_cons pe_int pa_nil))))))))))), ?_⟩
    refine ⟨_, rfl, _, .ty "tuple", _, _, _, rfl, .ty "tuple", (Kd.tup ha).ty, (Kd.tup ha).kit "tuple" _ (.inr ⟨by decide, by decide, rfl⟩), _, rfl, iteF ?_⟩
    refine ⟨_, rfl, a, _, rfl, .inr (SqT.of ha), rfl, _, rfl, iteF ?_⟩
    refine ⟨_, rfl, a, _, rfl, SqT.of ha, rfl, _, _, rfl, _, _, rfl, _, _, rfl, rfl, ?_⟩
    refine ⟨_, rfl, _, _, _, rfl, .int _, _, rfl, ?_⟩
    show if decide ((0 : Int) ≤ t.1) = true then _ else _
    rw [decide_eq_true h1]
    refine iteT ⟨_, rfl, _, _, _, rfl, .int _, _, rfl, ?_⟩
    show if decide ((1 : Int) ≤ t.2.1) = true then _ else _
    rw [decide_eq_true h2]
    refine iteT ⟨_, rfl, ?_⟩
    cases hk : t.2.2 with
    | none => exact ⟨_, rfl, iteT k⟩
    | some c =>
      refine ⟨_, rfl, iteF ⟨_, rfl, _, _, _, rfl, .int _, ?_⟩⟩
      show Q (.bl (decide ((1 : Int) ≤ c))) H
      rw [decide_eq_true (h3 c hk)]
      exact k
theorem sc_last : FnScope ["train", "start", "step", "count"] ["train"] (defScope st_last_time) := ⟨rfl, rfl, rfl, by decide +kernel, rfl, by decide +kernel, by decide +kernel⟩
theorem ok_last (T2 : Tx2 K mg aB aK aX aY aZ aU) : Cal P w K mg base "last_time" 1 aK ["train"] spLast := T2.dK.cal fun fd F => by
  have nd := sc_last.nd
  refine F.ok sc_last (fun vs H Q E h => ?_) (fun cdv A outer s H vs Q E hr h => ?_)
  · obtain ⟨x, t, rfl, _⟩ := h
    rfl
  · obtain ⟨x, t, rfl, ⟨a, rfl, ha⟩, hok, hb, k⟩ := h
    refine ⟨_, pss_cons (ps_asg (pv 0) (pg_tup rfl (pgs_cons (pg_name (i := 1) nd rfl (Or.inl rfl)) (pgs_cons (pg_name (i := 2) nd rfl (Or.inl rfl)) (pgs_cons (pg_name (i := 3) nd rfl (Or.inl rfl)) pgs_nil)))))
      (pss_cons (ps_if (pt_cmp (pc_isN (pv 3))) (pss_one (ps_ret pe_non)) pss_nil)
      (pss_one (ps_ret (pe_op op_add (pv 1) (pe_op op_mulW (pe_op op_sub (pv 3) pe_int) (pv 2)))))), ?_⟩
    refine ⟨_, rfl, a, _, rfl, SqT.of ha, rfl, _, _, rfl, _, _, rfl, _, _, rfl, rfl, ?_⟩
    cases hk : t.2.2 with
    | none =>
      have e : lastV t = .non := by unfold lastV; rw [hk]
      rw [e] at k
      exact ⟨_, rfl, _, rfl, iteT k⟩
    | some c =>
      have e : lastV t = .int (t.1 + (c - 1) * t.2.1) := by unfold lastV; rw [hk]
      rw [e] at k
      have c1 := hok.2.2 c hk
      have c2 : c ≤ BB + 1 := hb.cnt hok hk
      have b1 := BB1
      have p1 := hok.2.1
      have p2 : t.2.1 ≤ BB := hb.p
      exact ⟨_, rfl, _, rfl, iteF ⟨_, rfl, _, rfl, _, _, rfl, rfl, _, rfl, _, _, rfl, rfl, mulBB (by omega) (by omega) (by omega) (by omega), _, _, rfl, rfl, k⟩⟩
theorem sc_tb : FnScope ["train", "time", "start", "step", "count", "reached"] ["train", "time"] (defScope st_times_before) := ⟨rfl, rfl, rfl, by decide +kernel, rfl, by decide +kernel, by decide +kernel⟩
theorem ok_tb (T : Tx0 K mg aI aL aS) (T2 : Tx2 K mg aB aK aX aY aZ aU) : Cal P w K mg base "times_before" 2 aX ["train", "time"] spTb := T2.dX.cal fun fd F => by
  have G : Cal P w K mg base "steps_to" 1 aS ["distance", "step"] spSteps := ok_steps T
  have nd := sc_tb.nd
  refine F.ok sc_tb (fun vs H Q E h => ?_) (fun cdv A outer s H vs Q E hr h => ?_)
  · obtain ⟨x, t, z, rfl, _⟩ := h
    rfl
  · obtain ⟨x, t, z, rfl, ⟨a, rfl, ha⟩, hok, hb, k⟩ := h
    refine ⟨_, pss_cons (ps_asg (pv 0) (pg_tup rfl (pgs_cons (pg_name (i := 2) nd rfl (Or.inl rfl)) (pgs_cons (pg_name (i := 3) nd rfl (Or.inl rfl)) (pgs_cons (pg_name (i := 4) nd rfl (Or.inl rfl)) pgs_nil)))))
      (pss_cons (ps_set (i := 5) nd rfl (Or.inl rfl) (pe_c G hr rfl (pa_cons (pe_op op_sub (pv 1) (pv 2)) (pa_cons (pv 3) pa_nil))))
      (pss_cons (ps_if (pt_cmp (pc_isN (pv 4))) (pss_one (ps_ret (pv 5))) pss_nil)
      (pss_one (ps_ret (pe_callB (call_min2 rfl) (by rfl) T2.B.min (by decide +kernel) (pa_cons (pv 5) (pa_cons (pv 4) pa_nil))))))), ?_⟩
    have p1 := hok.2.1
    refine ⟨_, rfl, a, _, rfl, SqT.of ha, rfl, _, _, rfl, _, _, rfl, _, _, rfl, rfl, ?_⟩
    refine ⟨_, rfl, _, rfl, _, _, rfl, rfl, _, rfl, _, _, rfl, by omega, divBB p1 hb.p, ?_⟩
    cases hk : t.2.2 with
    | none =>
      have e : nbT t z = stepsUp (z - t.1) t.2.1 := by unfold nbT; rw [hk]; rfl
      rw [e] at k
      exact ⟨_, rfl, _, rfl, iteT ⟨_, rfl, k⟩⟩
    | some c =>
      have e : nbT t z = if c < stepsUp (z - t.1) t.2.1 then c else stepsUp (z - t.1) t.2.1 := by unfold nbT; rw [hk]; rfl
      rw [e] at k
      exact ⟨_, rfl, _, rfl, iteF ⟨_, rfl, _, rfl, _, _, rfl, k⟩⟩
theorem sc_part : FnScope ["train", "low", "high", "start"] ["train", "low", "high"] (defScope st_part_of) := ⟨rfl, rfl, rfl, by decide +kernel, rfl, by decide +kernel, by decide +kernel⟩
theorem ok_part (T2 : Tx2 K mg aB aK aX aY aZ aU) : Cal P w K mg base "part_of" 1 aY ["train", "low", "high"] spPart := T2.dY.cal fun fd F => by
  have nd := sc_part.nd
  refine F.ok sc_part (fun vs H Q E h => ?_) (fun cdv A outer s H vs Q E hr h => ?_)
  · obtain ⟨x, t, low, high, rfl, _⟩ := h
    rfl
  · obtain ⟨x, t, low, high, rfl, ⟨a, rfl, ha⟩, hm, k⟩ := h
    refine ⟨_, pss_cons (ps_set (i := 3) nd rfl (Or.inl rfl) (pe_op op_add (pe_ix ix_tup (pv 0) pe_int (fun _ _ => rfl)) (pe_op op_mulW (pv 1) (pe_ix ix_tup (pv 0) pe_int (fun _ _ => rfl)))))
      (pss_cons (ps_if (pt_cmp (pc_isN (pv 2))) (pss_one (ps_ret (pe_lst (pa_cons (pe_tup (pa_cons (pv 3) (pa_cons (pe_ix ix_tup (pv 0) pe_int (fun _ _ => rfl)) (pa_cons pe_non pa_nil)))) pa_nil)))) pss_nil)
      (pss_cons (ps_if (pt_cmpR op_eq (pv 1) (pv 2) (nomark _)) (pss_one (ps_ret (pe_lst pa_nil))) pss_nil)
      (pss_one (ps_ret (pe_lst (pa_cons (pe_tup (pa_cons (pv 3) (pa_cons (pe_ix ix_tup (pv 0) pe_int (fun _ _ => rfl)) (pa_cons (pe_op op_sub (pv 2) (pv 1)) pa_nil)))) pa_nil)))))), ?_⟩
    refine ⟨_, rfl, a, _, 0, .int t.1, rfl, rfl, SqT.of ha, rfl, _, rfl, _, rfl, a, _, 1, .int t.2.1, rfl, rfl, SqT.of ha, rfl, _, _, rfl, rfl, hm, _, _, rfl, rfl, ?_⟩
    cases high with
    | none =>
      refine ⟨_, rfl, _, rfl, iteT ⟨_, rfl, _, rfl, a, _, 1, .int t.2.1, rfl, rfl, SqT.of ha, rfl, (by show 3 ≤ sizeLine; decide), fun e he => ⟨(by show 1 ≤ sizeLine; decide), fun l hl => ?_⟩⟩⟩
      exact k l [.ref e] _ upd_same (Trs.one ⟨e, rfl, (Same.upd hl) _ _ upd_same⟩) ((Same.upd he).trans (Same.upd hl)) (by
        cases q : H l with
        | none => rfl
        | some o => rw [(Same.upd he) _ _ q] at hl; cases hl)
    | some h =>
      refine ⟨_, rfl, _, rfl, iteF ⟨_, rfl, _, rfl, rfl, _, rfl, ?_⟩⟩
      refine ite2 (fun c => ?_) (fun c => ?_)
      · have c' : low = h := V.int.inj (of_decide_eq_true c)
        refine ⟨(by show 0 ≤ sizeLine; decide), fun l hl => k l [] _ upd_same ?_ (Same.upd hl) hl⟩
        show Trs _ [] (if low = h then [] else _)
        rw [if_pos c']
        exact .nil
      · have c' : ¬ low = h := fun e => c (decide_eq_true (congrArg V.int e))
        refine ⟨_, rfl, _, rfl, a, _, 1, .int t.2.1, rfl, rfl, SqT.of ha, rfl, _, rfl, _, rfl, _, _, rfl, rfl, (by show 3 ≤ sizeLine; decide), fun e he => ⟨(by show 1 ≤ sizeLine; decide), fun l hl => ?_⟩⟩
        refine k l [.ref e] _ upd_same ?_ ((Same.upd he).trans (Same.upd hl)) (by
          cases q : H l with
          | none => rfl
          | some o => rw [(Same.upd he) _ _ q] at hl; cases hl)
        show Trs _ [.ref e] (if low = h then [] else _)
        rw [if_neg c']
        exact Trs.one ⟨e, rfl, (Same.upd hl) _ _ upd_same⟩
theorem sc_plain : FnScope ["train", "start", "step", "count"] ["train"] (defScope st_with_plain_step) := ⟨rfl, rfl, rfl, by decide +kernel, rfl, by decide +kernel, by decide +kernel⟩
theorem ok_plain (T2 : Tx2 K mg aB aK aX aY aZ aU) : Cal P w K mg base "with_plain_step" 1 aU ["train"] spPlain := T2.dU.cal fun fd F => by
  have nd := sc_plain.nd
  refine F.ok sc_plain (fun vs H Q E h => ?_) (fun cdv A outer s H vs Q E hr h => ?_)
  · obtain ⟨x, t, rfl, _⟩ := h
    rfl
  · obtain ⟨x, t, rfl, ⟨a, rfl, ha⟩, k⟩ := h
    refine ⟨_, pss_cons (ps_asg (pv 0) (pg_tup rfl (pgs_cons (pg_name (i := 1) nd rfl (Or.inl rfl)) (pgs_cons (pg_name (i := 2) nd rfl (Or.inl rfl)) (pgs_cons (pg_name (i := 3) nd rfl (Or.inl rfl)) pgs_nil)))))
      (pss_cons (ps_if (pt_cmpR op_eq (pv 3) pe_int (nomark _)) (pss_one (ps_ret (pe_tup (pa_cons (pv 1) (pa_cons pe_int (pa_cons pe_int pa_nil)))))) pss_nil)
      (pss_one (ps_ret (pe_tup (pa_cons (pv 1) (pa_cons (pv 2) (pa_cons (pv 3) pa_nil))))))), ?_⟩
    refine ⟨_, rfl, a, _, rfl, SqT.of ha, rfl, _, _, rfl, _, _, rfl, _, _, rfl, rfl, ?_⟩
    have sc : scal (cV t.2.2) (.int 1) = true := by cases t.2.2 <;> rfl
    refine ⟨_, rfl, sc, _, rfl, ?_⟩
    refine ite2 (fun c => ?_) (fun c => ?_)
    · have c' : t.2.2 = some 1 := by
        have c2 : cV t.2.2 = .int 1 := of_decide_eq_true c
        cases hk : t.2.2 with
        | none => rw [hk] at c2; cases c2
        | some d => rw [hk] at c2; cases c2; rfl
      refine ⟨_, rfl, (by show 3 ≤ sizeLine; decide), fun e he => ?_⟩
      have ep : plainT t = (t.1, 1, some 1) := by unfold plainT; rw [if_pos c']
      have := k e he
      rw [ep] at this
      exact this
    · have c' : ¬ t.2.2 = some 1 := fun e => c (decide_eq_true (by rw [e]; rfl))
      refine ⟨_, rfl, _, rfl, _, rfl, (by show 3 ≤ sizeLine; decide), fun e he => ?_⟩
      have ep : plainT t = t := by unfold plainT; rw [if_neg c']
      have := k e he
      rw [ep] at this
      exact this
end
/-! ### the normal form is one -/
def NF0 : List Trn → Prop
  | [] => True
  | [_] => True
  | t :: u :: r => (∃ c, t.2.2 = some c ∧ 2 ≤ c ∧ u.1 ≠ t.1 + c * t.2.1) ∧ NF0 (u :: r)
structure NF (ts : List Trn) : Prop where
  go : NF0 ts
  last : ∀ t, ts.getLast? = some t → t.2.2 = some 1 → t.2.1 = 1
theorem NF0.tail {t : Trn} {r : List Trn} (h : NF0 (t :: r)) : NF0 r := by
  cases r with
  | nil => exact True.intro
  | cons u r => exact h.2
theorem nf0_app : ∀ (xs ys zs : List Trn) (u v : Trn), v.1 = u.1 → NF0 (xs ++ u :: ys) → NF0 (v :: zs) → NF0 (xs ++ v :: zs)
  | [], _, _, _, _, _, _, h => h
  | [t], ys, zs, u, v, e, h1, h2 => by
    have h1 : NF0 (t :: u :: ys) := h1
    show NF0 (t :: v :: zs)
    obtain ⟨⟨c, e1, e2, e3⟩, _⟩ := h1
    exact ⟨⟨c, e1, e2, by rw [e]; exact e3⟩, h2⟩
  | t :: t' :: xs, ys, zs, u, v, e, h1, h2 => by
    have h1 : NF0 (t :: t' :: (xs ++ u :: ys)) := h1
    show NF0 (t :: t' :: (xs ++ v :: zs))
    exact ⟨h1.1, nf0_app (t' :: xs) ys zs u v e h1.2 h2⟩
theorem joinL_head {t f : Trn} {c : Int} (hc : t.2.2 = some c) (c1 : 1 ≤ c) : ∃ v zs, joinL t f = v :: zs ∧ v.1 = t.1 ∧ NF0 (v :: zs) ∧ (zs = [] ∨ ∃ u, zs = [u]) := by
  have ej : joinL t f = joinC t f c := by unfold joinL; rw [hc]
  rw [ej]
  unfold joinC
  by_cases j1 : t.1 + c * joinS t f c = f.1
  · rw [if_pos j1]
    by_cases j2 : f.2.1 = joinS t f c
    · rw [if_pos j2]
      exact ⟨_, [], rfl, rfl, True.intro, .inl rfl⟩
    · rw [if_neg j2]
      refine ⟨_, _, rfl, rfl, ?_, ?_⟩
      · unfold partL
        have key : ∀ k : Option Int, NF0 [(t.1, joinS t f c, some (c + 1)), (f.1 + 1 * f.2.1, f.2.1, k)] := fun k => by
          refine ⟨⟨c + 1, rfl, by omega, ?_⟩, True.intro⟩
          show f.1 + 1 * f.2.1 ≠ t.1 + (c + 1) * joinS t f c
          rw [Int.add_mul, Int.one_mul]
          omega
        cases f.2.2 with
        | none => exact key _
        | some d =>
          show NF0 (_ :: (if 1 = d then [] else [(f.1 + 1 * f.2.1, f.2.1, some (d - 1))] : List Trn))
          by_cases z : 1 = d
          · rw [if_pos z]; exact True.intro
          · rw [if_neg z]; exact key _
      · unfold partL
        cases f.2.2 with
        | none => exact .inr ⟨_, rfl⟩
        | some d =>
          by_cases z : 1 = d
          · exact .inl (if_pos z)
          · exact .inr ⟨_, if_neg z⟩
  · rw [if_neg j1]
    refine ⟨t, [f], rfl, rfl, ⟨⟨c, hc, ?_, ?_⟩, True.intro⟩, .inr ⟨_, rfl⟩⟩
    · by_cases e : c = 1
      · subst e
        refine absurd ?_ j1
        unfold joinS
        rw [if_pos rfl, Int.one_mul]
        omega
      · omega
    · by_cases e : c = 1
      · subst e
        refine absurd ?_ j1
        unfold joinS
        rw [if_pos rfl, Int.one_mul]
        omega
      · unfold joinS at j1
        rw [if_neg e] at j1
        exact fun z => j1 z.symm
theorem joinL_split {t f : Trn} {c : Int} (hc : t.2.2 = some c) (c1 : 1 ≤ c) : (joinL t f).dropLast ++ ((joinL t f).getLast?).toList = joinL t f ∧ ((joinL t f).getLast?).isSome = true := by
  obtain ⟨v, zs, e, _⟩ := joinL_head (f := f) hc c1
  have ne : joinL t f ≠ [] := by rw [e]; simp
  rw [List.getLast?_eq_some_getLast ne]
  exact ⟨List.dropLast_concat_getLast ne, rfl⟩
theorem plainT_start (t : Trn) : (plainT t).1 = t.1 := by unfold plainT; split <;> rfl
theorem plainT_one (t : Trn) (h : (plainT t).2.2 = some 1) : (plainT t).2.1 = 1 := by
  unfold plainT at *
  split at h
  · rw [if_pos (by assumption)]
  · rename_i q
    exact absurd h q
/-- the walk keeps the form -/
theorem nfG_nf : ∀ (r cl : List Trn) (h : Option Trn), Srt (cl ++ h.toList ++ r) → NF0 (cl ++ h.toList) → (h = none → cl = []) → NF (nfG cl h r)
  | [], cl, none, _, _, hn => by
    rw [hn rfl]
    exact ⟨True.intro, fun t e => by cases e⟩
  | [], cl, some t, _, hf, _ => by
    refine ⟨?_, fun u e o => ?_⟩
    · show NF0 (cl ++ [plainT t])
      exact nf0_app cl [] [] t (plainT t) (plainT_start t) hf True.intro
    · have e : (cl ++ [plainT t]).getLast? = some u := e
      rw [List.getLast?_append] at e
      have e : plainT t = u := by simpa using e
      subst e
      exact plainT_one t o
  | f :: r, cl, none, hs, hf, hn => by
    have e : cl ++ (none : Option Trn).toList ++ f :: r = cl ++ (some f).toList ++ r := by simp
    rw [e] at hs
    refine nfG_nf r cl (some f) hs ?_ (fun z => by cases z)
    rw [hn rfl]
    exact True.intro
  | f :: r, cl, some t, hs, hf, _ => by
    have e0 : cl ++ (some t).toList ++ f :: r = cl ++ (t :: f :: r) := by simp
    rw [e0] at hs
    obtain ⟨a1, a2, a3⟩ := List.pairwise_append.mp hs.2
    obtain ⟨b1, b2⟩ := List.pairwise_cons.mp a2
    obtain ⟨c1, c2⟩ := List.pairwise_cons.mp b2
    have ht : OkTr t := hs.1 t (by simp)
    have hfo : OkTr f := hs.1 f (by simp)
    have hl := b1 f (List.mem_cons_self ..)
    have J := joinL_ok ht hfo hl
    obtain ⟨c, hc, _⟩ := hl
    have k1 := ht.2.2 c hc
    obtain ⟨eg, es⟩ := joinL_split (f := f) hc k1
    have e1 : cl ++ (joinL t f).dropLast ++ ((joinL t f).getLast?).toList ++ r = cl ++ (joinL t f ++ r) := by
      rw [List.append_assoc cl, eg, List.append_assoc]
    have e2 : cl ++ (joinL t f).dropLast ++ ((joinL t f).getLast?).toList = cl ++ joinL t f := by
      rw [List.append_assoc cl, eg]
    show NF (nfG (cl ++ (joinL t f).dropLast) (joinL t f).getLast? r)
    refine nfG_nf r _ _ ?_ ?_ (fun z => by rw [z] at es; cases es)
    · rw [e1]
      refine ⟨fun u hu => ?_, List.pairwise_append.mpr ⟨a1, List.pairwise_append.mpr ⟨J.pw, c2, fun u hu v hv => J.hi v (c1 v hv) u hu⟩, fun u hu v hv => ?_⟩⟩
      · rcases List.mem_append.mp hu with hu | hu
        · exact hs.1 u (List.mem_append_left _ hu)
        · rcases List.mem_append.mp hu with hu | hu
          · exact J.ok u hu
          · exact hs.1 u (List.mem_append_right _ (List.mem_cons_of_mem _ (List.mem_cons_of_mem _ hu)))
      · have l := a3 u hu t (List.mem_cons_self ..)
        rcases List.mem_append.mp hv with hv | hv
        · exact lt_of_start l (J.lo v hv)
        · exact a3 u hu v (List.mem_cons_of_mem _ (List.mem_cons_of_mem _ hv))
    · rw [e2]
      obtain ⟨v, zs, ev, es', ez, _⟩ := joinL_head (f := f) hc k1
      rw [ev]
      exact nf0_app cl [] zs t v es' hf ez
theorem nfs_nf {ts : List Trn} (h : Srt ts) : NF (nfs ts) := nfG_nf ts [] none (by simpa using h) True.intro fun _ => rfl
theorem At_none_t {t : Trn} {r : List Trn} (e : t.2.2 = none) (i : Int) : At (t :: r) i = some (t.1 + i * t.2.1) := by
  show (match t.2.2 with | none => some (t.1 + i * t.2.1) | some c => if i < c then some (t.1 + i * t.2.1) else At r (i - c)) = _
  rw [e]
theorem At_some_t {t : Trn} {r : List Trn} {c : Int} (e : t.2.2 = some c) (i : Int) : At (t :: r) i = if i < c then some (t.1 + i * t.2.1) else At r (i - c) := by
  show (match t.2.2 with | none => some (t.1 + i * t.2.1) | some c => if i < c then some (t.1 + i * t.2.1) else At r (i - c)) = _
  rw [e]
theorem At_lo {t : Trn} {r : List Trn} {i : Int} (h : ∀ c, t.2.2 = some c → i < c) : At (t :: r) i = some (t.1 + i * t.2.1) := by
  cases e : t.2.2 with
  | none => exact At_none_t e i
  | some c => rw [At_some_t e, if_pos (h c e)]
theorem At_head {t : Trn} {r : List Trn} (h : OkTr t) : At (t :: r) 0 = some t.1 := by
  rw [At_lo fun c e => by have := h.2.2 c e; omega, Int.zero_mul, Int.add_zero]
theorem nf_cut {t : Trn} {r : List Trn} (h : Srt (t :: r)) (n : NF0 (t :: r)) {c : Int} (e : t.2.2 = some c) (y : Int) (ha : At (t :: r) c = some y) : y ≠ t.1 + c * t.2.1 := by
  rw [At_some_t e, if_neg (Int.lt_irrefl c), Int.sub_self] at ha
  cases r with
  | nil => cases ha
  | cons u r =>
    rw [At_head h.tail.head] at ha
    cases ha
    obtain ⟨⟨c', e1, _, e3⟩, _⟩ := n
    rw [e] at e1
    cases e1
    exact e3
theorem nf_two {t u : Trn} {r : List Trn} (n : NF0 (t :: u :: r)) (e : t.2.2 = some 1) : False := by
  obtain ⟨⟨c, e1, e2, _⟩, _⟩ := n
  rw [e] at e1
  cases e1
  exact absurd e2 (by decide)
theorem nf_lone {t u : Trn} {r s : List Trn} (h : Srt (t :: r)) (h' : Srt (u :: s)) (n : NF (t :: r)) (n' : NF (u :: s)) (e : ∀ i, 0 ≤ i → At (t :: r) i = At (u :: s) i) (o : t.2.2 = some 1) : t :: r = u :: s := by
  have h0 : some t.1 = some u.1 := by rw [← At_head (r := r) h.head, ← At_head (r := s) h'.head]; exact e 0 (Int.le_refl _)
  have r0 : r = [] := by
    cases r with
    | nil => rfl
    | cons v r => exact (nf_two n.go o).elim
  subst r0
  have h1 : At (u :: s) 1 = none := by
    rw [← e 1 (by decide), At_some_t o]
    rfl
  cases ek : u.2.2 with
  | none => rw [At_none_t ek] at h1; cases h1
  | some c =>
    rw [At_some_t ek] at h1
    have c1 := h'.head.2.2 c ek
    by_cases q : 1 < c
    · rw [if_pos q] at h1; cases h1
    · have c2 : c = 1 := by omega
      subst c2
      have s0 : s = [] := by
        cases s with
        | nil => rfl
        | cons v s => exact (nf_two n'.go ek).elim
      subst s0
      have p1 := n.last t rfl o
      have p2 := n'.last u rfl ek
      have : t = u := by
        obtain ⟨a, b, k⟩ := t
        obtain ⟨a', b', k'⟩ := u
        have e1 : a = a' := Option.some.inj h0
        have e2 : b = 1 := p1
        have e3 : b' = 1 := p2
        have e4 : k = some 1 := o
        have e5 : k' = some 1 := ek
        rw [e1, e2, e3, e4, e5]
      rw [this]
theorem nf_unique : ∀ {ts us : List Trn}, Srt ts → Srt us → NF ts → NF us → (∀ i, 0 ≤ i → At ts i = At us i) → ts = us
  | [], [], _, _, _, _, _ => rfl
  | [], u :: s, _, h', _, _, e => by
    have := e 0 (Int.le_refl _)
    rw [At_head h'.head] at this
    cases this
  | t :: r, [], h, _, _, _, e => by
    have := e 0 (Int.le_refl _)
    rw [At_head h.head] at this
    cases this
  | t :: r, u :: s, h, h', n, n', e => by
    by_cases o : t.2.2 = some 1
    · exact nf_lone h h' n n' e o
    by_cases o' : u.2.2 = some 1
    · exact (nf_lone h' h n' n (fun i i0 => (e i i0).symm) o').symm
    have h0 : some t.1 = some u.1 := by rw [← At_head (r := r) h.head, ← At_head (r := s) h'.head]; exact e 0 (Int.le_refl _)
    have h0 := Option.some.inj h0
    have g1 : ∀ {t : Trn}, OkTr t → t.2.2 ≠ some 1 → ∀ c, t.2.2 = some c → 1 < c := fun {t} q w c z => by
      have := q.2.2 c z
      by_cases z2 : c = 1
      · subst z2; exact absurd z w
      · omega
    have h1 := e 1 (by decide)
    rw [At_lo (g1 h.head o), At_lo (g1 h'.head o')] at h1
    have hp : t.2.1 = u.2.1 := by have := Option.some.inj h1; omega
    cases ek : t.2.2 with
    | none =>
      cases ek' : u.2.2 with
      | none =>
        have r0 : r = [] := by
          cases r with
          | nil => rfl
          | cons v r =>
            obtain ⟨c, z, _⟩ := h.lt v (List.mem_cons_self ..)
            rw [ek] at z; cases z
        have s0 : s = [] := by
          cases s with
          | nil => rfl
          | cons v s =>
            obtain ⟨c, z, _⟩ := h'.lt v (List.mem_cons_self ..)
            rw [ek'] at z; cases z
        subst r0 s0
        have : t = u := by
          obtain ⟨a, b, k⟩ := t
          obtain ⟨a', b', k'⟩ := u
          have e1 : a = a' := h0
          have e2 : b = b' := hp
          have e4 : k = none := ek
          have e5 : k' = none := ek'
          rw [e1, e2, e4, e5]
        rw [this]
      | some c' =>
        have c1 := h'.head.2.2 c' ek'
        have q := e c' (by omega)
        rw [At_none_t ek] at q
        have := nf_cut h' n'.go ek' _ q.symm
        rw [h0, hp] at this
        exact absurd rfl this
    | some c =>
      have c1 := h.head.2.2 c ek
      have big : ∀ d, u.2.2 = some d → d ≤ c := fun d z => by
        by_cases w : d ≤ c
        · exact w
        · have q := e c (by omega)
          rw [At_lo (t := u) (fun k zk => by rw [z] at zk; cases zk; omega)] at q
          have := nf_cut h n.go ek _ q
          rw [h0, hp] at this
          exact absurd rfl this
      cases ek' : u.2.2 with
      | none =>
        have q := e c (by omega)
        rw [At_none_t ek'] at q
        have := nf_cut h n.go ek _ q
        rw [h0, hp] at this
        exact absurd rfl this
      | some c' =>
        have d1 := big c' ek'
        have c1' := h'.head.2.2 c' ek'
        have d2 : c' = c := by
          by_cases w : c ≤ c'
          · omega
          · have q := e c' (by omega)
            rw [At_lo (t := t) (fun k zk => by rw [ek] at zk; cases zk; omega)] at q
            have := nf_cut h' n'.go ek' _ q.symm
            rw [h0, hp] at this
            exact absurd rfl this
        subst d2
        have tail : ∀ {t : Trn} {r : List Trn}, NF (t :: r) → NF r := fun {t r} q => ⟨q.go.tail, fun v z => q.last v (by
          cases r with
          | nil => cases z
          | cons w r => rw [List.getLast?_cons_cons]; exact z)⟩
        have rs := nf_unique h.tail h'.tail (tail n) (tail n') (fun i i0 => by
          have q := e (c' + i) (by omega)
          rw [At_some_t ek, At_some_t ek', if_neg (by omega), if_neg (by omega), show c' + i - c' = i by omega] at q
          exact q)
        subst rs
        have : t = u := by
          obtain ⟨a, b, k⟩ := t
          obtain ⟨a', b', k'⟩ := u
          have e1 : a = a' := h0
          have e2 : b = b' := hp
          have e4 : k = some c' := ek
          have e5 : k' = some c' := ek'
          rw [e1, e2, e4, e5]
        rw [this]
theorem nfs_iff {ts us : List Trn} (h : Srt ts) (h' : Srt us) : nfs ts = nfs us ↔ ∀ x, NB ts x = NB us x := by
  refine ⟨fun e x => by rw [← nfs_nb h, ← nfs_nb h', e], fun e => ?_⟩
  refine nf_unique (nfs_srt h) (nfs_srt h') (nfs_nf h) (nfs_nf h') fun i i0 => ?_
  rw [nfs_at h i0, nfs_at h' i0]
  exact At_same h h' e i0
theorem nfs_of_nf {ts : List Trn} (h : Srt ts) (n : NF ts) : nfs ts = ts := nf_unique (nfs_srt h) h (nfs_nf h) n fun _ i0 => nfs_at h i0
theorem nfs_idem {ts : List Trn} (h : Srt ts) : nfs (nfs ts) = nfs ts := nfs_of_nf (nfs_srt h) (nfs_nf h)
/-! sizes -/
/-- what the walk holds stays small -/
def BG (n : Nat) (u : Trn) : Prop := (u.2.2 ≠ none → BT n u) ∧ BT (n + 1) u
theorem BG.of {n : Nat} {u : Trn} (h : BT n u) : BG n u := ⟨fun _ => h, h.le (Nat.le_succ n)⟩
theorem joinL_bg {n : Nat} {t f : Trn} (ht : OkTr t) (hf : OkTr f) (hl : Lt t f) (bt : BG n t) (bf : BT n f) : ∀ u ∈ joinL t f, BG n u := by
  obtain ⟨c, hc, hlt⟩ := hl
  have c1 := ht.2.2 c hc
  have p1 := ht.2.1
  have q1 := hf.2.1
  have s0 := ht.1
  have start : t.1 < f.1 := lt_start ht ⟨c, hc, hlt⟩
  have bt' := bt.1 (by rw [hc]; intro z; cases z)
  have b1 := bt'.s
  have b2 := bt'.p
  have f1 := bf.s
  have f2 := bf.p
  have ps : joinS t f c ≤ PB n := by
    unfold joinS
    split <;> omega
  have ej : joinL t f = joinC t f c := by unfold joinL; rw [hc]
  intro u hu
  rw [ej] at hu
  unfold joinC at hu
  by_cases j1 : t.1 + c * joinS t f c = f.1
  · rw [if_pos j1] at hu
    by_cases j2 : f.2.1 = joinS t f c
    · rw [if_pos j2] at hu
      rw [List.mem_singleton.mp hu]
      refine BG.of ⟨b1, ps, fun d hd => ?_⟩
      cases hk : f.2.2 with
      | none =>
        rw [hk] at hd
        cases hd
      | some e =>
        rw [hk] at hd
        have z : c + e = d := Option.some.inj hd
        subst z
        have := bf.c e hk
        show t.1 + (c + e - 1) * joinS t f c ≤ PB n
        rw [show c + e - 1 = c + (e - 1) by omega, Int.add_mul, ← j2]
        rw [← j2] at j1
        omega
    · rw [if_neg j2] at hu
      rcases List.mem_cons.mp hu with rfl | hu
      · refine BG.of ⟨b1, ps, fun d hd => ?_⟩
        have z : c + 1 = d := Option.some.inj hd
        subst z
        show t.1 + (c + 1 - 1) * joinS t f c ≤ PB n
        rw [Int.add_sub_cancel]
        omega
      · unfold partL at hu
        have sc := PB_succ n
        cases hk : f.2.2 with
        | none =>
          rw [hk] at hu
          rw [List.mem_singleton.mp hu]
          exact ⟨fun z => absurd rfl z, ⟨by show f.1 + 1 * f.2.1 ≤ _; omega, by show f.2.1 ≤ _; omega, fun d hd => by cases hd⟩⟩
        | some d =>
          rw [hk] at hu
          have hu : u ∈ (if 1 = d then [] else [(f.1 + 1 * f.2.1, f.2.1, some (d - 1))] : List Trn) := hu
          have d1 := hf.2.2 d hk
          by_cases z : 1 = d
          · rw [if_pos z] at hu; simp at hu
          · rw [if_neg z] at hu
            rw [List.mem_singleton.mp hu]
            have e1 := bf.c d hk
            have e2 : 1 * f.2.1 ≤ (d - 1) * f.2.1 := Int.mul_le_mul_of_nonneg_right (by omega) (by omega)
            refine BG.of ⟨by show f.1 + 1 * f.2.1 ≤ _; omega, f2, fun k hk' => ?_⟩
            have z : d - 1 = k := Option.some.inj hk'
            subst z
            show f.1 + 1 * f.2.1 + (d - 1 - 1) * f.2.1 ≤ PB n
            rw [show d - 1 - 1 = (d - 1) + -1 by omega, Int.add_mul]
            omega
  · rw [if_neg j1] at hu
    simp only [List.mem_cons, List.mem_nil_iff, or_false] at hu
    rcases hu with rfl | rfl
    · exact bt
    · exact BG.of bf
theorem plainT_bg {n : Nat} {t : Trn} (h : BG n t) : BT (n + 1) (plainT t) := by
  unfold plainT
  split
  · rename_i q
    have b := h.2
    refine ⟨b.s, PB_pos _, fun c e => ?_⟩
    cases e
    have := b.c 1 q
    have := b.s
    show t.1 + (1 - 1) * 1 ≤ _
    omega
  · exact h.2
theorem nfs_len_aux : ∀ (r cl : List Trn) (h : Option Trn), Srt (cl ++ h.toList ++ r) → (nfG cl h r).length ≤ cl.length + h.toList.length + r.length
  | [], cl, none, _ => by
    show (cl ++ []).length ≤ _
    simp
  | [], cl, some t, _ => by
    show (cl ++ [plainT t]).length ≤ _
    simp
  | f :: r, cl, none, hs => by
    have e : cl ++ (none : Option Trn).toList ++ f :: r = cl ++ (some f).toList ++ r := by simp
    rw [e] at hs
    have := nfs_len_aux r cl (some f) hs
    show (nfG cl (some f) r).length ≤ _
    simp at this ⊢
    omega
  | f :: r, cl, some t, hs => by
    have e0 : cl ++ (some t).toList ++ f :: r = cl ++ (t :: f :: r) := by simp
    have hs0 := hs
    rw [e0] at hs
    obtain ⟨a1, a2, a3⟩ := List.pairwise_append.mp hs.2
    obtain ⟨b1, b2⟩ := List.pairwise_cons.mp a2
    obtain ⟨c1, c2⟩ := List.pairwise_cons.mp b2
    have ht : OkTr t := hs.1 t (by simp)
    have hfo : OkTr f := hs.1 f (by simp)
    have hl := b1 f (List.mem_cons_self ..)
    have J := joinL_ok ht hfo hl
    obtain ⟨c, hc, _⟩ := hl
    have k1 := ht.2.2 c hc
    obtain ⟨eg, es⟩ := joinL_split (f := f) hc k1
    have e1 : cl ++ (joinL t f).dropLast ++ ((joinL t f).getLast?).toList ++ r = cl ++ (joinL t f ++ r) := by
      rw [List.append_assoc cl, eg, List.append_assoc]
    obtain ⟨v, zs, ev, _, _, ez⟩ := joinL_head (f := f) hc k1
    have hlen : (joinL t f).length ≤ 2 := by
      rw [ev]
      rcases ez with rfl | ⟨u, rfl⟩ <;> simp
    have hl2 : (joinL t f).dropLast.length + ((joinL t f).getLast?).toList.length ≤ 2 := by
      have := congrArg List.length eg
      rw [List.length_append] at this
      omega
    have := nfs_len_aux r (cl ++ (joinL t f).dropLast) (joinL t f).getLast? (by
      rw [e1]
      refine ⟨fun u hu => ?_, List.pairwise_append.mpr ⟨a1, List.pairwise_append.mpr ⟨J.pw, c2, fun u hu v hv => J.hi v (c1 v hv) u hu⟩, fun u hu v hv => ?_⟩⟩
      · rcases List.mem_append.mp hu with hu | hu
        · exact hs.1 u (List.mem_append_left _ hu)
        · rcases List.mem_append.mp hu with hu | hu
          · exact J.ok u hu
          · exact hs.1 u (List.mem_append_right _ (List.mem_cons_of_mem _ (List.mem_cons_of_mem _ hu)))
      · have l := a3 u hu t (List.mem_cons_self ..)
        rcases List.mem_append.mp hv with hv | hv
        · exact lt_of_start l (J.lo v hv)
        · exact a3 u hu v (List.mem_cons_of_mem _ (List.mem_cons_of_mem _ hv)))
    show (nfG (cl ++ (joinL t f).dropLast) (joinL t f).getLast? r).length ≤ _
    rw [List.length_append] at this
    simp only [List.length_cons, Option.toList_some, List.length_nil] at this ⊢
    omega
theorem nfs_len {ts : List Trn} (h : Srt ts) : (nfs ts).length ≤ ts.length := by
  have := nfs_len_aux ts [] none (by simpa using h)
  show (nfG [] none ts).length ≤ _
  simpa using this
/-! ### lists of trains in the heap -/
theorem small2 {n : Nat} (h : n ≤ 100000) : n ≤ sizeLine := Nat.le_trans h (by decide)
theorem small1 {n : Nat} (h : n ≤ 100000) : n < sizeLine := Nat.lt_of_le_of_lt h (by decide)
theorem tYes_of {σ : L2.St} {H : Hp} {A B : Hp → Prop} (h : A H) : tYes σ H (fun b H3 => if b = true then A H3 else B H3) := by
  show if true = true then A H else B H
  rw [if_pos rfl]
  exact h
theorem cut_init (xs : List V) : cutV xs none (some (-1)) = xs.take (xs.length - 1) := by
  show (xs.drop 0).take ((if (-1 : Int) < 0 then ((-1 : Int) + (xs.length : Int)).toNat else min (-1 : Int).toNat xs.length) - 0) = _
  rw [if_pos (by decide), List.drop_zero]
  congr 1
  omega
theorem cut_last (xs : List V) : cutV xs (some (-1)) none = xs.drop (xs.length - 1) := by
  show (xs.drop (if (-1 : Int) < 0 then ((-1 : Int) + (xs.length : Int)).toNat else min (-1 : Int).toNat xs.length)).take (xs.length - (if (-1 : Int) < 0 then ((-1 : Int) + (xs.length : Int)).toNat else min (-1 : Int).toNat xs.length)) = _
  rw [if_pos (by decide)]
  have e : ((-1 : Int) + (xs.length : Int)).toNat = xs.length - 1 := by omega
  rw [e]
  refine List.take_of_length_le ?_
  rw [List.length_drop]
  exact Nat.le_refl _
theorem last_drop (ts : List Trn) : ts.drop (ts.length - 1) = ts.getLast?.toList := by
  induction ts with
  | nil => rfl
  | cons t ts ih =>
    cases ts with
    | nil => rfl
    | cons u ts =>
      rw [List.getLast?_cons_cons, ← ih]
      rfl
theorem Trs.init {H : Hp} {xs : List V} {ts : List Trn} (h : Trs H xs ts) : Trs H (cutV xs none (some (-1))) ts.dropLast := by
  rw [cut_init, List.dropLast_eq_take, h.len]
  exact h.take _
theorem Trs.lastL {H : Hp} {xs : List V} {ts : List Trn} (h : Trs H xs ts) : Trs H (cutV xs (some (-1)) none) ts.getLast?.toList := by
  rw [cut_last, ← last_drop, h.len]
  exact h.drop _
theorem Trs.get2 {H : Hp} {xs : List V} {ts : List Trn} {i : Nat} {t : Trn} (h : Trs H xs ts) (e : ts[i]? = some t) : ∃ x, xs[i]? = some x ∧ TrAt H x t := by
  have hi : i < ts.length := (List.getElem?_eq_some_iff.mp e).1
  have hx : i < xs.length := by rw [h.len]; exact hi
  obtain ⟨u, e1, e2⟩ := h.get (List.getElem?_eq_getElem hx)
  rw [e] at e1
  cases e1
  exact ⟨_, List.getElem?_eq_getElem hx, e2⟩
theorem none_of {H H' : Hp} {l : Addr} (s : Same H H') (h : H' l = none) : H l = none := by
  cases q : H l with
  | none => rfl
  | some o => rw [s _ _ q] at h; cases h
/-! ### joined and normal_form -/
def ahd : Int → List Trn → List Int
  | _, [] => []
  | n, t :: ts => n :: ahd (n + t.2.2.getD 0) ts
theorem ahd_len : ∀ (ts : List Trn) (n : Int), (ahd n ts).length = ts.length
  | [], _ => rfl
  | t :: ts, n => congrArg Nat.succ (ahd_len ts _)
def spNf : Sp := fun vs H Q _ => ∃ a xs ts n, vs = [.ref a] ∧ H a = some (.lst xs) ∧ Trs H xs ts ∧ Srt ts ∧ (∀ t ∈ ts, BT n t) ∧ n < 5000 ∧ ts.length ≤ 5000 ∧ ∀ l zs H', H' l = some (.lst zs) → Trs H' zs (nfs ts) → Same H H' → H l = none → Q (.ref l) H'
def spCa : Sp := fun vs H Q _ => ∃ a xs ts, vs = [.ref a] ∧ H a = some (.lst xs) ∧ Trs H xs ts ∧ (∀ t ∈ ts, OkTr t) ∧ ts.length ≤ 5000 ∧ ∀ l H', H' l = some (.lst ((ahd 0 ts).map V.int)) → Same H H' → H l = none → Q (.ref l) H'
def spTc : Sp := fun vs H Q _ => ∃ a xs ts, vs = [.ref a] ∧ H a = some (.lst xs) ∧ Trs H xs ts ∧ Srt ts ∧ ts.length ≤ 5000 ∧ ∀ H', Same H H' → Q (cV (Tot ts)) H'
def spCk : Sp := fun vs H Q _ => ∃ a xs ts n, vs = [.ref a] ∧ H a = some (.lst xs) ∧ Trs H xs ts ∧ Srt ts ∧ (∀ t ∈ ts, BT n t) ∧ n < 5000 ∧ ts.length ≤ 1000 ∧ ∀ H', Same H H' → Q .non H'
structure Ads where
  I : Addr
  L : Addr
  S : Addr
  B : Addr
  K : Addr
  X : Addr
  Y : Addr
  Z : Addr
  U : Addr
  F : Addr
  A : Addr
  T : Addr
  H : Addr
  M : Addr
  J : Addr
  C : Addr
  N : Addr
  mT : Addr
  mL : Addr
  mC : Addr
  mG : Addr
  mA : Addr
  mE : Addr
  bh : Addr
  tf : Addr
structure Tx (K : PySem.W.Frag) (mg : Str → Option Value) (D : Ads) : Prop where
  t0 : Tx0 K mg D.I D.L D.S
  t2 : Tx2 K mg D.B D.K D.X D.Y D.Z D.U
  cM : ∃ t, mg "MOST_TRAINS" = some (.int 1000 t)
  dF : Dfn K mg "normal_form" st_normal_form D.F ["trains"]
  dA : Dfn K mg "counts_ahead" st_counts_ahead D.A ["trains"]
  dT : Dfn K mg "total_count" st_total_count D.T ["trains"]
  dH : Dfn K mg "check_trains" st_check_trains D.H ["trains"]
  dM : Dfn K mg "count_below" st_count_below D.M ["numbers", "bound"]
  dJ : Dfn K mg "count_before" st_count_before D.J ["trains", "time"]
  dBh : Dfn K mg "is_behind" st_is_behind D.bh ["one", "other"]
  dTf : Dfn K mg "trains_of" st_trains_of D.tf ["runs"]
  cl : Cls K D.C
  nR : NoAttr K D.C "runs"
  nF : NoAttr K D.C "firsts"
  nA : NoAttr K D.C "ahead"
  nT : NoAttr K D.C "total"
  dN : ∃ fd, Fun K "__init__" "Trains.__init__" st_Trains_init D.N fd ∧ Binds K fd ["self", "trains"] []
  mT : Mth K D.C "train_list" "Trains.train_list" st_Trains_train_list D.mT ["self"]
  mL : Mth K D.C "__len__" "Trains.__len__" st_Trains_len D.mL ["self"]
  mC : Mth K D.C "__contains__" "Trains.__contains__" st_Trains_contains D.mC ["self", "x"]
  mG : Mth K D.C "__getitem__" "Trains.__getitem__" st_Trains_getitem D.mG ["self", "at"]
  mA : Mth K D.C "__add__" "Trains.__add__" st_Trains_add D.mA ["self", "other"]
  mE : Mth K D.C "__eq__" "Trains.__eq__" st_Trains_eq D.mE ["self", "other"]
section
variable {P : Program} {w : World} {K : PySem.W.Frag} {mg : Str → Option Value} {base : Heap} {D : Ads}
abbrev N_joined : List Str := ["train", "following", "start", "step", "count"]
theorem sc_joined : FnScope N_joined ["train", "following"] (defScope st_joined) := ⟨rfl, rfl, rfl, by decide +kernel, rfl, by decide +kernel, by decide +kernel⟩
theorem ok_joined (T : Tx K mg D) : Cal P w K mg base "joined" 2 D.Z ["train", "following"] spJoin := T.t2.dZ.cal fun fd F => by
  have G_partof := ok_part (P := P) (w := w) (base := base) T.t2
  have nd := sc_joined.nd
  refine F.ok sc_joined (fun vs H Q E h => ?_) (fun cdv A outer s H vs Q E hr h => ?_)
  · obtain ⟨x, t, y, f, c, rfl, _⟩ := h
    rfl
  · obtain ⟨x, t, y, f, c, rfl, ⟨a, rfl, ha⟩, ⟨b, rfl, hb⟩, ht, hf, bt, bf, hc, hl, k⟩ := h
    refine ⟨_, (pss_cons (ps_asg (pv 0) (pg_tup rfl (pgs_cons (pg_name (i := 2) nd rfl (Or.inl rfl)) (pgs_cons (pg_name (i := 3) nd rfl (Or.inl rfl)) (pgs_cons (pg_name (i := 4) nd rfl (Or.inl rfl)) pgs_nil)))))
       (C8.pss_cut (ps_if (pt_cmpR op_eq (pv 4) pe_int (nomark _)) (pss_one (ps_set (i := 3) nd rfl (Or.inl rfl) (pe_op op_sub (pe_ix (r := rIxT K) ix_tup (pv 1) pe_int (fun _ _ => rfl)) (pv 2)))) pss_nil)
       (pss_cons (ps_if (pt_cmpR op_ne (pe_op op_add (pv 2) (pe_op op_mulW (pv 4) (pv 3))) (pe_ix (r := rIxT K) ix_tup (pv 1) pe_int (fun _ _ => rfl)) (nomark _)) (pss_one (ps_ret (pe_lst (pa_cons (pv 0) (pa_cons (pv 1) pa_nil))))) pss_nil)
       (pss_cons (ps_if (pt_cmpR op_ne (pe_ix (r := rIxT K) ix_tup (pv 1) pe_int (fun _ _ => rfl)) (pv 3) (nomark _)) (pss_one (ps_ret (pe_op op_cat (pe_lst (pa_cons (pe_tup (pa_cons (pv 2) (pa_cons (pv 3) (pa_cons (pe_op op_add (pv 4) pe_int) pa_nil)))) pa_nil)) (pe_c G_partof (hr.mono (by decide)) rfl (pa_cons (pv 1) (pa_cons pe_int (pa_cons (pe_ix (r := rIxT K) ix_tup (pv 1) pe_int (fun _ _ => rfl)) pa_nil))))))) pss_nil)
       (pss_cons (ps_if (pt_cmp (pc_isN (pe_ix (r := rIxT K) ix_tup (pv 1) pe_int (fun _ _ => rfl)))) (pss_one (ps_ret (pe_lst (pa_cons (pe_tup (pa_cons (pv 2) (pa_cons (pv 3) (pa_cons pe_non pa_nil)))) pa_nil)))) pss_nil)
       (pss_one (ps_ret (pe_lst (pa_cons (pe_tup (pa_cons (pv 2) (pa_cons (pv 3) (pa_cons (pe_op op_add (pv 4) (pe_ix (r := rIxT K) ix_tup (pv 1) pe_int (fun _ _ => rfl))) pa_nil)))) pa_nil))))))))), ?_⟩
    have c1 := ht.2.2 c hc
    have p1 := ht.2.1
    have q1 := hf.2.1
    have s0 := ht.1
    have start : t.1 < f.1 := lt_start ht hl
    have b1 := BB1
    have bs : t.1 ≤ BB := bt.s
    have bp : t.2.1 ≤ BB := bt.p
    have fs : f.1 ≤ BB := bf.s
    have bc : c ≤ BB + 1 := bt.cnt ht hc
    have ej : joinL t f = joinC t f c := by unfold joinL; rw [hc]
    have js : 1 ≤ joinS t f c ∧ joinS t f c ≤ BB := by
      unfold joinS
      split <;> omega
    rw [ej] at k
    refine ⟨_, rfl, a, _, rfl, SqT.of ha, rfl, _, _, rfl, _, _, rfl, _, _, rfl, rfl, ?_⟩
    refine ⟨fun σ H' => σ = [some (.ref a), some (.ref b), some (.int t.1), some (.int (joinS t f c)), some (cV (some c))] ∧ H' = H, ?_, ?_⟩
    · rw [hc]
      refine ⟨_, rfl, rfl, _, rfl, ?_⟩
      refine ite2 (fun z => ?_) (fun z => ?_)
      · have z' : c = 1 := V.int.inj (of_decide_eq_true z)
        refine ⟨_, rfl, b, _, 0, .int f.1, rfl, rfl, SqT.of hb, rfl, _, rfl, _, _, rfl, rfl, ?_⟩
        unfold joinS
        rw [if_pos z']
        exact ⟨rfl, rfl⟩
      · have z' : ¬ c = 1 := fun e => z (decide_eq_true (by rw [e]; rfl))
        unfold joinS
        rw [if_neg z']
        exact ⟨rfl, rfl⟩
    rintro σ H' ⟨rfl, rfl⟩
    unfold joinC at k
    generalize joinS t f c = st at *
    refine ⟨_, rfl, _, rfl, _, rfl, _, _, rfl, rfl, mulBB (by omega) (by omega) (by omega) (by omega), _, _, rfl, rfl, _, rfl, b, _, 0, .int f.1, rfl, rfl, SqT.of hb, rfl, rfl, _, rfl, ?_⟩
    refine ite2 (fun z => ?_) (fun z => ?_)
    · have z' : ¬ t.1 + c * st = f.1 := fun e => by
        have z2 : (!decide (V.int (t.1 + c * st) = V.int f.1)) = true := z
        rw [e] at z2
        simp at z2
      rw [if_neg z'] at k
      exact ⟨_, rfl, _, rfl, (by show 2 ≤ sizeLine; decide), fun l hl => k l _ _ upd_same (.cons ⟨a, rfl, (Same.upd hl) _ _ ha⟩ (.cons ⟨b, rfl, (Same.upd hl) _ _ hb⟩ .nil)) (Same.upd hl) hl⟩
    · have z' : t.1 + c * st = f.1 := by
        have z2 : ¬ (!decide (V.int (t.1 + c * st) = V.int f.1)) = true := z
        by_cases e : t.1 + c * st = f.1
        · exact e
        · refine absurd ?_ z2
          rw [decide_eq_false (fun w => e (V.int.inj w))]
          rfl
      rw [if_pos z'] at k
      refine ⟨_, rfl, b, _, 1, .int f.2.1, rfl, rfl, SqT.of hb, rfl, _, rfl, rfl, _, rfl, ?_⟩
      refine ite2 (fun w => ?_) (fun w => ?_)
      · have w' : ¬ f.2.1 = st := fun e => by
          rw [e] at w
          simp at w
        rw [if_neg w'] at k
        refine ⟨_, rfl, _, rfl, _, rfl, _, _, rfl, rfl, (by show 3 ≤ sizeLine; decide), fun e he => ⟨(by show 1 ≤ sizeLine; decide), fun l hl => ?_⟩⟩
        have s2 : Same H' (upd (upd H' e (.tup [.int t.1, .int st, .int (c + 1)])) l (.lst [.ref e])) := (Same.upd he).trans (Same.upd hl)
        refine ⟨_, rfl, _, rfl, b, _, 2, cV f.2.2, rfl, rfl, SqT.of (s2 _ _ hb), rfl, _, f, 1, f.2.2, rfl, ⟨b, rfl, s2 _ _ hb⟩, mulBB (by decide) (by omega) (by omega) (by have : f.2.1 ≤ BB := bf.p; omega), fun l2 zs H2 h1 h2 h3 h4 => ?_⟩
        refine ⟨l, l2, _, _, rfl, rfl, h3 _ _ upd_same, h1, ?_, fun p hp => ?_⟩
        · refine small2 (show 1 + zs.length ≤ 100000 from ?_)
          rw [h2.len]
          unfold partL
          cases f.2.2 with
          | none => simp
          | some d =>
            show 1 + (if 1 = d then [] else [(f.1 + 1 * f.2.1, f.2.1, some (d - 1))] : List Trn).length ≤ 100000
            split <;> simp
        · have s3 : Same H' (upd H2 p (.lst ([.ref e] ++ zs))) := (s2.trans h3).trans (Same.upd hp)
          refine k p _ _ upd_same ?_ s3 (none_of (s2.trans h3) hp)
          refine .cons ⟨e, rfl, (Same.upd hp) _ _ (h3 _ _ ?_)⟩ (h2.same (Same.upd hp))
          exact (Same.upd hl) _ _ upd_same
      · have w' : f.2.1 = st := by
          have w2 : ¬ (!decide (V.int f.2.1 = V.int st)) = true := w
          by_cases e : f.2.1 = st
          · exact e
          · refine absurd ?_ w2
            rw [decide_eq_false (fun w => e (V.int.inj w))]
            rfl
        rw [if_pos w'] at k
        refine ⟨_, rfl, b, _, 2, cV f.2.2, rfl, rfl, SqT.of hb, rfl, ?_⟩
        cases hk : f.2.2 with
        | none =>
          rw [hk] at k
          refine ⟨_, rfl, iteT ⟨_, rfl, _, rfl, (by show 3 ≤ sizeLine; decide), fun e he => ⟨(by show 1 ≤ sizeLine; decide), fun l hl => ?_⟩⟩⟩
          exact k l _ _ upd_same (Trs.one ⟨e, rfl, (Same.upd hl) _ _ upd_same⟩) ((Same.upd he).trans (Same.upd hl)) (none_of (Same.upd he) hl)
        | some d =>
          rw [hk] at k
          have hb2 : H' b = some (.tup [.int f.1, .int f.2.1, .int d]) := by
            rw [hb]
            unfold TrV
            rw [hk]
            rfl
          refine ⟨_, rfl, iteF ⟨_, rfl, _, rfl, _, rfl, _, rfl, b, _, 2, .int d, rfl, rfl, SqT.of hb2, rfl, _, _, rfl, rfl, (by show 3 ≤ sizeLine; decide), fun e he => ⟨(by show 1 ≤ sizeLine; decide), fun l hl => ?_⟩⟩⟩
          exact k l _ _ upd_same (Trs.one ⟨e, rfl, (Same.upd hl) _ _ upd_same⟩) ((Same.upd he).trans (Same.upd hl)) (none_of (Same.upd he) hl)
end
/-! ### normal_form -/
theorem drop_of {α : Type} {xs : List α} {i : Nat} {x : α} (h : xs[i]? = some x) : xs.drop i = x :: xs.drop (i + 1) := by
  have hi := (List.getElem?_eq_some_iff.mp h).1
  rw [List.drop_eq_getElem_cons hi]
  congr 1
  exact (List.getElem?_eq_some_iff.mp h).2
structure NfW (n : Nat) (ts : List Trn) (i : Nat) (cl : List Trn) (h : Option Trn) : Prop where
  eq : nfs ts = nfG cl h (ts.drop i)
  srt : Srt (cl ++ h.toList ++ ts.drop i)
  bg : ∀ u ∈ cl ++ h.toList, BG n u
  br : ∀ u ∈ ts, BT n u
  ln : cl.length ≤ i + i
theorem NfW.start {n : Nat} {ts : List Trn} (hs : Srt ts) (hb : ∀ t ∈ ts, BT n t) : NfW n ts 0 [] none := ⟨rfl, by simpa using hs, fun u hu => by simp at hu, hb, Nat.le_refl _⟩
theorem NfW.first {n : Nat} {ts : List Trn} {i : Nat} {cl : List Trn} {f : Trn} (W : NfW n ts i cl none) (e : ts[i]? = some f) : NfW n ts (i + 1) cl (some f) := by
  have hd := drop_of e
  have h1 := W.srt
  have h2 := W.eq
  rw [hd] at h1 h2
  refine ⟨h2, ?_, fun u hu => ?_, W.br, by have := W.ln; omega⟩
  · have e2 : cl ++ (none : Option Trn).toList ++ f :: ts.drop (i + 1) = cl ++ (some f).toList ++ ts.drop (i + 1) := by simp
    rw [← e2]; exact h1
  · rcases List.mem_append.mp hu with hu | hu
    · exact W.bg u (List.mem_append_left _ hu)
    · have e3 : u = f := by simpa using hu
      rw [e3]
      exact BG.of (W.br f (List.mem_of_getElem? e))
structure NfS (n : Nat) (ts : List Trn) (i : Nat) (cl : List Trn) (t f : Trn) : Prop where
  ht : OkTr t
  hf : OkTr f
  hl : Lt t f
  bt : BT n t
  bf : BT n f
  nx : NfW n ts (i + 1) (cl ++ (joinL t f).dropLast) (joinL t f).getLast?
  ln : (joinL t f).length ≤ 2
theorem NfW.step {n : Nat} {ts : List Trn} {i : Nat} {cl : List Trn} {t f : Trn} (W : NfW n ts i cl (some t)) (e : ts[i]? = some f) : NfS n ts i cl t f := by
  have hd := drop_of e
  have hs := W.srt
  have h2 := W.eq
  rw [hd] at hs h2
  have e0 : cl ++ (some t).toList ++ f :: ts.drop (i + 1) = cl ++ (t :: f :: ts.drop (i + 1)) := by simp
  rw [e0] at hs
  obtain ⟨a1, a2, a3⟩ := List.pairwise_append.mp hs.2
  obtain ⟨b1, b2⟩ := List.pairwise_cons.mp a2
  obtain ⟨c1, c2⟩ := List.pairwise_cons.mp b2
  have ht : OkTr t := hs.1 t (by simp)
  have hf : OkTr f := hs.1 f (by simp)
  have hl := b1 f (List.mem_cons_self ..)
  have J := joinL_ok ht hf hl
  have bg : BG n t := W.bg t (by simp)
  have bf : BT n f := W.br f (List.mem_of_getElem? e)
  have hl0 := hl
  obtain ⟨c, hc, _⟩ := hl
  have k1 := ht.2.2 c hc
  obtain ⟨eg, es⟩ := joinL_split (f := f) hc k1
  obtain ⟨v, zs, ev, _, _, ez⟩ := joinL_head (f := f) hc k1
  have hlen : (joinL t f).length ≤ 2 := by
    rw [ev]
    rcases ez with rfl | ⟨u, rfl⟩ <;> simp
  have e1 : cl ++ (joinL t f).dropLast ++ ((joinL t f).getLast?).toList ++ ts.drop (i + 1) = cl ++ (joinL t f ++ ts.drop (i + 1)) := by
    rw [List.append_assoc cl, eg, List.append_assoc]
  refine ⟨ht, hf, hl0, bg.1 (by rw [hc]; intro z; cases z), bf, ⟨h2, ?_, fun u hu => ?_, W.br, ?_⟩, hlen⟩
  · rw [e1]
    refine ⟨fun u hu => ?_, List.pairwise_append.mpr ⟨a1, List.pairwise_append.mpr ⟨J.pw, c2, fun u hu v hv => J.hi v (c1 v hv) u hu⟩, fun u hu v hv => ?_⟩⟩
    · rcases List.mem_append.mp hu with hu | hu
      · exact hs.1 u (List.mem_append_left _ hu)
      · rcases List.mem_append.mp hu with hu | hu
        · exact J.ok u hu
        · exact hs.1 u (List.mem_append_right _ (List.mem_cons_of_mem _ (List.mem_cons_of_mem _ hu)))
    · have l := a3 u hu t (List.mem_cons_self ..)
      rcases List.mem_append.mp hv with hv | hv
      · exact lt_of_start l (J.lo v hv)
      · exact a3 u hu v (List.mem_cons_of_mem _ (List.mem_cons_of_mem _ hv))
  · rw [List.append_assoc, eg] at hu
    rcases List.mem_append.mp hu with hu | hu
    · exact W.bg u (List.mem_append_left _ hu)
    · exact joinL_bg ht hf hl0 bg bf u hu
  · have := W.ln
    rw [List.length_append, List.length_dropLast]
    omega
theorem NfW.all {n : Nat} {ts : List Trn} : ∀ (k i : Nat) (cl : List Trn) (h : Option Trn), k + i = ts.length → NfW n ts i cl h → ∃ cl' h', NfW n ts ts.length cl' h'
  | 0, i, cl, h, e, W => by
    have : i = ts.length := by omega
    subst this
    exact ⟨cl, h, W⟩
  | k + 1, i, cl, h, e, W => by
    have hi : i < ts.length := by omega
    have e2 := List.getElem?_eq_getElem hi
    cases h with
    | none => exact NfW.all k (i + 1) _ _ (by omega) (W.first e2)
    | some t => exact NfW.all k (i + 1) _ _ (by omega) (W.step e2).nx
theorem nfs_bt {n : Nat} {ts : List Trn} (hs : Srt ts) (hb : ∀ t ∈ ts, BT n t) : ∀ t ∈ nfs ts, BT (n + 1) t := by
  obtain ⟨cl, h, W⟩ := NfW.all ts.length 0 [] none (by omega) (NfW.start hs hb)
  intro t ht
  rw [W.eq, List.drop_length] at ht
  have ht : t ∈ cl ++ (h.map plainT).toList := ht
  rcases List.mem_append.mp ht with ht | ht
  · exact (W.bg t (List.mem_append_left _ ht)).2
  · cases h with
    | none => simp at ht
    | some u =>
      have e : t = plainT u := by simpa using ht
      rw [e]
      exact plainT_bg (W.bg u (by simp))
section
variable {P : Program} {w : World} {K : PySem.W.Frag} {mg : Str → Option Value} {base : Heap} {D : Ads}
abbrev N_normalform : List Str := ["trains", "closed", "held", "train", "grown"]
theorem sc_normalform : FnScope N_normalform ["trains"] (defScope st_normal_form) := ⟨rfl, rfl, rfl, by decide +kernel, rfl, by decide +kernel, by decide +kernel⟩
theorem ok_normalform (T : Tx K mg D) : Cal P w K mg base "normal_form" 3 D.F ["trains"] spNf := T.dF.cal fun fd F => by
  have G_joined := ok_joined (P := P) (w := w) (base := base) T
  have G_withplainstep := ok_plain (P := P) (w := w) (base := base) T.t2
  have nd := sc_normalform.nd
  refine F.ok sc_normalform (fun vs H Q E h => ?_) (fun cdv A outer s H vs Q E hr h => ?_)
  · obtain ⟨a, xs, ts, n, rfl, _⟩ := h
    rfl
  · obtain ⟨a, xs, ts, n, rfl, ha, hx, hs, hb, hn, hln, k⟩ := h
    refine ⟨_, (pss_cons (ps_set (i := 1) nd rfl (Or.inl rfl) (pe_lst pa_nil))
       (pss_cons (ps_set (i := 2) nd rfl (Or.inl rfl) (pe_lst pa_nil))
       (pss_cons (ps_for PassesOwn.never rfl (pi_list (pv 0)) (pg_name (i := 3) nd rfl (Or.inl rfl)) (pss_cons (ps_set (i := 4) nd rfl (Or.inl rfl) (pe_ifExp (pt_truth (pv 2) (fun _ => rfl)) (pe_c G_joined (hr.mono (by decide)) rfl (pa_cons (pe_ix (r := rIxL K) ix_list (pv 2) pe_int (fun _ _ => rfl)) (pa_cons (pv 3) pa_nil))) (pe_lst (pa_cons (pv 3) pa_nil))))
       (pss_cons (ps_expr (pe_bm PySem.F.plainAttrs_list PySem.F.slot_list_extend PySem.F.type_list_extend mt_extend (pv 1) (pa_cons (pe_slice (r := rSlL K) sl_list (pv 4) po_none (po_some (pe_un un_neg pe_int))) pa_nil)))
       (pss_one (ps_set (i := 2) nd rfl (Or.inl rfl) (pe_slice (r := rSlL K) sl_list (pv 4) (po_some (pe_un un_neg pe_int)) po_none))))))
       (pss_one (ps_ret (pe_op op_cat (pv 1) (pe_lc (own := [("train", 3)]) (g := gName 3) (tt := tYes) rfl nd (pi_list (pv 2)) (blkOk_by (own := [("train", 3)]) (N := N_normalform) (sc := defScope st_normal_form) (by decide +kernel)) (fun _ _ _ _ _ => pg_name (i := 3) nd rfl (Or.inl rfl)) (fun _ _ _ _ _ => pts_nil) (fun _ _ _ _ _ => (pe_c G_withplainstep (hr.mono (by decide)) rfl (pa_cons (pv 3) pa_nil)))))))))), ?_⟩
    have hxl := hx.len
    refine ⟨(by show 0 ≤ sizeLine; decide), fun l1 hl1 => ⟨(by show 0 ≤ sizeLine; decide), fun l2 hl2 => ?_⟩⟩
    have s1 : Same H (upd H l1 (.lst [])) := Same.upd hl1
    have s2 := s1.trans (Same.upd (o := .lst []) hl2)
    have n21 : l1 ≠ l2 := ne_of_none upd_same hl2
    refine ⟨_, rfl, a, rfl, ⟨_, SqL.of (s2 _ _ ha)⟩, for_list (K := K) (a := a) (xs := xs) (fun i σ H2 => ∃ cl h lh zc zh, ∃ v3 v4 : Option V, σ = [some (.ref a), some (.ref l1), some (.ref lh), v3, v4] ∧ H2 l1 = some (.lst zc) ∧ Trs H2 zc cl ∧ H2 lh = some (.lst zh) ∧ Trs H2 zh h.toList ∧ Same H H2 ∧ lh ≠ l1 ∧ NfW n ts i cl h)
      ⟨[], none, l2, [], [], none, none, rfl, by rw [upd_ne n21, upd_same], .nil, upd_same, .nil, s2, n21.symm, NfW.start hs hb⟩ (fun i σ H2 _ ⟨_, _, _, _, _, _, _, _, _, _, _, _, sH, _⟩ => SqL.of (sH _ _ ha)) ?_ ?_⟩
    · rintro i x σ H2 hxi ⟨cl, h, lh, zc, zh, v3, v4, rfl, hc, tc, hh, th, sH, nl, W⟩
      obtain ⟨f, hf, hxf⟩ := hx.get hxi
      have hxf2 := hxf.same sH
      have hi : i < ts.length := (List.getElem?_eq_some_iff.mp hf).1
      have hwl := W.ln
      have hcl : zc.length ≤ i + i := by rw [tc.len]; exact hwl
      -- what becomes of what is held
      have go : ∀ (lg : Addr) (zg : List V) (g : List Trn) (H3 : Hp), H3 lg = some (.lst zg) → Trs H3 zg g → Same H2 H3 → H2 lg = none → g.length ≤ 2 → NfW n ts (i + 1) (cl ++ g.dropLast) g.getLast? →
          ∀ p1, H3 p1 = none → ∀ p2, (upd (upd H3 p1 (.lst (cutV zg none (some (-1))))) l1 (.lst (zc ++ cutV zg none (some (-1))))) p2 = none →
          ∃ cl' h' lh' zc' zh', ∃ v3 v4 : Option V, [some (V.ref a), some (.ref l1), some (.ref p2), some x, some (.ref lg)] = [some (.ref a), some (.ref l1), some (.ref lh'), v3, v4] ∧
            (upd (upd (upd H3 p1 (.lst (cutV zg none (some (-1))))) l1 (.lst (zc ++ cutV zg none (some (-1))))) p2 (.lst (cutV zg (some (-1)) none))) l1 = some (.lst zc') ∧
            Trs (upd (upd (upd H3 p1 (.lst (cutV zg none (some (-1))))) l1 (.lst (zc ++ cutV zg none (some (-1))))) p2 (.lst (cutV zg (some (-1)) none))) zc' cl' ∧
            (upd (upd (upd H3 p1 (.lst (cutV zg none (some (-1))))) l1 (.lst (zc ++ cutV zg none (some (-1))))) p2 (.lst (cutV zg (some (-1)) none))) lh' = some (.lst zh') ∧
            Trs (upd (upd (upd H3 p1 (.lst (cutV zg none (some (-1))))) l1 (.lst (zc ++ cutV zg none (some (-1))))) p2 (.lst (cutV zg (some (-1)) none))) zh' h'.toList ∧
            Same H (upd (upd (upd H3 p1 (.lst (cutV zg none (some (-1))))) l1 (.lst (zc ++ cutV zg none (some (-1))))) p2 (.lst (cutV zg (some (-1)) none))) ∧ lh' ≠ l1 ∧ NfW n ts (i + 1) cl' h' := by
        intro lg zg g H3 hg tg s3 hlg hgl W3 p1 hp1 p2 hp2
        have n1 : NL H2 (upd H3 p1 (.lst (cutV zg none (some (-1))))) := NL.of (s3.trans (Same.upd hp1))
        have c3 : (upd H3 p1 (.lst (cutV zg none (some (-1))))) l1 = some (.lst zc) := (s3.trans (Same.upd hp1)) _ _ hc
        have n2 := NL.upd (o := .lst (zc ++ cutV zg none (some (-1)))) c3
        have n3 : NL _ _ := NL.of (Same.upd (o := .lst (cutV zg (some (-1)) none)) hp2)
        have np : l1 ≠ p2 := ne_of_none upd_same hp2
        have tg2 := ((tg.same (Same.upd (o := .lst (cutV zg none (some (-1)))) hp1)).nl n2).nl n3
        refine ⟨cl ++ g.dropLast, g.getLast?, p2, _, _, _, _, rfl, by rw [upd_ne np, upd_same], (((tc.nl n1).nl n2).nl n3).app tg2.init, upd_same, tg2.lastL, ?_, np.symm, W3⟩
        intro b o e
        have nb1 : b ≠ l1 := ne_of_none e hl1
        have e2 := (s3.trans (Same.upd (o := .lst (cutV zg none (some (-1)))) hp1)) _ _ (sH _ _ e)
        have e3 : (upd (upd H3 p1 (.lst (cutV zg none (some (-1))))) l1 (.lst (zc ++ cutV zg none (some (-1))))) b = some o := by rw [upd_ne nb1]; exact e2
        exact (Same.upd hp2) _ _ e3
      have fin : ∀ (lg : Addr) (zg : List V) (g : List Trn) (H3 : Hp), H3 lg = some (.lst zg) → Trs H3 zg g → Same H2 H3 → H2 lg = none → g.length ≤ 2 → ∀ p1, H3 p1 = none →
          (upd H3 p1 (.lst (cutV zg none (some (-1))))) l1 = some (.lst zc) ∧ (upd H3 p1 (.lst (cutV zg none (some (-1))))) p1 = some (.lst (cutV zg none (some (-1)))) ∧ zc.length + (cutV zg none (some (-1))).length ≤ sizeLine ∧ (upd H3 p1 (.lst (cutV zg none (some (-1))))) lg = some (.lst zg) := by
        intro lg zg g H3 hg tg s3 hlg hgl p1 hp1
        refine ⟨(s3.trans (Same.upd hp1)) _ _ hc, upd_same, small2 ?_, (Same.upd hp1) _ _ hg⟩
        have e1 := cutV_length zg none (some (-1))
        have e2 := tg.len
        omega
      have sq : ∀ (lg : Addr) (zg : List V) (H3 : Hp) (p1 : Addr), lg ≠ l1 → (upd H3 p1 (.lst (cutV zg none (some (-1))))) lg = some (.lst zg) → (upd (upd H3 p1 (.lst (cutV zg none (some (-1))))) l1 (.lst (zc ++ cutV zg none (some (-1))))) lg = some (.lst zg) := fun lg zg H3 p1 ne e => by
        rw [upd_ne ne]; exact e
      cases h with
      | none =>
        have zh0 : zh = [] := by
          have := th.len
          simpa using this
        subst zh0
        have Wn := W.first hf
        refine ⟨_, rfl, false, .inl ⟨[], SqL.of hh, rfl⟩, iteF ⟨_, rfl, (by show 1 ≤ sizeLine; decide), fun lg hlg => ?_⟩⟩
        have ng : lg ≠ l1 := (ne_of_none hc hlg).symm
        have tg : Trs (upd H2 lg (.lst [x])) [x] [f] := Trs.one (hxf2.same (Same.upd hlg))
        refine ⟨_, rfl, .inl ⟨rfl, _, SqL.of ((Same.upd hlg) _ _ hc)⟩, _, rfl, 1, rfl, -1, rfl, lg, [x], rfl, SqL.of upd_same, fun p1 hp1 => ?_⟩
        obtain ⟨g1, g2, g3, g4⟩ := fin lg [x] [f] _ upd_same tg (Same.upd hlg) hlg (by show 1 ≤ 2; decide) p1 hp1
        refine ⟨l1, p1, zc, _, rfl, rfl, g1, g2, g3, ?_⟩
        refine ⟨_, rfl, 1, rfl, -1, rfl, lg, [x], rfl, SqL.of (sq lg [x] _ p1 ng g4), fun p2 hp2 => ?_⟩
        exact go lg [x] [f] _ upd_same tg (Same.upd hlg) hlg (by show 1 ≤ 2; decide) (by simpa using Wn) p1 hp1 p2 hp2
      | some t =>
        obtain ⟨y, zh0, hy⟩ : ∃ y, zh = [y] ∧ TrAt H2 y t := by
          cases th with
          | cons r tl =>
            cases tl
            exact ⟨_, rfl, r⟩
        subst zh0
        have S := W.step hf
        obtain ⟨ct, hct, _⟩ := S.hl
        refine ⟨_, rfl, true, .inl ⟨[y], SqL.of hh, rfl⟩, iteT ⟨_, rfl, lh, _, 0, y, rfl, rfl, SqL.of hh, rfl, _, rfl, y, t, x, f, ct, rfl, hy, hxf2, S.ht, S.hf, S.bt.le (by omega), S.bf.le (by omega), hct, S.hl, fun lg zg H3 hg tg s3 hlg => ?_⟩⟩
        have ng : lg ≠ l1 := (ne_of_none hc hlg).symm
        refine ⟨_, rfl, .inl ⟨rfl, _, SqL.of (s3 _ _ hc)⟩, _, rfl, 1, rfl, -1, rfl, lg, zg, rfl, SqL.of hg, fun p1 hp1 => ?_⟩
        obtain ⟨g1, g2, g3, g4⟩ := fin lg zg _ _ hg tg s3 hlg S.ln p1 hp1
        refine ⟨l1, p1, zc, _, rfl, rfl, g1, g2, g3, ?_⟩
        refine ⟨_, rfl, 1, rfl, -1, rfl, lg, zg, rfl, SqL.of (sq lg zg _ p1 ng g4), fun p2 hp2 => ?_⟩
        exact go lg zg _ _ hg tg s3 hlg S.ln S.nx p1 hp1 p2 hp2
    · rintro σ H2 ⟨cl, h, lh, zc, zh, v3, v4, rfl, hc, tc, hh, th, sH, nl, W⟩
      have We := W.eq
      have hwl := W.ln
      rw [hxl, List.drop_length] at We
      have We : nfs ts = cl ++ (h.map plainT).toList := We
      refine ⟨_, rfl, _, rfl, lh, rfl, ⟨_, SqL.of hh⟩, fun E1 hE => ?_⟩
      have hzh : zh.length = h.toList.length := th.len
      refine lc_list (K := K) (a := lh) (xs := zh) (fun j H3 => ∃ ws, H3 E1 = some (.lst ws) ∧ Trs H3 ws ((h.toList.map plainT).take j) ∧ Same H2 H3) ⟨[], upd_same, .nil, Same.upd hE⟩ (fun j H3 _ ⟨_, _, _, s⟩ => SqL.of (s _ _ hh)) ?_ ?_
      · rintro j y H3 hy ⟨ws, hD, tw, s3⟩
        obtain ⟨t, ht, hyt⟩ := th.get hy
        have hj : ws.length ≤ 1 := by
          rw [tw.len, List.length_take, List.length_map]
          have : h.toList.length ≤ 1 := by cases h <;> simp
          omega
        refine ⟨rfl, tYes_of ⟨_, rfl, y, t, rfl, hyt.same s3, fun p hp => ?_⟩⟩
        have s4 : Same H3 (upd H3 p (.tup (TrV (plainT t)))) := Same.upd hp
        refine ⟨ws, s4 _ _ hD, small1 (by omega), ws ++ [.ref p], upd_same, ?_, fun b o e => ?_⟩
        · have n5 := NL.upd (o := .lst (ws ++ [.ref p])) (s4 _ _ hD)
          rw [List.take_add_one, List.getElem?_map, ht]
          exact ((tw.same s4).nl n5).app (Trs.one ⟨p, rfl, n5 _ _ upd_same fun _ z => nomatch z⟩)
        · rw [upd_ne (ne_of_none e hE)]
          exact s4 _ _ (s3 _ _ e)
      · rintro H3 ⟨ws, hD, tw, s3⟩
        have e1 : (h.toList.map plainT).take zh.length = (h.map plainT).toList := by
          rw [hzh]
          cases h <;> rfl
        rw [e1] at tw
        have hw : ws.length ≤ 1 := by
          rw [tw.len]
          cases h <;> simp
        refine ⟨l1, E1, zc, ws, rfl, rfl, s3 _ _ hc, hD, small2 (by have := tc.len; omega), fun p hp => ?_⟩
        have s4 := Same.upd (o := .lst (zc ++ ws)) hp
        refine k p (zc ++ ws) _ upd_same ?_ ((sH.trans s3).trans s4) (none_of (sH.trans s3) hp)
        rw [We]
        exact ((tc.same s3).same s4).app (tw.same s4)
end
/-! ### counts, totals, checks -/
theorem for_enum {K : PySem.W.Frag} {a : Addr} {xs : List V} {g : TG} {tb : TS} {D : Ends} {σ : L2.St} {H : Hp} (Pv : Nat → L2.St → Hp → Prop) (h0 : Pv 0 σ H) (hl : ∀ i σ H, i ≤ xs.length → Pv i σ H → SqL K H a xs)
    (hs : ∀ i x T σ H, xs[i]? = some x → Pv i σ H → H T = none → g (.ref T) σ (upd H T (.tup [.int (i : Nat), x])) fun σ2 H2 => tb { D with nx := Pv (i + 1), ct := Pv (i + 1), bk := D.nx } σ2 H2) (hd : ∀ σ H, Pv xs.length σ H → D.nx σ H) :
    ∃ W : Nat → Nat → L2.St → Hp → Prop, (∃ m, W 0 m σ H) ∧ ∀ i m σ H, W i m σ H →
      ((Ite K a).stop i H ∧ D.nx σ H) ∨ ((Ite K a).go i H ∧ ∃ N : L2.St → Hp → Prop, (∀ σ' H', N σ' H' → ∃ m', m' < m ∧ W (i + 1) m' σ' H') ∧ ∀ x H', (Ite K a).yld i H x H' → g x σ H' fun σ2 H2 => tb { D with nx := N, ct := N, bk := D.nx } σ2 H2) := by
  refine ⟨fun i m σ H => m = xs.length - i ∧ i ≤ xs.length ∧ Pv i σ H, ⟨xs.length, by simp, Nat.zero_le _, h0⟩, ?_⟩
  rintro i m σ H ⟨rfl, hi, p⟩
  have q := hl i σ H hi p
  by_cases hlt : i < xs.length
  · refine .inr ⟨⟨xs, xs[i], q, by simp [hlt]⟩, Pv (i + 1), fun σ' H' p' => ⟨xs.length - (i + 1), by omega, rfl, hlt, p'⟩, fun x H' y => ?_⟩
    obtain ⟨T, x', rfl, hT, rfl, hx⟩ := y
    exact hs i x' T σ H (hx xs q) p hT
  · have e : i = xs.length := by omega
    subst e
    exact .inl ⟨⟨xs, q, Nat.le_refl _⟩, hd σ H p⟩
/-- the counts of the first i -/
def sumC : List Trn → Int
  | [] => 0
  | t :: ts => t.2.2.getD 0 + sumC ts
theorem sumC_app : ∀ (ts us : List Trn), sumC (ts ++ us) = sumC ts + sumC us
  | [], us => by show sumC us = 0 + sumC us; omega
  | t :: ts, us => by
    show t.2.2.getD 0 + sumC (ts ++ us) = t.2.2.getD 0 + sumC ts + sumC us
    rw [sumC_app ts us]
    omega
theorem ahd_app : ∀ (ts us : List Trn) (n : Int), ahd n (ts ++ us) = ahd n ts ++ ahd (n + sumC ts) us
  | [], us, n => by show ahd n us = [] ++ ahd (n + 0) us; simp
  | t :: ts, us, n => by
    show n :: ahd (n + t.2.2.getD 0) (ts ++ us) = n :: (ahd (n + t.2.2.getD 0) ts ++ ahd (n + (t.2.2.getD 0 + sumC ts)) us)
    rw [ahd_app ts us, Int.add_assoc]
theorem ahd_take {ts : List Trn} {i : Nat} {t : Trn} (h : ts[i]? = some t) : ahd 0 (ts.take (i + 1)) = ahd 0 (ts.take i) ++ [sumC (ts.take i)] := by
  rw [List.take_add_one, h, ahd_app]
  show _ ++ [0 + sumC (ts.take i)] = _
  rw [Int.zero_add]
  all_goals rfl
theorem sumC_take {ts : List Trn} {i : Nat} {t : Trn} (h : ts[i]? = some t) : sumC (ts.take (i + 1)) = sumC (ts.take i) + t.2.2.getD 0 := by
  rw [List.take_add_one, h, sumC_app]
  show _ + (t.2.2.getD 0 + 0) = _
  rw [Int.add_zero]
theorem tot_sum : ∀ {ts : List Trn}, (∀ t ∈ ts, t.2.2 ≠ none) → Tot ts = some (sumC ts)
  | [], _ => rfl
  | t :: ts, h => by
    have h1 := h t (List.mem_cons_self ..)
    have ih := tot_sum (ts := ts) fun u hu => h u (List.mem_cons_of_mem _ hu)
    cases hk : t.2.2 with
    | none => exact absurd hk h1
    | some c =>
      show (match t.2.2 with | none => none | some c => addO c (Tot ts)) = some (t.2.2.getD 0 + sumC ts)
      rw [hk, ih]
      rfl
theorem tot_none : ∀ {ts : List Trn} {t : Trn}, t ∈ ts → t.2.2 = none → Tot ts = none
  | u :: ts, t, hm, e => by
    show (match u.2.2 with | none => none | some c => addO c (Tot ts)) = none
    cases hk : u.2.2 with
    | none => rfl
    | some c =>
      rcases List.mem_cons.mp hm with rfl | hm
      · rw [e] at hk; cases hk
      · show addO c (Tot ts) = none
        rw [tot_none hm e]
        rfl
/-- of sorted trains only the last may go on for ever -/
theorem srt_last {ts : List Trn} (h : Srt ts) {t : Trn} (ht : t ∈ ts) (e : t.2.2 = none) : ts.getLast? = some t := by
  induction ts with
  | nil => simp at ht
  | cons u ts ih =>
    cases ts with
    | nil =>
      have : t = u := by simpa using ht
      rw [this]
      rfl
    | cons v ts =>
      rw [List.getLast?_cons_cons]
      rcases List.mem_cons.mp ht with rfl | ht
      · obtain ⟨c, hc, _⟩ := h.lt v (List.mem_cons_self ..)
        rw [e] at hc
        cases hc
      · exact ih h.tail ht
section
variable {P : Program} {w : World} {K : PySem.W.Frag} {mg : Str → Option Value} {base : Heap} {D : Ads}
abbrev N_countsahead : List Str := ["trains", "ahead", "total", "train"]
theorem sc_countsahead : FnScope N_countsahead ["trains"] (defScope st_counts_ahead) := ⟨rfl, rfl, rfl, by decide +kernel, rfl, by decide +kernel, by decide +kernel⟩
theorem ok_countsahead (T : Tx K mg D) : Cal P w K mg base "counts_ahead" 1 D.A ["trains"] spCa := T.dA.cal fun fd F => by
  have nd := sc_countsahead.nd
  refine F.ok sc_countsahead (fun vs H Q E h => ?_) (fun cdv A outer s H vs Q E hr h => ?_)
  · obtain ⟨a, xs, ts, rfl, _⟩ := h
    rfl
  · obtain ⟨a, xs, ts, rfl, ha, hx, ho, hln, k⟩ := h
    refine ⟨_, (pss_cons (ps_set (i := 1) nd rfl (Or.inl rfl) (pe_lst pa_nil))
       (pss_cons (ps_set (i := 2) nd rfl (Or.inl rfl) pe_int)
       (pss_cons (ps_for PassesOwn.never rfl (pi_list (pv 0)) (pg_name (i := 3) nd rfl (Or.inl rfl)) (pss_cons (ps_expr (pe_bm PySem.F.plainAttrs_list PySem.F.slot_list_append PySem.F.type_list_append mt_append (pv 1) (pa_cons (pv 2) pa_nil)))
       (pss_one (ps_set (i := 2) nd rfl (Or.inl rfl) (pe_op op_add (pv 2) (pe_orT (pe_ix (r := rIxT K) ix_tup (pv 3) pe_int (fun _ _ => rfl)) (pe_one pe_int)))))))
       (pss_one (ps_ret (pv 1)))))), ?_⟩
    have hxl := hx.len
    refine ⟨(by show 0 ≤ sizeLine; decide), fun l1 hl1 => ?_⟩
    have s1 : Same H (upd H l1 (.lst [])) := Same.upd hl1
    refine ⟨_, rfl, a, rfl, ⟨_, SqL.of (s1 _ _ ha)⟩, for_list (K := K) (a := a) (xs := xs) (fun i σ H2 => ∃ v3 : Option V, σ = [some (.ref a), some (.ref l1), some (.int (sumC (ts.take i))), v3] ∧ H2 l1 = some (.lst ((ahd 0 (ts.take i)).map V.int)) ∧ Same H H2)
      ⟨none, rfl, upd_same, s1⟩ (fun i σ H2 _ ⟨_, _, _, sH⟩ => SqL.of (sH _ _ ha)) ?_ ?_⟩
    · rintro i x σ H2 hxi ⟨v3, rfl, hc, sH⟩
      obtain ⟨t, ht, b, rfl, hb⟩ := hx.get hxi
      have hi : i < ts.length := (List.getElem?_eq_some_iff.mp ht).1
      have sH2 : Same H (upd H2 l1 (.lst ((ahd 0 (ts.take i)).map V.int ++ [.int (sumC (ts.take i))]))) := fun b o e => by
        rw [upd_ne (ne_of_none e hl1)]
        exact sH _ _ e
      refine ⟨_, rfl, .inl ⟨rfl, _, SqL.of hc⟩, _, rfl, l1, _, _, rfl, rfl, hc, small1 (by rw [List.length_map, ahd_len, List.length_take]; omega), ?_⟩
      refine ⟨_, rfl, _, rfl, b, _, 2, cV t.2.2, rfl, rfl, SqT.of (sH2 _ _ hb), rfl, ?_⟩
      have fin : ∀ d : Int, d = t.2.2.getD 0 → ∃ v3 : Option V, [some (V.ref a), some (.ref l1), some (.int (sumC (ts.take i) + d)), some (.ref b)] = [some (.ref a), some (.ref l1), some (.int (sumC (ts.take (i + 1)))), v3] ∧ (upd H2 l1 (.lst ((ahd 0 (ts.take i)).map V.int ++ [.int (sumC (ts.take i))]))) l1 = some (.lst ((ahd 0 (ts.take (i + 1))).map V.int)) ∧ Same H (upd H2 l1 (.lst ((ahd 0 (ts.take i)).map V.int ++ [.int (sumC (ts.take i))]))) := fun d hd => by
        rw [hd, ← sumC_take ht]
        refine ⟨_, rfl, ?_, sH2⟩
        rw [upd_same, ahd_take ht, List.map_append]
        rfl
      cases hk : t.2.2 with
      | none =>
        refine ⟨false, rfl, ?_⟩
        rw [if_neg Bool.false_ne_true]
        exact ⟨_, _, rfl, rfl, fin 0 (by rw [hk]; rfl)⟩
      | some c =>
        have c1 := ho t (List.mem_of_getElem? ht) |>.2.2 c hk
        refine ⟨true, (by show true = (c != 0); simp; omega), ?_⟩
        rw [if_pos rfl]
        exact ⟨_, _, rfl, rfl, fin c (by rw [hk]; rfl)⟩
    · rintro σ H2 ⟨v3, rfl, hc, sH⟩
      rw [hxl, List.take_length] at hc
      exact ⟨_, rfl, k l1 H2 hc sH hl1⟩
abbrev N_totalcount : List Str := ["trains", "train"]
theorem sc_totalcount : FnScope N_totalcount ["trains"] (defScope st_total_count) := ⟨rfl, rfl, rfl, by decide +kernel, rfl, by decide +kernel, by decide +kernel⟩
theorem ok_totalcount (T : Tx K mg D) : Cal P w K mg base "total_count" 1 D.T ["trains"] spTc := T.dT.cal fun fd F => by
  have nd := sc_totalcount.nd
  have B := T.t2.B
  refine F.ok sc_totalcount (fun vs H Q E h => ?_) (fun cdv A outer s H vs Q E hr h => ?_)
  · obtain ⟨a, xs, ts, rfl, _⟩ := h
    rfl
  · obtain ⟨a, xs, ts, rfl, ha, hx, hs, hln, k⟩ := h
    refine ⟨_, (pss_cons (ps_if (PW.pt (pw_and (pt_truth (pv 0) (fun _ => rfl)) (pw_and1 (pt_cmp (pc_isN (pe_ix (r := rIxT K) ix_tup (pe_ix (r := rIxL K) ix_list (pv 0) (pe_un un_neg pe_int) (fun _ _ => rfl)) pe_int (fun _ _ => rfl))))))) (pss_one (ps_ret pe_non)) pss_nil)
       (pss_one (ps_ret (pe_callB (cr_sum rfl) (by rfl) B.sum (by decide +kernel) (pa_cons (pe_lc (own := [("train", 1)]) (g := gName 1) (tt := tYes) rfl nd (pi_list (pv 0)) (blkOk_by (own := [("train", 1)]) (N := N_totalcount) (sc := defScope st_total_count) (by decide +kernel)) (fun _ _ _ _ _ => pg_name (i := 1) nd rfl (Or.inl rfl)) (fun _ _ _ _ _ => pts_nil) (fun _ _ _ _ _ => (pe_ix (r := rIxT K) ix_tup (pv 1) pe_int (fun _ _ => rfl)))) pa_nil))))), ?_⟩
    have hxl := hx.len
    have sums : (∀ t ∈ ts, t.2.2 ≠ none) → ∀ Q' : V → Hp → Prop, (∀ H', Same H H' → Q' (.int (sumC ts)) H') → tCB (rSum K) (tCons (tLc (iList K (tVar 0)) (gName 1) tYes (tOp (rIxT K) (tVar 1) (tC (.int 2))) [1]) tNil) [some (.ref a), none] H Q' := fun hf Q' hq => by
      refine ⟨_, rfl, a, rfl, ⟨_, SqL.of ha⟩, fun E1 hE => ?_⟩
      refine lc_list (K := K) (a := a) (xs := xs) (fun j H3 => H3 E1 = some (.lst (((ts.take j).map fun t => t.2.2.getD 0).map V.int)) ∧ Same H H3) ⟨upd_same, Same.upd hE⟩ (fun j H3 _ ⟨_, s⟩ => SqL.of (s _ _ ha)) ?_ ?_
      · rintro j y H3 hy ⟨hD, s3⟩
        obtain ⟨t, ht, b, rfl, hb⟩ := hx.get hy
        have hj : j < ts.length := (List.getElem?_eq_some_iff.mp ht).1
        refine ⟨rfl, tYes_of ⟨_, rfl, b, _, 2, cV t.2.2, rfl, rfl, SqT.of (s3 _ _ hb), rfl, ?_⟩⟩
        refine ⟨_, hD, small1 (by rw [List.length_map, List.length_map, List.length_take]; omega), ?_, fun b o e => ?_⟩
        · rw [upd_same, List.take_add_one, ht, List.map_append, List.map_append]
          cases hk : t.2.2 with
          | none => exact absurd hk (hf t (List.mem_of_getElem? ht))
          | some c =>
            show _ = some (HO.lst (_ ++ [V.int (t.2.2.getD 0)]))
            rw [hk]
            rfl
        · rw [upd_ne (ne_of_none e hE)]
          exact s3 _ _ e
      · rintro H3 ⟨hD, s3⟩
        rw [hxl, List.take_length] at hD
        refine ⟨E1, _, rfl, SqL.of hD, ?_⟩
        have e : ∀ ts : List Trn, (ts.map fun t => t.2.2.getD 0).sum = sumC ts := fun ts => by
          induction ts with
          | nil => rfl
          | cons t ts ih => rw [List.map_cons, List.sum_cons, ih]; rfl
        rw [e]
        exact hq H3 s3
    cases hts : ts with
    | nil =>
      subst hts
      have x0 : xs = [] := by simpa using hxl
      subst x0
      refine ⟨_, rfl, false, .inl ⟨[], SqL.of ha, rfl⟩, iteF (iteF ?_)⟩
      exact sums (by simp) _ k
    | cons t0 r0 =>
      obtain ⟨ini, la, hil⟩ : ∃ ini la, ts = ini ++ [la] := ⟨ts.dropLast, ts.getLast (by rw [hts]; simp), (List.dropLast_concat_getLast (by rw [hts]; simp)).symm⟩
      obtain ⟨xi, xl, hxi, hti, htl⟩ : ∃ xi xl, xs = xi ++ [xl] ∧ Trs H xi ini ∧ TrAt H xl la := by
        have h1 := hx.take (xs.length - 1)
        have h2 := hx.drop (xs.length - 1)
        have e1 : ini.length = xs.length - 1 := by rw [hxl, hil]; simp
        rw [hil, ← e1] at h1 h2
        rw [List.take_left] at h1
        rw [List.drop_left] at h2
        cases h2d : xs.drop ini.length with
        | nil => rw [h2d] at h2; cases h2
        | cons z zs =>
          rw [h2d] at h2
          cases h2 with
          | cons r tl =>
            cases tl
            exact ⟨xs.take ini.length, z, by rw [← h2d, List.take_append_drop], h1, r⟩
      obtain ⟨b, rfl, hb⟩ := htl
      have hne : xs ≠ [] := by rw [hxi]; simp
      rw [← hts] at *
      refine ⟨_, rfl, true, .inl ⟨xs, SqL.of ha, by cases xs with | nil => exact absurd rfl hne | cons _ _ => rfl⟩, iteT ?_⟩
      refine ⟨_, rfl, _, rfl, a, xs, -1, .ref b, rfl, rfl, SqL.of ha, by rw [hxi]; exact atI_last xi _, b, _, 2, cV la.2.2, rfl, rfl, SqT.of hb, rfl, ?_⟩
      have hm : la ∈ ts := by rw [hil]; simp
      cases hk : la.2.2 with
      | none =>
        rw [tot_none hm hk] at k
        exact ⟨_, rfl, iteT (k H (Same.refl H))⟩
      | some c =>
        have hall : ∀ t ∈ ts, t.2.2 ≠ none := fun t ht e => by
          have := srt_last hs ht e
          rw [hil] at this
          have e2 : la = t := by simpa using this
          rw [e2, e] at hk
          cases hk
        rw [tot_sum hall] at k
        exact ⟨_, rfl, iteF (sums hall _ k)⟩
end
/-! ### Trains objects -/
theorem q1 : ¬ (("runs" : Str) = "firsts") := by decide +kernel
theorem q2 : ¬ (("runs" : Str) = "ahead") := by decide +kernel
theorem q3 : ¬ (("runs" : Str) = "total") := by decide +kernel
theorem q4 : ¬ (("firsts" : Str) = "ahead") := by decide +kernel
theorem q5 : ¬ (("firsts" : Str) = "total") := by decide +kernel
theorem q6 : ¬ (("ahead" : Str) = "total") := by decide +kernel
def trF (R F A : Addr) (t : V) : List (Str × V) := putF "total" t (putF "ahead" (.ref A) (putF "firsts" (.ref F) (putF "runs" (.ref R) [])))
theorem trF_r (R F A : Addr) (t : V) : (trF R F A t).lookup ("runs" : Str) = some (.ref R) := by
  unfold trF
  rw [lookup_putF, if_neg q3, lookup_putF, if_neg q2, lookup_putF, if_neg q1, lookup_putF, if_pos rfl]
theorem trF_f (R F A : Addr) (t : V) : (trF R F A t).lookup ("firsts" : Str) = some (.ref F) := by
  unfold trF
  rw [lookup_putF, if_neg q5, lookup_putF, if_neg q4, lookup_putF, if_pos rfl]
theorem trF_a (R F A : Addr) (t : V) : (trF R F A t).lookup ("ahead" : Str) = some (.ref A) := by
  unfold trF
  rw [lookup_putF, if_neg q6, lookup_putF, if_pos rfl]
theorem trF_t (R F A : Addr) (t : V) : (trF R F A t).lookup ("total" : Str) = some t := by
  unfold trF
  rw [lookup_putF, if_pos rfl]
theorem trF_no (R F A : Addr) (t : V) {m : Str} (h1 : ¬ m = "total") (h2 : ¬ m = "ahead") (h3 : ¬ m = "firsts") (h4 : ¬ m = "runs") : (trF R F A t).lookup m = none := by
  unfold trF
  rw [lookup_putF, if_neg h1, lookup_putF, if_neg h2, lookup_putF, if_neg h3, lookup_putF, if_neg h4]
  all_goals rfl
theorem putF_len (f : Str) (v : V) (fs : List (Str × V)) {n : Nat} (h : fs.length ≤ n) : (putF f v fs).length ≤ n + 1 := Nat.le_trans (length_putF f v fs) (Nat.succ_le_succ h)
/-- a Trains stands at p; its lists are no part of H0 -/
structure TO (C : Addr) (H0 H : Hp) (p : Addr) (ts : List Trn) (n : Nat) : Prop where
  ob : ∃ dx R F A xs, H p = some (.ins C dx (trF R F A (cV (Tot ts)))) ∧ H R = some (.lst xs) ∧ Trs H xs ts ∧ H F = some (.lst ((ts.map fun t => t.1).map V.int)) ∧ H A = some (.lst ((ahd 0 ts).map V.int)) ∧ H0 R = none ∧ H0 F = none ∧ H0 A = none
  np : H0 p = none
  srt : Srt ts
  nf : NF ts
  bt : ∀ t ∈ ts, BT n t
  n5 : n ≤ 5000
  ln : ts.length ≤ 1000
/-- what is no part of H0, and what is no list, is kept -/
def KO (H0 H H' : Hp) : Prop := ∀ b o, H b = some o → (H0 b = none ∨ ∀ xs, o ≠ .lst xs) → H' b = some o
theorem KO.same {H0 H H' : Hp} (s : Same H H') : KO H0 H H' := fun b o e _ => s b o e
theorem KO.kp {H0 H H' : Hp} {a : Addr} {xs : List V} (k : Kp a H H') (h0 : H0 a ≠ none) (h : H a = some (.lst xs)) : KO H0 H H' := fun b o e q => k b o (fun z => by
  subst z
  rcases q with q | q
  · exact h0 q
  · rw [h] at e
    exact q xs (Option.some.inj e).symm) e
theorem KO.nl {H0 H H' : Hp} (k : KO H0 H H') : NL H H' := fun b o e q => k b o e (.inr q)
theorem KO.trans {H0 H H1 H2 : Hp} (a : KO H0 H H1) (b : KO H0 H1 H2) : KO H0 H H2 := fun c o e q => b c o (a c o e q) q
theorem KO.base {H0 H1 H H' : Hp} (k : KO H0 H H') (s : Same H0 H1) : KO H1 H H' := fun b o e q => k b o e (by
  rcases q with q | q
  · exact .inl (none_of s q)
  · exact .inr q)
theorem TO.ko {C : Addr} {H0 H H' : Hp} {p : Addr} {ts : List Trn} {n : Nat} (T : TO C H0 H p ts n) (k : KO H0 H H') : TO C H0 H' p ts n := by
  obtain ⟨dx, R, F, A, xs, h1, h2, h3, h4, h5, h6, h7, h8⟩ := T.ob
  exact ⟨⟨dx, R, F, A, xs, k _ _ h1 (.inl T.np), k _ _ h2 (.inl h6), h3.nl k.nl, k _ _ h4 (.inl h7), k _ _ h5 (.inl h8), h6, h7, h8⟩, T.np, T.srt, T.nf, T.bt, T.n5, T.ln⟩
theorem TO.same {C : Addr} {H0 H H' : Hp} {p : Addr} {ts : List Trn} {n : Nat} (T : TO C H0 H p ts n) (s : Same H H') : TO C H0 H' p ts n := T.ko (KO.same s)
theorem TO.base {C : Addr} {H0 H1 H : Hp} {p : Addr} {ts : List Trn} {n : Nat} (T : TO C H1 H p ts n) (s : Same H0 H1) : TO C H0 H p ts n := by
  obtain ⟨dx, R, F, A, xs, h1, h2, h3, h4, h5, h6, h7, h8⟩ := T.ob
  exact ⟨⟨dx, R, F, A, xs, h1, h2, h3, h4, h5, none_of s h6, none_of s h7, none_of s h8⟩, none_of s T.np, T.srt, T.nf, T.bt, T.n5, T.ln⟩
theorem TO.has {C : Addr} {H0 H : Hp} {p : Addr} {ts : List Trn} {n : Nat} (T : TO C H0 H p ts n) : ∃ dx fs, H p = some (.ins C dx fs) := by
  obtain ⟨dx, R, F, A, xs, h1, _⟩ := T.ob
  exact ⟨_, _, h1⟩
theorem firsts_lt {ts : List Trn} (h : Srt ts) : (ts.map fun t => t.1).Pairwise (· < ·) := by
  rw [List.pairwise_map]
  exact h.2.imp_of_mem fun {a b} ha _ l => lt_start (h.1 a ha) l
theorem ahd_ge : ∀ {ts : List Trn}, (∀ t ∈ ts, OkTr t) → ∀ {n : Int} {j : Nat} {v : Int}, (ahd n ts)[j]? = some v → n ≤ v
  | [], _, n, j, v, e => by simp [ahd] at e
  | t :: ts, h, n, 0, v, e => by
    have e : some n = some v := e
    cases e
    exact Int.le_refl _
  | t :: ts, h, n, j + 1, v, e => by
    have e : (ahd (n + t.2.2.getD 0) ts)[j]? = some v := e
    have ih := ahd_ge (fun u hu => h u (List.mem_cons_of_mem _ hu)) e
    have := (h t (List.mem_cons_self ..)).2.2
    cases hk : t.2.2 with
    | none => rw [hk] at ih; have : n + 0 ≤ v := ih; omega
    | some c => rw [hk] at ih; have : n + c ≤ v := ih; have := (h t (List.mem_cons_self ..)).2.2 c hk; omega
theorem ahd_lt : ∀ {ts : List Trn}, Srt ts → ∀ n : Int, (ahd n ts).Pairwise (· < ·)
  | [], _, n => List.Pairwise.nil
  | t :: ts, h, n => by
    refine List.pairwise_cons.mpr ⟨fun v hv => ?_, ahd_lt h.tail _⟩
    obtain ⟨j, hj⟩ := List.getElem?_of_mem hv
    have ge := ahd_ge h.tail.1 hj
    cases ts with
    | nil => simp [ahd] at hv
    | cons u ts =>
      obtain ⟨c, hc, _⟩ := h.lt u (List.mem_cons_self ..)
      have c1 := h.head.2.2 c hc
      have g0 : t.2.2.getD 0 = c := by rw [hc]; rfl
      rw [g0] at ge
      omega
/-- NB by the place -/
theorem nb_at : ∀ {ts : List Trn}, Srt ts → ∀ {n : Int} {k : Nat} {t : Trn} {a x : Int}, ts[k]? = some t → (ahd n ts)[k]? = some a → t.1 < x → (∀ j u, k < j → ts[j]? = some u → x ≤ u.1) → n + NB ts x = a + nbT t x
  | [], _, n, k, t, a, x, e, _, _, _ => by simp at e
  | h :: ts, hs, n, 0, t, a, x, e, ea, l, g => by
    have e : some h = some t := e
    have ea : some n = some a := ea
    cases e
    cases ea
    have z : NB ts x = 0 := NB_zero hs.tail.1 fun u hu => by
      obtain ⟨j, hj⟩ := List.getElem?_of_mem hu
      exact g (j + 1) u (Nat.succ_pos j) hj
    show n + (nbT h x + NB ts x) = _
    omega
  | h :: ts, hs, n, k + 1, t, a, x, e, ea, l, g => by
    have e : ts[k]? = some t := e
    have ea : (ahd (n + h.2.2.getD 0) ts)[k]? = some a := ea
    have ih := nb_at hs.tail e ea l (fun j u hj hu => g (j + 1) u (Nat.succ_lt_succ hj) hu)
    obtain ⟨c, hc, hl⟩ := hs.lt t (List.mem_of_getElem? e)
    have := nbT_all hs.head hc (x := x) (by omega)
    rw [hc] at ih
    have ih : n + c + NB ts x = a + nbT t x := ih
    show n + (nbT h x + NB ts x) = _
    omega
theorem at_at : ∀ {ts : List Trn}, Srt ts → ∀ {n : Int} {k : Nat} {t : Trn} {a i y : Int}, ts[k]? = some t → (ahd n ts)[k]? = some a → a ≤ n + i → (∀ j b, k < j → (ahd n ts)[j]? = some b → n + i < b) → At ts i = some y → y = t.1 + (n + i - a) * t.2.1
  | [], _, n, k, t, a, i, y, e, _, _, _, _ => by simp at e
  | h :: ts, hs, n, 0, t, a, i, y, e, ea, l, g, hy => by
    have e : some h = some t := e
    have ea : some n = some a := ea
    cases e
    cases ea
    have lo : ∀ c, h.2.2 = some c → i < c := fun c hc => by
      by_cases q : i < c
      · exact q
      · rw [At_some_t hc, if_neg q] at hy
        cases ts with
        | nil => cases hy
        | cons u ts =>
          have := g 1 (n + h.2.2.getD 0) (by decide) rfl
          rw [hc] at this
          have : n + i < n + c := this
          omega
    rw [At_lo lo] at hy
    have := Option.some.inj hy
    rw [show n + i - n = i by omega]
    exact this.symm
  | h :: ts, hs, n, k + 1, t, a, i, y, e, ea, l, g, hy => by
    have e : ts[k]? = some t := e
    have ea : (ahd (n + h.2.2.getD 0) ts)[k]? = some a := ea
    obtain ⟨c, hc, hl⟩ := hs.lt t (List.mem_of_getElem? e)
    have ge := ahd_ge hs.tail.1 ea
    have g0 : h.2.2.getD 0 = c := by rw [hc]; rfl
    rw [g0] at ea ge
    rw [At_some_t hc, if_neg (by omega)] at hy
    have ih := at_at hs.tail e ea (i := i - c) (y := y) (by omega) (fun j b hj hb => by
      have := g (j + 1) b (Nat.succ_lt_succ hj) (by show (ahd (n + h.2.2.getD 0) ts)[j]? = some b; rw [g0]; exact hb)
      omega) hy
    rw [show n + i - a = n + c + (i - c) - a by omega]
    exact ih
def memT (ts : List Trn) (x : Int) : Bool := decide (NB ts x < NB ts (x + 1))
def spInit (C : Addr) : Sp := fun vs H Q _ => ∃ p a xs ts n dx, vs = [.ref p, .ref a] ∧ H p = some (.ins C dx []) ∧ H a = some (.lst xs) ∧ Trs H xs ts ∧ Srt ts ∧ (∀ t ∈ ts, BT n t) ∧ n < 5000 ∧ ts.length ≤ 1000 ∧
  ∀ dx R F A zs H', H' p = some (.ins C dx (trF R F A (cV (Tot (nfs ts))))) → H' R = some (.lst zs) → Trs H' zs (nfs ts) → H' F = some (.lst (((nfs ts).map fun t => t.1).map V.int)) → H' A = some (.lst ((ahd 0 (nfs ts)).map V.int)) → H R = none → H F = none → H A = none → Kp p H H' → Q .non H'
def spTl (C : Addr) : Sp := fun vs H Q _ => ∃ p ts n H0, vs = [.ref p] ∧ TO C H0 H p ts n ∧ ∀ l zs H', H l = none → H' = upd H l (.lst zs) → Trs H zs ts → Q (.ref l) H'
def spLen (C : Addr) : Sp := fun vs H Q _ => ∃ p ts n H0, vs = [.ref p] ∧ TO C H0 H p ts n ∧ Q (.int ts.length) H
def spCb : Sp := fun vs H Q _ => ∃ (a : Addr) (ns : List Int) (b : Int), vs = [.ref a, .int b] ∧ H a = some (.lst (ns.map V.int)) ∧ ns.Pairwise (· < ·) ∧ ns.length ≤ 100000 ∧ ∀ k : Nat, k ≤ ns.length → (∀ j v, ns[j]? = some v → (j < k ↔ v < b)) → Q (.int k) H
def spCf (C : Addr) : Sp := fun vs H Q _ => ∃ p ts n H0 x, vs = [.ref p, .int x] ∧ TO C H0 H p ts n ∧ 0 ≤ x ∧ Q (.int (NB ts x)) H
def spGet (C : Addr) : Sp := fun vs H Q _ => ∃ p ts n H0 i y, vs = [.ref p, .int i] ∧ TO C H0 H p ts n ∧ 0 ≤ i ∧ At ts i = some y ∧ i ≤ BB ∧ Q (.int y) H
def spCon (C : Addr) : Sp := fun vs H Q _ => ∃ p ts n H0 x nm, vs = [.ref p, x] ∧ TO C H0 H p ts n ∧ Kd H x nm ∧ Q (.bl (isI x && (decide (0 ≤ toI x) && memT ts (toI x)))) H
section
variable {P : Program} {w : World} {K : PySem.W.Frag} {mg : Str → Option Value} {base : Heap} {D : Ads}
abbrev N_checktrains : List Str := ["trains", "latest", "at", "train"]
theorem sc_checktrains : FnScope N_checktrains ["trains"] (defScope st_check_trains) := ⟨rfl, rfl, rfl, by decide +kernel, rfl, by decide +kernel, by decide +kernel⟩
theorem ok_checktrains (T : Tx K mg D) : Cal P w K mg base "check_trains" 4 D.H ["trains"] spCk := T.dH.cal fun fd F => by
  have G_istrain := ok_istr (P := P) (w := w) (base := base) T.t0 T.t2
  have G_lasttime := ok_last (P := P) (w := w) (base := base) T.t2
  have B := T.t2.B
  obtain ⟨tM, c_MOST_TRAINS⟩ := T.cM
  have nd := sc_checktrains.nd
  refine F.ok sc_checktrains (fun vs H Q E h => ?_) (fun cdv A outer s H vs Q E hr h => ?_)
  · obtain ⟨a, xs, ts, n, rfl, _⟩ := h
    rfl
  · obtain ⟨a, xs, ts, n, rfl, ha, hx, hs, hb, hn, hln, k⟩ := h
    refine ⟨_, (pss_cons (ps_if (PW.pt (pw_or (pt_not (pt_val (pe_callB call_isi (by rfl) B.isinstance (by decide +kernel) (pa_cons (pv 0) (pa_cons (pe_bltn (by rfl) B.list (by decide +kernel : bootBuiltins "list" = some (.type "list")) (v := .ty "list") rfl) pa_nil))))) (pw_or1 (pt_cmpR op_gt (pe_callB call_len_seq (by rfl) B.len PySem.boot_len (pa_cons (pv 0) pa_nil)) (pe_gI c_MOST_TRAINS) (nomark _))))) (pss_one (ps_never)) pss_nil)
       (pss_cons (ps_set (i := 1) nd rfl (Or.inl rfl) (pe_un un_neg pe_int))
       (pss_one (ps_for PassesOwn.never rfl (pi_enum (by rfl) B.enumerate (pa_cons (pv 0) pa_nil)) (pg_tup rfl (pgs_cons (pg_name (i := 2) nd rfl (Or.inl rfl)) (pgs_cons (pg_name (i := 3) nd rfl (Or.inl rfl)) pgs_nil))) (pss_cons (ps_if (PW.pt (pw_or (pt_cmp (pc_isN (pv 1))) (pw_or (pt_not (pt_val (pe_c G_istrain (hr.mono (by decide)) rfl (pa_cons (pv 3) pa_nil)))) (pw_or1 (pt_cmpR op_le (pe_ix (r := rIxT K) ix_tup (pv 3) pe_int (fun _ _ => rfl)) (pv 1) (nomark _)))))) (pss_one (ps_never)) pss_nil)
       (pss_one (ps_set (i := 1) nd rfl (Or.inl rfl) (pe_c G_lasttime (hr.mono (by decide)) rfl (pa_cons (pv 3) pa_nil))))))))), ?_⟩
    have hxl := hx.len
    refine ⟨_, rfl, _, .ty "list", _, _, _, rfl, .ty "list", (Kd.lst ha).ty, (Kd.lst ha).kit "list" _ (.inr ⟨by decide, by decide, rfl⟩), _, rfl, iteF ?_⟩
    refine ⟨_, rfl, a, _, rfl, .inl (SqL.of ha), _, _, rfl, rfl, _, rfl, ?_⟩
    rw [decide_eq_false (show ¬ ((1000 : Int) < (xs.length : Nat)) by omega)]
    refine iteF ⟨_, rfl, ?_⟩
    refine ⟨_, rfl, a, xs, rfl, SqL.of ha, for_enum (K := K) (a := a) (xs := xs) (fun i σ H2 => ∃ la v2 v3 : Option V, σ = [some (.ref a), la, v2, v3] ∧ Same H H2 ∧ (i = 0 ∧ la = some (.int (-1)) ∨ ∃ j t, i = j + 1 ∧ ts[j]? = some t ∧ la = some (lastV t)))
      ⟨_, none, none, rfl, Same.refl H, .inl ⟨rfl, rfl⟩⟩ (fun i σ H2 _ ⟨_, _, _, _, s2, _⟩ => SqL.of (s2 _ _ ha)) ?_ ?_⟩
    · rintro i x T' σ H2 hxi ⟨la, v2, v3, rfl, s2, hla⟩ hT
      obtain ⟨t, ht, hbr⟩ := hx.get hxi
      have htm := List.mem_of_getElem? ht
      have s3 : Same H (upd H2 T' (.tup [.int (i : Nat), x])) := s2.trans (Same.upd hT)
      have hbr3 := hbr.same s3
      obtain ⟨b, rfl, hb3⟩ := hbr3
      obtain ⟨l0, e0, hl0⟩ : ∃ l0 : Int, la = some (.int l0) ∧ l0 < t.1 := by
        rcases hla with ⟨_, e⟩ | ⟨j, u, rfl, hu, e⟩
        · exact ⟨-1, e, by have := (hs.1 t htm).1; omega⟩
        · have l : Lt u t := by
            have hj := (List.getElem?_eq_some_iff.mp hu)
            have hi := (List.getElem?_eq_some_iff.mp ht)
            obtain ⟨h1, rfl⟩ := hj
            obtain ⟨h2, rfl⟩ := hi
            exact (List.pairwise_iff_getElem.mp hs.2) j (j + 1) h1 h2 (Nat.lt_succ_self j)
          obtain ⟨c, hc, q⟩ := l
          refine ⟨u.1 + (c - 1) * u.2.1, ?_, q⟩
          rw [e]
          unfold lastV
          rw [hc]
      subst e0
      refine ⟨T', _, rfl, SqT.of upd_same, rfl, _, _, rfl, _, _, rfl, rfl, ?_⟩
      refine ⟨_, rfl, _, rfl, iteF ⟨_, rfl, .ref b, t, rfl, ⟨b, rfl, hb3⟩, hs.1 t htm, _, rfl, iteF ⟨_, rfl, b, _, 0, .int t.1, rfl, rfl, SqT.of hb3, rfl, _, rfl, _, _, rfl, rfl, _, rfl, ?_⟩⟩⟩
      rw [decide_eq_false (by omega)]
      refine iteF ⟨_, rfl, .ref b, t, rfl, ⟨b, rfl, hb3⟩, hs.1 t htm, (hb t htm).le (by omega), ?_⟩
      exact ⟨_, _, _, rfl, s3, .inr ⟨i, t, rfl, ht, rfl⟩⟩
    · rintro σ H2 ⟨_, _, _, rfl, s2, _⟩
      exact k H2 s2
abbrev N_Trainsinit : List Str := ["self", "trains", "run"]
theorem sc_Trainsinit : FnScope N_Trainsinit ["self", "trains"] (defScope st_Trains_init) := ⟨rfl, rfl, rfl, by decide +kernel, rfl, by decide +kernel, by decide +kernel⟩
theorem ok_init (T : Tx K mg D) {fd : FuncData} (F : Fun K "__init__" "Trains.__init__" st_Trains_init D.N fd) : FnOk P w K mg base CX0 5 D.N fd ["self", "trains"] (spInit D.C) := by
  have G_checktrains := ok_checktrains (P := P) (w := w) (base := base) T
  have G_normalform := ok_normalform (P := P) (w := w) (base := base) T
  have G_countsahead := ok_countsahead (P := P) (w := w) (base := base) T
  have G_totalcount := ok_totalcount (P := P) (w := w) (base := base) T
  have nd := sc_Trainsinit.nd
  refine F.ok sc_Trainsinit (fun vs H Q E h => ?_) (fun cdv A outer s H vs Q E hr h => ?_)
  · obtain ⟨p, a, xs, ts, n, dx, rfl, _⟩ := h
    rfl
  · obtain ⟨p, a, xs, ts, n, dx, rfl, hp, ha, hx, hs, hb, hn, hln, k⟩ := h
    refine ⟨_, (pss_cons (ps_expr (pe_c G_checktrains (hr.mono (by decide)) rfl (pa_cons (pv 1) pa_nil)))
       (pss_cons (ps_fld (pv 0) (pe_c G_normalform (hr.mono (by decide)) rfl (pa_cons (pv 1) pa_nil)) rfl)
       (pss_cons (ps_fld (pv 0) (pe_lc (own := [("run", 2)]) (g := gName 2) (tt := tYes) rfl nd (pi_list (pe_fld (pv 0) rfl)) (blkOk_by (own := [("run", 2)]) (N := N_Trainsinit) (sc := defScope st_Trains_init) (by decide +kernel)) (fun _ _ _ _ _ => pg_name (i := 2) nd rfl (Or.inl rfl)) (fun _ _ _ _ _ => pts_nil) (fun _ _ _ _ _ => (pe_ix (r := rIxT K) ix_tup (pv 2) pe_int (fun _ _ => rfl)))) rfl)
       (pss_cons (ps_fld (pv 0) (pe_c G_countsahead (hr.mono (by decide)) rfl (pa_cons (pe_fld (pv 0) rfl) pa_nil)) rfl)
       (pss_one (ps_fld (pv 0) (pe_c G_totalcount (hr.mono (by decide)) rfl (pa_cons (pe_fld (pv 0) rfl) pa_nil)) rfl)))))), ?_⟩
    refine ⟨_, rfl, a, xs, ts, n, rfl, ha, hx, hs, hb, hn, hln, fun H1 s1 => ?_⟩
    refine ⟨_, rfl, a, xs, ts, n, rfl, s1 _ _ ha, hx.same s1, hs, hb, hn, by omega, fun R zs H2 hR tz s2 nR => ?_⟩
    have ss := nfs_srt hs
    have sl := nfs_len hs
    have hp2 := s2 _ _ (s1 _ _ hp)
    have nR0 : H R = none := none_of s1 nR
    have pR : p ≠ R := ne_of_none hp nR0
    refine ⟨_, rfl, p, D.C, dx, [], rfl, hp2, T.cl, T.nR, (by show 0 < 1000; decide), ?_⟩
    have hok := ss.1
    have Tz : ∀ {H' : Hp}, Kp p H2 H' → Trs H' zs (nfs ts) := fun kk => L2.Paired.mapP tz fun x t ⟨b, e, h⟩ => ⟨b, e, kk _ _ (ne_of h hp2 (by intro z; cases z)) h⟩
    -- firsts
    have k3 : Kp p H2 (upd H2 p (.ins D.C dx (putF "runs" (.ref R) []))) := Kp.upd
    generalize hH3 : upd H2 p (.ins D.C dx (putF "runs" (.ref R) [])) = H3 at k3
    have hp3 : H3 p = some (.ins D.C dx (putF "runs" (.ref R) [])) := by rw [← hH3, upd_same]
    have hR3 := k3 _ _ pR.symm hR
    refine ⟨_, rfl, p, D.C, dx, _, _, rfl, hp3, T.cl, T.nR, (by rw [lookup_putF, if_pos rfl]), R, rfl, ⟨_, SqL.of hR3⟩, fun E1 hE => ?_⟩
    have tz3 := Tz k3
    have zl := tz3.len
    refine lc_list (K := K) (a := R) (xs := zs) (fun j H4 => H4 E1 = some (.lst ((((nfs ts).take j).map fun t => t.1).map V.int)) ∧ Same H3 H4) ⟨upd_same, Same.upd hE⟩ (fun j H4 _ ⟨_, s⟩ => SqL.of (s _ _ hR3)) ?_ ?_
    · rintro j y H4 hy ⟨hD, s4⟩
      obtain ⟨t, ht, b, rfl, hb⟩ := tz3.get hy
      have hj := (List.getElem?_eq_some_iff.mp ht).1
      refine ⟨rfl, tYes_of ⟨_, rfl, b, _, 0, .int t.1, rfl, rfl, SqT.of (s4 _ _ hb), rfl, ?_⟩⟩
      refine ⟨_, hD, small1 (by rw [List.length_map, List.length_map, List.length_take]; omega), ?_, fun b o e => ?_⟩
      · rw [upd_same, List.take_add_one, ht, List.map_append, List.map_append]
        rfl
      · rw [upd_ne (ne_of_none e hE)]
        exact s4 _ _ e
    rintro H4 ⟨hE4, s4⟩
    rw [zl, List.take_length] at hE4
    have nE0 : H E1 = none := by
      have h1 := none_of s1 (none_of s2 (show H2 E1 = none from by
        cases q : H2 E1 with
        | none => rfl
        | some o =>
          by_cases e : E1 = p
          · subst e; rw [hp3] at hE; cases hE
          · rw [k3 _ _ e q] at hE; cases hE))
      exact h1
    have pE : p ≠ E1 := ne_of_none hp nE0
    have hp4 := s4 _ _ hp3
    refine ⟨_, rfl, p, D.C, dx, _, rfl, hp4, T.cl, T.nF, Nat.lt_of_le_of_lt (putF_len _ _ [] (Nat.le_refl 0)) (by decide), ?_⟩
    -- ahead
    have k5 : Kp p H2 (upd H4 p (.ins D.C dx (putF "firsts" (.ref E1) (putF "runs" (.ref R) [])))) := (k3.trans (Kp.of s4)).trans Kp.upd
    have hE5 : (upd H4 p (.ins D.C dx (putF "firsts" (.ref E1) (putF "runs" (.ref R) [])))) E1 = some (.lst (((nfs ts).map fun t => t.1).map V.int)) := by rw [upd_ne pE.symm]; exact hE4
    generalize hH5 : upd H4 p (.ins D.C dx (putF "firsts" (.ref E1) (putF "runs" (.ref R) []))) = H5 at k5 hE5
    have hp5 : H5 p = some (.ins D.C dx (putF "firsts" (.ref E1) (putF "runs" (.ref R) []))) := by rw [← hH5, upd_same]
    refine ⟨_, rfl, p, D.C, dx, _, _, rfl, hp5, T.cl, T.nR, (by rw [lookup_putF, if_neg q1, lookup_putF, if_pos rfl]), R, zs, nfs ts, rfl, k5 _ _ pR.symm hR, Tz k5, hok, by omega, fun A H6 hA s6 nA => ?_⟩
    have hp6 := s6 _ _ hp5
    have nA0 : H A = none := by
      cases q : H A with
      | none => rfl
      | some o =>
        by_cases e : A = p
        · subst e; rw [hp5] at nA; cases nA
        · rw [k5 _ _ e (s2 _ _ (s1 _ _ q))] at nA; cases nA
    have pA : p ≠ A := ne_of_none hp nA0
    refine ⟨_, rfl, p, D.C, dx, _, rfl, hp6, T.cl, T.nA, Nat.lt_of_le_of_lt (putF_len _ _ _ (putF_len _ _ [] (Nat.le_refl 0))) (by decide), ?_⟩
    -- total
    have k7 : Kp p H5 (upd H6 p (.ins D.C dx (putF "ahead" (.ref A) (putF "firsts" (.ref E1) (putF "runs" (.ref R) []))))) := (Kp.of s6).trans Kp.upd
    have hA7 : (upd H6 p (.ins D.C dx (putF "ahead" (.ref A) (putF "firsts" (.ref E1) (putF "runs" (.ref R) []))))) A = some (.lst ((ahd 0 (nfs ts)).map V.int)) := by rw [upd_ne pA.symm]; exact hA
    generalize hH7 : upd H6 p (.ins D.C dx (putF "ahead" (.ref A) (putF "firsts" (.ref E1) (putF "runs" (.ref R) [])))) = H7 at k7 hA7
    have hp7 : H7 p = some (.ins D.C dx (putF "ahead" (.ref A) (putF "firsts" (.ref E1) (putF "runs" (.ref R) [])))) := by rw [← hH7, upd_same]
    have k27 := k5.trans k7
    refine ⟨_, rfl, p, D.C, dx, _, _, rfl, hp7, T.cl, T.nR, (by rw [lookup_putF, if_neg q2, lookup_putF, if_neg q1, lookup_putF, if_pos rfl]), R, zs, nfs ts, rfl, k27 _ _ pR.symm hR, Tz k27, ss, by omega, fun H8 s8 => ?_⟩
    refine ⟨_, rfl, p, D.C, dx, _, rfl, s8 _ _ hp7, T.cl, T.nT, Nat.lt_of_le_of_lt (putF_len _ _ _ (putF_len _ _ _ (putF_len _ _ [] (Nat.le_refl 0)))) (by decide), ?_⟩
    have k9 : Kp p H2 (upd H8 p (.ins D.C dx (trF R E1 A (cV (Tot (nfs ts)))))) := (k27.trans (Kp.of s8)).trans Kp.upd
    refine k dx R E1 A zs _ upd_same (k9 _ _ pR.symm hR) (Tz k9) ?_ ?_ nR0 nE0 nA0 ((Kp.of (s1.trans s2)).trans k9)
    · rw [upd_ne pE.symm]
      exact s8 _ _ (k7 _ _ pE.symm hE5)
    · rw [upd_ne pA.symm]
      exact s8 _ _ hA7
end
/-! ### making and asking Trains -/
section
variable {X : Cx} {C : Addr} {k : Nat} {f : Addr} {ps : List Str} {sp : Sp}
theorem Met.op_in (c : Met X.prog X.w X.K X.mg X.base C "__contains__" k f ps sp) (hr : Room k X.A) : OpR X (compareOp .In) (rOwnIn C sp E0 _root_.id) := by
  obtain ⟨fd, F, b⟩ := c.ex
  exact op_own_in F hr c.me.at_ c.me.fn b pass0
theorem Met.op_notin (c : Met X.prog X.w X.K X.mg X.base C "__contains__" k f ps sp) (hr : Room k X.A) : OpR X (compareOp .NotIn) (rOwnIn C sp E0 Bool.not) := by
  obtain ⟨fd, F, b⟩ := c.ex
  exact op_own_notin F hr c.me.at_ c.me.fn b pass0
theorem Met.c_len (c : Met X.prog X.w X.K X.mg X.base C "__len__" k f ps sp) (hr : Room (k + 1) X.A) : CallR X (.builtin "len") (rOwnLen C sp E0) := by
  obtain ⟨fd, F, b⟩ := c.ex
  exact call_own_len F hr c.me.at_ c.me.fn b pass0
theorem Met.op_add (c : Met X.prog X.w X.K X.mg X.base C "__add__" k f ps sp) (hr : Room k X.A) (hc : PySem.W.selfFirst X.K C = true) : OpR X (binaryOp .Add) (rOwnAdd C sp E0) := by
  obtain ⟨fd, F, b⟩ := c.ex
  exact op_own_add F hr hc c.me.at_ c.me.fn b pass0
theorem Met.op_eq (c : Met X.prog X.w X.K X.mg X.base C "__eq__" k f ps sp) (hr : Room k X.A) : OpR X (compareOp .Eq) (rOwnEq C sp E0 _root_.id) := by
  obtain ⟨fd, F, b⟩ := c.ex
  exact op_own_eq F hr c.me.at_ c.me.fn b pass0
theorem Met.op_ne (c : Met X.prog X.w X.K X.mg X.base C "__eq__" k f ps sp) (hr : Room (k + 1) X.A) (hm : PySem.W.mroIn X.K C (.type "object") = some true) (hne : PySem.W.findIn X.K (.ref C) "__ne__" = some (some (.builtin "object.__ne__"))) : OpR X (compareOp .NotEq) (rOwnEq C sp E0 Bool.not) := by
  obtain ⟨fd, F, b⟩ := c.ex
  exact op_own_ne F hr hm hne c.me.at_ c.me.fn b pass0
theorem Met.p_ix {a b : Expr} {ta tb : TE} {pos : Pos} (c : Met X.prog X.w X.K X.mg X.base C "__getitem__" k f ps sp) (hr : Room (k + 1) X.A) (ha : PE X a ta) (hb' : PE X b tb) (hsl : ∀ o i, subscripted b true o i = runValue (.builtin "lifetime.subscript" ⟨[o, i], []⟩) := by exact fun _ _ => rfl) :
    PE X (.Subscript a b pos) (tOp (rOwnIx C sp E0) ta tb) := by
  obtain ⟨fd, F, bb⟩ := c.ex
  exact pe_own_ix F hr c.me.at_ c.fk c.me.fn bb pass0 ha hb' hsl
end
theorem Met.p_m0 {X : Cx} {C : Addr} {k : Nat} {f : Addr} {ps : List Str} {sp : Sp} {m : Str} {o : Expr} {ta : TE} {apos pos : Pos} {pl : Sem Bool} (c : Met X.prog X.w X.K X.mg X.base C m k f ps sp) (cl : Cls X.K C) (hr : Room k X.A) (he : PE X o ta)
    (ht : eval (.Call (.Attribute o m apos) [] [] pos) X.env = (do
      let ov ← eval o X.env
      standAt apos.atName
      let (f, first) ← holding [ov] (getMethod ov m pl)
      callWith pos f first (backTo pos (starEach [] X.env)) (backToKw pos (keywordEach [] X.env))) := by rfl) :
    PE X (.Call (.Attribute o m apos) [] [] pos) (tMeth C m sp [] E0 ta tNil) := by
  obtain ⟨fd, F, b⟩ := c.ex
  exact pe_meth0 he cl c.me F hr b .nil pass0 ht
structure MkT (K : PySem.W.Frag) (mg : Str → Option Value) (D : Ads) : Prop where
  mkk : Mk K D.C D.N
  g : mg "Trains" = some (.ref D.C)
  cls : PySem.W.isClsIn K D.C = true
  ty : PySem.W.typeIn K (.ref D.C) = some (.type "type")
  oc : PySem.W.findIn K (.ref D.C) "__class__" = some (some (.builtin "object.__class__"))
  og : PySem.W.specialIn K (.builtin "object.__class__") "__get__" = some (some (.builtin "getset_descriptor.__get__"))
  ot : PySem.W.takesIn K (.builtin "object.__class__") = some true
  om : PySem.W.mroIn K D.C (.type "object") = some true
  ne : PySem.W.findIn K (.ref D.C) "__ne__" = some (some (.builtin "object.__ne__"))
  sf : PySem.W.selfFirst K D.C = true
theorem MkT.kitT {K : PySem.W.Frag} {mg : Str → Option Value} {D : Ads} (M : MkT K mg D) {H : Hp} {v : V} {n : String} (h : Kd H v n) : PySem.W.kitOne K (.type n) (.ref D.C) = some false := by
  have e1 : ((PySem.W.clsIn K D.C).isSome && PySem.W.typeIn K (.ref D.C) == some (.type "type")) = true := by
    have h2 : (PySem.W.clsIn K D.C).isSome = true := M.cls
    rw [h2, M.ty] <;> rfl
  have e2 : PySem.W.subIn K (.type n) (.ref D.C) = some false := by
    cases h with
    | non => exact sub_ty (l := ["NoneType", "object"]) (by decide +kernel)
    | bl _ => exact sub_ty (l := ["bool", "int", "object"]) (by decide +kernel)
    | int _ => exact sub_ty (l := ["int", "object"]) (by decide +kernel)
    | str _ => exact sub_ty (l := ["str", "object"]) (by decide +kernel)
    | lst _ => exact sub_ty (l := ["list", "object"]) (by decide +kernel)
    | tup _ => exact sub_ty (l := ["tuple", "object"]) (by decide +kernel)
    | dK _ => exact sub_ty (l := ["dict", "object"]) (by decide +kernel)
  show (if (Value.type n == Value.ref D.C) = true then some true else PySem.W.kitCls K (.type n) (.ref D.C)) = some false
  rw [if_neg (by intro z; cases z)]
  show (if ((PySem.W.clsIn K D.C).isSome && PySem.W.typeIn K (.ref D.C) == some (.type "type")) = true then PySem.W.subIn K (.type n) (.ref D.C) else none) = some false
  rw [if_pos e1, e2]
theorem MkT.tyR {K : PySem.W.Frag} {mg : Str → Option Value} {D : Ads} (M : MkT K mg D) (cl : Cls K D.C) {H : Hp} {p dx : Addr} {fs : List (Str × V)} (h : H p = some (.ins D.C dx fs)) : TyX K H (.ref p) (.ref D.C) := .base (.ins h cl M.oc M.og M.ot M.om)
theorem trains_made {C : Addr} {H : Hp} {Q : Addr → Hp → Prop} {a : Addr} {xs : List V} {ts : List Trn} {n : Nat} (ha : H a = some (.lst xs)) (hx : Trs H xs ts) (hs : Srt ts) (hb : ∀ t ∈ ts, BT n t) (hn : n < 5000) (hl : ts.length ≤ 1000)
    (k : ∀ p H', TO C H H' p (nfs ts) (n + 1) → Same H H' → Q p H') :
    ∀ x dx, H x = none → H dx = none → dx ≠ x → spInit C [.ref x, .ref a] (upd (upd H dx (.own x)) x (.ins C dx [])) (fun v H3 => v = .non ∧ Q x H3) E0 := by
  intro x dx hx0 hd hne
  have s0 : Same H (upd (upd H dx (.own x)) x (.ins C dx [])) := fun b o e => by
    rw [upd_ne (ne_of_none e hx0), upd_ne (ne_of_none e hd)]
    exact e
  refine ⟨x, a, xs, ts, n, dx, rfl, upd_same, s0 _ _ ha, hx.same s0, hs, hb, hn, hl, fun dx R F A zs H' h1 h2 h3 h4 h5 n1 n2 n3 kp => ⟨rfl, k x H' ?_ fun b o e => kp b o (ne_of_none e hx0) (s0 b o e)⟩⟩
  exact ⟨⟨dx, R, F, A, zs, h1, h2, h3, h4, h5, none_of s0 n1, none_of s0 n2, none_of s0 n3⟩, hx0, nfs_srt hs, nfs_nf hs, nfs_bt hs hb, by omega, Nat.le_trans (nfs_len hs) hl⟩
/-! trains as data -/
def cD : Option Int → PyData
  | none => .none
  | some c => .int c
def trnD (t : Trn) : PyData := .tuple [.int t.1, .int t.2.1, cD t.2.2]
theorem cD_dp (K : PySem.W.Frag) (H : Hp) (k : Option Int) : Dp K H (cV k) (cD k) := by
  cases k with
  | none => exact .non
  | some c => exact .int c
theorem TrAt.dp {K : PySem.W.Frag} {H : Hp} {x : V} {t : Trn} (h : TrAt H x t) : Dp K H x (trnD t) := by
  obtain ⟨a, e, h⟩ := h
  subst e
  exact .tup (SqT.of h) (.cons (.int _) (.cons (.int _) (.cons (cD_dp _ _ _) .nil)))
theorem Trs.dp {K : PySem.W.Frag} {H : Hp} : ∀ {xs : List V} {ts : List Trn}, Trs H xs ts → DpAll K H xs (ts.map trnD)
  | _, _, .nil => .nil
  | _, _, .cons r t => .cons r.dp (Trs.dp t)
theorem cD_eq (a b : Option Int) : PyData.eqv (cD a) (cD b) = decide (a = b) := by
  cases a <;> cases b <;> simp only [cD, PyData.eqv] <;> exact Bool.eq_iff_iff.mpr (by simp)
theorem trnD_eq (t u : Trn) : PyData.eqv (trnD t) (trnD u) = decide (t = u) := by
  obtain ⟨a, b, c⟩ := t
  obtain ⟨a', b', c'⟩ := u
  simp only [trnD, PyData.eqv, PyData.eqvAll, Bool.and_true, cD_eq]
  rw [Bool.eq_iff_iff]
  simp [Prod.ext_iff]
theorem trnDs_eq : ∀ ts us : List Trn, PyData.eqvAll (ts.map trnD) (us.map trnD) = decide (ts = us)
  | [], [] => by simp [PyData.eqvAll]
  | [], _ :: _ => by simp [PyData.eqvAll]
  | _ :: _, [] => by simp [PyData.eqvAll]
  | t :: ts, u :: us => by
    rw [List.map_cons, List.map_cons, PyData.eqvAll, trnD_eq, trnDs_eq ts us, Bool.eq_iff_iff]
    simp
theorem canC (k : Option Int) : PyData.canLay0 (cD k) = true := by cases k <;> simp [cD, PyData.canLay0]
theorem depC (k : Option Int) : (cD k).depth ≤ 1 := by cases k <;> simp [cD, PyData.depth]
theorem canTr (t : Trn) : PyData.canLay0 (trnD t) = true := by simp [trnD, PyData.canLay0, PyData.canLayAll0, canC]
theorem depTr (t : Trn) : (trnD t).depth ≤ 10 := by
  have := depC t.2.2
  simp [trnD, PyData.depth, PyData.depthAll]
  omega
theorem canTrs : ∀ ts : List Trn, PyData.canLayAll0 (ts.map trnD) = true
  | [] => by simp [PyData.canLayAll0]
  | t :: ts => by rw [List.map_cons, PyData.canLayAll0, canTrs ts, canTr]; rfl
theorem depTrs : ∀ ts : List Trn, PyData.depthAll (ts.map trnD) ≤ 10
  | [] => by simp [PyData.depthAll]
  | t :: ts => by
    have := depTrs ts
    have := depTr t
    rw [List.map_cons, PyData.depthAll]
    omega
theorem shTr (t : Trn) : SeqAt.shaped (trnD t) = true := by
  refine Bool.and_eq_true_iff.mpr ⟨canTr t, decide_eq_true ?_⟩
  have := depTr t
  omega
theorem shTrs (ts : List Trn) : SeqAt.shaped (.list (ts.map trnD)) = true := by
  refine Bool.and_eq_true_iff.mpr ⟨?_, decide_eq_true ?_⟩
  · rw [PyData.canLay0]
    exact canTrs ts
  · have := depTrs ts
    rw [PyData.depth]
    omega
theorem eqTrs (ts us : List Trn) : PyData.eqv (.list (ts.map trnD)) (.list (us.map trnD)) = decide (ts = us) := by
  rw [PyData.eqv]
  exact trnDs_eq ts us
/-- what == is asked of -/
inductive EqT (C : Addr) (H : Hp) (ts : List Trn) : V → Bool → Prop where
  | row {H1 : Hp} {q : Addr} {us : List Trn} {m : Nat} (R : TO C H1 H q us m) : EqT C H ts (.ref q) (decide (ts = us))
  | non : EqT C H ts .non false
  | int (i : Int) : EqT C H ts (.int i) false
  | str (x : Str) : EqT C H ts (.str x) false
  | lst {a : Addr} {xs : List V} (e : H a = some (.lst xs)) : EqT C H ts (.ref a) false
  | tup {a : Addr} {xs : List V} (e : H a = some (.tup xs)) : EqT C H ts (.ref a) false
theorem EqT.tyN {C : Addr} {H : Hp} {ts : List Trn} {v : V} {b : Bool} (h : EqT C H ts v b) : ∃ t, TyN H C v t := by
  cases h with
  | row R => obtain ⟨dx, fs, e⟩ := R.has; exact ⟨_, .ins e⟩
  | non => exact ⟨_, .non⟩
  | int i => exact ⟨_, .int i⟩
  | str x => exact ⟨_, .str x⟩
  | lst e => exact ⟨_, .lst e⟩
  | tup e => exact ⟨_, .tup e⟩
def spEqT (C : Addr) : Sp := fun vs H Q _ => ∃ p ts n H0 v b, vs = [.ref p, v] ∧ TO C H0 H p ts n ∧ EqT C H ts v b ∧ Q (.bl b) H
section
variable {P : Program} {w : World} {K : PySem.W.Frag} {mg : Str → Option Value} {base : Heap} {D : Ads}
abbrev N_Trainslen : List Str := ["self"]
theorem sc_Trainslen : FnScope N_Trainslen ["self"] (defScope st_Trains_len) := ⟨rfl, rfl, rfl, by decide +kernel, rfl, by decide +kernel, by decide +kernel⟩
theorem ok_len (T : Tx K mg D) : Met P w K mg base D.C "__len__" 1 D.mL ["self"] (spLen D.C) := T.mL.met fun fd F => by
  have B := T.t2.B
  refine F.ok sc_Trainslen (fun vs H Q E h => ?_) (fun cdv A outer s H vs Q E hr h => ?_)
  · obtain ⟨p, ts, n, H0, rfl, _⟩ := h
    rfl
  · obtain ⟨p, ts, n, H0, rfl, R, k⟩ := h
    obtain ⟨dx, RR, FF, AA, xs, hp, h2, h3, h4, h5, _⟩ := R.ob
    refine ⟨_, (pss_one (ps_ret (pe_callB call_len_seq (by rfl) B.len PySem.boot_len (pa_cons (pe_fld (pv 0) rfl) pa_nil)))), ?_⟩
    rw [← h3.len] at k
    exact ⟨_, rfl, p, D.C, dx, _, _, rfl, hp, T.cl, T.nR, trF_r _ _ _ _, RR, xs, rfl, .inl (SqL.of h2), k⟩
abbrev N_Trainseq : List Str := ["self", "other"]
theorem sc_Trainseq : FnScope N_Trainseq ["self", "other"] (defScope st_Trains_eq) := ⟨rfl, rfl, rfl, by decide +kernel, rfl, by decide +kernel, by decide +kernel⟩
theorem ok_eq (T : Tx K mg D) (M : MkT K mg D) : Met P w K mg base D.C "__eq__" 1 D.mE ["self", "other"] (spEqT D.C) := T.mE.met fun fd F => by
  have B := T.t2.B
  have M_Trains := M.g
  refine F.ok sc_Trainseq (fun vs H Q E h => ?_) (fun cdv A outer s H vs Q E hr h => ?_)
  · obtain ⟨p, ts, n, H0, v, b, rfl, _⟩ := h
    rfl
  · obtain ⟨p, ts, n, H0, v, b, rfl, R, h, k⟩ := h
    obtain ⟨dx, RR, FF, AA, xs, hp, h2, h3, h4, h5, _⟩ := R.ob
    refine ⟨_, (pss_one (ps_ret (pe_and (pe_callB call_isi (by rfl) B.isinstance (by decide +kernel) (pa_cons (pv 1) (pa_cons (pe_glob rfl M_Trains rr) pa_nil))) (pe_one (pe_cmpR (op_eqD hr.units) (pe_fld (pv 0) rfl) (pe_fld (pv 1) rfl) (nomark _)))))), ?_⟩
    cases h with
    | non => exact ⟨_, rfl, _, .ref D.C, _, _, _, rfl, .own D.C, Kd.non.ty, M.kitT (H := H) .non, _, rfl, iteF k⟩
    | int i => exact ⟨_, rfl, _, .ref D.C, _, _, _, rfl, .own D.C, (Kd.int i).ty, M.kitT (H := H) (.int i), _, rfl, iteF k⟩
    | str i => exact ⟨_, rfl, _, .ref D.C, _, _, _, rfl, .own D.C, (Kd.str i).ty, M.kitT (H := H) (.str i), _, rfl, iteF k⟩
    | lst e => exact ⟨_, rfl, _, .ref D.C, _, _, _, rfl, .own D.C, (Kd.lst e).ty, M.kitT (.lst e), _, rfl, iteF k⟩
    | tup e => exact ⟨_, rfl, _, .ref D.C, _, _, _, rfl, .own D.C, (Kd.tup e).ty, M.kitT (.tup e), _, rfl, iteF k⟩
    | @row H1 q us m R' =>
      obtain ⟨dy, RR', FF', AA', ys, hq, g2, g3, g4, g5, _⟩ := R'.ob
      refine ⟨_, rfl, _, .ref D.C, _, _, _, rfl, .own D.C, M.tyR T.cl hq, if_pos (beq_self_eq_true _), _, rfl, iteT ?_⟩
      refine ⟨_, rfl, p, D.C, dx, _, _, rfl, hp, T.cl, T.nR, trF_r _ _ _ _, _, rfl, q, D.C, dy, _, _, rfl, hq, T.cl, T.nR, trF_r _ _ _ _, .list (ts.map trnD), .list (us.map trnD), .lst (SqL.of h2) h3.dp, .lst (SqL.of g2) g3.dp, shTrs _, shTrs _, ?_⟩
      rw [eqTrs]
      exact k
abbrev N_countbelow : List Str := ["numbers", "bound", "low", "high", "middle"]
theorem sc_countbelow : FnScope N_countbelow ["numbers", "bound"] (defScope st_count_below) := ⟨rfl, rfl, rfl, by decide +kernel, rfl, by decide +kernel, by decide +kernel⟩
theorem ok_countbelow (T : Tx K mg D) : Cal P w K mg base "count_below" 1 D.M ["numbers", "bound"] spCb := T.dM.cal fun fd F => by
  have B := T.t2.B
  have nd := sc_countbelow.nd
  refine F.ok sc_countbelow (fun vs H Q E h => ?_) (fun cdv A outer s H vs Q E hr h => ?_)
  · obtain ⟨a, ns, b, rfl, _⟩ := h
    rfl
  · obtain ⟨a, ns, b, rfl, ha, hp, hl, k⟩ := h
    refine ⟨_, (pss_cons (ps_set (i := 2) nd rfl (Or.inl rfl) pe_int)
       (pss_cons (ps_set (i := 3) nd rfl (Or.inl rfl) (pe_callB call_len_seq (by rfl) B.len PySem.boot_len (pa_cons (pv 0) pa_nil)))
       (pss_cons (ps_while PassesOwn.never (pt_cmpR op_lt (pv 2) (pv 3) (nomark _)) (pss_cons (ps_set (i := 4) nd rfl (Or.inl rfl) (pe_op op_fdivW (pe_op op_add (pv 2) (pv 3)) pe_int))
       (pss_one (ps_if (pt_cmpR op_lt (pe_ix (r := rIxL K) ix_list (pv 0) (pv 4) (fun _ _ => rfl)) (pv 1) (nomark _)) (pss_one (ps_set (i := 2) nd rfl (Or.inl rfl) (pe_op op_add (pv 4) pe_int))) (pss_one (ps_set (i := 3) nd rfl (Or.inl rfl) (pv 4)))))))
       (pss_one (ps_ret (pv 2)))))), ?_⟩
    refine ⟨_, rfl, a, _, rfl, .inl (SqL.of ha), ?_⟩
    rw [List.length_map]
    refine ⟨fun d σ H2 => ∃ (lo hi : Nat), ∃ v4 : Option V, d = hi - lo ∧ σ = [some (.ref a), some (.int b), some (.int lo), some (.int hi), v4] ∧ H2 = H ∧ lo ≤ hi ∧ hi ≤ ns.length ∧ (∀ j v, ns[j]? = some v → j < lo → v < b) ∧ (∀ j v, ns[j]? = some v → hi ≤ j → b ≤ v),
      ⟨ns.length, 0, ns.length, none, rfl, rfl, rfl, Nat.zero_le _, Nat.le_refl _, fun j v _ z => absurd z (Nat.not_lt_zero j), fun j v e z => absurd (List.getElem?_eq_some_iff.mp e).1 (Nat.not_lt.mpr z)⟩, ?_⟩
    rintro d σ H2 ⟨lo, hi, v4, rfl, rfl, rfl, hlh, hhn, w1, w2⟩
    refine ⟨_, rfl, _, rfl, _, _, rfl, rfl, _, rfl, ?_⟩
    refine ite2 (fun c => ?_) (fun c => ?_)
    · have c' : (lo : Int) < hi := of_decide_eq_true c
      have c2 : lo < hi := by omega
      obtain ⟨mid, hmid⟩ : ∃ mid : Nat, ((lo : Int) + hi) / 2 = mid := ⟨(lo + hi) / 2, by omega⟩
      have m1 : lo ≤ mid := by omega
      have m2 : mid < hi := by omega
      have hmn : mid < ns.length := by omega
      have hgm : (ns.map V.int)[mid]? = some (.int ns[mid]) := by rw [List.getElem?_map, List.getElem?_eq_getElem hmn]; rfl
      have step : ∀ i j (h1 : i < ns.length) (h2 : j < ns.length), i < j → ns[i] < ns[j] := List.pairwise_iff_getElem.mp hp
      refine ⟨fun σ' H' => ∃ (lo' hi' : Nat), ∃ v4 : Option V, hi' - lo' < hi - lo ∧ σ' = [some (.ref a), some (.int b), some (.int lo'), some (.int hi'), v4] ∧ H' = H2 ∧ lo' ≤ hi' ∧ hi' ≤ ns.length ∧ (∀ j v, ns[j]? = some v → j < lo' → v < b) ∧ (∀ j v, ns[j]? = some v → hi' ≤ j → b ≤ v), ?_, ?_⟩
      · rintro σ' H' ⟨lo', hi', v4, h1, h2, h3, h4⟩
        exact ⟨hi' - lo', h1, lo', hi', v4, rfl, h2, h3, h4⟩
      refine ⟨_, rfl, _, rfl, _, _, rfl, rfl, _, _, rfl, rfl, wide_div (b := 10) (by decide : (0 : Int) < 2) (by decide) (by decide) (by decide), ?_⟩
      refine ⟨_, rfl, _, rfl, a, _, ((lo : Int) + hi) / 2, .int ns[mid], rfl, rfl, SqL.of ha, (by rw [hmid]; exact atI_nat hgm), _, rfl, _, _, rfl, rfl, _, rfl, ?_⟩
      refine ite2 (fun z => ?_) (fun z => ?_)
      · have z' : ns[mid] < b := of_decide_eq_true z
        refine ⟨_, rfl, _, _, rfl, rfl, ?_⟩
        refine ⟨mid + 1, hi, some (.int mid), by omega, (by show [_, _, some (V.int (((lo : Int) + hi) / 2 + 1)), _, some (V.int (((lo : Int) + hi) / 2))] = _; rw [hmid]; rfl), rfl, by omega, hhn, fun j v ej lj => ?_, w2⟩
        obtain ⟨hj, rfl⟩ := List.getElem?_eq_some_iff.mp ej
        by_cases q : j = mid
        · subst q; exact z'
        · have := step j mid hj hmn (by omega)
          omega
      · have z' : ¬ ns[mid] < b := fun q => z (decide_eq_true q)
        refine ⟨_, rfl, lo, mid, some (.int mid), by omega, (by show [_, _, _, some (V.int (((lo : Int) + hi) / 2)), some (V.int (((lo : Int) + hi) / 2))] = _; rw [hmid]), rfl, m1, by omega, w1, fun j v ej lj => ?_⟩
        obtain ⟨hj, rfl⟩ := List.getElem?_eq_some_iff.mp ej
        by_cases q : j = mid
        · subst q; omega
        · have := step mid j hmn hj (by omega)
          omega
    · have c' : lo = hi := by
        have : ¬ ((lo : Int) < hi) := fun z => c (decide_eq_true z)
        omega
      subst c'
      exact ⟨_, rfl, k lo hhn fun j v e => ⟨w1 j v e, fun z => by
        by_cases q : j < lo
        · exact q
        · exact absurd (w2 j v e (Nat.not_lt.mp q)) (by omega)⟩⟩
end
section
variable {X : Cx} {D : Ads}
theorem pe_trains (T : Tx X.K X.mg D) (M : MkT X.K X.mg D) (hr : Room 6 X.A) {p pos : Pos} {e : Expr} {t : TA} (hg : Gl X "Trains") (ha : PA X [e] t)
    (he : starEach (e :: []) X.env = (false, eval e X.env) :: starEach [] X.env := by rfl) (hpl : (backTo pos (starEach [] X.env)).any (·.1) = false := by rfl) :
    PE X (.Call (.Name "Trains" p) (e :: []) [] pos) (tMake D.C (spInit D.C) [] E0 t) := by
  obtain ⟨fd, F, b⟩ := T.dN
  exact pe_make M.mkk (ok_init T F) hr hg M.g b .nil pass0 ha (by decide) he hpl
end
/-! ### times asked for -/
/-- the first time from x on -/
def nxT (ts : List Trn) (x : Int) : Option Int := At ts (NB ts x)
section
variable {P : Program} {w : World} {K : PySem.W.Frag} {mg : Str → Option Value} {base : Heap} {D : Ads}
abbrev N_countbefore : List Str := ["trains", "time", "place"]
theorem sc_countbefore : FnScope N_countbefore ["trains", "time"] (defScope st_count_before) := ⟨rfl, rfl, rfl, by decide +kernel, rfl, by decide +kernel, by decide +kernel⟩
theorem ok_countbefore (T : Tx K mg D) : Cal P w K mg base "count_before" 3 D.J ["trains", "time"] (spCf D.C) := T.dJ.cal fun fd F => by
  have G_isatleast := ok_atl (P := P) (w := w) (base := base) T.t0
  have G_countbelow := ok_countbelow (P := P) (w := w) (base := base) T
  have G_timesbefore := ok_tb (P := P) (w := w) (base := base) T.t0 T.t2
  have nd := sc_countbefore.nd
  refine F.ok sc_countbefore (fun vs H Q E h => ?_) (fun cdv A outer s H vs Q E hr h => ?_)
  · obtain ⟨p, ts, n, H0, x, rfl, _⟩ := h
    rfl
  · obtain ⟨p, ts, n, H0, x, rfl, R, x0, k⟩ := h
    obtain ⟨dx, RR, FF, AA, xs, hp, h2, h3, h4, h5, _⟩ := R.ob
    refine ⟨_, (pss_cons (ps_if (pt_not (pt_val (pe_c G_isatleast (hr.mono (by decide)) rfl (pa_cons (pv 1) (pa_cons pe_int pa_nil))))) (pss_one (ps_never)) pss_nil)
       (pss_cons (ps_set (i := 2) nd rfl (Or.inl rfl) (pe_op op_sub (pe_c G_countbelow (hr.mono (by decide)) rfl (pa_cons (pe_fld (pv 0) rfl) (pa_cons (pv 1) pa_nil))) pe_int))
       (pss_cons (ps_if (pt_cmpR op_lt (pv 2) pe_int (nomark _)) (pss_one (ps_ret pe_int)) pss_nil)
       (pss_one (ps_ret (pe_op op_add (pe_ix (r := rIxL K) ix_list (pe_fld (pv 0) rfl) (pv 2) (fun _ _ => rfl)) (pe_c G_timesbefore (hr.mono (by decide)) rfl (pa_cons (pe_ix (r := rIxL K) ix_list (pe_fld (pv 0) rfl) (pv 2) (fun _ _ => rfl)) (pa_cons (pv 1) pa_nil))))))))), ?_⟩
    have hxl := h3.len
    have hln := R.ln
    refine ⟨_, rfl, _, _, _, rfl, .int _, _, rfl, ?_⟩
    show if (!(decide ((0 : Int) ≤ x))) = true then _ else _
    rw [decide_eq_true x0]
    refine iteF ?_
    refine ⟨_, rfl, p, D.C, dx, _, _, rfl, hp, T.cl, T.nF, trF_f _ _ _ _, _, rfl, FF, _, x, rfl, h4, firsts_lt R.srt, by rw [List.length_map]; omega, fun m hm hc => ⟨_, _, rfl, rfl, ?_⟩⟩
    rw [List.length_map] at hm
    refine ⟨_, rfl, _, _, rfl, rfl, _, rfl, ?_⟩
    refine ite2 (fun c => ?_) (fun c => ?_)
    · have c' : (m : Int) - 1 < 0 := of_decide_eq_true c
      have m0 : m = 0 := by omega
      subst m0
      have z : NB ts x = 0 := NB_zero R.srt.1 fun t ht => by
        obtain ⟨j, hj⟩ := List.getElem?_of_mem ht
        have := (hc j t.1 (by rw [List.getElem?_map, hj]; rfl))
        omega
      rw [z] at k
      exact k
    · have c' : ¬ ((m : Int) - 1 < 0) := fun z => c (decide_eq_true z)
      obtain ⟨m', rfl⟩ : ∃ m', m = m' + 1 := ⟨m - 1, by omega⟩
      have hj : m' < ts.length := by omega
      have ht := List.getElem?_eq_getElem hj
      generalize ts[m'] = t at ht
      obtain ⟨v, hv, hb⟩ := h3.get2 ht
      have ha : m' < (ahd 0 ts).length := by rw [ahd_len]; exact hj
      have hA := List.getElem?_eq_getElem ha
      generalize (ahd 0 ts)[m'] = av at hA
      have htm := List.mem_of_getElem? ht
      have e : ((m' + 1 : Nat) : Int) - 1 = (m' : Nat) := by omega
      have hle : t.1 < x := (hc m' t.1 (by rw [List.getElem?_map, ht]; rfl)).mp (by omega)
      have nb := nb_at R.srt (n := 0) ht hA hle (fun j u hju hu => by
        have := hc j u.1 (by rw [List.getElem?_map, hu]; rfl)
        omega)
      rw [Int.zero_add] at nb
      refine ⟨_, rfl, p, D.C, dx, _, _, rfl, hp, T.cl, T.nA, trF_a _ _ _ _, _, rfl, AA, _, ((m' + 1 : Nat) : Int) - 1, .int av, rfl, rfl, SqL.of h5, ?_, _, rfl, p, D.C, dx, _, _, rfl, hp, T.cl, T.nR, trF_r _ _ _ _, _, rfl, RR, xs, ((m' + 1 : Nat) : Int) - 1, v, rfl, rfl, SqL.of h2, ?_, _, rfl, v, t, x, rfl, hb, R.srt.1 t htm, (R.bt t htm).le R.n5, _, _, rfl, rfl, ?_⟩
      · rw [e]
        exact atI_nat (by rw [List.getElem?_map, hA]; rfl)
      · rw [e]
        exact atI_nat hv
      · show Q (V.int (av + nbT t x)) H
        rw [← nb]
        exact k
abbrev N_Trainsgetitem : List Str := ["self", "at", "place"]
theorem sc_Trainsgetitem : FnScope N_Trainsgetitem ["self", "at"] (defScope st_Trains_getitem) := ⟨rfl, rfl, rfl, by decide +kernel, rfl, by decide +kernel, by decide +kernel⟩
theorem ok_get (T : Tx K mg D) : Met P w K mg base D.C "__getitem__" 3 D.mG ["self", "at"] (spGet D.C) := T.mG.met fun fd F => by
  have G_isatleast := ok_atl (P := P) (w := w) (base := base) T.t0
  have G_countbelow := ok_countbelow (P := P) (w := w) (base := base) T
  have nd := sc_Trainsgetitem.nd
  refine F.ok sc_Trainsgetitem (fun vs H Q E h => ?_) (fun cdv A outer s H vs Q E hr h => ?_)
  · obtain ⟨p, ts, n, H0, i, y, rfl, _⟩ := h
    rfl
  · obtain ⟨p, ts, n, H0, i, y, rfl, R, i0, hy, iB, k⟩ := h
    obtain ⟨dx, RR, FF, AA, xs, hp, h2, h3, h4, h5, _⟩ := R.ob
    refine ⟨_, (pss_cons (ps_if (PW.pt (pw_or (pt_not (pt_val (pe_c G_isatleast (hr.mono (by decide)) rfl (pa_cons (pv 1) (pa_cons pe_int pa_nil))))) (pw_or1 (PW.pt (pw_and (pt_cmp (pc_notN (pe_fld (pv 0) rfl))) (pw_and1 (pt_cmpR op_ge (pv 1) (pe_fld (pv 0) rfl) (nomark _)))))))) (pss_one (ps_never)) pss_nil)
       (pss_cons (ps_set (i := 2) nd rfl (Or.inl rfl) (pe_op op_sub (pe_c G_countbelow (hr.mono (by decide)) rfl (pa_cons (pe_fld (pv 0) rfl) (pa_cons (pe_op op_add (pv 1) pe_int) pa_nil))) pe_int))
       (pss_one (ps_ret (pe_op op_add (pe_ix (r := rIxT K) ix_tup (pe_ix (r := rIxL K) ix_list (pe_fld (pv 0) rfl) (pv 2) (fun _ _ => rfl)) pe_int (fun _ _ => rfl)) (pe_op op_mulW (pe_op op_sub (pv 1) (pe_ix (r := rIxL K) ix_list (pe_fld (pv 0) rfl) (pv 2) (fun _ _ => rfl))) (pe_ix (r := rIxT K) ix_tup (pe_ix (r := rIxL K) ix_list (pe_fld (pv 0) rfl) (pv 2) (fun _ _ => rfl)) pe_int (fun _ _ => rfl)))))))), ?_⟩
    have hxl := h3.len
    have hln := R.ln
    refine ⟨_, rfl, _, _, _, rfl, .int _, _, rfl, ?_⟩
    show if (!(decide ((0 : Int) ≤ i))) = true then _ else _
    rw [decide_eq_true i0]
    refine iteF ?_
    have ok := R.srt.1
    have rest : ∀ m : Nat, m ≤ (ahd 0 ts).length → (∀ j v, (ahd 0 ts)[j]? = some v → (j < m ↔ v < i + 1)) → ∃ m' t b av, m = m' + 1 ∧ xs[m']? = some (.ref b) ∧ H b = some (.tup (TrV t)) ∧ (ahd 0 ts)[m']? = some av ∧ t ∈ ts ∧ av ≤ i ∧ 0 ≤ av ∧ y = t.1 + (i - av) * t.2.1 := fun m hm hc => by
      have hne : ts ≠ [] := fun e => by rw [e] at hy; cases hy
      have h0 : 0 < m := by
        cases ts with
        | nil => exact absurd rfl hne
        | cons t r => exact (hc 0 0 rfl).mpr (by omega)
      obtain ⟨m', rfl⟩ : ∃ m', m = m' + 1 := ⟨m - 1, by omega⟩
      have hj : m' < ts.length := by rw [ahd_len] at hm; omega
      have ht := List.getElem?_eq_getElem hj
      generalize ts[m'] = t at ht
      obtain ⟨v, hv, b, rfl, hb⟩ := h3.get2 ht
      have ha : m' < (ahd 0 ts).length := by omega
      have hA := List.getElem?_eq_getElem ha
      generalize (ahd 0 ts)[m'] = av at hA
      have le : av < i + 1 := (hc m' av hA).mp (Nat.lt_succ_self m')
      have q := at_at R.srt (n := 0) ht hA (i := i) (by omega) (fun j b hj hb => by
        have := hc j b hb
        omega) hy
      rw [Int.zero_add] at q
      exact ⟨m', t, b, av, rfl, hv, hb, hA, List.mem_of_getElem? ht, by omega, ahd_ge ok hA, q⟩
    refine ⟨_, rfl, p, D.C, dx, _, _, rfl, hp, T.cl, T.nT, trF_t _ _ _ _, ?_⟩
    cases hT : Tot ts with
    | none =>
      refine ⟨_, rfl, iteF (iteF ?_)⟩
      refine ⟨_, rfl, p, D.C, dx, _, _, rfl, hp, T.cl, T.nA, trF_a _ _ _ _, _, rfl, _, _, rfl, rfl, AA, _, i + 1, rfl, h5, ahd_lt R.srt 0, by rw [ahd_len]; omega, fun m hm hc => ⟨_, _, rfl, rfl, ?_⟩⟩
      obtain ⟨m', t, b, av, rfl, hv, hb, hA, htm, le, a0, q⟩ := rest m hm hc
      have e : ((m' + 1 : Nat) : Int) - 1 = (m' : Nat) := by omega
      have ix1 : atI xs (((m' + 1 : Nat) : Int) - 1) = some (.ref b) := by rw [e]; exact atI_nat hv
      have ix2 : atI ((ahd 0 ts).map V.int) (((m' + 1 : Nat) : Int) - 1) = some (.int av) := by rw [e]; exact atI_nat (by rw [List.getElem?_map, hA]; rfl)
      have p1 := (ok t htm).2.1
      have p2 : t.2.1 ≤ BB := ((R.bt t htm).le R.n5).p
      have b0 := BB0
      rw [q] at k
      exact ⟨_, rfl, p, D.C, dx, _, _, rfl, hp, T.cl, T.nR, trF_r _ _ _ _, _, rfl, RR, xs, _, .ref b, rfl, rfl, SqL.of h2, ix1, b, _, 0, .int t.1, rfl, rfl, SqT.of hb, rfl, _, rfl, _, rfl, p, D.C, dx, _, _, rfl, hp, T.cl, T.nA, trF_a _ _ _ _, _, rfl, AA, _, _, .int av, rfl, rfl, SqL.of h5, ix2, _, _, rfl, rfl, _, rfl, p, D.C, dx, _, _, rfl, hp, T.cl, T.nR, trF_r _ _ _ _, _, rfl, RR, xs, _, .ref b, rfl, rfl, SqL.of h2, ix1, b, _, 1, .int t.2.1, rfl, rfl, SqT.of hb, rfl, _, _, rfl, rfl, mulBB (by omega) (by omega) (by omega) (by omega), _, _, rfl, rfl, k⟩
    | some tn =>
      refine ⟨_, rfl, iteT ⟨_, rfl, _, rfl, p, D.C, dx, _, _, rfl, hp, T.cl, T.nT, trF_t _ _ _ _, ?_⟩⟩
      rw [hT]
      have lt : ¬ tn ≤ i := fun z => by
        have := (At_none ok i0).mpr ⟨tn, hT, z⟩
        rw [hy] at this
        cases this
      refine ⟨_, _, rfl, rfl, _, rfl, ?_⟩
      rw [decide_eq_false lt]
      refine iteF ?_
      refine ⟨_, rfl, p, D.C, dx, _, _, rfl, hp, T.cl, T.nA, trF_a _ _ _ _, _, rfl, _, _, rfl, rfl, AA, _, i + 1, rfl, h5, ahd_lt R.srt 0, by rw [ahd_len]; omega, fun m hm hc => ⟨_, _, rfl, rfl, ?_⟩⟩
      obtain ⟨m', t, b, av, rfl, hv, hb, hA, htm, le, a0, q⟩ := rest m hm hc
      have e : ((m' + 1 : Nat) : Int) - 1 = (m' : Nat) := by omega
      have ix1 : atI xs (((m' + 1 : Nat) : Int) - 1) = some (.ref b) := by rw [e]; exact atI_nat hv
      have ix2 : atI ((ahd 0 ts).map V.int) (((m' + 1 : Nat) : Int) - 1) = some (.int av) := by rw [e]; exact atI_nat (by rw [List.getElem?_map, hA]; rfl)
      have p1 := (ok t htm).2.1
      have p2 : t.2.1 ≤ BB := ((R.bt t htm).le R.n5).p
      have b0 := BB0
      rw [q] at k
      exact ⟨_, rfl, p, D.C, dx, _, _, rfl, hp, T.cl, T.nR, trF_r _ _ _ _, _, rfl, RR, xs, _, .ref b, rfl, rfl, SqL.of h2, ix1, b, _, 0, .int t.1, rfl, rfl, SqT.of hb, rfl, _, rfl, _, rfl, p, D.C, dx, _, _, rfl, hp, T.cl, T.nA, trF_a _ _ _ _, _, rfl, AA, _, _, .int av, rfl, rfl, SqL.of h5, ix2, _, _, rfl, rfl, _, rfl, p, D.C, dx, _, _, rfl, hp, T.cl, T.nR, trF_r _ _ _ _, _, rfl, RR, xs, _, .ref b, rfl, rfl, SqL.of h2, ix1, b, _, 1, .int t.2.1, rfl, rfl, SqT.of hb, rfl, _, _, rfl, rfl, mulBB (by omega) (by omega) (by omega) (by omega), _, _, rfl, rfl, k⟩
abbrev N_Trainscontains : List Str := ["self", "x"]
theorem sc_Trainscontains : FnScope N_Trainscontains ["self", "x"] (defScope st_Trains_contains) := ⟨rfl, rfl, rfl, by decide +kernel, rfl, by decide +kernel, by decide +kernel⟩
theorem ok_con (T : Tx K mg D) : Met P w K mg base D.C "__contains__" 4 D.mC ["self", "x"] (spCon D.C) := T.mC.met fun fd F => by
  have G_isatleast := ok_atl (P := P) (w := w) (base := base) T.t0
  have G_countbefore := ok_countbefore (P := P) (w := w) (base := base) T
  have nd := sc_Trainscontains.nd
  refine F.ok sc_Trainscontains (fun vs H Q E h => ?_) (fun cdv A outer s H vs Q E hr h => ?_)
  · obtain ⟨p, ts, n, H0, x, nm, rfl, _⟩ := h
    rfl
  · obtain ⟨p, ts, n, H0, x, nm, rfl, R, hx, k⟩ := h
    refine ⟨_, (pss_one (ps_ret (pe_and (pe_c G_isatleast (hr.mono (by decide)) rfl (pa_cons (pv 1) (pa_cons pe_int pa_nil))) (pe_one (pe_cmpR op_lt (pe_c G_countbefore (hr.mono (by decide)) rfl (pa_cons (pv 0) (pa_cons (pv 1) pa_nil))) (pe_c G_countbefore (hr.mono (by decide)) rfl (pa_cons (pv 0) (pa_cons (pe_op op_add (pv 1) pe_int) pa_nil))) (nomark _)))))), ?_⟩
    refine ⟨_, rfl, x, nm, _, rfl, hx, _, rfl, ?_⟩
    refine ite2 (fun c => ?_) (fun c => ?_)
    · cases x with
      | int i =>
        have c' : decide ((0 : Int) ≤ i) = true := c
        have i0 : 0 ≤ i := of_decide_eq_true c'
        have k' : Q (.bl (decide ((0 : Int) ≤ i) && memT ts i)) H := k
        rw [c', Bool.true_and] at k'
        exact ⟨_, rfl, _, rfl, p, ts, n, H0, i, rfl, R, i0, _, rfl, _, rfl, _, _, rfl, rfl, p, ts, n, H0, i + 1, rfl, R, by omega, _, _, rfl, rfl, k'⟩
      | _ => exact absurd (show false = true from c) Bool.false_ne_true
    · cases x with
      | int i =>
        have c' : decide ((0 : Int) ≤ i) = false := by
          have c2 : ¬ (decide ((0 : Int) ≤ i) = true) := c
          simpa using c2
        have k' : Q (.bl (decide ((0 : Int) ≤ i) && memT ts i)) H := k
        rw [c', Bool.false_and] at k'
        exact k'
      | _ => exact k
end
/-! ### the law's own draws -/
/-- a source of draws at a: at most n were drawn -/
def Src (H : Hp) (a : Addr) (n : Nat) : Prop := ∃ x y z : Int, H a = some (.lst [.int x, .int y, .int z]) ∧ 0 ≤ x ∧ 0 ≤ y ∧ y < 2147483647 ∧ 0 ≤ z ∧ z ≤ n
theorem Src.mono {H : Hp} {a : Addr} {n m : Nat} (h : Src H a n) (l : n ≤ m) : Src H a m := by
  obtain ⟨x, y, z, e, h1, h2, h3, h4, h5⟩ := h
  exact ⟨x, y, z, e, h1, h2, h3, h4, by omega⟩
theorem Src.same {H H' : Hp} {a : Addr} {n : Nat} (h : Src H a n) (s : Same H H') : Src H' a n := by
  obtain ⟨x, y, z, e, r⟩ := h
  exact ⟨x, y, z, s _ _ e, r⟩
theorem Src.has {H : Hp} {a : Addr} {n : Nat} (h : Src H a n) : ∃ xs, H a = some (.lst xs) := by
  obtain ⟨x, y, z, e, r⟩ := h
  exact ⟨_, e⟩
def spSrcOf : Sp := fun vs H Q _ => ∃ c, vs = [.int c] ∧ ∀ a H', H a = none → Same H H' → Src H' a 0 → Q (.ref a) H'
def spNext : Sp := fun vs H Q _ => ∃ (a : Addr) (m : Int) (n : Nat), vs = [.ref a, .int m] ∧ 0 < m ∧ m.natAbs < 2 ^ 1100 ∧ Src H a n ∧ n ≤ 900000 ∧ ∀ (r : Int) H', 0 ≤ r → r < m → Src H' a (n + 1101) → Kp a H H' → Q (.int r) H'
def spOne : Sp := fun vs H Q _ => ∃ (a l : Addr) (xs : List V) (n : Nat), vs = [.ref a, .ref l] ∧ a ≠ l ∧ H l = some (.lst xs) ∧ 0 < xs.length ∧ xs.length ≤ 100000 ∧ Src H a n ∧ n ≤ 900000 ∧ ∀ v H', v ∈ xs → Src H' a (n + 1101) → Kp a H H' → Q v H'
def spCell (K : PySem.W.Frag) : Sp := fun vs H Q _ => ∃ (a : Addr) (ns : List Int) (k : Int), vs = [.ref a, .int k] ∧ SqL K H a (ns.map V.int) ∧ 0 ≤ k ∧ ∀ z, Q (.int z) H
structure Tx1 (K : PySem.W.Frag) (mg : Str → Option Value) (aO aN aE aC : Addr) : Prop where
  int : mg "int" = none
  len : mg "len" = none
  dO : Dfn K mg "_law_source_of" st__law_source_of aO ["_law_cell"]
  dN : Dfn K mg "_law_draw" st__law_draw aN ["_law_source", "_law_bound"]
  dE : Dfn K mg "_law_choice" st__law_choice aE ["_law_source", "_law_options"]
  dC : Dfn K mg "_law_cell_at" st__law_cell_at aC ["_law_script", "_law_place"]
def primes : List V := [.int 2147483647, .int 2147483629, .int 2147483587, .int 2147483579, .int 2147483563, .int 2147483549, .int 2147483543]
theorem prime_at (i : Int) (h0 : 0 ≤ i) (h7 : i < 7) : ∃ p : Int, atI primes i = some (.int p) ∧ 0 < p ∧ p ≤ 2147483647 := by
  have : i = 0 ∨ i = 1 ∨ i = 2 ∨ i = 3 ∨ i = 4 ∨ i = 5 ∨ i = 6 := by omega
  rcases this with rfl | rfl | rfl | rfl | rfl | rfl | rfl <;> exact ⟨_, rfl, by decide, by decide⟩
theorem atI_of {α : Type} {xs : List α} {i : Int} (h0 : 0 ≤ i) (h1 : i < xs.length) : ∃ v, atI xs i = some v ∧ v ∈ xs := by
  have hj : i.toNat < xs.length := by omega
  refine ⟨xs[i.toNat], ?_, List.getElem_mem _⟩
  have e : ((i.toNat : Nat) : Int) = i := by omega
  have := atI_nat (xs := xs) (j := i.toNat) (v := xs[i.toNat]) (List.getElem?_eq_getElem hj)
  rwa [e] at this
section
variable {P : Program} {w : World} {K : PySem.W.Frag} {mg : Str → Option Value} {base : Heap} {aO aN aE aC : Addr}
theorem sc_srcof : FnScope ["_law_cell"] ["_law_cell"] (defScope st__law_source_of) := ⟨rfl, rfl, rfl, by decide +kernel, rfl, by decide +kernel, by decide +kernel⟩
theorem ok_srcof (T : Tx1 K mg aO aN aE aC) : Cal P w K mg base "_law_source_of" 1 aO ["_law_cell"] spSrcOf := T.dO.cal fun fd F => by
  refine F.ok sc_srcof (fun vs H Q E h => ?_) (fun cdv A outer s H vs Q E hr h => ?_)
  · obtain ⟨c, rfl, _⟩ := h
    rfl
  · obtain ⟨c, rfl, k⟩ := h
    refine ⟨_, pss_one (ps_ret (pe_lst (pa_cons (pe_op op_mul (pv 0) (pe_callTy call_int1 (by rfl) T.int (by decide +kernel) (pa_cons (pe_cmpR op_ge (pv 0) (pe_op op_pow pe_int pe_int) (nomark _)) pa_nil)))
      (pa_cons (pe_op op_mod (pe_callTy call_int1 (by rfl) T.int (by decide +kernel) (pa_cons (pv 0) pa_nil)) pe_int) (pa_cons pe_int pa_nil))))), ?_⟩
    refine ⟨_, rfl, _, rfl, _, _, rfl, rfl, ⟨by decide, by decide, by decide⟩, _, _, rfl, rfl, .inr ⟨_, rfl, _, _, rfl, rfl, ?_, ?_⟩⟩
    · refine .inr ?_
      split <;> decide
    · refine ⟨_, rfl, .inl ⟨_, rfl, _, _, rfl, rfl, (by show (0 : Int) < 2147483647; decide), ?_⟩⟩
      refine ⟨(by show 3 ≤ sizeLine; decide), fun l hl => ?_⟩
      refine k l _ hl (Same.upd hl) ⟨_, _, _, upd_same, ?_, Int.emod_nonneg _ (by decide), Int.emod_lt_of_pos _ (by decide), Int.le_refl _, Int.le_refl _⟩
      by_cases hc : (10 : Int) ^ (18 : Int).toNat ≤ c
      · rw [decide_eq_true hc, if_pos rfl, Int.mul_one]
        exact Int.le_trans (by decide) hc
      · rw [decide_eq_false hc, if_neg Bool.false_ne_true, Int.mul_zero]
        exact Int.le_refl _
theorem sc_draw : FnScope ["_law_source", "_law_bound", "_law_result", "_law_reach", "_law_prime", "_law_mixed"] ["_law_source", "_law_bound"] (defScope st__law_draw) := ⟨rfl, rfl, rfl, by decide +kernel, rfl, by decide +kernel, by decide +kernel⟩
theorem ok_next (T : Tx1 K mg aO aN aE aC) : Cal P w K mg base "_law_draw" 1 aN ["_law_source", "_law_bound"] spNext := T.dN.cal fun fd F => by
  refine F.ok sc_draw (fun vs H Q E h => ?_) (fun cdv A outer s H vs Q E hr h => ?_)
  · obtain ⟨a, m, n, rfl, _⟩ := h
    rfl
  · obtain ⟨a, m, n, rfl, m0, m1, ⟨x, y, z, ha, x0, y0, y1, z0, z1⟩, hn, k⟩ := h
    have nd := sc_draw.nd
    refine ⟨_, pss_cons (ps_if (pt_cmpR op_gt (pe_ix ix_list (pv 0) pe_int (fun _ _ => rfl)) pe_int (nomark _))
        (pss_cons (ps_set (i := 2) nd rfl (Or.inl rfl) (pe_op op_mod (pe_callTy call_int1 (by rfl) T.int (by decide +kernel) (pa_cons (pe_ix ix_list (pv 0) pe_int (fun _ _ => rfl)) pa_nil)) (pv 1)))
        (pss_cons (ps_asg (pe_op op_fdivW (pe_ix ix_list (pv 0) pe_int (fun _ _ => rfl)) (pv 1)) (pg_sub (pv 0) pe_int set_list))
        (pss_one (ps_ret (pv 2))))) pss_nil)
      (pss_cons (ps_asg (pe_tup (pa_cons pe_int (pa_cons pe_int pa_nil))) (pg_tup rfl (pgs_cons (pg_name (i := 2) nd rfl (Or.inl rfl)) (pgs_cons (pg_name (i := 3) nd rfl (Or.inl rfl)) pgs_nil))))
      (pss_cons (ps_while PassesOwn.never (pt_cmpR op_lt (pv 3) (pv 1) (nomark _))
        (pss_cons (ps_asg (pe_op op_add (pe_ix ix_list (pv 0) pe_int (fun _ _ => rfl)) pe_int) (pg_sub (pv 0) pe_int set_list))
        (pss_cons (ps_set (i := 4) nd rfl (Or.inl rfl) (pe_ix ix_list (pe_lst (pa_cons pe_int (pa_cons pe_int (pa_cons pe_int (pa_cons pe_int (pa_cons pe_int (pa_cons pe_int (pa_cons pe_int pa_nil))))))))
            (pe_op op_mod (pe_callTy call_int1 (by rfl) T.int (by decide +kernel) (pa_cons (pe_ix ix_list (pv 0) pe_int (fun _ _ => rfl)) pa_nil)) pe_int) (fun _ _ => rfl)))
        (pss_cons (ps_set (i := 5) nd rfl (Or.inl rfl) (pe_op op_mod (pe_callTy call_int1 (by rfl) T.int (by decide +kernel) (pa_cons
            (pe_op op_pow (pe_op op_add (pe_op op_add (pe_ix ix_list (pv 0) pe_int (fun _ _ => rfl)) (pe_op op_mul pe_int (pe_ix ix_list (pv 0) pe_int (fun _ _ => rfl)))) pe_int) pe_int) pa_nil)) (pv 4)))
        (pss_cons (ps_set (i := 5) nd rfl (Or.inl rfl) (pe_op op_mod (pe_callTy call_int1 (by rfl) T.int (by decide +kernel) (pa_cons
            (pe_op op_mul (pe_op op_add (pv 5) (pe_ix ix_list (pv 0) pe_int (fun _ _ => rfl))) (pe_op op_add (pe_op op_fdiv (pv 5) pe_int) pe_int)) pa_nil)) (pv 4)))
        (pss_one (ps_par (i := 2) (j := 3) (by rfl) nd rfl rfl (by decide) rfl rfl (pa_cons (pe_op op_add (pe_op op_mul (pv 2) pe_int) (pe_op op_fdiv (pv 5) pe_int)) (pa_cons (pe_op op_mul (pv 3) pe_int) pa_nil)) (by rfl))))))))
      (pss_one (ps_ret (pe_op op_mod (pe_callTy call_int1 (by rfl) T.int (by decide +kernel) (pa_cons (pv 2) pa_nil)) (pv 1)))))), ?_⟩
    refine ⟨_, rfl, _, _, _, _, rfl, rfl, SqL.of ha, rfl, _, _, rfl, rfl, _, rfl, ?_⟩
    refine ite2 (fun c => ?_) (fun c => ?_)
    · refine ⟨_, rfl, _, _, _, _, rfl, rfl, SqL.of ha, rfl, .inl ⟨_, rfl, _, rfl, _, _, rfl, rfl, m0, ?_⟩⟩
      refine ⟨_, rfl, _, _, _, _, rfl, rfl, SqL.of ha, rfl, _, rfl, _, _, rfl, rfl, wide_div m0 m1 (by decide) (by decide), ?_⟩
      refine ⟨_, rfl, _, _, _, 0, rfl, rfl, ha, rfl, ?_⟩
      refine ⟨_, rfl, ?_⟩
      refine k _ _ (Int.emod_nonneg _ (by omega)) (Int.emod_lt_of_pos _ m0) ⟨_, _, _, upd_same, Int.ediv_nonneg x0 (by omega), y0, y1, z0, by omega⟩ Kp.upd
    · refine ⟨(by show 2 ≤ sizeLine; decide), fun t1 ht1 => ⟨t1, _, rfl, SqT.of upd_same, rfl, _, _, rfl, _, _, rfl, rfl, ?_⟩⟩
      have s1 : Same H (upd H t1 (.tup [.int 0, .int 1])) := Same.upd ht1
      -- the mixing loop: after q turns the reach is at least 2 ^ q
      refine ⟨fun d σ H2 => ∃ (q : Nat) (v4 v5 : Option V) (res reach : Int), d = 1101 - q ∧ σ = [some (.ref a), some (.int m), some (.int res), some (.int reach), v4, v5] ∧ q ≤ 1101 ∧ ((2 : Int) ^ q ≤ reach ∧ 1 ≤ reach) ∧ H2 a = some (.lst [.int x, .int y, .int (z + q)]) ∧ Kp a H H2,
        ⟨1101, 0, none, none, 0, 1, rfl, rfl, by omega, ⟨by decide, by decide⟩, by rw [s1 _ _ ha]; simp, Kp.of s1⟩, ?_⟩
      rintro d σ H2 ⟨q, v4, v5, res, reach, rfl, rfl, hq, ⟨hre, hr1⟩, ha2, kp2⟩
      refine ⟨_, rfl, _, rfl, _, _, rfl, rfl, _, rfl, ?_⟩
      refine ite2 (fun c2 => ?_) (fun c2 => ?_)
      · have c2' : reach < m := of_decide_eq_true c2
        have hq2 : q < 1100 := by
          by_cases hge : 1100 ≤ q
          · have h1 : (2 : Nat) ^ 1100 ≤ 2 ^ q := Nat.pow_le_pow_right (by decide) hge
            have h2 : ((2 ^ q : Nat) : Int) ≤ reach := by rw [Int.natCast_pow]; exact hre
            generalize 2 ^ q = w at h1 h2
            generalize 2 ^ 1100 = w2 at h1 m1
            omega
          · omega
        refine ⟨fun σ' H' => ∃ (v4 v5 : Option V) (res reach : Int), σ' = [some (.ref a), some (.int m), some (.int res), some (.int reach), v4, v5] ∧ ((2 : Int) ^ (q + 1) ≤ reach ∧ 1 ≤ reach) ∧ H' a = some (.lst [.int x, .int y, .int (z + (q + 1 : Nat))]) ∧ Kp a H H', ?_, ?_⟩
        · rintro σ' H' ⟨v4, v5, res, reach, rfl, h1, h2, h3⟩
          exact ⟨1101 - (q + 1), by omega, q + 1, v4, v5, res, reach, rfl, rfl, by omega, h1, h2, h3⟩
        generalize hzq : z + (q : Int) = zq at ha2
        have zb : 0 ≤ zq ∧ zq ≤ 902000 := by omega
        obtain ⟨zb0, zb1⟩ := zb
        refine ⟨_, rfl, _, _, _, _, rfl, rfl, SqL.of ha2, rfl, _, _, rfl, rfl, ?_⟩
        refine ⟨_, rfl, _, _, _, 2, rfl, rfl, ha2, rfl, ?_⟩
        have ha3 : ∀ b o, b ≠ a → (upd (upd H2 a (.lst [.int x, .int y, .int (zq + 1)])) b o) a = some (.lst [.int x, .int y, .int (zq + 1)]) := fun b o n => by rw [upd_ne n.symm, upd_same]
        refine ⟨(by show 7 ≤ sizeLine; decide), fun l hl => ?_⟩
        have hla : l ≠ a := fun e => by
          subst e
          have : (upd H2 l (.lst [.int x, .int y, .int (zq + 1)])) l = none := hl
          rw [upd_same] at this
          cases this
        have hA := ha3 l (.lst primes) hla
        refine ⟨_, rfl, _, _, _, _, rfl, rfl, SqL.of hA, rfl, .inl ⟨_, rfl, _, _, rfl, rfl, (by show (0 : Int) < 7; decide), ?_⟩⟩
        obtain ⟨p, hp, p0, p1⟩ := prime_at ((zq + 1) % 7) (Int.emod_nonneg _ (by decide)) (Int.emod_lt_of_pos _ (by decide))
        refine ⟨l, primes, _, _, rfl, rfl, SqL.of upd_same, hp, ?_⟩
        refine ⟨_, rfl, _, _, _, _, rfl, rfl, SqL.of hA, rfl, _, rfl, _, _, _, _, rfl, rfl, SqL.of hA, rfl, _, _, rfl, rfl, .inl (by decide), _, _, rfl, rfl, _, _, rfl, rfl, _, _, rfl, rfl, ⟨by decide, by decide, ?_⟩, .inl ⟨_, rfl, _, rfl, _, _, rfl, rfl, p0, ?_⟩⟩
        · omega
        have f0 : 0 ≤ (y + 7919 * (zq + 1) + 1) ^ (5 : Int).toNat % p := Int.emod_nonneg _ (by omega)
        have f1 : (y + 7919 * (zq + 1) + 1) ^ (5 : Int).toNat % p < p := Int.emod_lt_of_pos _ p0
        refine ⟨_, rfl, _, rfl, _, _, _, _, rfl, rfl, SqL.of hA, rfl, _, _, rfl, rfl, _, rfl, _, _, rfl, rfl, ⟨by decide, by decide⟩, _, _, rfl, rfl, _, _, rfl, rfl, .inl ?_, .inl ⟨_, rfl, _, rfl, _, _, rfl, rfl, p0, ?_⟩⟩
        · omega
        refine ⟨_, rfl, _, _, rfl, rfl, .inr (by decide), _, rfl, _, _, rfl, rfl, ⟨by decide, by decide⟩, _, _, rfl, rfl, _, rfl, _, _, rfl, rfl, .inr (by decide), _, _, rfl, ?_⟩
        refine ⟨_, _, _, _, rfl, ⟨?_, ?_⟩, ?_, kp2.trans (Kp.upd.trans (Kp.of (Same.upd hl)))⟩
        · have e2 : (2 : Int) ^ (q + 1) = 2 ^ q * 2 := Int.pow_succ 2 q
          rw [e2]
          generalize (2 : Int) ^ q = w at hre
          show w * 2 ≤ reach * 300000007
          omega
        · show 1 ≤ reach * 300000007
          omega
        · have e3 : zq + 1 = z + ((q + 1 : Nat) : Int) := by omega
          rw [← e3]
          exact hA
      · refine ⟨_, rfl, .inl ⟨_, rfl, _, rfl, _, _, rfl, rfl, m0, ?_⟩⟩
        exact k _ _ (Int.emod_nonneg _ (by omega)) (Int.emod_lt_of_pos _ m0) ⟨_, _, _, ha2, x0, y0, y1, by omega, by omega⟩ kp2
theorem sc_choice : FnScope ["_law_source", "_law_options"] ["_law_source", "_law_options"] (defScope st__law_choice) := ⟨rfl, rfl, rfl, by decide +kernel, rfl, by decide +kernel, by decide +kernel⟩
theorem ok_one (T : Tx1 K mg aO aN aE aC) : Cal P w K mg base "_law_choice" 2 aE ["_law_source", "_law_options"] spOne := T.dE.cal fun fd F => by
  have G : Cal P w K mg base "_law_draw" 1 aN ["_law_source", "_law_bound"] spNext := ok_next T
  refine F.ok sc_choice (fun vs H Q E h => ?_) (fun cdv A outer s H vs Q E hr h => ?_)
  · obtain ⟨a, l, xs, n, rfl, _⟩ := h
    rfl
  · obtain ⟨a, l, xs, n, rfl, hal, hl, x0, x1, hs, hn, k⟩ := h
    refine ⟨_, pss_one (ps_ret (pe_ix ix_list (pv 1) (pe_c G hr rfl (pa_cons (pv 0) (pa_cons (pe_callB call_len_seq (by rfl) T.len PySem.boot_len (pa_cons (pv 1) pa_nil)) pa_nil))) (fun _ _ => rfl))), ?_⟩
    refine ⟨_, rfl, _, rfl, _, rfl, l, xs, rfl, .inl (SqL.of hl), a, _, n, rfl, by omega, ?_, hs, hn, fun r H' r0 r1 hs' hk => ?_⟩
    · exact Nat.lt_of_le_of_lt (show ((xs.length : Int)).natAbs ≤ 100000 by omega) (by decide)
    · obtain ⟨v, hv, hm⟩ := atI_of (xs := xs) r0 r1
      exact ⟨l, xs, r, v, rfl, rfl, SqL.of (hk _ _ hal.symm hl), hv, k v H' hm hs' hk⟩
theorem sc_cellat : FnScope ["_law_script", "_law_place"] ["_law_script", "_law_place"] (defScope st__law_cell_at) := ⟨rfl, rfl, rfl, by decide +kernel, rfl, by decide +kernel, by decide +kernel⟩
theorem ok_cellat (T : Tx1 K mg aO aN aE aC) : Cal P w K mg base "_law_cell_at" 1 aC ["_law_script", "_law_place"] (spCell K) := T.dC.cal fun fd F => by
  refine F.ok sc_cellat (fun vs H Q E h => ?_) (fun cdv A outer s H vs Q E hr h => ?_)
  · obtain ⟨a, ns, z, rfl, _⟩ := h
    rfl
  · obtain ⟨a, ns, i, rfl, hS, i0, k⟩ := h
    refine ⟨_, pss_cons (ps_if (pt_cmpR op_lt (pv 1) (pe_callB call_len_seq (by rfl) T.len PySem.boot_len (pa_cons (pv 0) pa_nil)) (nomark _)) (pss_one (ps_ret (pe_ix ix_list (pv 0) (pv 1) (fun _ _ => rfl)))) pss_nil) (pss_one (ps_ret pe_int)), ?_⟩
    refine ⟨_, rfl, _, rfl, a, _, rfl, .inl hS, _, _, rfl, rfl, _, rfl, ?_⟩
    refine ite2 (fun c => ?_) (fun c => ?_)
    · have c' : i < ((ns.map V.int).length : Nat) := of_decide_eq_true c
      obtain ⟨v, hv, hm⟩ := atI_of (xs := ns.map V.int) i0 c'
      obtain ⟨z, _, rfl⟩ := List.mem_map.mp hm
      exact ⟨_, rfl, _, rfl, a, _, _, _, rfl, rfl, hS, hv, k z⟩
    · exact k 0
end
/-! ### trains drawn -/
theorem draw_gen {P : Program} {w : World} {mg : Str → Option Value} {t : TA} {σ : L2.St} {H : Hp} {Q : VK} {a : Addr} {n : Nat} {ns : List Int} {hi : Int} {j : Nat} (σ0 : σ[j]? = some (some (.ref a))) (hs : Src H a n) (hn : n ≤ 898000) (ht : ∀ R : List V → Hp → Prop, R (ns.map V.int) H → t σ H R)
    (h0 : 0 < ns.length) (h1 : ns.length ≤ 1000) (hb : ∀ m ∈ ns, 0 < m ∧ m ≤ hi) (hh : hi.natAbs < 2 ^ 1100) (k : ∀ (r : Int) H', 0 ≤ r → r < hi → (∃ m ∈ ns, r < m) → Src H' a (n + 2202) → Kp a H H' → Q (.int r) H') :
    tCall spNext [] E0 (tCons (tVar j) (tCons (tCall spOne [] E0 (tCons (tVar j) (tCons (tLst t) tNil))) tNil)) σ H Q := by
  obtain ⟨ys, hy⟩ := hs.has
  refine ⟨_, σ0, _, σ0, ht _ ⟨(by rw [List.length_map]; exact Nat.le_trans h1 (by decide)), fun l hl => ?_⟩⟩
  have hal : a ≠ l := ne_of_none hy hl
  refine ⟨a, l, ns.map V.int, n, rfl, hal, upd_same, (by rw [List.length_map]; exact h0), (by rw [List.length_map]; omega), hs.same (Same.upd hl), by omega, fun v H1 hv hs1 k1 => ?_⟩
  obtain ⟨m, hm, rfl⟩ := List.mem_map.mp hv
  obtain ⟨m0, m1⟩ := hb m hm
  refine ⟨a, m, n + 1101, rfl, m0, Nat.lt_of_le_of_lt (show m.natAbs ≤ hi.natAbs by omega) hh, hs1, by omega, fun r H2 r0 r1 hs2 k2 => ?_⟩
  exact k r H2 r0 (by omega) ⟨m, hm, r1⟩ hs2 ((Kp.of (Same.upd hl)).trans (k1.trans k2))
theorem PB_add (n m : Nat) : PB n * PB m = PB (n + m) := by
  unfold PB
  rw [Int.pow_add]
theorem PB_mul {i j : Int} {n m : Nat} (i0 : 0 ≤ i) (hi : i ≤ PB n) (j0 : 0 ≤ j) (hj : j ≤ PB m) : i * j ≤ PB (n + m) := by
  rw [← PB_add]
  exact Int.mul_le_mul hi hj j0 (by omega)
/-- the greatest step of the starts -/
def gF (F : Int) : Int := F * F + F + 1
def GapOk (F : Int) : List Trn → Prop
  | [] => True
  | [_] => True
  | t :: u :: r => (∀ c, t.2.2 = some c → u.1 ≤ t.1 + (c - 1) * t.2.1 + F) ∧ GapOk F (u :: r)
theorem gap_swap {F : Int} : ∀ {ini : List Trn} {la lb : Trn}, GapOk F (ini ++ [la]) → lb.1 = la.1 → GapOk F (ini ++ [lb])
  | [], _, _, _, _ => True.intro
  | [t], la, lb, h, e => by
    have h : GapOk F (t :: la :: []) := h
    exact ⟨fun c hc => by rw [e]; exact h.1 c hc, True.intro⟩
  | t :: u :: ini, la, lb, h, e => by
    have h : GapOk F (t :: u :: (ini ++ [la])) := h
    exact ⟨h.1, gap_swap (ini := u :: ini) h.2 e⟩
theorem gap_snoc {F : Int} {u : Trn} : ∀ {ini : List Trn}, GapOk F ini → (∀ la c, ini.getLast? = some la → la.2.2 = some c → u.1 ≤ la.1 + (c - 1) * la.2.1 + F) → GapOk F (ini ++ [u])
  | [], _, _ => True.intro
  | [t], _, h => ⟨fun c hc => h t c rfl hc, True.intro⟩
  | t :: v :: ini, g, h => by
    have g : GapOk F (t :: v :: ini) := g
    show GapOk F (t :: v :: (ini ++ [u]))
    exact ⟨g.1, gap_snoc (ini := v :: ini) g.2 fun la c e1 e2 => h la c (by rw [List.getLast?_cons_cons]; exact e1) e2⟩
structure RowsOk (F : Int) (most : Int) (ts : List Trn) : Prop where
  srt : Srt ts
  ln : (ts.length : Int) ≤ most
  gp : GapOk F ts
  hd : ∀ t, ts.head? = some t → t.1 ≤ F
  bd : ∀ t ∈ ts, t.1 ≤ F + 8 * gF F ∧ t.2.1 ≤ F ∧ ∀ c, t.2.2 = some c → c ≤ F
theorem RowsOk.bt {F most : Int} {ts : List Trn} (R : RowsOk F most ts) (f0 : 5 ≤ F) (f1 : F ≤ PB 401) : ∀ t ∈ ts, BT 810 t := by
  intro t ht
  obtain ⟨h1, h2, h3⟩ := R.bd t ht
  have ok := R.srt.1 t ht
  have p1 := ok.2.1
  have ff : F * F ≤ PB 802 := PB_mul (by omega) f1 (by omega) f1
  have e1 : PB 401 ≤ PB 802 := PB_le (by decide)
  have e2 : PB 803 = PB 802 + PB 802 := PB_succ 802
  have e3 : PB 804 = PB 803 + PB 803 := PB_succ 803
  have e4 : PB 805 = PB 804 + PB 804 := PB_succ 804
  have e5 : PB 806 = PB 805 + PB 805 := PB_succ 805
  have e6 : PB 807 = PB 806 + PB 806 := PB_succ 806
  have e7 : PB 807 ≤ PB 810 := PB_le (by decide)
  have e8 := PB_pos 802
  unfold gF at h1
  have ff0 : 0 ≤ F * F := Int.mul_nonneg (by omega) (by omega)
  refine ⟨by omega, by omega, fun c hc => ?_⟩
  have c1 := ok.2.2 c hc
  have c2 := h3 c hc
  have q : (c - 1) * t.2.1 ≤ F * F := Int.mul_le_mul (by omega) h2 (by omega) (by omega)
  omega
def spRows : Sp := fun vs H Q _ => ∃ (a : Addr) (far most : Int) (n : Nat), vs = [.ref a, .int far, .int most] ∧ 1 ≤ far ∧ far ≤ PB 400 ∧ 0 ≤ most ∧ most ≤ 8 ∧ Src H a n ∧ n ≤ 800000 ∧
  ∀ l xs ts H', H' l = some (.lst xs) → Trs H' xs ts → RowsOk (far + 5) most ts → Src H' a (n + 60000) → Kp a H H' → H l = none → Q (.ref l) H'
/-- the built-ins, and what the drawing stands on -/
structure TxL (K : PySem.W.Frag) (mg : Str → Option Value) (aO aN aE aC aR : Addr) : Prop where
  B : Bi mg
  t1 : Tx1 K mg aO aN aE aC
  dR : Dfn K mg "_law_rows" st__law_rows aR ["_law_source", "_law_far", "_law_most"]
theorem neNil (ts : List Trn) : PyData.eqv (.list (ts.map trnD)) (.list []) = decide (ts = []) := eqTrs ts []
theorem shNil : SeqAt.shaped (.list []) = true := shTrs []
section
variable {P : Program} {w : World} {K : PySem.W.Frag} {mg : Str → Option Value} {base : Heap} {aO aN aE aC aR : Addr}
abbrev N_wrows : List Str := ["_law_source", "_law_far", "_law_most", "_law_found", "_law_begin", "_law_repeat", "_law_step", "_law_many"]
theorem sc_wrows : FnScope N_wrows ["_law_source", "_law_far", "_law_most"] (defScope st__law_rows) := ⟨rfl, rfl, rfl, by decide +kernel, rfl, by decide +kernel, by decide +kernel⟩
theorem ok_rows (T : TxL K mg aO aN aE aC aR) : Cal P w K mg base "_law_rows" 3 aR ["_law_source", "_law_far", "_law_most"] spRows := T.dR.cal fun fd F => by
  have G_wdraw := ok_next (P := P) (w := w) (base := base) T.t1
  have G_wchoice := ok_one (P := P) (w := w) (base := base) T.t1
  have B := T.B
  have nd := sc_wrows.nd
  refine F.ok sc_wrows (fun vs H Q E h => ?_) (fun cdv A outer s H vs Q E hr h => ?_)
  · obtain ⟨a, far, most, n, rfl, _⟩ := h
    rfl
  · obtain ⟨a, far, most, n, rfl, f0, f1, m0, m1, hs, hn, k⟩ := h
    refine ⟨_, (pss_cons (ps_par (i := 3) (j := 4) (by rfl) nd rfl rfl (by decide) rfl rfl (pa_cons (pe_lst pa_nil) (pa_cons (pe_c G_wdraw (hr.mono (by decide)) rfl (pa_cons (pv 0) (pa_cons (pv 1) pa_nil))) pa_nil)) (by rfl))
       (pss_cons (ps_for PassesOwn.never rfl (pi_range1 rfl B.range (pa_cons (pe_c G_wdraw (hr.mono (by decide)) rfl (pa_cons (pv 0) (pa_cons (pe_op op_add (pv 2) pe_int) pa_nil))) pa_nil)) (pg_name (i := 5) nd rfl (Or.inl rfl)) (pss_cons (ps_set (i := 6) nd rfl (Or.inl rfl) (pe_op op_add pe_int (pe_c G_wdraw (hr.mono (by decide)) rfl (pa_cons (pv 0) (pa_cons (pe_c G_wchoice (hr.mono (by decide)) rfl (pa_cons (pv 0) (pa_cons (pe_lst (pa_cons pe_int (pa_cons (pv 1) pa_nil))) pa_nil))) pa_nil)))))
       (pss_cons (ps_set (i := 7) nd rfl (Or.inl rfl) (pe_op op_add pe_int (pe_c G_wdraw (hr.mono (by decide)) rfl (pa_cons (pv 0) (pa_cons (pe_c G_wchoice (hr.mono (by decide)) rfl (pa_cons (pv 0) (pa_cons (pe_lst (pa_cons pe_int (pa_cons pe_int (pa_cons (pv 1) pa_nil)))) pa_nil))) pa_nil)))))
       (pss_cons (ps_expr (pe_bm PySem.F.plainAttrs_list PySem.F.slot_list_append PySem.F.type_list_append mt_append (pv 3) (pa_cons (pe_tup (pa_cons (pv 4) (pa_cons (pv 6) (pa_cons (pv 7) pa_nil)))) pa_nil)))
       (pss_one (ps_set (i := 4) nd rfl (Or.inl rfl) (pe_op op_add (pe_op op_add (pe_op op_add (pv 4) (pe_op op_mulW (pv 6) (pe_op op_sub (pv 7) pe_int))) pe_int) (pe_c G_wdraw (hr.mono (by decide)) rfl (pa_cons (pv 0) (pa_cons (pe_c G_wchoice (hr.mono (by decide)) rfl (pa_cons (pv 0) (pa_cons (pe_lst (pa_cons pe_int (pa_cons (pv 6) (pa_cons (pv 1) pa_nil)))) pa_nil))) pa_nil))))))))))
       (C8.pss_cut (ps_if (PW.pt (pw_and (pt_cmpR (op_neD hr.units) (pv 3) (pe_lst pa_nil) (nomark _)) (pw_and1 (pt_cmpR op_eq (pe_c G_wdraw (hr.mono (by decide)) rfl (pa_cons (pv 0) (pa_cons pe_int pa_nil))) pe_int (nomark _))))) (pss_one (ps_set (i := 3) nd rfl (Or.inl rfl) (pe_op op_cat (pe_slice (r := rSlL K) sl_list (pv 3) po_none (po_some (pe_un un_neg pe_int))) (pe_lst (pa_cons (pe_op (r := rCatT K) op_catT (pe_slice (r := rSlA K) sl_tupA (pe_ix (r := rIxL K) ix_list (pv 3) (pe_un un_neg pe_int) (fun _ _ => rfl)) po_none (po_some pe_int)) (pe_tup (pa_cons pe_non pa_nil))) pa_nil))))) pss_nil)
       (pss_one (ps_ret (pv 3)))))), ?_⟩
    obtain ⟨ya, hya⟩ := hs.has
    have fb : far.natAbs < 2 ^ 1100 := Nat.lt_of_lt_of_le (PB_abs (by omega) f1) (Nat.pow_le_pow_right (by decide) (by decide))
    have fb2 : (far + 5).natAbs < 2 ^ 1100 := by
      have e : PB 401 = PB 400 + PB 400 := PB_succ 400
      have e2 : PB 3 ≤ PB 400 := PB_le (by decide)
      have e3 : PB 3 = 8 := by unfold PB; decide
      exact Nat.lt_of_lt_of_le (PB_abs (n := 401) (by omega) (by omega)) (Nat.pow_le_pow_right (by decide) (by decide))
    obtain ⟨G, hG⟩ : ∃ G, G = gF (far + 5) := ⟨_, rfl⟩
    have ff0 : 0 ≤ (far + 5) * (far + 5) := Int.mul_nonneg (by omega) (by omega)
    have G0 : 0 ≤ G := by rw [hG]; unfold gF; omega
    refine ⟨(by show 0 ≤ sizeLine; decide), fun l hl => ?_⟩
    have nla : l ≠ a := (ne_of_none hya hl).symm
    have s1 : Same H (upd H l (.lst [])) := Same.upd hl
    refine ⟨_, rfl, _, rfl, a, far, n, rfl, by omega, fb, hs.same s1, by omega, fun bg H1 bg0 bg1 hs1 k1 => ?_⟩
    have hl1 : H1 l = some (.lst []) := k1 _ _ nla upd_same
    refine ⟨_, _, rfl, _, rfl, _, rfl, _, _, rfl, rfl, a, most + 1, n + 1101, rfl, by omega, Nat.lt_of_le_of_lt (show (most + 1).natAbs ≤ 9 by omega) (by decide), hs1, by omega, fun r H2 r0 r1 hs2 k2 => ?_⟩
    have k02 : Kp a H H2 := ((Kp.of s1).trans k1).trans k2
    refine ⟨r, rfl, by omega, by omega, ?_⟩
    refine for_range (lo := 0) (n := r.toNat) (fun i σ H3 => ∃ bg, ∃ v5 v6 v7 : Option V, ∃ xs ts, σ = [some (.ref a), some (.int far), some (.int most), some (.ref l), some (.int bg), v5, v6, v7] ∧ H3 l = some (.lst xs) ∧ Trs H3 xs ts ∧ Srt ts ∧ ts.length = i ∧
        (∀ t ∈ ts, t.1 ≤ far + 5 + 8 * G ∧ t.2.1 ≤ far + 5 ∧ ∃ c, t.2.2 = some c ∧ c ≤ far + 5 ∧ t.1 + (c - 1) * t.2.1 < bg) ∧ 0 ≤ bg ∧ bg ≤ far + 5 + i * G ∧ Src H3 a (n + 2202 + 6606 * i) ∧ Kp a H H3 ∧ GapOk (far + 5) ts ∧ (∀ t, ts.head? = some t → t.1 ≤ far + 5) ∧ (ts = [] → bg ≤ far + 5) ∧ ∀ la c, ts.getLast? = some la → la.2.2 = some c → bg ≤ la.1 + (c - 1) * la.2.1 + (far + 5))
      ⟨bg, none, none, none, [], [], rfl, k2 _ _ nla hl1, .nil, ⟨fun t ht => by simp at ht, List.Pairwise.nil⟩, rfl, fun t ht => by simp at ht, bg0, by omega, hs2, k02, True.intro, fun t ht => by simp at ht, fun _ => by omega, fun la c e => by simp at e⟩ ?_ ?_
    · rintro i σ H3 hi ⟨bg, v5, v6, v7, xs, ts, rfl, hl3, tx, hsr, hln, hbd, b0, b1, hs3, k03, gp3, hd3, em3, la3⟩
      have hi8 : i < 8 := by omega
      -- step
      refine draw_gen (P := P) (w := w) (mg := mg) (a := a) (n := n + 2202 + 6606 * i) (ns := [3, far]) (hi := far + 5) rfl hs3 (by omega) (fun R h => ⟨_, rfl, h⟩) (by simp) (by simp) (fun m hm => ?_) fb2 fun st H4 st0 st1 _ hs4 k4 => ⟨_, _, rfl, rfl, ?_⟩
      · simp only [List.mem_cons, List.mem_nil_iff, or_false] at hm
        rcases hm with rfl | rfl <;> omega
      refine draw_gen (P := P) (w := w) (mg := mg) (a := a) (n := n + 2202 + 6606 * i + 2202) (ns := [2, 5, far]) (hi := far + 5) rfl hs4 (by omega) (fun R h => ⟨_, rfl, h⟩) (by simp) (by simp) (fun m hm => ?_) fb2 fun mn H5 mn0 mn1 _ hs5 k5 => ⟨_, _, rfl, rfl, ?_⟩
      · simp only [List.mem_cons, List.mem_nil_iff, or_false] at hm
        rcases hm with rfl | rfl | rfl <;> omega
      have k35 := k4.trans k5
      have hl5 : H5 l = some (.lst xs) := k35 _ _ nla hl3
      obtain ⟨y3, hy3⟩ := hs3.has
      have tx5 : Trs H5 xs ts := tx.nl (Kp.nl k35 hy3)
      have k05 := k03.trans k35
      have hxs := tx.len
      refine ⟨_, rfl, .inl ⟨rfl, _, SqL.of hl5⟩, _, rfl, _, rfl, _, rfl, (by show 3 ≤ sizeLine; decide), fun tp htp => ?_⟩
      have htl : tp ≠ l := (ne_of_none hl5 htp).symm
      obtain ⟨y5, hy5⟩ := hs5.has
      refine ⟨l, xs, _, rfl, rfl, (Same.upd htp) _ _ hl5, small1 (by omega), ?_⟩
      have s6 := Same.upd (o := .tup [.int bg, .int (1 + st), .int (1 + mn)]) htp
      have n7 := NL.upd (o := .lst (xs ++ [.ref tp])) (s6 _ _ hl5)
      have nal : a ≠ l := nla.symm
      have hs7 : Src (upd (upd H5 tp (.tup [.int bg, .int (1 + st), .int (1 + mn)])) l (.lst (xs ++ [.ref tp]))) a (n + 2202 + 6606 * i + 2202 + 2202) := by
        obtain ⟨x, y, z, e, q⟩ := hs5
        exact ⟨x, y, z, by rw [upd_ne nal]; exact s6 _ _ e, q⟩
      generalize hH7 : upd (upd H5 tp (.tup [.int bg, .int (1 + st), .int (1 + mn)])) l (.lst (xs ++ [.ref tp])) = H7 at *
      have hl7 : H7 l = some (.lst (xs ++ [.ref tp])) := by rw [← hH7, upd_same]
      have ht7 : H7 tp = some (.tup [.int bg, .int (1 + st), .int (1 + mn)]) := by rw [← hH7, upd_ne htl, upd_same]
      have tx7 : Trs H7 xs ts := (tx5.same s6).nl n7
      have k07 : Kp a H H7 := fun b o nb e => by
        rw [← hH7, upd_ne (ne_of_none e hl)]
        exact s6 _ _ (k05 _ _ nb e)
      have cm : CMulW (1 + st) (1 + mn - 1) := wide_mul (Nat.lt_of_le_of_lt (show (1 + st).natAbs ≤ (far + 5).natAbs by omega) fb2) (Nat.lt_of_le_of_lt (show (1 + mn - 1).natAbs ≤ (far + 5).natAbs by omega) fb2) (by decide) (by decide) (by decide)
      obtain ⟨y7, hy7⟩ := hs7.has
      refine ⟨_, rfl, _, rfl, _, rfl, _, _, rfl, rfl, _, _, rfl, rfl, cm, _, _, rfl, rfl, _, _, rfl, rfl, ?_⟩
      refine draw_gen (P := P) (w := w) (mg := mg) (a := a) (n := n + 2202 + 6606 * i + 2202 + 2202) (ns := [2, 1 + st, far]) (hi := far + 5) rfl hs7 (by omega) (fun R h => ⟨_, rfl, _, rfl, h⟩) (by simp) (by simp) (fun m hm => ?_) fb2 fun gp H8 gp0 gp1 _ hs8 k8 => ⟨_, _, rfl, rfl, ?_⟩
      · simp only [List.mem_cons, List.mem_nil_iff, or_false] at hm
        rcases hm with rfl | rfl | rfl <;> omega
      have hm1 : (1 + mn - 1) * (1 + st) ≤ (far + 5) * (far + 5) := Int.mul_le_mul (by omega) (by omega) (by omega) (by omega)
      have hm0 : 0 ≤ (1 + mn - 1) * (1 + st) := Int.mul_nonneg (by omega) (by omega)
      have hmc : (1 + st) * (1 + mn - 1) = (1 + mn - 1) * (1 + st) := Int.mul_comm _ _
      have n78 : NL H7 H8 := Kp.nl k8 hy7
      have hb2 : bg + (1 + st) * (1 + mn - 1) + 1 + gp ≤ far + 5 + (i + 1 : Nat) * G := by
        have e : ((i + 1 : Nat) : Int) * G = i * G + G := by
          rw [Int.natCast_add, Int.add_mul]
          show (i : Int) * G + 1 * G = _
          rw [Int.one_mul]
        have e2 : G = (far + 5) * (far + 5) + (far + 5) + 1 := hG
        rw [e, hmc]
        omega
      have hbg8 : bg ≤ far + 5 + 8 * G := by
        have : (i : Int) * G ≤ 8 * G := Int.mul_le_mul_of_nonneg_right (by omega) G0
        omega
      refine ⟨_, _, _, _, xs ++ [.ref tp], ts ++ [(bg, 1 + st, some (1 + mn))], rfl, k8 _ _ nla hl7, (tx7.nl n78).app (Trs.one ⟨tp, rfl, n78 _ _ ht7 fun _ z => nomatch z⟩), ?_, by rw [List.length_append, hln]; rfl, fun t ht => ?_, ?_, hb2, ?_, k07.trans k8, gap_snoc gp3 la3, fun t ht => ?_, fun e => by simp at e, fun la c e1 e2 => ?_⟩
      · refine ⟨fun t ht => ?_, List.pairwise_append.mpr ⟨hsr.2, List.pairwise_singleton _ _, fun t ht u hu => ?_⟩⟩
        · rcases List.mem_append.mp ht with ht | ht
          · exact hsr.1 t ht
          · rw [List.mem_singleton.mp ht]
            exact ⟨b0, by show 1 ≤ 1 + st; omega, fun c hc => by have z : 1 + mn = c := Option.some.inj hc; omega⟩
        · rw [List.mem_singleton.mp hu]
          obtain ⟨_, _, c, hc, _, hlt⟩ := hbd t ht
          exact ⟨c, hc, hlt⟩
      · rcases List.mem_append.mp ht with ht | ht
        · obtain ⟨q1, q2, c, hc, hcf, hlt⟩ := hbd t ht
          refine ⟨q1, q2, c, hc, hcf, ?_⟩
          show _ < bg + (1 + st) * (1 + mn - 1) + 1 + gp
          rw [hmc]
          omega
        · rw [List.mem_singleton.mp ht]
          refine ⟨hbg8, by show 1 + st ≤ far + 5; omega, 1 + mn, rfl, by omega, ?_⟩
          show bg + (1 + mn - 1) * (1 + st) < bg + (1 + st) * (1 + mn - 1) + 1 + gp
          rw [hmc]
          omega
      · show 0 ≤ bg + (1 + st) * (1 + mn - 1) + 1 + gp
        rw [hmc]
        omega
      · have e : n + 2202 + 6606 * i + 2202 + 2202 + 2202 = n + 2202 + 6606 * (i + 1) := by omega
        rw [← e]
        exact hs8
      · cases ts with
        | nil =>
          have e2 : (bg, 1 + st, some (1 + mn)) = t := by simpa using ht
          rw [← e2]
          exact em3 rfl
        | cons u r => exact hd3 t (by simpa using ht)
      · rw [List.getLast?_append] at e1
        have e1 : (bg, 1 + st, some (1 + mn)) = la := by simpa using e1
        rw [← e1] at e2 ⊢
        have e2 : 1 + mn = c := Option.some.inj e2
        subst e2
        show bg + (1 + st) * (1 + mn - 1) + 1 + gp ≤ bg + (1 + mn - 1) * (1 + st) + (far + 5)
        rw [hmc]
        omega
    · rintro σ H3 ⟨bg, v5, v6, v7, xs, ts, rfl, hl3, tx, hsr, hln, hbd, b0, b1, hs3, k03, gp3, hd3, em3, la3⟩
      have hr8 : r.toNat ≤ 8 := by omega
      have hls : (ts.length : Int) ≤ most := by omega
      have hxs := tx.len
      obtain ⟨y3, hy3⟩ := hs3.has
      have dn : Dp K H3 (.ref l) (.list (ts.map trnD)) := .lst (SqL.of hl3) tx.dp
      refine ⟨fun σ' H' => ∃ v l' xs' ts', ∃ v5 v6 v7 : Option V, σ' = [some (.ref a), some (.int far), some (.int most), some (.ref l'), v, v5, v6, v7] ∧ H' l' = some (.lst xs') ∧ Trs H' xs' ts' ∧ RowsOk (far + 5) most ts' ∧ Src H' a (n + 60000) ∧ Kp a H H' ∧ H l' = none, ?_, ?_⟩
      rotate_left
      · rintro σ' H' ⟨v, l', xs', ts', v5, v6, v7, rfl, h1, h2, h3, h4, h5, h6⟩
        exact ⟨_, rfl, k l' xs' ts' H' h1 h2 h3 h4 h5 h6⟩
      have done : ∀ H', Same H3 H' → Src H' a (n + 60000) ∨ Kp a H3 H' ∧ Src H' a (n + 60000) → True := fun _ _ _ => True.intro
      have rows0 : RowsOk (far + 5) most ts := ⟨hsr, hls, gp3, hd3, fun t ht => by
        obtain ⟨q1, q2, c, hc, hcf, _⟩ := hbd t ht
        rw [hG] at q1
        exact ⟨q1, q2, fun c' hc' => by rw [hc] at hc'; cases hc'; exact hcf⟩⟩
      refine ⟨_, rfl, (by show 0 ≤ sizeLine; decide), fun l2 hl2 => ?_⟩
      have s4 := Same.upd (o := .lst ([] : List V)) hl2
      have dn4 : Dp K (upd H3 l2 (.lst [])) (.ref l) (.list (ts.map trnD)) := .lst (SqL.of (s4 _ _ hl3)) (tx.same s4).dp
      refine ⟨_, _, dn4, .lst (SqL.of upd_same) .nil, shTrs _, shNil, ?_⟩
      rw [neNil]
      have k04 : Kp a H (upd H3 l2 (.lst [])) := k03.trans (Kp.of s4)
      refine ⟨_, rfl, ?_⟩
      refine ite2 (fun c => ?_) (fun c => ?_)
      · have hne : ts ≠ [] := fun e => by rw [e] at c; simp at c
        refine ⟨_, rfl, a, 2, n + 2202 + 6606 * r.toNat, rfl, by decide, by decide, hs3.same s4, by omega, fun cz H5 cz0 cz1 hs5 k5 => ?_⟩
        have k05 := k04.trans k5
        have hl5 : H5 l = some (.lst xs) := k5 _ _ nla (s4 _ _ hl3)
        obtain ⟨y4, hy4⟩ := (hs3.same s4).has
        have n5 : NL (upd H3 l2 (.lst [])) H5 := Kp.nl k5 hy4
        have tx5 : Trs H5 xs ts := (tx.same s4).nl n5
        refine ⟨rfl, _, rfl, ?_⟩
        refine ite2 (fun c2 => ?_) (fun c2 => ?_)
        · obtain ⟨ini, la, hil⟩ : ∃ ini la, ts = ini ++ [la] := ⟨ts.dropLast, ts.getLast hne, (List.dropLast_concat_getLast hne).symm⟩
          have hLi : ts.dropLast = ini := by rw [hil]; simp
          obtain ⟨xi, xl, hxi, hti, htl⟩ : ∃ xi xl, xs = xi ++ [xl] ∧ Trs H5 xi ini ∧ TrAt H5 xl la := by
            have h1 := tx5.take (xs.length - 1)
            have h2 := tx5.drop (xs.length - 1)
            have e1 : ini.length = xs.length - 1 := by rw [hxs, hil]; simp
            rw [hil, ← e1] at h1 h2
            rw [List.take_left] at h1
            rw [List.drop_left] at h2
            cases h2d : xs.drop ini.length with
            | nil => rw [h2d] at h2; cases h2
            | cons z zs =>
              rw [h2d] at h2
              cases h2 with
              | cons r tl =>
                cases tl
                exact ⟨xs.take ini.length, z, by rw [← h2d, List.take_append_drop], h1, r⟩
          obtain ⟨tb, rfl, htb⟩ := htl
          refine ⟨_, rfl, 1, rfl, -1, rfl, l, xs, rfl, SqL.of hl5, fun p1 hp1 => ?_⟩
          have s6 := Same.upd (o := .lst (cutV xs none (some (-1)))) hp1
          refine ⟨_, rfl, _, rfl, l, xs, -1, .ref tb, rfl, rfl, SqL.of (s6 _ _ hl5), by rw [hxi]; exact atI_last xi _, 2, rfl, tb, _, rfl, SqT.of (s6 _ _ htb), fun z => ?_, fun _ p2 hp2 => ?_⟩
          · exact absurd z.2 (by show ¬ (min (2 : Int).toNat 3 = 3); decide)
          have s7 := Same.upd (o := .tup (cutV (TrV la) none (some 2))) hp2
          refine ⟨(by show 1 ≤ sizeLine; decide), fun p3 hp3 => ?_⟩
          have s8 := Same.upd (o := .tup [.non]) hp3
          have e2 : cutV (TrV la) none (some 2) = [.int la.1, .int la.2.1] := rfl
          refine ⟨p2, p3, [.int la.1, .int la.2.1], [.non], rfl, rfl, SqT.of (s8 _ _ (by rw [upd_same, e2])), SqT.of upd_same, by simp, (by show 3 ≤ sizeLine; decide), fun z => by simp at z, fun _ p4 hp4 => ⟨(by show 1 ≤ sizeLine; decide), fun p5 hp5 => ?_⟩⟩
          have s9 := Same.upd (o := .tup ([.int la.1, .int la.2.1] ++ [.non])) hp4
          have s10 := Same.upd (o := .lst [.ref p4]) hp5
          have s610 := ((s7.trans s8).trans s9).trans s10
          refine ⟨p1, p5, _, _, rfl, rfl, s610 _ _ upd_same, upd_same, small2 (by have := cutV_length xs none (some (-1)); show _ + 1 ≤ 100000; omega), fun p6 hp6 => ?_⟩
          have s11 := Same.upd (o := .lst (cutV xs none (some (-1)) ++ [.ref p4])) hp6
          have sall := (s6.trans s610).trans s11
          have hla := hbd la (by rw [hil]; simp)
          refine ⟨_, p6, _, ini ++ [(la.1, la.2.1, none)], _, _, _, rfl, upd_same, ?_, ⟨⟨fun t ht => ?_, ?_⟩, ?_, gap_swap (la := la) (by rw [← hil]; exact gp3) rfl, fun t ht => ?_, fun t ht => ?_⟩, (hs5.same sall).mono (by omega), k05.trans (Kp.of sall), ?_⟩
          · have hi2 : Trs H5 (cutV xs none (some (-1))) ini := by rw [← hLi]; exact tx5.init
            exact (hi2.same sall).app (Trs.one ⟨p4, rfl, s11 _ _ (s10 _ _ upd_same)⟩)
          · rcases List.mem_append.mp ht with ht | ht
            · exact hsr.1 t (by rw [hil]; exact List.mem_append_left _ ht)
            · rw [List.mem_singleton.mp ht]
              have := hsr.1 la (by rw [hil]; simp)
              exact ⟨this.1, this.2.1, fun c hc => by cases hc⟩
          · have hp := hsr.2
            rw [hil] at hp
            obtain ⟨g1, _, g3⟩ := List.pairwise_append.mp hp
            refine List.pairwise_append.mpr ⟨g1, List.pairwise_singleton _ _, fun t ht u hu => ?_⟩
            rw [List.mem_singleton.mp hu]
            exact g3 t ht la (List.mem_singleton.mpr rfl)
          · have : (ini ++ [(la.1, la.2.1, none)] : List Trn).length = ts.length := by rw [hil]; simp
            rw [this]
            exact hls
          · cases ini with
            | nil =>
              have e2 : (la.1, la.2.1, none) = t := by simpa using ht
              rw [← e2]
              exact hd3 la (by rw [hil]; rfl)
            | cons u r =>
              have e2 : u = t := by simpa using ht
              rw [← e2]
              exact hd3 u (by rw [hil]; rfl)
          · rcases List.mem_append.mp ht with ht | ht
            · exact rows0.bd t (by rw [hil]; exact List.mem_append_left _ ht)
            · rw [List.mem_singleton.mp ht]
              have := rows0.bd la (by rw [hil]; simp)
              exact ⟨this.1, this.2.1, fun c hc => by cases hc⟩
          · have q : H5 p6 = none := none_of (s6.trans s610) hp6
            cases z : H p6 with
            | none => rfl
            | some o =>
              have n6 : p6 ≠ a := fun e => by
                subst e
                obtain ⟨y5, hy5⟩ := hs5.has
                rw [hy5] at q; cases q
              rw [k05 _ _ n6 z] at q
              cases q
        · exact ⟨_, l, xs, ts, _, _, _, rfl, hl5, tx5, rows0, hs5.mono (by omega), k05, hl⟩
      · exact ⟨_, l, xs, ts, _, _, _, rfl, s4 _ _ hl3, tx.same s4, rows0, (hs3.same s4).mono (by omega), k04, hl⟩
end
/-! ### times listed -/
def tmT (t : Trn) (B : Int) : List Int := (List.range (nbT t B).toNat).map fun j => t.1 + t.2.1 * (j : Nat)
def tms (ts : List Trn) (B : Int) : List Int := ts.flatMap fun t => tmT t B
def sgl (xs : List Int) : List Trn := xs.map fun x => (x, 1, some 1)
theorem NB_le_of_at {ts us : List Trn} (h : Srt ts) (h' : Srt us) (e : ∀ i, 0 ≤ i → At ts i = At us i) (x : Int) : NB ts x ≤ NB us x := by
  by_cases q : NB ts x ≤ NB us x
  · exact q
  · have i0 := NB_nn h'.1 x
    have hi : NB us x < NB ts x := by omega
    cases ea : At ts (NB us x) with
    | none =>
      obtain ⟨n, e1, e2⟩ := (At_none h.1 i0).mp ea
      have := NB_tot h.1 e1 x
      omega
    | some y =>
      have l1 := (At_lt h i0 ea x).mp hi
      rw [e _ i0] at ea
      have := (At_lt h' i0 ea x).mpr l1
      omega
theorem NB_same {ts us : List Trn} (h : Srt ts) (h' : Srt us) (e : ∀ i, 0 ≤ i → At ts i = At us i) (x : Int) : NB ts x = NB us x :=
  Int.le_antisymm (NB_le_of_at h h' e x) (NB_le_of_at h' h (fun i i0 => (e i i0).symm) x)
theorem nfs_at_iff {ts us : List Trn} (h : Srt ts) (h' : Srt us) : nfs ts = nfs us ↔ ∀ i, 0 ≤ i → At ts i = At us i :=
  ⟨fun e i i0 => At_same h h' ((nfs_iff h h').mp e) i0, fun e => (nfs_iff h h').mpr (NB_same h h' e)⟩
theorem nbT_nn' (t : Trn) (h : OkTr t) (B : Int) : ((nbT t B).toNat : Int) = nbT t B := by
  have := nbT_nn h B
  omega
theorem tmT_len {t : Trn} (h : OkTr t) (B : Int) : ((tmT t B).length : Int) = nbT t B := by
  unfold tmT
  rw [List.length_map, List.length_range]
  exact nbT_nn' t h B
theorem tms_len {ts : List Trn} (h : ∀ t ∈ ts, OkTr t) (B : Int) : ((tms ts B).length : Int) = NB ts B := by
  induction ts with
  | nil => rfl
  | cons t ts ih =>
    have := tmT_len (h t (List.mem_cons_self ..)) B
    have := ih fun u hu => h u (List.mem_cons_of_mem _ hu)
    show ((tmT t B ++ tms ts B).length : Int) = nbT t B + NB ts B
    rw [List.length_append]
    omega
theorem tmT_get {t : Trn} {B : Int} {j : Nat} (h : (j : Int) < nbT t B) : (tmT t B)[j]? = some (t.1 + j * t.2.1) := by
  unfold tmT
  rw [List.getElem?_map, List.getElem?_range (by omega)]
  show some _ = some _
  rw [Int.mul_comm]
theorem tms_get : ∀ {ts : List Trn}, Srt ts → ∀ {B : Int} {j : Nat}, (j : Int) < NB ts B → (tms ts B)[j]? = At ts j
  | [], _, B, j, hj => by
    have hj : (j : Int) < 0 := hj
    omega
  | t :: ts, h, B, j, hj => by
    have ht := h.head
    have hlen := tmT_len ht B
    have hj : (j : Int) < nbT t B + NB ts B := hj
    show (tmT t B ++ tms ts B)[j]? = _
    by_cases q : (j : Int) < nbT t B
    · rw [List.getElem?_append_left (by omega), tmT_get q, At_lo]
      intro c hc
      have := nbT_le (x := B) hc
      omega
    · have hN : 0 < NB ts B := by omega
      have : ∃ u ∈ ts, u.1 < B := by
        by_cases z : ∃ u ∈ ts, u.1 < B
        · exact z
        · have := NB_zero h.tail.1 (x := B) fun u hu => by
            by_cases w : B ≤ u.1
            · exact w
            · exact absurd ⟨u, hu, by omega⟩ z
          omega
      obtain ⟨u, hu, hB⟩ := this
      obtain ⟨c, hc, hl⟩ := h.lt u hu
      have e := nbT_all ht hc (x := B) (by omega)
      rw [List.getElem?_append_right (by omega), At_some_t hc, if_neg (by omega)]
      have e2 : ((j - (tmT t B).length : Nat) : Int) = j - c := by omega
      rw [tms_get h.tail (by omega), e2]
theorem At_asc {ts : List Trn} (h : Srt ts) {i j y z : Int} (i0 : 0 ≤ i) (hij : i < j) (hy : At ts i = some y) (hz : At ts j = some z) : y < z := by
  have h1 := At_lt h i0 hy (z + 1)
  have h2 := At_lt h (i := j) (by omega) hz (z + 1)
  have h3 := At_lt h i0 hy z
  have h4 := At_lt h (i := j) (by omega) hz z
  have h5 := NB_step h z
  omega
theorem tms_asc {ts : List Trn} (h : Srt ts) (B : Int) : (tms ts B).Pairwise (· < ·) := by
  refine List.pairwise_iff_getElem.mpr fun i j hi hj hij => ?_
  have hl := tms_len h.1 B
  have e1 := tms_get h (B := B) (j := i) (by omega)
  have e2 := tms_get h (B := B) (j := j) (by omega)
  rw [List.getElem?_eq_getElem hi] at e1
  rw [List.getElem?_eq_getElem hj] at e2
  exact At_asc h (by omega) (by omega) e1.symm e2.symm
theorem At_nn {ts : List Trn} (h : Srt ts) {i y : Int} (i0 : 0 ≤ i) (hy : At ts i = some y) : 0 ≤ y := by
  have h1 := At_lt h i0 hy 0
  have h2 : NB ts 0 = 0 := NB_zero h.1 fun t ht => (h.1 t ht).1
  omega
theorem tms_nn {ts : List Trn} (h : Srt ts) (B : Int) : ∀ x ∈ tms ts B, 0 ≤ x := by
  intro x hx
  obtain ⟨j, hj⟩ := List.getElem?_of_mem hx
  have hl := tms_len h.1 B
  have hlt := (List.getElem?_eq_some_iff.mp hj).1
  rw [tms_get h (by omega)] at hj
  exact At_nn h (by omega) hj
theorem tms_lt {ts : List Trn} (h : Srt ts) (B : Int) : ∀ x ∈ tms ts B, x < B := by
  intro x hx
  obtain ⟨j, hj⟩ := List.getElem?_of_mem hx
  have hl := tms_len h.1 B
  have hlt := (List.getElem?_eq_some_iff.mp hj).1
  rw [tms_get h (by omega)] at hj
  exact (At_lt h (by omega) hj B).mp (by omega)
theorem sgl_srt {xs : List Int} (h : xs.Pairwise (· < ·)) (h0 : ∀ x ∈ xs, 0 ≤ x) : Srt (sgl xs) := by
  refine ⟨fun t ht => ?_, ?_⟩
  · obtain ⟨x, hx, rfl⟩ := List.mem_map.mp ht
    exact ⟨h0 x hx, Int.le_refl _, fun c hc => by cases hc; exact Int.le_refl _⟩
  · unfold sgl
    rw [List.pairwise_map]
    exact h.imp fun {a b} l => ⟨1, rfl, by show a + (1 - 1) * 1 < b; omega⟩
theorem sgl_at : ∀ (xs : List Int) (j : Nat), At (sgl xs) j = xs[j]?
  | [], j => rfl
  | x :: xs, 0 => by
    show At ((x, 1, some 1) :: sgl xs) 0 = some x
    rw [At_some_t rfl, if_pos (by decide)]
    show some (x + 0 * 1) = _
    rw [Int.zero_mul, Int.add_zero]
  | x :: xs, j + 1 => by
    show At ((x, 1, some 1) :: sgl xs) ((j + 1 : Nat) : Int) = xs[j]?
    rw [At_some_t rfl, if_neg (by omega), ← sgl_at xs j]
    congr 1
    omega
/-- the times of trains with another step, one time each -/
theorem at_ones {us : List Trn} {xs : List Int} (h : us.map (fun t => (t.1, t.2.2)) = xs.map fun x => (x, some 1)) : ∀ j : Int, 0 ≤ j → At us j = At (sgl xs) j := by
  induction us generalizing xs with
  | nil =>
    cases xs with
    | nil => intro j _; rfl
    | cons x xs => simp at h
  | cons u us ih =>
    cases xs with
    | nil => simp at h
    | cons x xs =>
      intro j j0
      rw [List.map_cons, List.map_cons] at h
      obtain ⟨h1, h2⟩ := List.cons.inj h
      have hk : u.2.2 = some 1 := congrArg Prod.snd h1
      have hx : u.1 = x := congrArg Prod.fst h1
      rw [At_some_t hk]
      show _ = At ((x, 1, some 1) :: sgl xs) j
      rw [At_some_t rfl]
      by_cases q : j < 1
      · have j00 : j = 0 := by omega
        subst j00
        rw [if_pos q, if_pos q]
        show some (u.1 + 0 * u.2.1) = some (x + 0 * 1)
        rw [Int.zero_mul, Int.zero_mul, hx]
      · rw [if_neg q, if_neg q]
        exact ih h2 (j - 1) (by omega)
/-- all times of finite trains, listed -/
theorem nfs_tms {ts : List Trn} (h : Srt ts) {B n : Int} (ht : Tot ts = some n) (hB : NB ts B = n) : nfs (sgl (tms ts B)) = nfs ts := by
  refine (nfs_at_iff (sgl_srt (tms_asc h B) (tms_nn h B)) h).mpr fun i i0 => ?_
  have e : i = ((i.toNat : Nat) : Int) := by omega
  rw [e, sgl_at]
  have hl := tms_len h.1 B
  by_cases q : (i.toNat : Int) < NB ts B
  · exact tms_get h q
  · rw [(At_none h.1 (by omega)).mpr ⟨n, ht, by omega⟩]
    rw [List.getElem?_eq_none_iff]
    omega
theorem NB_full {ts : List Trn} (h : ∀ t ∈ ts, OkTr t) {n B : Int} (ht : Tot ts = some n) (hB : ∀ t ∈ ts, ∀ c, t.2.2 = some c → t.1 + (c - 1) * t.2.1 < B) : NB ts B = n := by
  induction ts generalizing n with
  | nil => cases ht; rfl
  | cons t ts ih =>
    cases hk : t.2.2 with
    | none =>
      have e2 : Tot (t :: ts) = none := by
        show (match t.2.2 with | none => none | some c => addO c (Tot ts)) = _
        rw [hk]
      rw [e2] at ht
      cases ht
    | some c =>
      have e2 : Tot (t :: ts) = addO c (Tot ts) := by
        show (match t.2.2 with | none => none | some c => addO c (Tot ts)) = _
        rw [hk]
      rw [e2] at ht
      cases hT : Tot ts with
      | none => rw [hT] at ht; cases ht
      | some m =>
        rw [hT] at ht
        have z : c + m = n := Option.some.inj ht
        have h1 := nbT_all (h t (List.mem_cons_self ..)) hk (hB t (List.mem_cons_self ..) c hk)
        have h2 := ih (fun u hu => h u (List.mem_cons_of_mem _ hu)) hT fun u hu => hB u (List.mem_cons_of_mem _ hu)
        show nbT t B + NB ts B = n
        omega
/-! one time behind the other -/
def nmS (f : List Trn) (x : Int) : List Trn := match f.getLast? with
  | none => [(x, 1, some 1)]
  | some t => if t.2.2.getD 0 = 1 ∨ x - t.1 - t.2.1 * (t.2.2.getD 0 - 1) = t.2.1 then f.dropLast ++ [(t.1, x - t.1 - t.2.1 * (t.2.2.getD 0 - 1), some (t.2.2.getD 0 + 1))] else f ++ [(x, 1, some 1)]
def nmL (xs : List Int) : List Trn := xs.foldl nmS []
theorem nmS_join {g : List Trn} {t : Trn} {x c : Int} (hc : t.2.2 = some c) : nmS (g ++ [t]) x = g ++ joinL t (x, 1, some 1) := by
  have e1 : (g ++ [t]).getLast? = some t := by simp
  have e2 : (g ++ [t]).dropLast = g := by simp
  have ec : t.2.2.getD 0 = c := by rw [hc]; rfl
  unfold nmS
  rw [e1]
  show (if t.2.2.getD 0 = 1 ∨ x - t.1 - t.2.1 * (t.2.2.getD 0 - 1) = t.2.1 then (g ++ [t]).dropLast ++ [(t.1, x - t.1 - t.2.1 * (t.2.2.getD 0 - 1), some (t.2.2.getD 0 + 1))] else g ++ [t] ++ [(x, 1, some 1)]) = _
  rw [ec, e2]
  have ej : joinL t (x, 1, some 1) = joinC t (x, 1, some 1) c := by unfold joinL; rw [hc]
  rw [ej]
  unfold joinC
  have pc : t.2.1 * (c - 1) = c * t.2.1 - t.2.1 := by rw [Int.mul_sub, Int.mul_one, Int.mul_comm]
  have e0 : (x, 1, some 1).1 = x := rfl
  by_cases c1 : c = 1
  · subst c1
    rw [if_pos (.inl rfl)]
    have es : joinS t (x, 1, some 1) 1 = x - t.1 := by unfold joinS; rw [if_pos rfl]
    rw [es, if_pos (by show t.1 + 1 * (x - t.1) = x; omega)]
    have eg : x - t.1 - t.2.1 * (1 - 1) = x - t.1 := by rw [show (1 : Int) - 1 = 0 by rfl, Int.mul_zero, Int.sub_zero]
    rw [eg]
    by_cases w : (1 : Int) = x - t.1
    · rw [if_pos (show ((x, 1, some 1) : Trn).2.1 = x - t.1 from w)]
      rfl
    · rw [if_neg (show ¬ ((x, 1, some 1) : Trn).2.1 = x - t.1 from w)]
      rfl
  · have es : joinS t (x, 1, some 1) c = t.2.1 := by unfold joinS; rw [if_neg c1]
    rw [es]
    by_cases w : x - t.1 - t.2.1 * (c - 1) = t.2.1
    · rw [if_pos (.inr w), if_pos (show t.1 + c * t.2.1 = x by omega), w]
      by_cases v : (1 : Int) = t.2.1
      · rw [if_pos (show ((x, 1, some 1) : Trn).2.1 = t.2.1 from v)]
        rfl
      · rw [if_neg (show ¬ ((x, 1, some 1) : Trn).2.1 = t.2.1 from v)]
        rfl
    · rw [if_neg (by rintro (q | q); exact c1 q; exact w q), if_neg (show ¬ t.1 + c * t.2.1 = x by omega), List.append_assoc]
      rfl
theorem nmS_nil (x : Int) : nmS [] x = [(x, 1, some 1)] := rfl
theorem joinL_fin {t : Trn} {x c : Int} (hc : t.2.2 = some c) (c1 : 1 ≤ c) (h1 : t.2.2 = some 1 → t.2.1 = 1) : ∀ g la, joinL t (x, 1, some 1) = g ++ [la] → (∃ d, la.2.2 = some d ∧ 1 ≤ d) ∧ (la.2.2 = some 1 → la.2.1 = 1) := by
  intro g la e
  have hm := nmS_join (g := []) (x := x) hc
  rw [List.nil_append, List.nil_append] at hm
  rw [← hm] at e
  unfold nmS at e
  have e1 : ([t] : List Trn).getLast? = some t := rfl
  rw [e1] at e
  have e : (if t.2.2.getD 0 = 1 ∨ x - t.1 - t.2.1 * (t.2.2.getD 0 - 1) = t.2.1 then ([] : List Trn) ++ [(t.1, x - t.1 - t.2.1 * (t.2.2.getD 0 - 1), some (t.2.2.getD 0 + 1))] else [t] ++ [(x, 1, some 1)]) = g ++ [la] := e
  have ec : t.2.2.getD 0 = c := by rw [hc]; rfl
  split at e
  · have := (List.append_inj' e rfl).2
    have z := (List.cons.inj this).1
    rw [← z, ec]
    exact ⟨⟨c + 1, rfl, by omega⟩, fun q => by have z2 : c + 1 = 1 := Option.some.inj q; omega⟩
  · have := (List.append_inj' e rfl).2
    have z := (List.cons.inj this).1
    rw [← z]
    exact ⟨⟨1, rfl, by decide⟩, fun _ => rfl⟩
theorem nfG_sgl : ∀ (xs : List Int) (cl : List Trn) (t : Trn) (c : Int), t.2.2 = some c → 1 ≤ c → (t.2.2 = some 1 → t.2.1 = 1) → nfG cl (some t) (sgl xs) = xs.foldl nmS (cl ++ [t])
  | [], cl, t, c, _, _, h1 => by
    show cl ++ [plainT t] = cl ++ [t]
    unfold plainT
    by_cases q : t.2.2 = some 1
    · rw [if_pos q]
      have e1 := h1 q
      obtain ⟨a, b, k⟩ := t
      have e2 : k = some 1 := q
      have e3 : b = 1 := e1
      rw [e2, e3]
    · rw [if_neg q]
  | x :: xs, cl, t, c, hc, c1, h1 => by
    show nfG (cl ++ (joinL t (x, 1, some 1)).dropLast) (joinL t (x, 1, some 1)).getLast? (sgl xs) = xs.foldl nmS (nmS (cl ++ [t]) x)
    rw [nmS_join hc]
    obtain ⟨v, zs, ev, _⟩ := joinL_head (f := (x, 1, some 1)) hc c1
    have ne : joinL t (x, 1, some 1) ≠ [] := by rw [ev]; simp
    have eg := List.dropLast_concat_getLast ne
    obtain ⟨⟨d, hd, d1⟩, hl⟩ := joinL_fin (x := x) hc c1 h1 _ _ eg.symm
    rw [List.getLast?_eq_some_getLast ne, nfG_sgl xs _ _ d hd d1 hl, List.append_assoc, eg]
theorem nmL_nfs (xs : List Int) : nmL xs = nfs (sgl xs) := by
  cases xs with
  | nil => rfl
  | cons x xs =>
    show xs.foldl nmS [(x, 1, some 1)] = nfG [] (some (x, 1, some 1)) (sgl xs)
    rw [nfG_sgl xs [] (x, 1, some 1) 1 rfl (by decide) fun _ => rfl]
    rfl
/-! ### _law_times -/
def spTms : Sp := fun vs H Q _ => ∃ (a : Addr) (xs : List V) (ts : List Trn) (z : Int), vs = [.ref a, .int z] ∧ H a = some (.lst xs) ∧ Trs H xs ts ∧ (∀ t ∈ ts, OkTr t) ∧ (∀ t ∈ ts, BT 5000 t) ∧ ts.length ≤ 10 ∧ (∀ t ∈ ts, nbT t z ≤ 1000) ∧ (∀ t ∈ ts, stepsUp (z - t.1) t.2.1 ≤ PB 5000) ∧
  ∀ l H', H' l = some (.lst ((tms ts z).map V.int)) → Same H H' → H l = none → Q (.ref l) H'
structure TxM (K : PySem.W.Frag) (mg : Str → Option Value) (aT : Addr) : Prop where
  B : Bi mg
  dT : Dfn K mg "_law_times" st__law_times aT ["_law_rows_here", "_law_bound"]
theorem tms_take {ts : List Trn} {i : Nat} {t : Trn} (B : Int) (h : ts[i]? = some t) : tms (ts.take (i + 1)) B = tms (ts.take i) B ++ tmT t B := by
  unfold tms
  rw [List.take_add_one, h, List.flatMap_append]
  congr 1
  show tmT t B ++ [] = _
  rw [List.append_nil]
theorem tms_size {ts : List Trn} {B : Int} (h : ∀ t ∈ ts, OkTr t) (hb : ∀ t ∈ ts, nbT t B ≤ 1000) : (tms ts B).length ≤ 1000 * ts.length := by
  induction ts with
  | nil => exact Nat.le_refl _
  | cons t ts ih =>
    have h1 := tmT_len (h t (List.mem_cons_self ..)) B
    have h2 := hb t (List.mem_cons_self ..)
    have h3 := ih (fun u hu => h u (List.mem_cons_of_mem _ hu)) fun u hu => hb u (List.mem_cons_of_mem _ hu)
    show (tmT t B ++ tms ts B).length ≤ 1000 * (ts.length + 1)
    rw [List.length_append]
    omega
theorem many_steps {d s : Int} (hs : 0 < s) : (if (d + s - 1) / s > 0 then (d + s - 1) / s else 0) = stepsUp d s := by
  have e : (d + s - 1) / s = cl d s := by
    unfold cl
    refine Int.le_antisymm ?_ ?_
    · have h1 : (d + s - 1) / s < -(-d / s) + 1 := by
        refine (Int.ediv_lt_iff_lt_mul hs).mpr ?_
        have h2 : cl d s ≤ cl d s := Int.le_refl _
        have h3 := (cl_le hs).mp h2
        unfold cl at h3
        rw [Int.add_mul, Int.one_mul]
        omega
      omega
    · refine (Int.le_ediv_iff_mul_le hs).mpr ?_
      have h3 := (cl_gt (d := d) (s := s) (n := cl d s - 1) hs).mp (by omega)
      unfold cl at h3
      rw [Int.sub_mul, Int.one_mul] at h3
      omega
  rw [e, stepsUp_cl]
section
variable {P : Program} {w : World} {K : PySem.W.Frag} {mg : Str → Option Value} {base : Heap} {aT : Addr}
abbrev N_wtimes : List Str := ["_law_rows_here", "_law_bound", "_law_found", "_law_start", "_law_step", "_law_count", "_law_many", "_law_at"]
theorem sc_wtimes : FnScope N_wtimes ["_law_rows_here", "_law_bound"] (defScope st__law_times) := ⟨rfl, rfl, rfl, by decide +kernel, rfl, by decide +kernel, by decide +kernel⟩
theorem ok_times (T : TxM K mg aT) : Cal P w K mg base "_law_times" 1 aT ["_law_rows_here", "_law_bound"] spTms := T.dT.cal fun fd F => by
  have B := T.B
  have nd := sc_wtimes.nd
  refine F.ok sc_wtimes (fun vs H Q E h => ?_) (fun cdv A outer s H vs Q E hr h => ?_)
  · obtain ⟨a, xs, ts, z, rfl, _⟩ := h
    rfl
  · obtain ⟨a, xs, ts, z, rfl, ha, hx, ho, hb, hln, hnb, hst, k⟩ := h
    refine ⟨_, (pss_cons (ps_set (i := 2) nd rfl (Or.inl rfl) (pe_lst pa_nil))
       (pss_cons (ps_for PassesOwn.never rfl (pi_list (pv 0)) (pg_tup rfl (pgs_cons (pg_name (i := 3) nd rfl (Or.inr rfl)) (pgs_cons (pg_name (i := 4) nd rfl (Or.inr rfl)) (pgs_cons (pg_name (i := 5) nd rfl (Or.inl rfl)) pgs_nil)))) (pss_cons (ps_set (i := 6) nd rfl (Or.inl rfl) (pe_callB (call_max2 rfl) (by rfl) B.max (by decide +kernel) (pa_cons pe_int (pa_cons (pe_op op_fdivW (pe_op op_sub (pe_op op_add (pe_op op_sub (pv 1) (pv 3)) (pv 4)) pe_int) (pv 4)) pa_nil))))
       (pss_one (ps_expr (pe_bm PySem.F.plainAttrs_list PySem.F.slot_list_extend PySem.F.type_list_extend mt_extend (pv 2) (pa_cons (pe_lc (own := [("_law_at", 7)]) (g := gName 7) (tt := tYes) rfl nd (pi_range1 rfl B.range (pa_cons (pe_ifExp (pt_cmp (pc_isN (pv 5))) (pv 6) (pe_callB (call_min2 rfl) (by rfl) B.min (by decide +kernel) (pa_cons (pv 5) (pa_cons (pv 6) pa_nil)))) pa_nil)) (blkOk_by (own := [("_law_at", 7)]) (N := N_wtimes) (sc := defScope st__law_times) (by decide +kernel)) (fun _ _ _ _ _ => pg_name (i := 7) nd rfl (Or.inl rfl)) (fun _ _ _ _ _ => pts_nil) (fun _ _ _ _ _ => (pe_op op_add (pv 3) (pe_op op_mulW (pv 4) (pv 7))))) pa_nil))))))
       (pss_one (ps_ret (pv 2))))), ?_⟩
    have hxl := hx.len
    refine ⟨(by show 0 ≤ sizeLine; decide), fun l hl => ?_⟩
    have s1 : Same H (upd H l (.lst [])) := Same.upd hl
    refine ⟨_, rfl, a, rfl, ⟨_, SqL.of (s1 _ _ ha)⟩, for_list (K := K) (a := a) (xs := xs) (fun i σ H2 => ∃ v3 v4 v5 v6 : Option V, σ = [some (.ref a), some (.int z), some (.ref l), v3, v4, v5, v6, none] ∧ H2 l = some (.lst ((tms (ts.take i) z).map V.int)) ∧ Same H H2)
      ⟨none, none, none, none, rfl, upd_same, s1⟩ (fun i σ H2 _ ⟨_, _, _, _, _, _, sH⟩ => SqL.of (sH _ _ ha)) ?_ ?_⟩
    · rintro i x σ H2 hxi ⟨v3, v4, v5, v6, rfl, hl2, sH⟩
      obtain ⟨t, ht, b, rfl, hbt⟩ := hx.get hxi
      have htm := List.mem_of_getElem? ht
      have ok := ho t htm
      have p1 := ok.2.1
      have p2 : t.2.1 ≤ BB := (hb t htm).p
      refine ⟨b, _, rfl, SqT.of (sH _ _ hbt), rfl, _, _, rfl, _, _, rfl, _, _, rfl, rfl, ?_⟩
      refine ⟨_, rfl, _, rfl, _, _, rfl, rfl, _, rfl, _, _, rfl, rfl, _, _, rfl, rfl, _, rfl, _, _, rfl, rfl, ⟨by omega, divBB p1 p2⟩, _, _, rfl, ?_⟩
      have e0 : (if (z - t.1 + t.2.1 - 1) / t.2.1 > 0 then (z - t.1 + t.2.1 - 1) / t.2.1 else 0) = stepsUp (z - t.1) t.2.1 := many_steps (by omega)
      have e0' : (if 0 < (z - t.1 + t.2.1 - 1) / t.2.1 then (z - t.1 + t.2.1 - 1) / t.2.1 else 0) = stepsUp (z - t.1) t.2.1 := e0
      rw [e0]
      have n0 := nbT_nn ok z
      have n1 := hnb t htm
      have hst2 : stepsUp (z - t.1) t.2.1 ≤ BB := hst t htm
      have htake : (ts.take i).length ≤ 10 := by rw [List.length_take]; omega
      have hsz := tms_size (ts := ts.take i) (B := z) (fun u hu => ho u (List.mem_of_mem_take hu)) fun u hu => hnb u (List.mem_of_mem_take hu)
      have htl := tmT_len ok z
      refine ⟨_, rfl, .inl ⟨rfl, _, SqL.of hl2⟩, _, rfl, _, rfl, ?_⟩
      cases hk : t.2.2 with
      | none =>
        have en : nbT t z = stepsUp (z - t.1) t.2.1 := by unfold nbT; rw [hk]; rfl
        rw [← en]
        refine iteT ⟨_, rfl, nbT t z, rfl, by omega, by omega, fun E1 hE => ?_⟩
        refine lc_range (lo := 0) (n := (nbT t z).toNat) (fun j H3 => H3 E1 = some (.lst ((((List.range j).map fun j => t.1 + t.2.1 * (j : Nat))).map V.int)) ∧ Same H2 H3) ⟨upd_same, Same.upd hE⟩ ?_ ?_
        · rintro j H3 hj ⟨hD, s3⟩
          refine ⟨rfl, tYes_of ⟨_, rfl, _, rfl, _, rfl, _, _, rfl, rfl, mulBB (by omega) (by omega) (by omega) (by have := BB1; have : PB 10 ≤ BB := PB_le (by decide); have e10 : PB 10 = 1024 := (by unfold PB; decide); omega), _, _, rfl, rfl, ?_⟩⟩
          refine ⟨_, hD, small1 (by rw [List.length_map, List.length_map, List.length_range]; omega), ?_, fun b o e => ?_⟩
          · rw [upd_same, List.range_succ, List.map_append, List.map_append]
            show _ = some (HO.lst (_ ++ [V.int (t.1 + t.2.1 * (j : Nat))]))
            rw [Int.zero_add]
          · rw [upd_ne (ne_of_none e hE)]
            exact s3 _ _ e
        · rintro H3 ⟨hD, s3⟩
          have nE : E1 ≠ l := fun e => by subst e; rw [hl2] at hE; cases hE
          refine ⟨l, E1, _, _, rfl, rfl, s3 _ _ hl2, hD, small2 (by rw [List.length_map, List.length_map]; show _ + (tmT t z).length ≤ 100000; omega), ?_⟩
          refine ⟨_, _, _, _, rfl, ?_, fun b o e => ?_⟩
          · rw [upd_same, tms_take z ht, List.map_append]
            rfl
          · rw [upd_ne (ne_of_none e hl)]
            exact s3 _ _ (sH _ _ e)
      | some c =>
        have en : nbT t z = if c < stepsUp (z - t.1) t.2.1 then c else stepsUp (z - t.1) t.2.1 := by unfold nbT; rw [hk]; rfl
        have en2 : (if stepsUp (z - t.1) t.2.1 < c then stepsUp (z - t.1) t.2.1 else c) = nbT t z := by
          rw [en]
          split <;> split <;> omega
        refine iteF ⟨_, rfl, _, rfl, _, _, rfl, ?_⟩
        rw [en2]
        refine ⟨nbT t z, rfl, by omega, by omega, fun E1 hE => ?_⟩
        refine lc_range (lo := 0) (n := (nbT t z).toNat) (fun j H3 => H3 E1 = some (.lst ((((List.range j).map fun j => t.1 + t.2.1 * (j : Nat))).map V.int)) ∧ Same H2 H3) ⟨upd_same, Same.upd hE⟩ ?_ ?_
        · rintro j H3 hj ⟨hD, s3⟩
          refine ⟨rfl, tYes_of ⟨_, rfl, _, rfl, _, rfl, _, _, rfl, rfl, mulBB (by omega) (by omega) (by omega) (by have := BB1; have : PB 10 ≤ BB := PB_le (by decide); have e10 : PB 10 = 1024 := (by unfold PB; decide); omega), _, _, rfl, rfl, ?_⟩⟩
          refine ⟨_, hD, small1 (by rw [List.length_map, List.length_map, List.length_range]; omega), ?_, fun b o e => ?_⟩
          · rw [upd_same, List.range_succ, List.map_append, List.map_append]
            show _ = some (HO.lst (_ ++ [V.int (t.1 + t.2.1 * (j : Nat))]))
            rw [Int.zero_add]
          · rw [upd_ne (ne_of_none e hE)]
            exact s3 _ _ e
        · rintro H3 ⟨hD, s3⟩
          have nE : E1 ≠ l := fun e => by subst e; rw [hl2] at hE; cases hE
          refine ⟨l, E1, _, _, rfl, rfl, s3 _ _ hl2, hD, small2 (by rw [List.length_map, List.length_map]; show _ + (tmT t z).length ≤ 100000; omega), ?_⟩
          refine ⟨_, _, _, _, rfl, ?_, fun b o e => ?_⟩
          · rw [upd_same, tms_take z ht, List.map_append]
            rfl
          · rw [upd_ne (ne_of_none e hl)]
            exact s3 _ _ (sH _ _ e)
    · rintro σ H2 ⟨v3, v4, v5, v6, rfl, hl2, sH⟩
      rw [hxl, List.take_length] at hl2
      exact ⟨_, rfl, k l H2 hl2 sH hl⟩
end
/-! ### near rows -/
theorem PB4 : PB 4 = 16 := by unfold PB; decide
theorem rows_small {ts : List Trn} (R : RowsOk 13 8 ts) : (∀ t ∈ ts, BT 810 t) ∧ ts.length ≤ 8 ∧ (∀ t ∈ ts, t.1 ≤ 1477 ∧ t.2.1 ≤ 13) ∧ ∀ t ∈ ts, ∀ c, t.2.2 = some c → c ≤ 13 ∧ t.1 + (c - 1) * t.2.1 ≤ 1646 := by
  have h4 : PB 4 ≤ PB 401 := PB_le (by decide)
  have h5 := PB4
  have hl := R.ln
  have bd := R.bd
  have e : (13 : Int) + 8 * gF 13 = 1477 := by decide
  rw [e] at bd
  refine ⟨R.bt (by decide) (by omega), by omega, fun t ht => ⟨(bd t ht).1, (bd t ht).2.1⟩, fun t ht c hc => ?_⟩
  have h1 := bd t ht
  have ok := R.srt.1 t ht
  have c1 := ok.2.2 c hc
  have c2 := h1.2.2 c hc
  have p1 := ok.2.1
  have : (c - 1) * t.2.1 ≤ 12 * 13 := Int.mul_le_mul (by omega) h1.2.1 (by omega) (by decide)
  exact ⟨c2, by omega⟩
theorem steps_le {d p : Int} (hp : 0 < p) : stepsUp d p ≤ if 0 < d then d else 0 := by
  rw [stepsUp_cl]
  have h : cl d p ≤ (if 0 < d then d else 0) := (cl_le hp).mpr (by
    split
    · have : d * 1 ≤ d * p := Int.mul_le_mul_of_nonneg_left (by omega) (by omega)
      omega
    · omega)
  split <;> (try split) <;> (try split at h) <;> omega
theorem tms_fit {ts : List Trn} (R : RowsOk 13 8 ts) {B : Int} (hB : B ≤ PB 899) (hn : ∀ t ∈ ts, t.2.2 = none → B ≤ t.1 + 1000) : (∀ t ∈ ts, nbT t B ≤ 1000) ∧ ∀ t ∈ ts, stepsUp (B - t.1) t.2.1 ≤ PB 5000 := by
  obtain ⟨_, _, h3, h4⟩ := rows_small R
  refine ⟨fun t ht => ?_, fun t ht => ?_⟩
  · have ok := R.srt.1 t ht
    have p1 := ok.2.1
    cases hk : t.2.2 with
    | some c =>
      have := nbT_le (x := B) hk
      have := (h4 t ht c hk).1
      omega
    | none =>
      have := hn t ht hk
      have := steps_le (d := B - t.1) (p := t.2.1) (by omega)
      unfold nbT
      rw [hk]
      show stepsUp (B - t.1) t.2.1 ≤ 1000
      split at this <;> omega
  · have ok := R.srt.1 t ht
    have p1 := ok.2.1
    have s0 := ok.1
    have := steps_le (d := B - t.1) (p := t.2.1) (by omega)
    have e1 : PB 899 ≤ PB 5000 := PB_le (by decide)
    have e2 := PB_pos 5000
    split at this <;> omega
theorem tms_sizeN {ts : List Trn} {B : Int} {m : Nat} (h : ∀ t ∈ ts, OkTr t) (hb : ∀ t ∈ ts, nbT t B ≤ m) : (tms ts B).length ≤ m * ts.length := by
  induction ts with
  | nil => exact Nat.le_refl _
  | cons t ts ih =>
    have h1 := tmT_len (h t (List.mem_cons_self ..)) B
    have h2 := hb t (List.mem_cons_self ..)
    have h3 := ih (fun u hu => h u (List.mem_cons_of_mem _ hu)) fun u hu => hb u (List.mem_cons_of_mem _ hu)
    show (tmT t B ++ tms ts B).length ≤ m * (ts.length + 1)
    rw [List.length_append, Nat.mul_add]
    omega
/-! ### what a breaker passes -/
def thrL (t : Trn) (wt x : Int) : List Trn := match t.2.2 with
  | none => [(t.1 + nbT t x * t.2.1, stepsUp wt t.2.1 * t.2.1, none)]
  | some c => if nbT t x = c then [] else [(t.1 + nbT t x * t.2.1, stepsUp wt t.2.1 * t.2.1, some (stepsUp (c - nbT t x) (stepsUp wt t.2.1)))]
def lastO (o : Int) (u : Trn) : Int := match u.2.2 with
  | none => o
  | some d => u.1 + (d - 1) * u.2.1
def thnG (wt : Int) : Int → List Trn → List Trn
  | _, [] => []
  | o, t :: r => thrL t wt (o + wt) ++ thnG wt (match thrL t wt (o + wt) with | [] => o | u :: _ => lastO o u) r
theorem stepsUp_pos {d s : Int} (hd : 0 < d) (hs : 0 < s) : stepsUp d s = cl d s ∧ 1 ≤ cl d s := by
  have : 0 < cl d s := (cl_gt hs).mpr (by rw [Int.zero_mul]; exact hd)
  rw [stepsUp_cl, if_pos this]
  exact ⟨rfl, this⟩
/-- of a train: the place behind the i-th time and the wait -/
theorem nbT_next {t : Trn} (h : OkTr t) {wt i : Int} (i0 : 0 ≤ i) (w0 : 1 ≤ wt) : nbT t (t.1 + i * t.2.1 + wt) = minO (i + cl wt t.2.1) t.2.2 := by
  obtain ⟨s, p, k⟩ := t
  have hp : 0 < p := by
    have h2 : 1 ≤ p := h.2.1
    omega
  show minO (stepsUp (s + i * p + wt - s) p) k = minO (i + cl wt p) k
  have e : s + i * p + wt - s = wt - (-i) * p := by rw [Int.neg_mul]; omega
  have c1 := (stepsUp_pos (d := wt) (by omega) hp).2
  rw [e, stepsUp_cl, cl_sub _ _ _ hp, if_pos (by omega)]
  congr 1
  omega
theorem nx_head_in {t : Trn} {r : List Trn} (hs : Srt (t :: r)) {x j : Int} (hj : nbT t x = j) (hc : ∀ c, t.2.2 = some c → j < c) : nxT (t :: r) x = some (t.1 + j * t.2.1) := by
  have j0 : 0 ≤ j := by rw [← hj]; exact nbT_nn hs.head x
  have z : NB r x = 0 := by
    by_cases q : NB r x = 0
    · exact q
    · have : ∃ u ∈ r, u.1 < x := by
        by_cases z : ∃ u ∈ r, u.1 < x
        · exact z
        · exact absurd (NB_zero hs.tail.1 (x := x) fun u hu => by
            by_cases w : x ≤ u.1
            · exact w
            · exact absurd ⟨u, hu, by omega⟩ z) q
      obtain ⟨u, hu, hx⟩ := this
      obtain ⟨c, hc', hl⟩ := hs.lt u hu
      have := nbT_all hs.head hc' (x := x) (by omega)
      have := hc c hc'
      omega
  unfold nxT
  have e : NB (t :: r) x = j := by
    show nbT t x + NB r x = j
    omega
  rw [e, At_lo hc]
theorem nx_tail {t : Trn} {r : List Trn} (hs : Srt (t :: r)) {x c : Int} (hc : t.2.2 = some c) (hj : nbT t x = c) : nxT (t :: r) x = nxT r x := by
  have nn := NB_nn hs.tail.1 x
  unfold nxT
  have e : NB (t :: r) x = c + NB r x := by
    show nbT t x + NB r x = c + NB r x
    rw [hj]
  rw [e, At_some_t hc, if_neg (by omega)]
  congr 1
  omega
theorem nx_ge {ts : List Trn} (h : Srt ts) {x y : Int} (e : nxT ts x = some y) : x ≤ y := by
  have n0 := NB_nn h.1 x
  have := At_lt h n0 e x
  omega
/-- each time but the first is the next one behind the one before and the wait -/
structure Pass (wt o : Int) (ts g : List Trn) : Prop where
  srt : Srt g
  lo : ∀ u ∈ g, o + wt ≤ u.1
  first : At g 0 = nxT ts (o + wt)
  next : ∀ i y, 0 ≤ i → At g i = some y → At g (i + 1) = nxT ts (y + wt)
theorem Pass.ge {wt o : Int} {ts g : List Trn} (h : Pass wt o ts g) {i y : Int} (i0 : 0 ≤ i) (e : At g i = some y) : o + wt ≤ y := by
  have z : NB g (o + wt) = 0 := NB_zero h.srt.1 h.lo
  have := At_lt h.srt i0 e (o + wt)
  omega
theorem At_mono {ts : List Trn} (h : ∀ t ∈ ts, OkTr t) {i j : Int} (i0 : 0 ≤ i) (hij : i ≤ j) (e : At ts i = none) : At ts j = none := by
  obtain ⟨n, h1, h2⟩ := (At_none h i0).mp e
  exact (At_none h (by omega)).mpr ⟨n, h1, by omega⟩
theorem thn_pass {wt : Int} (w0 : 1 ≤ wt) : ∀ {ts : List Trn}, Srt ts → ∀ o : Int, Pass wt o ts (thnG wt o ts)
  | [], _, o => ⟨⟨fun t ht => (by cases ht), List.Pairwise.nil⟩, fun u hu => (by cases hu), rfl, fun i y _ e => (by cases e)⟩
  | t :: r, hs, o => by
    have ok := hs.head
    have hp := ok.2.1
    have n0 := nbT_nn ok (o + wt)
    obtain ⟨e1, c1⟩ := stepsUp_pos (d := wt) (s := t.2.1) (by omega) (by omega)
    have wle : wt ≤ cl wt t.2.1 * t.2.1 := (cl_le (by omega)).mp (Int.le_refl _)
    -- times of t behind its end
    cases hk : t.2.2 with
    | none =>
      have r0 : r = [] := by
        cases r with
        | nil => rfl
        | cons v r =>
          obtain ⟨c, z, _⟩ := hs.lt v (List.mem_cons_self ..)
          rw [hk] at z; cases z
      subst r0
      have eg : thnG wt o [t] = [(t.1 + nbT t (o + wt) * t.2.1, cl wt t.2.1 * t.2.1, none)] := by
        show thrL t wt (o + wt) ++ [] = _
        rw [List.append_nil]
        unfold thrL
        rw [hk, e1]
      rw [eg]
      have sp : 1 ≤ cl wt t.2.1 * t.2.1 := by omega
      have m0 : 0 ≤ nbT t (o + wt) * t.2.1 := Int.mul_nonneg n0 (by omega)
      have fst : At [(t.1 + nbT t (o + wt) * t.2.1, cl wt t.2.1 * t.2.1, none)] 0 = nxT [t] (o + wt) := by
        rw [At_none_t rfl, nx_head_in hs rfl (fun c z => by rw [hk] at z; cases z)]
        show some (t.1 + nbT t (o + wt) * t.2.1 + 0 * _) = _
        rw [Int.zero_mul, Int.add_zero]
      have lo := nx_ge hs (fst.symm.trans (At_none_t rfl 0))
      refine ⟨⟨fun u hu => ?_, List.pairwise_singleton _ _⟩, fun u hu => ?_, fst, fun i y i0 e => ?_⟩
      · rw [List.mem_singleton.mp hu]
        exact ⟨by have := ok.1; show 0 ≤ t.1 + _; omega, sp, fun c z => by cases z⟩
      · rw [List.mem_singleton.mp hu]
        have lo : o + wt ≤ t.1 + nbT t (o + wt) * t.2.1 + 0 * (cl wt t.2.1 * t.2.1) := lo
        rw [Int.zero_mul, Int.add_zero] at lo
        exact lo
      · rw [At_none_t rfl] at e
        have e := Option.some.inj e
        have ey : y = t.1 + (nbT t (o + wt) + i * cl wt t.2.1) * t.2.1 := by
          rw [← e]
          show t.1 + nbT t (o + wt) * t.2.1 + i * (cl wt t.2.1 * t.2.1) = _
          rw [Int.add_mul, Int.mul_assoc]
          omega
        have nn : 0 ≤ nbT t (o + wt) + i * cl wt t.2.1 := by
          have : 0 ≤ i * cl wt t.2.1 := Int.mul_nonneg i0 (by omega)
          omega
        have q := nbT_next ok nn w0
        rw [← ey, hk] at q
        have q : nbT t (y + wt) = nbT t (o + wt) + i * cl wt t.2.1 + cl wt t.2.1 := q
        rw [nx_head_in hs q (fun c z => by rw [hk] at z; cases z), At_none_t rfl]
        show some (t.1 + nbT t (o + wt) * t.2.1 + (i + 1) * (cl wt t.2.1 * t.2.1)) = _
        congr 1
        rw [Int.add_mul, Int.add_mul, Int.add_mul, Int.mul_assoc, Int.one_mul]
        omega
    | some c =>
      have nle := nbT_le (x := o + wt) hk
      have cc := ok.2.2 c hk
      by_cases q : nbT t (o + wt) = c
      · have eg : thnG wt o (t :: r) = thnG wt o r := by
          have e3 : thrL t wt (o + wt) = [] := by
            unfold thrL
            rw [hk]
            exact if_pos q
          show thrL t wt (o + wt) ++ thnG wt (match thrL t wt (o + wt) with | [] => o | u :: _ => lastO o u) r = _
          rw [e3]
          rfl
        rw [eg]
        have ih := thn_pass w0 hs.tail o
        refine ⟨ih.srt, ih.lo, by rw [ih.first, nx_tail hs hk q], fun i y i0 e => ?_⟩
        have ge := ih.ge i0 e
        have : nbT t (y + wt) = c := by
          have h1 := (nbT_lt ok (x := o + wt) (i := c - 1) (by omega) (fun d hd => by rw [hk] at hd; cases hd; omega)).mp (by omega)
          exact nbT_all ok hk (by omega)
        rw [ih.next i y i0 e, nx_tail hs hk this]
      · have lt : nbT t (o + wt) < c := by omega
        have clp : 0 < cl wt t.2.1 := by omega
        obtain ⟨e4, d1⟩ := stepsUp_pos (d := c - nbT t (o + wt)) (s := cl wt t.2.1) (by omega) clp
        obtain ⟨k0, hk0⟩ : ∃ k0, k0 = nbT t (o + wt) := ⟨_, rfl⟩
        obtain ⟨st, hst⟩ : ∃ st, st = cl wt t.2.1 := ⟨_, rfl⟩
        obtain ⟨d, hd⟩ : ∃ d, d = cl (c - k0) st := ⟨_, rfl⟩
        rw [← hk0, ← hst, ← hd] at d1
        have dlo : (d - 1) * st < c - k0 := (cl_gt (by omega)).mp (by rw [← hd]; omega)
        have dhi : c - k0 ≤ d * st := (cl_le (by omega)).mp (by rw [← hd]; exact Int.le_refl _)
        obtain ⟨u, hu⟩ : ∃ u : Trn, u = (t.1 + k0 * t.2.1, st * t.2.1, some d) := ⟨_, rfl⟩
        have eg : thnG wt o (t :: r) = u :: thnG wt (u.1 + (d - 1) * u.2.1) r := by
          have e3 : thrL t wt (o + wt) = [u] := by
            unfold thrL
            rw [hk]
            show (if nbT t (o + wt) = c then [] else _) = _
            rw [if_neg q, e1, e4, ← hk0, ← hst, ← hd, hu]
          show thrL t wt (o + wt) ++ thnG wt (match thrL t wt (o + wt) with | [] => o | u :: _ => lastO o u) r = _
          rw [e3, hu]
          rfl
        rw [eg]
        have ih := thn_pass w0 hs.tail (u.1 + (d - 1) * u.2.1)
        have uk : u.2.2 = some d := by rw [hu]
        have k00 : 0 ≤ k0 := by rw [hk0]; exact n0
        have m0 : 0 ≤ k0 * t.2.1 := Int.mul_nonneg k00 (by omega)
        have okU : OkTr u := by
          rw [hu]
          refine ⟨by have := ok.1; show 0 ≤ t.1 + _; omega, by show 1 ≤ st * t.2.1; rw [hst]; omega, fun z hz => by cases hz; exact d1⟩
        have uy : ∀ j : Int, u.1 + j * u.2.1 = t.1 + (k0 + j * st) * t.2.1 := fun j => by
          rw [hu]
          show t.1 + k0 * t.2.1 + j * (st * t.2.1) = _
          rw [Int.add_mul, Int.mul_assoc]
          omega
        have fst : At (u :: thnG wt (u.1 + (d - 1) * u.2.1) r) 0 = nxT (t :: r) (o + wt) := by
          rw [At_head okU, nx_head_in hs hk0.symm (fun c' hc' => by rw [hk] at hc'; cases hc'; omega), hu]
        have ulo : o + wt ≤ u.1 := by
          have := nx_ge hs (fst.symm.trans (At_head okU))
          exact this
        have tail_all : ∀ z, t.1 + (c - 1) * t.2.1 < z → nbT t z = c := fun z hz => nbT_all ok hk hz
        have lastlt : ∀ v ∈ r, t.1 + (c - 1) * t.2.1 < v.1 := fun v hv => by
          obtain ⟨c', hc', l⟩ := hs.lt v hv
          rw [hk] at hc'
          cases hc'
          exact l
        -- behind the last time of u no time of t comes
        have uend : nbT t (u.1 + (d - 1) * u.2.1 + wt) = c := by
          rw [uy]
          have nn : 0 ≤ k0 + (d - 1) * st := by
            have : 0 ≤ (d - 1) * st := Int.mul_nonneg (by omega) (by omega)
            omega
          rw [nbT_next ok nn w0, hk, ← hst]
          show (if c < k0 + (d - 1) * st + st then c else k0 + (d - 1) * st + st) = c
          have : (d - 1) * st + st = d * st := by rw [Int.sub_mul, Int.one_mul]; omega
          split <;> omega
        refine ⟨⟨fun v hv => ?_, List.pairwise_cons.mpr ⟨fun v hv => ?_, ih.srt.2⟩⟩, fun v hv => ?_, fst, fun i y i0 e => ?_⟩
        · rcases List.mem_cons.mp hv with rfl | hv
          · exact okU
          · exact ih.srt.1 v hv
        · exact ⟨d, uk, by have := ih.lo v hv; omega⟩
        · rcases List.mem_cons.mp hv with rfl | hv
          · exact ulo
          · have := ih.lo v hv
            have : 0 ≤ (d - 1) * u.2.1 := Int.mul_nonneg (by omega) (by have := okU.2.1; omega)
            omega
        · rw [At_some_t uk] at e
          by_cases hi : i < d
          · rw [if_pos hi] at e
            have ey := Option.some.inj e
            have nn : 0 ≤ k0 + i * st := by
              have : 0 ≤ i * st := Int.mul_nonneg i0 (by omega)
              omega
            have hq := nbT_next ok nn w0
            rw [← uy, ey, hk, ← hst] at hq
            have hq : nbT t (y + wt) = if c < k0 + i * st + st then c else k0 + i * st + st := hq
            by_cases hi2 : i + 1 < d
            · have lt2 : k0 + i * st + st < c := by
                have : (i + 1) * st ≤ (d - 1) * st := Int.mul_le_mul_of_nonneg_right (by omega) (by omega)
                rw [Int.add_mul, Int.one_mul] at this
                omega
              rw [if_neg (by omega)] at hq
              rw [nx_head_in hs hq (fun c' hc' => by rw [hk] at hc'; cases hc'; exact lt2), At_some_t uk, if_pos hi2, uy]
              congr 3
              rw [Int.add_mul, Int.one_mul]
              omega
            · have ei : i = d - 1 := by omega
              subst ei
              have hq2 : nbT t (y + wt) = c := by rw [← ey]; exact uend
              rw [nx_tail hs hk hq2, At_some_t uk, if_neg (by omega), ← ey]
              have := ih.first
              rw [← this]
              congr 1
              omega
          · rw [if_neg hi] at e
            have ge := ih.ge (by omega) e
            have hq : nbT t (y + wt) = c := by
              have h1 : t.1 + (c - 1) * t.2.1 < u.1 + (d - 1) * u.2.1 + wt := (nbT_lt ok (by omega) (fun d' hd' => by rw [hk] at hd'; cases hd'; omega)).mp (by rw [uend]; omega)
              exact tail_all _ (by omega)
            have nx := ih.next (i - d) y (by omega) e
            rw [nx_tail hs hk hq, At_some_t uk, if_neg (by omega), ← nx]
            congr 1
            omega
/-! ### windows -/
def hiW (t : Trn) : Option Int → Option Int
  | none => t.2.2
  | some a => some (nbT t a)
def wnT (t : Trn) (f : Int) (after : Option Int) : List Trn := partL t (nbT t f) (hiW t after)
def win (ts : List Trn) (f : Int) (after : Option Int) : List Trn := ts.flatMap fun t => wnT t f after
def cx (f : Int) (after : Option Int) (x : Int) : Int := match after with
  | none => if x < f then f else x
  | some a => if x < f then f else if a < x then a else x
theorem cl_mono {d e p : Int} (hp : 0 < p) (h : d ≤ e) : cl d p ≤ cl e p := (cl_le hp).mpr (Int.le_trans h ((cl_le hp).mp (Int.le_refl _)))
theorem nbT_mono {t : Trn} (h : OkTr t) {x y : Int} (l : x ≤ y) : nbT t x ≤ nbT t y := by
  obtain ⟨s, p, k⟩ := t
  have hp : 0 < p := by
    have h2 : 1 ≤ p := h.2.1
    omega
  have c := cl_mono (p := p) hp (show x - s ≤ y - s by omega)
  show minO (stepsUp (x - s) p) k ≤ minO (stepsUp (y - s) p) k
  rw [stepsUp_cl, stepsUp_cl]
  cases k with
  | none =>
    show (if cl (x - s) p > 0 then cl (x - s) p else 0) ≤ (if cl (y - s) p > 0 then cl (y - s) p else 0)
    split <;> split <;> omega
  | some d =>
    show (if d < (if cl (x - s) p > 0 then cl (x - s) p else 0) then d else (if cl (x - s) p > 0 then cl (x - s) p else 0)) ≤ (if d < (if cl (y - s) p > 0 then cl (y - s) p else 0) then d else (if cl (y - s) p > 0 then cl (y - s) p else 0))
    repeat' split
    all_goals omega
theorem NB_mono {ts : List Trn} (h : ∀ t ∈ ts, OkTr t) {x y : Int} (l : x ≤ y) : NB ts x ≤ NB ts y := by
  induction ts with
  | nil => exact Int.le_refl _
  | cons t ts ih =>
    have := nbT_mono (h t (List.mem_cons_self ..)) l
    have := ih fun u hu => h u (List.mem_cons_of_mem _ hu)
    show nbT t x + NB ts x ≤ nbT t y + NB ts y
    omega
theorem wn_nb {t : Trn} (h : OkTr t) {f : Int} {after : Option Int} (hf : ∀ a, after = some a → f ≤ a) (x : Int) : NB (wnT t f after) x = nbT t (cx f after x) - nbT t f := by
  obtain ⟨s, p, k⟩ := t
  have hp : 0 < p := by
    have h2 : 1 ≤ p := h.2.1
    omega
  have n0 := nbT_nn h f
  have low : ∀ z, z ≤ f → nbT (s, p, k) z ≤ nbT (s, p, k) f := fun z hz => nbT_mono h hz
  have e0 : x - (s + nbT (s, p, k) f * p) = x - s - nbT (s, p, k) f * p := by omega
  have one : ∀ (hi : Option Int), nbT (s + nbT (s, p, k) f * p, p, hi) x = minO (if cl (x - s) p - nbT (s, p, k) f > 0 then cl (x - s) p - nbT (s, p, k) f else 0) hi := fun hi => by
    show minO (stepsUp (x - (s + nbT (s, p, k) f * p)) p) hi = _
    rw [e0, stepsUp_cl, cl_sub _ _ _ hp]
  have full : nbT (s, p, k) x = minO (if cl (x - s) p > 0 then cl (x - s) p else 0) k := by
    show minO (stepsUp (x - s) p) k = _
    rw [stepsUp_cl]
  have nx := nbT_nn h x
  cases after with
  | none =>
    have key : nbT (s, p, k) (cx f none x) = if x < f then nbT (s, p, k) f else nbT (s, p, k) x := by
      show nbT (s, p, k) (if x < f then f else x) = _
      split <;> rfl
    rw [key]
    have hl : x < f → nbT (s, p, k) x ≤ nbT (s, p, k) f := fun l => low x (by omega)
    have hg : ¬ x < f → nbT (s, p, k) f ≤ nbT (s, p, k) x := fun l => nbT_mono h (by omega)
    cases k with
    | none =>
      show nbT (s + nbT (s, p, none) f * p, p, none) x + 0 = _
      rw [one none]
      have full : nbT (s, p, none) x = if cl (x - s) p > 0 then cl (x - s) p else 0 := full
      show (if cl (x - s) p - nbT (s, p, none) f > 0 then cl (x - s) p - nbT (s, p, none) f else 0) + 0 = _
      generalize nbT (s, p, none) f = lo at *
      generalize nbT (s, p, none) x = nn at *
      split <;> split <;> (split at full) <;> omega
    | some c =>
      have hle : nbT (s, p, some c) f ≤ c := nbT_le rfl
      show NB (if nbT (s, p, some c) f = c then [] else [(s + nbT (s, p, some c) f * p, p, some (c - nbT (s, p, some c) f))]) x = _
      have full : nbT (s, p, some c) x = if c < (if cl (x - s) p > 0 then cl (x - s) p else 0) then c else (if cl (x - s) p > 0 then cl (x - s) p else 0) := full
      by_cases z : nbT (s, p, some c) f = c
      · rw [if_pos z]
        show (0 : Int) = _
        generalize nbT (s, p, some c) f = lo at *
        generalize nbT (s, p, some c) x = nn at *
        split <;> (split at full) <;> (try split at full) <;> omega
      · rw [if_neg z]
        show nbT (s + nbT (s, p, some c) f * p, p, some (c - nbT (s, p, some c) f)) x + 0 = _
        rw [one]
        show (if c - nbT (s, p, some c) f < (if cl (x - s) p - nbT (s, p, some c) f > 0 then cl (x - s) p - nbT (s, p, some c) f else 0) then c - nbT (s, p, some c) f else (if cl (x - s) p - nbT (s, p, some c) f > 0 then cl (x - s) p - nbT (s, p, some c) f else 0)) + 0 = _
        generalize nbT (s, p, some c) f = lo at *
        generalize nbT (s, p, some c) x = nn at *
        generalize cl (x - s) p = q at *
        by_cases w : x < f
        · have := hl w
          rw [if_pos w]
          repeat' split
          all_goals (repeat' split at full)
          all_goals omega
        · have := hg w
          rw [if_neg w]
          repeat' split
          all_goals (repeat' split at full)
          all_goals omega
  | some a =>
    have hfa := hf a rfl
    have key : nbT (s, p, k) (cx f (some a) x) = if x < f then nbT (s, p, k) f else if a < x then nbT (s, p, k) a else nbT (s, p, k) x := by
      show nbT (s, p, k) (if x < f then f else if a < x then a else x) = _
      split
      · rfl
      · split <;> rfl
    rw [key]
    have hl : x < f → nbT (s, p, k) x ≤ nbT (s, p, k) f := fun l => low x (by omega)
    have hg : ¬ x < f → nbT (s, p, k) f ≤ nbT (s, p, k) x := fun l => nbT_mono h (by omega)
    have ha1 : a < x → nbT (s, p, k) a ≤ nbT (s, p, k) x := fun l => nbT_mono h (by omega)
    have ha2 : ¬ a < x → nbT (s, p, k) x ≤ nbT (s, p, k) a := fun l => nbT_mono h (by omega)
    have hfa2 := nbT_mono h hfa
    have hc : ∀ c, k = some c → nbT (s, p, k) a ≤ c := fun c e => nbT_le e
    show NB (if nbT (s, p, k) f = nbT (s, p, k) a then [] else [(s + nbT (s, p, k) f * p, p, some (nbT (s, p, k) a - nbT (s, p, k) f))]) x = _
    have base : nbT (s, p, k) x ≤ nbT (s, p, k) a → (if cl (x - s) p - nbT (s, p, k) f > 0 then cl (x - s) p - nbT (s, p, k) f else 0) = (if nbT (s, p, k) x - nbT (s, p, k) f > 0 then nbT (s, p, k) x - nbT (s, p, k) f else 0) ∨ nbT (s, p, k) x = nbT (s, p, k) a ∧ nbT (s, p, k) x ≤ cl (x - s) p := fun _ => by
      cases k with
      | none =>
        have full : nbT (s, p, none) x = if cl (x - s) p > 0 then cl (x - s) p else 0 := full
        left
        generalize nbT (s, p, none) f = lo at *
        generalize nbT (s, p, none) x = nn at *
        repeat' split
        all_goals (repeat' split at full)
        all_goals omega
      | some c =>
        have full : nbT (s, p, some c) x = if c < (if cl (x - s) p > 0 then cl (x - s) p else 0) then c else (if cl (x - s) p > 0 then cl (x - s) p else 0) := full
        have := hc c rfl
        generalize nbT (s, p, some c) f = lo at *
        generalize nbT (s, p, some c) x = nn at *
        generalize nbT (s, p, some c) a = na at *
        generalize cl (x - s) p = q at *
        by_cases w : c < q
        · right
          repeat' split at full
          all_goals omega
        · left
          repeat' split
          all_goals (repeat' split at full)
          all_goals omega
    have big : nbT (s, p, k) a ≤ nbT (s, p, k) x → nbT (s, p, k) a ≤ (if cl (x - s) p > 0 then cl (x - s) p else 0) := fun l => by
      cases k with
      | none =>
        have full : nbT (s, p, none) x = if cl (x - s) p > 0 then cl (x - s) p else 0 := full
        omega
      | some c =>
        have full : nbT (s, p, some c) x = if c < (if cl (x - s) p > 0 then cl (x - s) p else 0) then c else (if cl (x - s) p > 0 then cl (x - s) p else 0) := full
        split at full <;> omega
    by_cases z : nbT (s, p, k) f = nbT (s, p, k) a
    · rw [if_pos z]
      show (0 : Int) = _
      generalize nbT (s, p, k) f = lo at *
      generalize nbT (s, p, k) x = nn at *
      generalize nbT (s, p, k) a = na at *
      split
      · omega
      · split <;> omega
    · rw [if_neg z]
      show nbT (s + nbT (s, p, k) f * p, p, some (nbT (s, p, k) a - nbT (s, p, k) f)) x + 0 = _
      rw [one]
      show (if nbT (s, p, k) a - nbT (s, p, k) f < (if cl (x - s) p - nbT (s, p, k) f > 0 then cl (x - s) p - nbT (s, p, k) f else 0) then nbT (s, p, k) a - nbT (s, p, k) f else (if cl (x - s) p - nbT (s, p, k) f > 0 then cl (x - s) p - nbT (s, p, k) f else 0)) + 0 = _
      clear full one e0 key low
      generalize nbT (s, p, k) f = lo at *
      generalize nbT (s, p, k) x = nn at *
      generalize nbT (s, p, k) a = na at *
      generalize cl (x - s) p = q at *
      by_cases w : x < f
      · rw [if_pos w]
        have := hl w
        rcases base (by omega) with b | b
        · rw [b]
          repeat' split
          all_goals omega
        · omega
      · rw [if_neg w]
        have := hg w
        by_cases v : a < x
        · rw [if_pos v]
          have := ha1 v
          have := big this
          repeat' split
          all_goals (repeat' split at *)
          all_goals omega
        · rw [if_neg v]
          have := ha2 v
          rcases base this with b | b
          · rw [b]
            repeat' split
            all_goals omega
          · obtain ⟨b1, b2⟩ := b
            repeat' split
            all_goals omega
theorem win_nb {ts : List Trn} (h : ∀ t ∈ ts, OkTr t) {f : Int} {after : Option Int} (hf : ∀ a, after = some a → f ≤ a) (x : Int) : NB (win ts f after) x = NB ts (cx f after x) - NB ts f := by
  induction ts with
  | nil => rfl
  | cons t ts ih =>
    have h1 := wn_nb (h t (List.mem_cons_self ..)) hf x
    have h2 := ih fun u hu => h u (List.mem_cons_of_mem _ hu)
    show NB (wnT t f after ++ win ts f after) x = nbT t (cx f after x) + NB ts (cx f after x) - (nbT t f + NB ts f)
    rw [NB_app, h1, h2]
    omega
/-! ### windows in the program -/
theorem steps_le' {d p : Int} (hp : 0 < p) : stepsUp d p ≤ if 0 < d then d else 0 := by
  rw [stepsUp_cl]
  have h : cl d p ≤ (if 0 < d then d else 0) := (cl_le hp).mpr (by
    split
    · have : d * 1 ≤ d * p := Int.mul_le_mul_of_nonneg_left (by omega) (by omega)
      omega
    · omega)
  split <;> (try split) <;> (try split at h) <;> omega
/-- the start of the train from its i-th time on -/
theorem part_start {t : Trn} (h : OkTr t) {x i : Int} (hi : nbT t x = i) (h0 : 0 < i) : t.1 + (i - 1) * t.2.1 < x := by
  refine (nbT_lt h (by omega) fun c hc => ?_).mp (by omega)
  have := nbT_le (x := x) hc
  omega
structure WnOk (n : Nat) (t u : Trn) : Prop where
  ok : OkTr u
  bt : BT n u
  lo : t.1 ≤ u.1
  lt : ∀ v, Lt t v → Lt u v
theorem wn_ok {t : Trn} (h : OkTr t) {n m : Nat} (b : BT n t) {f : Int} {after : Option Int} (f0 : 0 ≤ f) (hf : ∀ a, after = some a → f ≤ a) (fm : f ≤ PB m) (am : ∀ a, after = some a → a ≤ PB m) : (∀ u ∈ wnT t f after, WnOk (max n m + 1) t u) ∧ (wnT t f after).length ≤ 1 := by
  have n0 := nbT_nn h f
  have p1 := h.2.1
  have s0 := h.1
  have bs := b.s
  have bp := b.p
  have q1 : PB n ≤ PB (max n m) := PB_le (by omega)
  have q2 : PB m ≤ PB (max n m) := PB_le (by omega)
  have q3 := PB_succ (max n m)
  have q4 := PB_pos (max n m)
  have m0 : 0 ≤ nbT t f * t.2.1 := Int.mul_nonneg n0 (by omega)
  have lowst : nbT t f * t.2.1 < f + t.2.1 ∨ nbT t f = 0 := by
    by_cases z : nbT t f = 0
    · exact .inr z
    · left
      have := part_start h (x := f) rfl (by omega)
      rw [Int.sub_mul, Int.one_mul] at this
      omega
  have st : t.1 + nbT t f * t.2.1 ≤ PB (max n m + 1) := by
    rcases lowst with l | l
    · by_cases z : nbT t f = 0
      · rw [z, Int.zero_mul]; omega
      · have := part_start h (x := f) rfl (by omega)
        rw [Int.sub_mul, Int.one_mul] at this
        omega
    · rw [l, Int.zero_mul]; omega
  unfold wnT partL
  cases hh : hiW t after with
  | none =>
    have hk : t.2.2 = none := by
      cases after with
      | none => exact hh
      | some a => cases hh
    refine ⟨fun u hu => ?_, by show 1 ≤ 1; decide⟩
    rw [List.mem_singleton.mp hu]
    exact ⟨⟨by show 0 ≤ t.1 + _; omega, p1, fun c hc => by cases hc⟩, ⟨st, by show t.2.1 ≤ _; omega, fun c hc => by cases hc⟩, by show t.1 ≤ t.1 + _; omega, fun v ⟨c, hc, _⟩ => by rw [hk] at hc; cases hc⟩
  | some hi =>
    refine ⟨fun u hu => ?_, by show (if nbT t f = hi then [] else [_] : List Trn).length ≤ 1; split <;> simp⟩
    have hu : u ∈ (if nbT t f = hi then [] else [(t.1 + nbT t f * t.2.1, t.2.1, some (hi - nbT t f))] : List Trn) := hu
    have hge : nbT t f ≤ hi ∧ (∀ c, t.2.2 = some c → hi ≤ c) ∧ t.1 + (hi - 1) * t.2.1 ≤ PB (max n m + 1) := by
      cases after with
      | none =>
        have e : t.2.2 = some hi := hh
        have := b.c hi e
        exact ⟨nbT_le e, fun c hc => by rw [e] at hc; cases hc; omega, by omega⟩
      | some a =>
        have e : nbT t a = hi := Option.some.inj hh
        have am' := am a rfl
        have hfa := hf a rfl
        refine ⟨by rw [← e]; exact nbT_mono h hfa, fun c hc => by rw [← e]; exact nbT_le hc, ?_⟩
        by_cases z : 0 < hi
        · have := part_start h e z
          omega
        · have : (hi - 1) * t.2.1 ≤ 0 := Int.mul_nonpos_of_nonpos_of_nonneg (by omega) (by omega)
          omega
    obtain ⟨g1, g2, g3⟩ := hge
    by_cases z : nbT t f = hi
    · rw [if_pos z] at hu; simp at hu
    · rw [if_neg z] at hu
      rw [List.mem_singleton.mp hu]
      have eend : ∀ c : Int, hi - nbT t f = c → t.1 + nbT t f * t.2.1 + (c - 1) * t.2.1 = t.1 + (hi - 1) * t.2.1 := fun c e => by
        subst e
        rw [show hi - nbT t f - 1 = (hi - 1) - nbT t f by omega, Int.sub_mul (hi - 1)]
        omega
      refine ⟨⟨by show 0 ≤ t.1 + _; omega, p1, fun c hc => by have y : hi - nbT t f = c := Option.some.inj hc; omega⟩, ⟨st, by show t.2.1 ≤ _; omega, fun c hc => ?_⟩, by show t.1 ≤ t.1 + _; omega, fun v ⟨c, hc, l⟩ => ?_⟩
      · have y : hi - nbT t f = c := Option.some.inj hc
        show t.1 + nbT t f * t.2.1 + (c - 1) * t.2.1 ≤ _
        rw [eend c y]
        exact g3
      · refine ⟨hi - nbT t f, rfl, ?_⟩
        show t.1 + nbT t f * t.2.1 + (hi - nbT t f - 1) * t.2.1 < v.1
        rw [eend _ rfl]
        have := g2 c hc
        have : (hi - 1) * t.2.1 ≤ (c - 1) * t.2.1 := Int.mul_le_mul_of_nonneg_right (by omega) (by omega)
        omega
theorem win_ok {n m : Nat} {f : Int} {after : Option Int} (f0 : 0 ≤ f) (hf : ∀ a, after = some a → f ≤ a) (fm : f ≤ PB m) (am : ∀ a, after = some a → a ≤ PB m) : ∀ {ts : List Trn}, Srt ts → (∀ t ∈ ts, BT n t) → Srt (win ts f after) ∧ (∀ u ∈ win ts f after, BT (max n m + 1) u) ∧ (win ts f after).length ≤ ts.length
  | [], _, _ => ⟨⟨fun u hu => (by cases hu), List.Pairwise.nil⟩, fun u hu => (by cases hu), Nat.le_refl _⟩
  | t :: ts, hs, hb => by
    obtain ⟨i1, i2, i3⟩ := win_ok f0 hf fm am hs.tail fun u hu => hb u (List.mem_cons_of_mem _ hu)
    obtain ⟨w1, w2⟩ := wn_ok hs.head (hb t (List.mem_cons_self ..)) f0 hf fm am
    have mem : ∀ v ∈ win ts f after, ∃ t' ∈ ts, t'.1 ≤ v.1 := fun v hv => by
      obtain ⟨t', ht', hv'⟩ := List.mem_flatMap.mp hv
      exact ⟨t', ht', ((wn_ok (hs.tail.1 t' ht') (hb t' (List.mem_cons_of_mem _ ht')) f0 hf fm am).1 v hv').lo⟩
    show Srt (wnT t f after ++ win ts f after) ∧ (∀ u ∈ wnT t f after ++ win ts f after, BT (max n m + 1) u) ∧ (wnT t f after ++ win ts f after).length ≤ ts.length + 1
    refine ⟨⟨fun u hu => ?_, List.pairwise_append.mpr ⟨?_, i1.2, fun u hu v hv => ?_⟩⟩, fun u hu => ?_, by rw [List.length_append]; omega⟩
    · rcases List.mem_append.mp hu with hu | hu
      · exact (w1 u hu).ok
      · exact i1.1 u hu
    · cases hw : wnT t f after with
      | nil => exact List.Pairwise.nil
      | cons a l =>
        rw [hw] at w2
        have : l = [] := by
          cases l with
          | nil => rfl
          | cons b l => simp at w2
        rw [this]
        exact List.pairwise_singleton _ _
    · obtain ⟨t', ht', l⟩ := mem v hv
      exact lt_of_start ((w1 u hu).lt t' (hs.lt t' ht')) l
    · rcases List.mem_append.mp hu with hu | hu
      · exact (w1 u hu).bt
      · exact i2 u hu
/-! ### time_count -/
def spTc' (C : Addr) : Sp := fun vs H Q _ => ∃ p ts n H0, vs = [.ref p] ∧ TO C H0 H p ts n ∧ Q (cV (Tot ts)) H
structure TxC (K : PySem.W.Frag) (mg : Str → Option Value) (aC : Addr) : Prop where
  d : Dfn K mg "time_count" st_time_count aC ["trains"]
section
variable {P : Program} {w : World} {K : PySem.W.Frag} {mg : Str → Option Value} {base : Heap} {D : Ads} {aC : Addr}
abbrev N_timecount : List Str := ["trains"]
theorem sc_timecount : FnScope N_timecount ["trains"] (defScope st_time_count) := ⟨rfl, rfl, rfl, by decide +kernel, rfl, by decide +kernel, by decide +kernel⟩
theorem ok_tc (T : Tx K mg D) (TC : TxC K mg aC) : Cal P w K mg base "time_count" 1 aC ["trains"] (spTc' D.C) := TC.d.cal fun fd F => by
  refine F.ok sc_timecount (fun vs H Q E h => ?_) (fun cdv A outer s H vs Q E hr h => ?_)
  · obtain ⟨p, ts, n, H0, rfl, _⟩ := h
    rfl
  · obtain ⟨p, ts, n, H0, rfl, R, k⟩ := h
    obtain ⟨dx, RR, FF, AA, xs, hp, _⟩ := R.ob
    exact ⟨_, (pss_one (ps_ret (pe_fld (pv 0) rfl))), _, rfl, p, D.C, dx, _, _, rfl, hp, T.cl, T.nT, trF_t _ _ _ _, k⟩
end
/-! ### times that are in both of two trains -/
def inT (t : Trn) (x : Int) : Prop := ∃ i, 0 ≤ i ∧ (∀ c, t.2.2 = some c → i < c) ∧ x = t.1 + i * t.2.1
def inL (ts : List Trn) (x : Int) : Prop := ∃ t ∈ ts, inT t x
theorem in_nb {t : Trn} (h : OkTr t) (x : Int) : inT t x ↔ nbT t x < nbT t (x + 1) := by
  have n0 := nbT_nn h x
  have p1 := h.2.1
  constructor
  · rintro ⟨i, i0, hc, rfl⟩
    have a := (nbT_lt h i0 hc (x := t.1 + i * t.2.1 + 1)).mpr (by omega)
    have b : ¬ i < nbT t (t.1 + i * t.2.1) := fun z => by have := (nbT_lt h i0 hc).mp z; omega
    omega
  · intro z
    have hc : ∀ c, t.2.2 = some c → nbT t x < c := fun c e => by
      have := nbT_le (x := x + 1) e
      omega
    have a := (nbT_lt h n0 hc (x := x + 1)).mp z
    have b : ¬ t.1 + nbT t x * t.2.1 < x := fun y => by
      have := (nbT_lt h n0 hc).mpr y
      omega
    exact ⟨nbT t x, n0, hc, by omega⟩
theorem in_mem : ∀ {ts : List Trn}, (∀ t ∈ ts, OkTr t) → ∀ x, inL ts x ↔ NB ts x < NB ts (x + 1)
  | [], _, x => ⟨fun ⟨_, h, _⟩ => (by cases h), fun h => absurd h (Int.lt_irrefl _)⟩
  | t :: r, h, x => by
    have ih := in_mem (ts := r) (fun u hu => h u (List.mem_cons_of_mem _ hu)) x
    have h1 := in_nb (h t (List.mem_cons_self ..)) x
    have m1 := nbT_mono (h t (List.mem_cons_self ..)) (x := x) (y := x + 1) (by omega)
    have m2 := NB_mono (ts := r) (fun u hu => h u (List.mem_cons_of_mem _ hu)) (x := x) (y := x + 1) (by omega)
    have e : inL (t :: r) x ↔ inT t x ∨ inL r x := ⟨fun ⟨u, hu, k⟩ => by
        rcases List.mem_cons.mp hu with rfl | hu
        · exact .inl k
        · exact .inr ⟨u, hu, k⟩, fun k => by
        rcases k with k | ⟨u, hu, k⟩
        · exact ⟨t, List.mem_cons_self .., k⟩
        · exact ⟨u, List.mem_cons_of_mem _ hu, k⟩⟩
    show inL (t :: r) x ↔ nbT t x + NB r x < nbT t (x + 1) + NB r (x + 1)
    rw [e, h1, ih]
    omega
theorem in_cons {t : Trn} {r : List Trn} {x : Int} : inL (t :: r) x ↔ inT t x ∨ inL r x := ⟨fun ⟨u, hu, k⟩ => by
    rcases List.mem_cons.mp hu with rfl | hu
    · exact .inl k
    · exact .inr ⟨u, hu, k⟩, fun k => by
    rcases k with k | ⟨u, hu, k⟩
    · exact ⟨t, List.mem_cons_self .., k⟩
    · exact ⟨u, List.mem_cons_of_mem _ hu, k⟩⟩
theorem in_app {a b : List Trn} {x : Int} : inL (a ++ b) x ↔ inL a x ∨ inL b x := by
  constructor
  · rintro ⟨u, hu, k⟩
    rcases List.mem_append.mp hu with hu | hu
    · exact .inl ⟨u, hu, k⟩
    · exact .inr ⟨u, hu, k⟩
  · rintro (⟨u, hu, k⟩ | ⟨u, hu, k⟩)
    · exact ⟨u, List.mem_append_left _ hu, k⟩
    · exact ⟨u, List.mem_append_right _ hu, k⟩
theorem in_ge {t : Trn} (h : OkTr t) {x : Int} (k : inT t x) : t.1 ≤ x := by
  obtain ⟨i, i0, _, rfl⟩ := k
  have := Int.mul_nonneg i0 (show 0 ≤ t.2.1 by have := h.2.1; omega)
  omega
theorem in_le {t : Trn} (h : OkTr t) {x c : Int} (hc : t.2.2 = some c) (k : inT t x) : x ≤ t.1 + (c - 1) * t.2.1 := by
  obtain ⟨i, i0, hi, rfl⟩ := k
  have := hi c hc
  have := Int.mul_le_mul_of_nonneg_right (show i ≤ c - 1 by omega) (show 0 ≤ t.2.1 by have := h.2.1; omega)
  omega
theorem in_first {t : Trn} (h : OkTr t) : inT t t.1 := ⟨0, Int.le_refl _, fun c e => by have := h.2.2 c e; omega, by omega⟩
theorem in_last {t : Trn} (h : OkTr t) {c : Int} (hc : t.2.2 = some c) : inT t (t.1 + (c - 1) * t.2.1) :=
  ⟨c - 1, by have := h.2.2 c hc; omega, fun d e => by rw [hc] at e; cases e; omega, rfl⟩
theorem in_big {t : Trn} (h : OkTr t) (e : t.2.2 = none) (B : Int) : ∃ x, B < x ∧ inT t x := by
  have s0 := h.1
  have p1 := h.2.1
  refine ⟨t.1 + (if 0 ≤ B then B + 1 else 1) * t.2.1, ?_, _, by split <;> omega, fun c hc => (by rw [e] at hc; cases hc), rfl⟩
  split
  · have := Int.mul_le_mul_of_nonneg_left p1 (show 0 ≤ B + 1 by omega)
    omega
  · omega
/-- the same times, the same numbers of times -/
theorem nb_of_in {ts us : List Trn} (h : Srt ts) (h' : Srt us) (e : ∀ x, inL ts x ↔ inL us x) : ∀ x, NB ts x = NB us x := by
  have z : ∀ n : Nat, NB ts (n : Int) = NB us (n : Int) := fun n => by
    induction n with
    | zero =>
      rw [NB_zero h.1 (x := ((0 : Nat) : Int)) fun t ht => (h.1 t ht).1, NB_zero h'.1 (x := ((0 : Nat) : Int)) fun t ht => (h'.1 t ht).1]
    | succ n ih =>
      have a := in_mem h.1 (n : Int)
      have b := in_mem h'.1 (n : Int)
      have c := NB_step h (n : Int)
      have d := NB_step h' (n : Int)
      have m1 := NB_mono h.1 (x := (n : Int)) (y := n + 1) (by omega)
      have m2 := NB_mono h'.1 (x := (n : Int)) (y := n + 1) (by omega)
      have q : NB ts (n : Int) < NB ts ((n : Int) + 1) ↔ NB us (n : Int) < NB us ((n : Int) + 1) := a.symm.trans ((e n).trans b)
      rw [Int.natCast_succ]
      by_cases y : NB ts (n : Int) < NB ts ((n : Int) + 1)
      · have := q.mp y
        omega
      · have : ¬ NB us (n : Int) < NB us ((n : Int) + 1) := fun w => y (q.mpr w)
        omega
  intro x
  by_cases x0 : 0 ≤ x
  · obtain ⟨n, rfl⟩ : ∃ n : Nat, x = n := ⟨x.toNat, by omega⟩
    exact z n
  · rw [NB_zero h.1 fun t ht => by have := (h.1 t ht).1; omega, NB_zero h'.1 fun t ht => by have := (h'.1 t ht).1; omega]
theorem in_of_nb {ts us : List Trn} (h : Srt ts) (h' : Srt us) (e : ∀ x, NB ts x = NB us x) (x : Int) : inL ts x ↔ inL us x := by
  rw [in_mem h.1, in_mem h'.1, e, e]
theorem in_one {m : Trn} {x : Int} : inL [m] x ↔ inT m x := by
  rw [in_cons]
  exact ⟨fun h => by
    rcases h with h | ⟨_, h, _⟩
    · exact h
    · exact (nomatch h), fun h => Or.inl h⟩
theorem in_nil {x : Int} : ¬ inL [] x := fun ⟨_, h, _⟩ => nomatch h
/-! ### Euclid -/
structure Euc (p q d f : Int) : Prop where
  d1 : 1 ≤ d
  dp : d ∣ p
  dq : d ∣ q
  bz : ∃ k, f * p = d + k * q
  fb : -q ≤ f ∧ f ≤ q
structure EuS (p q d r f g : Int) : Prop where
  d1 : 1 ≤ d
  r0 : 0 ≤ r
  db : d ≤ p ∨ d ≤ q
  rb : r ≤ q
  bf : ∃ k, f * p = d + k * q
  bg : ∃ k, g * p = r + k * q
  dv : ∀ z, z ∣ d → z ∣ r → z ∣ p ∧ z ∣ q
  sg : ∃ e a b : Int, (e = 1 ∨ e = -1) ∧ 0 ≤ a ∧ 0 ≤ b ∧ f = e * a ∧ g = -(e * b) ∧ b * d + a * r = q ∧ a ≤ q ∧ b ≤ q
theorem eus_start {p q : Int} (hp : 1 ≤ p) (hq : 1 ≤ q) : EuS p q p q 1 0 :=
  ⟨hp, by omega, .inl (Int.le_refl _), Int.le_refl _, ⟨0, by omega⟩, ⟨-1, by omega⟩, fun z a b => ⟨a, b⟩, 1, 1, 0, .inl rfl, by decide, by decide, by decide, by decide, by omega, hq, by omega⟩
theorem eus_step {p q d r f g : Int} (h : EuS p q d r f g) (hr : 0 < r) : EuS p q r (d % r) g (f - d / r * g) := by
  obtain ⟨d1, r0, db, rb, ⟨k1, b1⟩, ⟨k2, b2⟩, dv, e, a, b, he, a0, b0, rfl, rfl, hq, al, bl⟩ := h
  have m0 := Int.emod_nonneg d (show r ≠ 0 by omega)
  have ml := Int.emod_lt_of_pos d hr
  have dm := Int.mul_ediv_add_emod d r
  have q0 : 0 ≤ d / r := Int.ediv_nonneg (by omega) r0
  have ee : e * e = 1 := by rcases he with rfl | rfl <;> decide
  have qb : 0 ≤ d / r * b := Int.mul_nonneg q0 b0
  generalize hQ : d / r = Q at *
  generalize hM : d % r = M at *
  have hd : d = r * Q + M := dm.symm
  have hN : (a + Q * b) * r + b * M = q := by
    rw [← hq, hd, Int.mul_add, Int.add_mul, show b * (r * Q) = Q * b * r by rw [Int.mul_comm b, Int.mul_comm r Q, Int.mul_assoc, Int.mul_comm r b, ← Int.mul_assoc]]
    omega
  refine ⟨by omega, m0, .inr (by omega), by omega, ⟨k2, b2⟩, ⟨k1 - Q * k2, ?_⟩, ?_, -e, b, a + Q * b, ?_, b0, by omega, ?_, ?_, ?_, bl, ?_⟩
  · have : (e * a - Q * -(e * b)) * p = e * a * p - Q * (-(e * b) * p) := by rw [Int.sub_mul, Int.mul_assoc Q]
    rw [this, b1, b2, hd, Int.mul_add, Int.sub_mul, Int.mul_comm r Q, Int.mul_assoc Q k2 q]
    omega
  · intro z zr zm
    have zd : z ∣ d := by rw [hd]; exact Int.dvd_add (Int.dvd_trans zr (Int.dvd_mul_right r Q)) zm
    exact dv z zd zr
  · rcases he with rfl | rfl
    · exact .inr rfl
    · exact .inl rfl
  · rw [Int.neg_mul]
  · rw [Int.neg_mul, Int.neg_neg, Int.mul_add, Int.mul_neg, Int.sub_neg, Int.mul_left_comm Q e b]
  · exact hN
  · have h1 := Int.mul_le_mul_of_nonneg_left (show (1 : Int) ≤ r by omega) (show 0 ≤ a + Q * b by omega)
    have h2 := Int.mul_nonneg b0 m0
    omega
theorem eus_end {p q d f g : Int} (hp : 1 ≤ p) (hq : 1 ≤ q) (h : EuS p q d 0 f g) : Euc p q d f := by
  obtain ⟨d1, r0, db, rb, b1, ⟨k2, b2⟩, dv, e, a, b, he, a0, b0, rfl, rfl, _, al, bl⟩ := h
  have z := dv d (Int.dvd_refl _) (Int.dvd_zero _)
  refine ⟨d1, z.1, z.2, b1, ?_⟩
  rcases he with rfl | rfl <;> omega
theorem EuS.gbd {p q d r f g : Int} (h : EuS p q d r f g) : -q ≤ g ∧ g ≤ q ∧ -q ≤ f ∧ f ≤ q := by
  obtain ⟨e, a, b, he, a0, b0, rfl, rfl, _, al, bl⟩ := h.sg
  rcases he with rfl | rfl <;> omega
/-! ### where two trains meet -/
def lastT (t : Trn) : Option Int := t.2.2.map fun c => t.1 + (c - 1) * t.2.1
def endsF (t u : Trn) : Bool := match lastT t, lastT u with
  | none, _ => false
  | some _, none => true
  | some e, some g => decide (e ≤ g)
def hiM (t u : Trn) : Option Int := if endsF t u = true then lastT t else lastT u
def mxI (a b : Int) : Int := if b > a then b else a
def mtB (t u : Trn) : Int := t.1 + nbT t (mxI t.1 u.1) * t.2.1
def mtR (t u : Trn) (d f : Int) : Int := (u.1 - mtB t u) / d * f % (u.2.1 / d)
def mtS (t u : Trn) (d f : Int) : Int := mtB t u + t.2.1 * mtR t u d f
def mtP (t u : Trn) (d : Int) : Int := t.2.1 * (u.2.1 / d)
def mtL (t u : Trn) (d f : Int) : List Trn :=
  if (u.1 - mtB t u) % d ≠ 0 then [] else
  match hiM t u with
  | none => [(mtS t u d f, mtP t u d, none)]
  | some h => if mtS t u d f > h then [] else [(mtS t u d f, mtP t u d, some ((h - mtS t u d f) / mtP t u d + 1))]
theorem lastT_none {t : Trn} : lastT t = none ↔ t.2.2 = none := by
  unfold lastT
  cases t.2.2 <;> simp
theorem lastT_some {t : Trn} {c : Int} (h : t.2.2 = some c) : lastT t = some (t.1 + (c - 1) * t.2.1) := by
  unfold lastT
  rw [h]
  rfl
theorem in_lastT {t : Trn} (h : OkTr t) {e x : Int} (he : lastT t = some e) (k : inT t x) : x ≤ e := by
  cases hc : t.2.2 with
  | none => rw [lastT_none.mpr hc] at he; cases he
  | some c =>
    rw [lastT_some hc] at he
    cases he
    exact in_le h hc k
theorem hi_none {t u : Trn} (h : hiM t u = none) : t.2.2 = none ∧ u.2.2 = none := by
  unfold hiM endsF at h
  cases ht : lastT t with
  | none =>
    rw [ht] at h
    have : lastT u = none := h
    exact ⟨lastT_none.mp ht, lastT_none.mp this⟩
  | some e =>
    rw [ht] at h
    cases hu : lastT u with
    | none =>
      rw [hu] at h
      cases h
    | some g =>
      rw [hu] at h
      dsimp only at h
      split at h <;> cases h
theorem hi_some {t u : Trn} (ht : OkTr t) (hu : OkTr u) {h : Int} (e : hiM t u = some h) : (∀ c, lastT t = some c → h ≤ c) ∧ (∀ c, lastT u = some c → h ≤ c) ∧ (∀ x, inT t x → inT u x → x ≤ h) := by
  unfold hiM endsF at e
  cases h1 : lastT t with
  | none =>
    rw [h1] at e
    have e : lastT u = some h := e
    exact ⟨fun c hc => (by cases hc), fun c hc => by rw [e] at hc; cases hc; exact Int.le_refl _, fun x _ k => in_lastT hu e k⟩
  | some a =>
    rw [h1] at e
    cases h2 : lastT u with
    | none =>
      rw [h2] at e
      cases e
      exact ⟨fun c hc => (by cases hc; exact Int.le_refl _), fun c hc => (by cases hc), fun x k _ => in_lastT ht h1 k⟩
    | some b =>
      rw [h2] at e
      dsimp only at e
      split at e
      · rename_i q
        have q := of_decide_eq_true q
        cases e
        exact ⟨fun c hc => (by cases hc; exact Int.le_refl _), fun c hc => (by cases hc; exact q), fun x k _ => in_lastT ht h1 k⟩
      · rename_i q
        have q : ¬ a ≤ b := fun z => q (decide_eq_true z)
        cases e
        exact ⟨fun c hc => (by cases hc; omega), fun c hc => (by cases hc; exact Int.le_refl _), fun x _ k => in_lastT hu h2 k⟩
/-- the arithmetic of the Chinese rest theorem -/
theorem crt {p q d f b s v st : Int} (E : Euc p q d f) (hv : s - b = v * d) (hst : q = d * st) (s1 : 1 ≤ st) :
    (∀ i j, 0 ≤ i → b + i * p = s + j * q → ∃ z, 0 ≤ z ∧ i = v * f % st + st * z) ∧ (∀ z, ∃ j, b + (v * f % st + st * z) * p = s + j * q) := by
  obtain ⟨d1, ⟨p', rfl⟩, _, ⟨k, bz⟩, _⟩ := E
  subst hst
  have bz' : f * p' = 1 + k * st := by
    have : d * (f * p') = d * (1 + k * st) := by
      rw [← Int.mul_assoc, Int.mul_comm d f, Int.mul_assoc, bz, Int.mul_add, Int.mul_one]
      congr 1
      rw [← Int.mul_assoc, ← Int.mul_assoc, Int.mul_comm d k]
    exact Int.eq_of_mul_eq_mul_left (by omega) this
  refine ⟨fun i j i0 e => ?_, fun z => ?_⟩
  · have e1 : i * p' = v + j * st := by
      have : d * (i * p') = d * (v + j * st) := by
        have a1 : i * (d * p') = d * (i * p') := Int.mul_left_comm ..
        have a2 : j * (d * st) = d * (j * st) := Int.mul_left_comm ..
        rw [a1, a2] at e
        rw [Int.mul_add, Int.mul_comm d v, ← hv]
        omega
      exact Int.eq_of_mul_eq_mul_left (by omega) this
    have e2 : i = v * f + st * (f * j - k * i) := by
      have a1 : f * (i * p') = f * (v + j * st) := by rw [e1]
      have a2 : f * (i * p') = i * (1 + k * st) := by rw [Int.mul_left_comm, bz']
      rw [a2, Int.mul_add, Int.mul_one, Int.mul_add] at a1
      have a3 : i * (k * st) = st * (k * i) := by rw [Int.mul_left_comm, Int.mul_comm i st, Int.mul_left_comm]
      have a4 : f * (j * st) = st * (f * j) := by rw [← Int.mul_assoc, Int.mul_comm _ st]
      rw [a3, a4] at a1
      rw [Int.mul_sub, Int.mul_comm v f]
      omega
    have e3 : i % st = v * f % st := by
      rw [e2, Int.add_mul_emod_self_left]
    refine ⟨i / st, Int.ediv_nonneg i0 (by omega), ?_⟩
    rw [← e3]
    have := Int.mul_ediv_add_emod i st
    omega
  · have m := Int.mul_ediv_add_emod (v * f) st
    generalize v * f % st = r at m
    generalize v * f / st = w at m
    refine ⟨v * k - w * p' + z * p', ?_⟩
    have e1 : (r + st * z) * (d * p') = d * (v * (f * p') - st * w * p' + st * z * p') := by
      have : r + st * z = v * f - st * w + st * z := by omega
      rw [this, Int.mul_left_comm, Int.add_mul, Int.sub_mul, Int.mul_assoc v f p']
    rw [e1, bz', Int.mul_add v, Int.mul_one]
    have e2 : d * (v + v * (k * st) - st * w * p' + st * z * p') = v * d + (v * k - w * p' + z * p') * (d * st) := by
      have b1 : v * (k * st) = (v * k) * st := (Int.mul_assoc ..).symm
      have b2 : st * w * p' = (w * p') * st := by rw [Int.mul_assoc, Int.mul_comm]
      have b3 : st * z * p' = (z * p') * st := by rw [Int.mul_assoc, Int.mul_comm]
      rw [b1, b2, b3, show v + v * k * st - w * p' * st + z * p' * st = v + (v * k - w * p' + z * p') * st by rw [Int.add_mul, Int.sub_mul]; omega, Int.mul_add, Int.mul_comm d v, Int.mul_left_comm d]
    rw [e2]
    omega
structure Meet (t u : Trn) (ms : List Trn) : Prop where
  len : ms.length ≤ 1
  ok : ∀ m ∈ ms, OkTr m
  mem : ∀ x, inL ms x ↔ inT t x ∧ inT u x
theorem mt_ok {t u : Trn} (ht : OkTr t) (hu : OkTr u) {d f : Int} (E : Euc t.2.1 u.2.1 d f) : Meet t u (mtL t u d f) := by
  have s1 := ht.1
  have p1 := ht.2.1
  have p2 := hu.2.1
  have d1 := E.d1
  obtain ⟨st, hst⟩ := E.dq
  have st1 : 1 ≤ st := by
    by_cases z : 1 ≤ st
    · exact z
    · have := Int.mul_le_mul_of_nonneg_left (show st ≤ 0 by omega) (show 0 ≤ d by omega)
      omega
  have hq : u.2.1 / d = st := by rw [hst, Int.mul_ediv_cancel_left _ (by omega)]
  have nn := nbT_nn ht (mxI t.1 u.1)
  have lo1 : t.1 ≤ mxI t.1 u.1 ∧ u.1 ≤ mxI t.1 u.1 := by unfold mxI; split <;> omega
  have b0 : t.1 ≤ mtB t u := by
    have := Int.mul_nonneg nn (show 0 ≤ t.2.1 by omega)
    unfold mtB
    omega
  -- what is in both
  have both : ∀ x, inT t x → inT u x → ∃ i j, 0 ≤ i ∧ x = mtB t u + i * t.2.1 ∧ x = u.1 + j * u.2.1 := fun x h1 h2 => by
    have g1 := in_ge ht h1
    have g2 := in_ge hu h2
    obtain ⟨i, i0, hi, rfl⟩ := h1
    obtain ⟨j, j0, hj, e⟩ := h2
    have : ¬ i < nbT t (mxI t.1 u.1) := fun z => by
      have := (nbT_lt ht i0 hi).mp z
      have : mxI t.1 u.1 ≤ t.1 + i * t.2.1 := by unfold mxI; split <;> omega
      omega
    refine ⟨i - nbT t (mxI t.1 u.1), j, by omega, ?_, e⟩
    unfold mtB
    rw [Int.sub_mul]
    omega
  unfold mtL
  by_cases hr : (u.1 - mtB t u) % d = 0
  · rw [if_neg (fun z => z hr)]
    have hv : u.1 - mtB t u = (u.1 - mtB t u) / d * d := by
      have := Int.mul_ediv_add_emod (u.1 - mtB t u) d
      rw [hr, Int.mul_comm] at this
      omega
    obtain ⟨c1, c2⟩ := crt E hv hst st1
    have r0 := Int.emod_nonneg ((u.1 - mtB t u) / d * f) (show st ≠ 0 by omega)
    have hR : mtR t u d f = (u.1 - mtB t u) / d * f % st := by unfold mtR; rw [hq]
    have hP : mtP t u d = t.2.1 * st := by unfold mtP; rw [hq]
    have P1 : 1 ≤ mtP t u d := by
      have := Int.mul_le_mul p1 st1 (by decide) (show 0 ≤ t.2.1 by omega)
      rw [hP]
      omega
    have S0 : mtB t u ≤ mtS t u d f := by
      have := Int.mul_nonneg (show 0 ≤ t.2.1 by omega) r0
      unfold mtS
      rw [hR]
      omega
    have ex : ∀ z, mtB t u + (mtR t u d f + st * z) * t.2.1 = mtS t u d f + z * mtP t u d := fun z => by
      rw [hP]
      unfold mtS
      rw [Int.add_mul, Int.mul_comm (mtR t u d f) t.2.1, show st * z * t.2.1 = z * (t.2.1 * st) by rw [Int.mul_comm st z, Int.mul_assoc, Int.mul_comm st t.2.1]]
      omega
    rw [← hR] at c1 c2 r0
    have fwd : ∀ x, inT t x → inT u x → ∃ z, 0 ≤ z ∧ x = mtS t u d f + z * mtP t u d := fun x h1 h2 => by
      obtain ⟨i, j, i0, e1, e2⟩ := both x h1 h2
      obtain ⟨z, z0, rfl⟩ := c1 i j i0 (by rw [← e1, ← e2])
      exact ⟨z, z0, by rw [e1, ex]⟩
    have bwd : ∀ z, 0 ≤ z → (∀ e, lastT t = some e → mtS t u d f + z * mtP t u d ≤ e) → (∀ e, lastT u = some e → mtS t u d f + z * mtP t u d ≤ e) → inT t (mtS t u d f + z * mtP t u d) ∧ inT u (mtS t u d f + z * mtP t u d) := fun z z0 l1 l2 => by
      obtain ⟨j, hj⟩ := c2 z
      rw [ex] at hj
      have sz := Int.mul_nonneg (show 0 ≤ st by omega) z0
      have e1 : mtS t u d f + z * mtP t u d = t.1 + (nbT t (mxI t.1 u.1) + (mtR t u d f + st * z)) * t.2.1 := by
        rw [← ex]
        unfold mtB
        rw [Int.add_mul (nbT t (mxI t.1 u.1))]
        omega
      generalize mtS t u d f + z * mtP t u d = x at *
      have it : ∀ c, t.2.2 = some c → nbT t (mxI t.1 u.1) + (mtR t u d f + st * z) < c := fun c hc => by
        have := l1 _ (lastT_some hc)
        by_cases y : nbT t (mxI t.1 u.1) + (mtR t u d f + st * z) < c
        · exact y
        · have := Int.mul_le_mul_of_nonneg_right (show c ≤ nbT t (mxI t.1 u.1) + (mtR t u d f + st * z) by omega) (show 0 ≤ t.2.1 by omega)
          rw [Int.sub_mul] at *
          omega
      refine ⟨⟨_, by omega, it, e1⟩, ?_⟩
      have xl : mxI t.1 u.1 ≤ x := by
        have w : ¬ nbT t (mxI t.1 u.1) < nbT t (mxI t.1 u.1) := Int.lt_irrefl _
        rw [nbT_lt ht nn (fun c hc => by have := it c hc; omega)] at w
        have := Int.mul_nonneg (show 0 ≤ mtR t u d f + st * z by omega) (show 0 ≤ t.2.1 by omega)
        rw [Int.add_mul] at e1
        omega
      have j0 : 0 ≤ j := by
        by_cases y : 0 ≤ j
        · exact y
        · have := Int.mul_le_mul_of_nonneg_right (show j ≤ -1 by omega) (show 0 ≤ u.2.1 by omega)
          omega
      refine ⟨j, j0, fun c hc => ?_, hj⟩
      have := l2 _ (lastT_some hc)
      by_cases y : j < c
      · exact y
      · have := Int.mul_le_mul_of_nonneg_right (show c ≤ j by omega) (show 0 ≤ u.2.1 by omega)
        rw [Int.sub_mul] at *
        omega
    cases hh : hiM t u with
    | none =>
      obtain ⟨n1, n2⟩ := hi_none hh
      refine ⟨Nat.le_refl _, fun m hm => ?_, fun x => ?_⟩
      · rw [List.mem_singleton.mp hm]
        exact ⟨by show 0 ≤ mtS t u d f; omega, P1, fun c hc => by cases hc⟩
      · show inL [_] x ↔ _
        rw [in_one]
        constructor
        · rintro ⟨z, z0, _, rfl⟩
          exact bwd z z0 (fun e he => by rw [lastT_none.mpr n1] at he; cases he) fun e he => by rw [lastT_none.mpr n2] at he; cases he
        · rintro ⟨h1, h2⟩
          obtain ⟨z, z0, e⟩ := fwd x h1 h2
          exact ⟨z, z0, fun c hc => (by cases hc), e⟩
    | some h =>
      obtain ⟨a1, a2, a3⟩ := hi_some ht hu hh
      show Meet t u (if mtS t u d f > h then [] else [(mtS t u d f, mtP t u d, some ((h - mtS t u d f) / mtP t u d + 1))])
      by_cases y : mtS t u d f > h
      · rw [if_pos y]
        refine ⟨by decide, fun m hm => (by cases hm), fun x => ⟨fun k => absurd k in_nil, fun ⟨h1, h2⟩ => ?_⟩⟩
        obtain ⟨z, z0, e⟩ := fwd x h1 h2
        have := a3 x h1 h2
        have := Int.mul_nonneg z0 (show 0 ≤ mtP t u d by omega)
        omega
      · rw [if_neg y]
        have dd := Int.ediv_nonneg (show 0 ≤ h - mtS t u d f by omega) (show 0 ≤ mtP t u d by omega)
        refine ⟨Nat.le_refl _, fun m hm => ?_, fun x => ?_⟩
        · rw [List.mem_singleton.mp hm]
          exact ⟨by show 0 ≤ mtS t u d f; omega, P1, fun c hc => by cases hc; omega⟩
        · rw [in_one]
          constructor
          · rintro ⟨z, z0, hz, rfl⟩
            have hz : z < (h - mtS t u d f) / mtP t u d + 1 := hz _ rfl
            have : z * mtP t u d ≤ h - mtS t u d f := by
              have := Int.mul_le_mul_of_nonneg_right (show z ≤ (h - mtS t u d f) / mtP t u d by omega) (show 0 ≤ mtP t u d by omega)
              have := Int.ediv_mul_le (h - mtS t u d f) (show mtP t u d ≠ 0 by omega)
              omega
            show inT t (mtS t u d f + z * mtP t u d) ∧ inT u (mtS t u d f + z * mtP t u d)
            exact bwd z z0 (fun e he => by have := a1 e he; omega) fun e he => by have := a2 e he; omega
          · rintro ⟨h1, h2⟩
            obtain ⟨z, z0, e⟩ := fwd x h1 h2
            have xh := a3 x h1 h2
            refine ⟨z, z0, fun c hc => ?_, e⟩
            cases hc
            have : z ≤ (h - mtS t u d f) / mtP t u d := (Int.le_ediv_iff_mul_le (by omega)).mpr (by omega)
            omega
  · rw [if_pos hr]
    refine ⟨by decide, fun m hm => (by cases hm), fun x => ⟨fun k => absurd k in_nil, fun ⟨h1, h2⟩ => ?_⟩⟩
    obtain ⟨i, j, i0, e1, e2⟩ := both x h1 h2
    exfalso
    apply hr
    obtain ⟨p', hp'⟩ := E.dp
    apply Int.emod_eq_zero_of_dvd
    refine ⟨i * p' - j * st, ?_⟩
    rw [Int.mul_sub, Int.mul_left_comm d i, Int.mul_left_comm d j, ← hp', ← hst]
    omega
/-! ### divisors in the program -/
structure TxG (K : PySem.W.Frag) (mg : Str → Option Value) (aD aE aM aL aS : Addr) : Prop where
  dm : mg "divmod" = none
  dD : Dfn K mg "divisor_and_factor" st_divisor_and_factor aD ["one", "other"]
  dE : Dfn K mg "ends_first" st_ends_first aE ["one", "other"]
  dM : Dfn K mg "meeting" st_meeting aM ["one", "other"]
  dL : Dfn K mg "meetings" st_meetings aL ["one", "other"]
  dS : Dfn K mg "shared" st_shared aS ["one", "other"]
theorem cdivP {i j : Int} (h : 0 < j) (h2 : j.natAbs.log2 < 9000) : CDivP i j := by
  refine ⟨h, ?_⟩
  have hj : ¬ ((j == 0) = true) := fun z => by have := eq_of_beq z; omega
  have : ¬ (j.natAbs.log2 / 30 + 1 > 300) := by omega
  show (decide ((if (j == 0) = true then 0 else j.natAbs.log2 / 30 + 1) > 300) && _) = false
  rw [if_neg hj, decide_eq_false this, Bool.false_and]
theorem bb_ab {i : Int} (h0 : -(BB + BB) ≤ i) (h : i ≤ BB + BB) : i.natAbs < 2 ^ 5002 := by
  by_cases z : 0 ≤ i
  · exact bb_lt z h
  · have := bb_lt (i := -i) (by omega) (by omega)
    rwa [Int.natAbs_neg] at this
theorem mulS {i j : Int} (i0 : -(BB + BB) ≤ i) (i1 : i ≤ BB + BB) (j0 : -(BB + BB) ≤ j) (j1 : j ≤ BB + BB) : CMulW i j := wide_mul (bb_ab i0 i1) (bb_ab j0 j1) (by decide) (by decide) (by decide)
def spDf : Sp := fun vs H Q _ => ∃ p q, vs = [.int p, .int q] ∧ 1 ≤ p ∧ p ≤ BB ∧ 1 ≤ q ∧ q ≤ BB ∧ ∀ d f l H', Euc p q d f → H' l = some (.tup [.int d, .int f]) → Same H H' → H l = none → Q (.ref l) H'
section
variable {P : Program} {w : World} {K : PySem.W.Frag} {mg : Str → Option Value} {base : Heap} {D : Ads} {aD aE aM aL aS : Addr}
abbrev N_divisorandfactor : List Str := ["one", "other", "divisor", "rest", "factor", "next_factor", "quotient", "next_rest"]
theorem sc_divisorandfactor : FnScope N_divisorandfactor ["one", "other"] (defScope st_divisor_and_factor) := ⟨rfl, rfl, rfl, by decide +kernel, rfl, by decide +kernel, by decide +kernel⟩
theorem ok_divisor (TG : TxG K mg aD aE aM aL aS) : Cal P w K mg base "divisor_and_factor" 1 aD ["one", "other"] spDf := TG.dD.cal fun fd F => by
  have nd := sc_divisorandfactor.nd
  refine F.ok sc_divisorandfactor (fun vs H Q E h => ?_) (fun cdv A outer s H vs Q E hr h => ?_)
  · obtain ⟨p, q, rfl, _⟩ := h
    rfl
  · obtain ⟨p, q, rfl, p1, pb, q1, qb, k⟩ := h
    refine ⟨_, (pss_cons (ps_par (i := 2) (j := 3) (by rfl) nd rfl rfl (by decide) rfl rfl (pa_cons (pv 0) (pa_cons (pv 1) pa_nil)) (by rfl))
       (pss_cons (ps_asg (pe_tup (pa_cons pe_int (pa_cons pe_int pa_nil))) (pg_tup rfl (pgs_cons (pg_name (i := 4) nd rfl (Or.inl rfl)) (pgs_cons (pg_name (i := 5) nd rfl (Or.inl rfl)) pgs_nil))))
       (pss_cons (ps_while PassesOwn.never (pt_cmpR op_gt (pv 3) pe_int (nomark _)) (pss_cons (ps_asg (pe_callB call_divmodW (by rfl) TG.dm (by decide +kernel) (pa_cons (pv 2) (pa_cons (pv 3) pa_nil))) (pg_tup rfl (pgs_cons (pg_name (i := 6) nd rfl (Or.inl rfl)) (pgs_cons (pg_name (i := 7) nd rfl (Or.inl rfl)) pgs_nil))))
       (pss_cons (ps_par (i := 2) (j := 3) (by rfl) nd rfl rfl (by decide) rfl rfl (pa_cons (pv 3) (pa_cons (pv 7) pa_nil)) (by rfl))
       (pss_one (ps_par (i := 4) (j := 5) (by rfl) nd rfl rfl (by decide) rfl rfl (pa_cons (pv 5) (pa_cons (pe_op op_sub (pv 4) (pe_op op_mulW (pv 6) (pv 5))) pa_nil)) (by rfl))))))
       (pss_one (ps_ret (pe_tup (pa_cons (pv 2) (pa_cons (pv 4) pa_nil)))))))), ?_⟩
    refine ⟨_, rfl, _, rfl, _, _, rfl, ?_⟩
    refine ⟨(by show 2 ≤ sizeLine; decide), fun t1 ht1 => ⟨t1, _, rfl, SqT.of upd_same, rfl, _, _, rfl, _, _, rfl, rfl, ?_⟩⟩
    have y1 : Same H (upd H t1 (.tup [.int 1, .int 0])) := Same.upd ht1
    refine ⟨fun z σ H2 => ∃ (d r f g : Int) (v6 v7 : Option V), z = r.toNat ∧ σ = [some (.int p), some (.int q), some (.int d), some (.int r), some (.int f), some (.int g), v6, v7] ∧ Same H H2 ∧ EuS p q d r f g,
      ⟨q.toNat, p, q, 1, 0, none, none, rfl, rfl, y1, eus_start p1 q1⟩, ?_⟩
    rintro z σ H2 ⟨d, r, f, g, v6, v7, rfl, rfl, y2, S⟩
    have r0 := S.r0
    have d1 := S.d1
    have rb := S.rb
    refine ⟨_, rfl, _, _, rfl, rfl, _, rfl, ?_⟩
    refine ite2 (fun c => ?_) (fun c => ?_)
    · have c' : 0 < r := of_decide_eq_true c
      have S' := eus_step S c'
      have m0 := S'.r0
      have ml := Int.emod_lt_of_pos d c'
      have dle : d ≤ BB := by rcases S.db with h | h <;> omega
      have qv : 0 ≤ d / r := Int.ediv_nonneg (by omega) r0
      have qle : d / r ≤ d := Int.ediv_le_self _ (by omega)
      have gb := S.gbd
      refine ⟨fun σ' H' => ∃ (d' r' f' g' : Int) (v6 v7 : Option V), r'.toNat < r.toNat ∧ σ' = [some (.int p), some (.int q), some (.int d'), some (.int r'), some (.int f'), some (.int g'), v6, v7] ∧ Same H H' ∧ EuS p q d' r' f' g', ?_, ?_⟩
      · rintro σ' H' ⟨d', r', f', g', v6, v7, h1, h2, h3, h4⟩
        exact ⟨r'.toNat, h1, d', r', f', g', v6, v7, rfl, h2, h3, h4⟩
      refine ⟨_, rfl, _, rfl, _, _, rfl, cdivP c' (divBB (by omega) (by omega)), fun l hl => ?_⟩
      refine ⟨l, _, rfl, SqT.of upd_same, rfl, _, _, rfl, _, _, rfl, rfl, ?_⟩
      have y3 : Same H (upd H2 l (.tup [.int (d / r), .int (d % r)])) := y2.trans (Same.upd hl)
      refine ⟨_, rfl, _, rfl, _, _, rfl, ?_⟩
      refine ⟨_, rfl, _, rfl, _, rfl, _, rfl, _, _, rfl, rfl, mulS (i := d / r) (j := g) (by omega) (by omega) (by omega) (by omega), _, _, rfl, rfl, _, _, rfl, ?_⟩
      exact ⟨r, d % r, g, f - d / r * g, _, _, by omega, rfl, y3, S'⟩
    · have c' : r = 0 := by
        have : ¬ (0 < r) := fun z => c (decide_eq_true z)
        omega
      subst c'
      refine ⟨_, rfl, _, rfl, (by show 2 ≤ sizeLine; decide), fun l hl => ?_⟩
      exact k d f l _ (eus_end p1 q1 S) upd_same (y2.trans (Same.upd hl)) (none_of y2 hl)
end
/-! ### meeting in the program -/
theorem nbT_le_pb {t : Trn} (h : OkTr t) {z : Int} {n : Nat} (hz : z ≤ PB n) : nbT t z ≤ PB n := by
  have s0 := h.1
  have p1 := h.2.1
  have h1 := steps_le' (d := z - t.1) (p := t.2.1) (by omega)
  have h3 : nbT t z ≤ stepsUp (z - t.1) t.2.1 := by
    unfold nbT
    cases t.2.2 with
    | none => exact Int.le_refl _
    | some c => show (if c < stepsUp (z - t.1) t.2.1 then c else stepsUp (z - t.1) t.2.1) ≤ _; split <;> omega
  have := PB_pos n
  split at h1 <;> omega
theorem mt_lo {t u : Trn} (ht : OkTr t) (hu : OkTr u) {n : Nat} (bt : BT n t) (bu : BT n u) : 0 ≤ mtB t u ∧ mtB t u ≤ PB (n + 1) ∧ nbT t (mxI t.1 u.1) ≤ PB n ∧ 0 ≤ nbT t (mxI t.1 u.1) := by
  have s1 := ht.1
  have s2 := hu.1
  have p1 := ht.2.1
  have b1 := bt.s
  have b2 := bt.p
  have b3 := bu.s
  have nn := nbT_nn ht (mxI t.1 u.1)
  have q := PB_succ n
  have h1 : mxI t.1 u.1 ≤ PB n := by unfold mxI; split <;> omega
  have m0 := Int.mul_nonneg nn (show 0 ≤ t.2.1 by omega)
  refine ⟨by unfold mtB; omega, ?_, nbT_le_pb ht h1, nn⟩
  by_cases y : nbT t (mxI t.1 u.1) = 0
  · unfold mtB
    rw [y, Int.zero_mul]
    have := PB_pos n
    omega
  · have := part_start ht (x := mxI t.1 u.1) rfl (by omega)
    rw [Int.sub_mul, Int.one_mul] at this
    unfold mtB
    omega
structure MtB (n : Nat) (t u : Trn) (d f : Int) : Prop where
  st1 : 1 ≤ u.2.1 / d
  st2 : u.2.1 / d ≤ PB n
  r0 : 0 ≤ mtR t u d f
  r1 : mtR t u d f ≤ PB n
  v1 : -(PB (n + 1)) ≤ (u.1 - mtB t u) / d ∧ (u.1 - mtB t u) / d ≤ PB (n + 1)
  p1 : 1 ≤ mtP t u d
  p2 : mtP t u d ≤ PB (n + n)
  s0 : 0 ≤ mtS t u d f
  s1 : mtS t u d f ≤ PB (n + n + 2)
theorem mt_b {t u : Trn} (ht : OkTr t) (hu : OkTr u) {d f : Int} (E : Euc t.2.1 u.2.1 d f) {n : Nat} (bt : BT n t) (bu : BT n u) : MtB n t u d f := by
  obtain ⟨l0, l1, l2, l3⟩ := mt_lo ht hu bt bu
  have t1 := ht.2.1
  have u1 := hu.2.1
  have t2 := bt.p
  have u2 := bu.p
  have u3 := bu.s
  have u4 := hu.1
  have d1 := E.d1
  obtain ⟨st, hst⟩ := E.dq
  have st1 : 1 ≤ st := by
    by_cases z : 1 ≤ st
    · exact z
    · have := Int.mul_le_mul_of_nonneg_left (show st ≤ 0 by omega) (show 0 ≤ d by omega)
      omega
  have hq : u.2.1 / d = st := by rw [hst, Int.mul_ediv_cancel_left _ (by omega)]
  have st2 : st ≤ u.2.1 := by
    have := Int.mul_le_mul_of_nonneg_right d1 (show 0 ≤ st by omega)
    omega
  have r0 := Int.emod_nonneg ((u.1 - mtB t u) / d * f) (show st ≠ 0 by omega)
  have r1 := Int.emod_lt_of_pos ((u.1 - mtB t u) / d * f) (show 0 < st by omega)
  have hR : mtR t u d f = (u.1 - mtB t u) / d * f % st := by unfold mtR; rw [hq]
  have hP : mtP t u d = t.2.1 * st := by unfold mtP; rw [hq]
  have q1 := PB_succ n
  have a1 : (u.1 - mtB t u) / d ≤ PB (n + 1) := by
    by_cases z : 0 ≤ u.1 - mtB t u
    · have := Int.ediv_le_self d z
      have := PB_pos n
      omega
    · have : (u.1 - mtB t u) / d ≤ 0 := by
        have := Int.ediv_lt_of_lt_mul (a := u.1 - mtB t u) (b := 1) (c := d) (by omega) (by omega)
        omega
      have := PB_pos n
      omega
  have a2 : -(PB (n + 1)) ≤ (u.1 - mtB t u) / d := (Int.le_ediv_iff_mul_le (by omega)).mpr (by
    have : PB (n + 1) * 1 ≤ PB (n + 1) * d := Int.mul_le_mul_of_nonneg_left d1 (by have := PB_pos (n + 1); omega)
    rw [Int.neg_mul]
    omega)
  have m1 : 1 * 1 ≤ t.2.1 * st := Int.mul_le_mul t1 st1 (by decide) (by omega)
  have m2 : t.2.1 * st ≤ PB (n + n) := PB_mul (by omega) t2 (by omega) (by omega)
  have m3 : t.2.1 * mtR t u d f ≤ PB (n + n) := PB_mul (by omega) t2 (by omega) (by omega)
  have m4 : 0 ≤ t.2.1 * mtR t u d f := Int.mul_nonneg (by omega) (by omega)
  have q2 : PB (n + n + 2) = PB (n + n + 1) + PB (n + n + 1) := PB_succ (n + n + 1)
  have q3 := PB_succ (n + n)
  have q4 : PB n ≤ PB (n + n) := PB_le (by omega)
  have q5 := PB_pos (n + n)
  exact ⟨by omega, by omega, by omega, by omega, ⟨a2, a1⟩, by omega, by omega, by unfold mtS; omega, by unfold mtS; omega⟩
theorem mt_bt {t u : Trn} (ht : OkTr t) (hu : OkTr u) {d f : Int} (E : Euc t.2.1 u.2.1 d f) {n : Nat} (bt : BT n t) (bu : BT n u) : ∀ m ∈ mtL t u d f, BT (n + n + 2) m := by
  obtain ⟨st1, st2, r0, r1, v1, p1, p2, s0, s1⟩ := mt_b ht hu E bt bu
  have q2 : PB (n + n) ≤ PB (n + n + 2) := PB_le (by omega)
  have q3 : PB n ≤ PB (n + n + 2) := PB_le (by omega)
  intro m hm
  unfold mtL at hm
  split at hm
  · cases hm
  · cases hh : hiM t u with
    | none =>
      rw [hh] at hm
      rw [List.mem_singleton.mp hm]
      exact ⟨s1, by show mtP t u d ≤ _; omega, fun c hc => by cases hc⟩
    | some h =>
      rw [hh] at hm
      have hm : m ∈ (if mtS t u d f > h then [] else [(mtS t u d f, mtP t u d, some ((h - mtS t u d f) / mtP t u d + 1))] : List Trn) := hm
      by_cases y : mtS t u d f > h
      · rw [if_pos y] at hm; cases hm
      · rw [if_neg y] at hm
        rw [List.mem_singleton.mp hm]
        refine ⟨s1, by show mtP t u d ≤ _; omega, fun c hc => ?_⟩
        cases hc
        show mtS t u d f + ((h - mtS t u d f) / mtP t u d + 1 - 1) * mtP t u d ≤ _
        have := Int.ediv_mul_le (h - mtS t u d f) (show mtP t u d ≠ 0 by omega)
        have e : (h - mtS t u d f) / mtP t u d + 1 - 1 = (h - mtS t u d f) / mtP t u d := by omega
        rw [e]
        have hb : h ≤ PB n := by
          unfold hiM at hh
          have w : ∀ v : Trn, BT n v → lastT v = some h → h ≤ PB n := fun v bv e => by
            cases hc : v.2.2 with
            | none => rw [lastT_none.mpr hc] at e; cases e
            | some c =>
              rw [lastT_some hc] at e
              cases e
              exact bv.c c hc
          split at hh
          · exact w t bt hh
          · exact w u bu hh
        omega
theorem lastV_eq (t : Trn) : lastV t = cV (lastT t) := by
  unfold lastV lastT
  cases t.2.2 <;> rfl
def spEf : Sp := fun vs H Q _ => ∃ x y t u, vs = [x, y] ∧ TrAt H x t ∧ TrAt H y u ∧ OkTr t ∧ OkTr u ∧ BT 5000 t ∧ BT 5000 u ∧ Q (.bl (endsF t u)) H
def spMt : Sp := fun vs H Q _ => ∃ x y t u n, vs = [x, y] ∧ TrAt H x t ∧ TrAt H y u ∧ OkTr t ∧ OkTr u ∧ BT n t ∧ BT n u ∧ n ≤ 2000 ∧ ∀ l zs ms H', H' l = some (.lst zs) → Trs H' zs ms → Meet t u ms → (∀ m ∈ ms, BT (n + n + 2) m) → Same H H' → H l = none → Q (.ref l) H'
section
variable {P : Program} {w : World} {K : PySem.W.Frag} {mg : Str → Option Value} {base : Heap} {D : Ads} {aD aE aM aL aS : Addr}
abbrev N_endsfirst : List Str := ["one", "other", "end", "other_end"]
theorem sc_endsfirst : FnScope N_endsfirst ["one", "other"] (defScope st_ends_first) := ⟨rfl, rfl, rfl, by decide +kernel, rfl, by decide +kernel, by decide +kernel⟩
theorem ok_ef (T : Tx K mg D) (TG : TxG K mg aD aE aM aL aS) : Cal P w K mg base "ends_first" 2 aE ["one", "other"] spEf := TG.dE.cal fun fd F => by
  have G_lasttime := ok_last (P := P) (w := w) (base := base) T.t2
  have nd := sc_endsfirst.nd
  refine F.ok sc_endsfirst (fun vs H Q E h => ?_) (fun cdv A outer s H vs Q E hr h => ?_)
  · obtain ⟨x, y, t, u, rfl, _⟩ := h
    rfl
  · obtain ⟨x, y, t, u, rfl, hx, hy, ot, ou, bt, bu, k⟩ := h
    refine ⟨_, (pss_cons (ps_set (i := 2) nd rfl (Or.inl rfl) (pe_c G_lasttime (hr.mono (by decide)) rfl (pa_cons (pv 0) pa_nil)))
       (pss_cons (ps_set (i := 3) nd rfl (Or.inl rfl) (pe_c G_lasttime (hr.mono (by decide)) rfl (pa_cons (pv 1) pa_nil)))
       (pss_one (ps_ret (pe_and (pe_cmp (pc_notN (pv 2))) (pe_one (pe_or (pe_cmp (pc_isN (pv 3))) (pe_one (pe_cmpR op_le (pv 2) (pv 3) (nomark _)))))))))), ?_⟩
    refine ⟨_, rfl, x, t, rfl, hx, ot, bt, ?_⟩
    refine ⟨_, rfl, y, u, rfl, hy, ou, bu, ?_⟩
    rw [lastV_eq, lastV_eq]
    unfold endsF at k
    cases h1 : lastT t with
    | none =>
      rw [h1] at k
      exact ⟨_, rfl, _, rfl, iteF k⟩
    | some e =>
      rw [h1] at k
      cases h2 : lastT u with
      | none =>
        rw [h2] at k
        exact ⟨_, rfl, _, rfl, iteT ⟨_, rfl, _, rfl, iteT k⟩⟩
      | some g =>
        rw [h2] at k
        exact ⟨_, rfl, _, rfl, iteT ⟨_, rfl, _, rfl, iteF ⟨_, rfl, _, rfl, _, _, rfl, rfl, k⟩⟩⟩
abbrev N_meeting : List Str := ["one", "other", "low", "high", "base", "divisor", "factor", "quotient", "rest", "stride", "start", "step"]
theorem sc_meeting : FnScope N_meeting ["one", "other"] (defScope st_meeting) := ⟨rfl, rfl, rfl, by decide +kernel, rfl, by decide +kernel, by decide +kernel⟩
theorem ok_meeting (T : Tx K mg D) (TG : TxG K mg aD aE aM aL aS) : Cal P w K mg base "meeting" 3 aM ["one", "other"] spMt := TG.dM.cal fun fd F => by
  have G_lasttime := ok_last (P := P) (w := w) (base := base) T.t2
  have G_timesbefore := ok_tb (P := P) (w := w) (base := base) T.t0 T.t2
  have G_endsfirst := ok_ef (P := P) (w := w) (base := base) T TG
  have G_divisorandfactor := ok_divisor (P := P) (w := w) (base := base) TG
  have B := T.t2.B
  have nd := sc_meeting.nd
  refine F.ok sc_meeting (fun vs H Q E h => ?_) (fun cdv A outer s H vs Q E hr h => ?_)
  · obtain ⟨x, y, t, u, n, rfl, _⟩ := h
    rfl
  · obtain ⟨x, y, t, u, n, rfl, hx, hy, ot, ou, bt, bu, hn, k⟩ := h
    refine ⟨_, (pss_cons (ps_set (i := 2) nd rfl (Or.inl rfl) (pe_callB (call_max2 rfl) (by rfl) B.max (by decide +kernel) (pa_cons (pe_ix (r := rIxT K) ix_tup (pv 0) pe_int (fun _ _ => rfl)) (pa_cons (pe_ix (r := rIxT K) ix_tup (pv 1) pe_int (fun _ _ => rfl)) pa_nil))))
       (pss_cons (ps_set (i := 3) nd rfl (Or.inl rfl) (pe_ifExp (pt_val (pe_c G_endsfirst (hr.mono (by decide)) rfl (pa_cons (pv 0) (pa_cons (pv 1) pa_nil)))) (pe_c G_lasttime (hr.mono (by decide)) rfl (pa_cons (pv 0) pa_nil)) (pe_c G_lasttime (hr.mono (by decide)) rfl (pa_cons (pv 1) pa_nil))))
       (pss_cons (ps_set (i := 4) nd rfl (Or.inl rfl) (pe_op op_add (pe_ix (r := rIxT K) ix_tup (pv 0) pe_int (fun _ _ => rfl)) (pe_op op_mulW (pe_c G_timesbefore (hr.mono (by decide)) rfl (pa_cons (pv 0) (pa_cons (pv 2) pa_nil))) (pe_ix (r := rIxT K) ix_tup (pv 0) pe_int (fun _ _ => rfl)))))
       (pss_cons (ps_asg (pe_c G_divisorandfactor (hr.mono (by decide)) rfl (pa_cons (pe_ix (r := rIxT K) ix_tup (pv 0) pe_int (fun _ _ => rfl)) (pa_cons (pe_ix (r := rIxT K) ix_tup (pv 1) pe_int (fun _ _ => rfl)) pa_nil))) (pg_tup rfl (pgs_cons (pg_name (i := 5) nd rfl (Or.inl rfl)) (pgs_cons (pg_name (i := 6) nd rfl (Or.inl rfl)) pgs_nil))))
       (pss_cons (ps_asg (pe_callB call_divmodW (by rfl) TG.dm (by decide +kernel) (pa_cons (pe_op op_sub (pe_ix (r := rIxT K) ix_tup (pv 1) pe_int (fun _ _ => rfl)) (pv 4)) (pa_cons (pv 5) pa_nil))) (pg_tup rfl (pgs_cons (pg_name (i := 7) nd rfl (Or.inl rfl)) (pgs_cons (pg_name (i := 8) nd rfl (Or.inl rfl)) pgs_nil))))
       (pss_cons (ps_if (pt_cmpR op_ne (pv 8) pe_int (nomark _)) (pss_one (ps_ret (pe_lst pa_nil))) pss_nil)
       (pss_cons (ps_set (i := 9) nd rfl (Or.inl rfl) (pe_op op_fdivW (pe_ix (r := rIxT K) ix_tup (pv 1) pe_int (fun _ _ => rfl)) (pv 5)))
       (pss_cons (ps_set (i := 10) nd rfl (Or.inl rfl) (pe_op op_add (pv 4) (pe_op op_mulW (pe_ix (r := rIxT K) ix_tup (pv 0) pe_int (fun _ _ => rfl)) (pe_op op_mod (pe_op op_mulW (pv 7) (pv 6)) (pv 9)))))
       (pss_cons (ps_set (i := 11) nd rfl (Or.inl rfl) (pe_op op_mulW (pe_ix (r := rIxT K) ix_tup (pv 0) pe_int (fun _ _ => rfl)) (pv 9)))
       (pss_cons (ps_if (pt_cmp (pc_isN (pv 3))) (pss_one (ps_ret (pe_lst (pa_cons (pe_tup (pa_cons (pv 10) (pa_cons (pv 11) (pa_cons pe_non pa_nil)))) pa_nil)))) pss_nil)
       (pss_cons (ps_if (pt_cmpR op_gt (pv 10) (pv 3) (nomark _)) (pss_one (ps_ret (pe_lst pa_nil))) pss_nil)
       (pss_one (ps_ret (pe_lst (pa_cons (pe_tup (pa_cons (pv 10) (pa_cons (pv 11) (pa_cons (pe_op op_add (pe_op op_fdivW (pe_op op_sub (pv 3) (pv 10)) (pv 11)) pe_int) pa_nil)))) pa_nil))))))))))))))), ?_⟩
    have bt5 : BT 5000 t := bt.le (by omega)
    have bu5 : BT 5000 u := bu.le (by omega)
    obtain ⟨l0, l1, l2, l3⟩ := mt_lo ot ou bt bu
    obtain ⟨xa, rfl, hxa⟩ := id hx
    obtain ⟨ya, rfl, hya⟩ := id hy
    have t1 := ot.2.1
    have u1 := ou.2.1
    have t2 : t.2.1 ≤ BB := bt5.p
    have u2 : u.2.1 ≤ BB := bu5.p
    have n5 : PB (n + 1) ≤ BB := PB_le (by omega)
    have n6 : PB (n + n + 2) ≤ BB := PB_le (by omega)
    have n7 : PB n ≤ BB := PB_le (by omega)
    have n8 : PB (n + n) ≤ BB := PB_le (by omega)
    have b1 := BB1
    -- low
    refine ⟨_, rfl, xa, _, 0, .int t.1, rfl, rfl, SqT.of hxa, rfl, _, rfl, ya, _, 0, .int u.1, rfl, rfl, SqT.of hya, rfl, _, _, rfl, ?_⟩
    -- high
    refine ⟨_, rfl, _, rfl, _, _, t, u, rfl, hx, hy, ot, ou, bt5, bu5, _, rfl, ?_⟩
    have hi : ∀ R : V → Hp → Prop, R (cV (hiM t u)) H → (if endsF t u = true then tCall spLast [] E0 (tCons (tVar 0) tNil) [some (.ref xa), some (.ref ya), some (.int (mxI t.1 u.1)), none, none, none, none, none, none, none, none, none] H R else tCall spLast [] E0 (tCons (tVar 1) tNil) [some (.ref xa), some (.ref ya), some (.int (mxI t.1 u.1)), none, none, none, none, none, none, none, none, none] H R) := fun R k => by
      unfold hiM at k
      refine ite2 (fun c => ?_) (fun c => ?_)
      · rw [if_pos c] at k
        refine ⟨_, rfl, _, t, rfl, hx, ot, bt5, ?_⟩
        rw [lastV_eq]
        exact k
      · rw [if_neg c] at k
        refine ⟨_, rfl, _, u, rfl, hy, ou, bu5, ?_⟩
        rw [lastV_eq]
        exact k
    refine hi _ ?_
    -- base
    refine ⟨_, rfl, xa, _, 0, .int t.1, rfl, rfl, SqT.of hxa, rfl, _, rfl, _, rfl, _, t, _, rfl, hx, ot, bt5, _, rfl, xa, _, 1, .int t.2.1, rfl, rfl, SqT.of hxa, rfl, _, _, rfl, rfl, mulS (i := nbT t (mxI t.1 u.1)) (j := t.2.1) (by omega) (by omega) (by omega) (by omega), _, _, rfl, rfl, ?_⟩
    -- divisor
    refine ⟨_, rfl, xa, _, 1, .int t.2.1, rfl, rfl, SqT.of hxa, rfl, _, rfl, ya, _, 1, .int u.2.1, rfl, rfl, SqT.of hya, rfl, t.2.1, u.2.1, rfl, t1, t2, u1, u2, fun d f l H1 Eu hl y1 hl0 => ?_⟩
    obtain ⟨st1, st2, r0, r1, v1, p1, p2, s0, s1⟩ := mt_b ot ou Eu bt bu
    have d1 := Eu.d1
    have db : d ≤ BB := by
      obtain ⟨st, hst⟩ := Eu.dq
      have : 0 ≤ st := by
        by_cases z : 0 ≤ st
        · exact z
        · have := Int.mul_le_mul_of_nonneg_left (show st ≤ -1 by omega) (show 0 ≤ d by omega)
          omega
      by_cases z : st = 0
      · subst z; omega
      · have := Int.mul_le_mul_of_nonneg_left (show 1 ≤ st by omega) (show 0 ≤ d by omega)
        omega
    have fb := Eu.fb
    have hxa1 := y1 _ _ hxa
    have hya1 := y1 _ _ hya
    refine ⟨l, _, rfl, SqT.of hl, rfl, _, _, rfl, _, _, rfl, rfl, ?_⟩
    refine ⟨_, rfl, ya, _, 0, .int u.1, rfl, rfl, SqT.of hya1, rfl, _, rfl, _, _, rfl, rfl, _, rfl, _, _, rfl, cdivP (by omega) (divBB (by omega) db), fun l2 hl2 => ?_⟩
    have y2 := Same.upd (o := .tup [.int ((u.1 - mtB t u) / d), .int ((u.1 - mtB t u) % d)]) hl2
    have y3 := y1.trans y2
    have hxa2 := y2 _ _ hxa1
    have hya2 := y2 _ _ hya1
    refine ⟨l2, _, rfl, SqT.of upd_same, rfl, _, _, rfl, _, _, rfl, rfl, ?_⟩
    have bts := mt_bt ot ou Eu bt bu
    have ms := mt_ok ot ou Eu
    refine ⟨_, rfl, rfl, _, rfl, ?_⟩
    refine ite2 (fun c => ?_) (fun c => ?_)
    · have c' : (u.1 - mtB t u) % d ≠ 0 := fun z => by
        have c1 : (!decide (V.int ((u.1 - mtB t u) % d) = V.int 0)) = true := c
        rw [z] at c1
        exact absurd c1 (by decide)
      have e : mtL t u d f = [] := by unfold mtL; rw [if_pos c']
      rw [e] at ms bts
      refine ⟨(by show 0 ≤ sizeLine; decide), fun l3 hl3 => ?_⟩
      exact k l3 [] [] _ upd_same .nil ms bts (y3.trans (Same.upd hl3)) (none_of y3 hl3)
    · have c' : (u.1 - mtB t u) % d = 0 := by
        by_cases z : (u.1 - mtB t u) % d = 0
        · exact z
        · exact absurd (show (!decide (V.int ((u.1 - mtB t u) % d) = V.int 0)) = true by
            rw [decide_eq_false fun w => z (V.int.inj w)]; rfl) c
      unfold mtL at ms bts
      rw [if_neg (fun z => z c')] at ms bts
      refine ⟨_, rfl, ya, _, 1, .int u.2.1, rfl, rfl, SqT.of hya2, rfl, _, rfl, _, _, rfl, rfl, ⟨by omega, divBB (by omega) db⟩, ?_⟩
      refine ⟨_, rfl, _, rfl, xa, _, 1, .int t.2.1, rfl, rfl, SqT.of hxa2, rfl, _, rfl, _, rfl, _, _, rfl, rfl, mulS (i := (u.1 - mtB t u) / d) (j := f) (by omega) (by omega) (by omega) (by omega), _, rfl, _, _, rfl, rfl, (by show 0 < u.2.1 / d; omega), _, _, rfl, rfl, mulS (i := t.2.1) (j := mtR t u d f) (by omega) (by omega) (by omega) (by omega), _, _, rfl, rfl, ?_⟩
      refine ⟨_, rfl, xa, _, 1, .int t.2.1, rfl, rfl, SqT.of hxa2, rfl, _, rfl, _, _, rfl, rfl, mulS (i := t.2.1) (j := u.2.1 / d) (by omega) (by omega) (by omega) (by omega), ?_⟩
      cases hh : hiM t u with
      | none =>
        rw [hh] at ms bts
        refine ⟨_, rfl, _, rfl, iteT ⟨_, rfl, _, rfl, (by show 3 ≤ sizeLine; decide), fun p hp => ⟨(by show 1 ≤ sizeLine; decide), fun l3 hl3 => ?_⟩⟩⟩
        have y4 := y3.trans (Same.upd (o := .tup (TrV (mtS t u d f, mtP t u d, none))) hp)
        exact k l3 [.ref p] _ _ upd_same (Trs.one ⟨p, rfl, (Same.upd hl3) _ _ upd_same⟩) ms bts (y4.trans (Same.upd hl3)) (none_of y4 hl3)
      | some h =>
        rw [hh] at ms bts
        refine ⟨_, rfl, _, rfl, iteF ?_⟩
        refine ⟨_, rfl, _, rfl, _, _, rfl, rfl, _, rfl, ?_⟩
        refine ite2 (fun c => ?_) (fun c => ?_)
        · have c' : mtS t u d f > h := of_decide_eq_true c
          have ms : Meet t u (if mtS t u d f > h then [] else [(mtS t u d f, mtP t u d, some ((h - mtS t u d f) / mtP t u d + 1))]) := ms
          have bts : ∀ m ∈ (if mtS t u d f > h then [] else [(mtS t u d f, mtP t u d, some ((h - mtS t u d f) / mtP t u d + 1))] : List Trn), BT (n + n + 2) m := bts
          rw [if_pos c'] at ms bts
          refine ⟨(by show 0 ≤ sizeLine; decide), fun l3 hl3 => ?_⟩
          exact k l3 [] [] _ upd_same .nil ms bts (y3.trans (Same.upd hl3)) (none_of y3 hl3)
        · have c' : ¬ mtS t u d f > h := fun z => c (decide_eq_true z)
          have ms : Meet t u (if mtS t u d f > h then [] else [(mtS t u d f, mtP t u d, some ((h - mtS t u d f) / mtP t u d + 1))]) := ms
          have bts : ∀ m ∈ (if mtS t u d f > h then [] else [(mtS t u d f, mtP t u d, some ((h - mtS t u d f) / mtP t u d + 1))] : List Trn), BT (n + n + 2) m := bts
          rw [if_neg c'] at ms bts
          refine ⟨_, rfl, _, rfl, _, rfl, _, rfl, _, _, rfl, rfl, _, rfl, _, _, rfl, rfl, ⟨(by show 0 < mtP t u d; omega), divBB (j := mtP t u d) (by omega) (by omega)⟩, _, _, rfl, rfl, (by show 3 ≤ sizeLine; decide), fun p hp => ⟨(by show 1 ≤ sizeLine; decide), fun l3 hl3 => ?_⟩⟩
          have y4 := y3.trans (Same.upd (o := .tup (TrV (mtS t u d f, mtP t u d, some ((h - mtS t u d f) / mtP t u d + 1)))) hp)
          exact k l3 [.ref p] _ _ upd_same (Trs.one ⟨p, rfl, (Same.upd hl3) _ _ upd_same⟩) ms bts (y4.trans (Same.upd hl3)) (none_of y4 hl3)
end
/-! ### meetings of lists of trains -/
structure MeI (ts us : List Trn) (N : Nat) (l r : Nat) (ms : List Trn) : Prop where
  srt : Srt ms
  bt : ∀ m ∈ ms, BT N m
  len : ms.length ≤ l + r
  mem : ∀ x, inL ts x ∧ inL us x ↔ inL ms x ∨ (inL (ts.drop l) x ∧ inL (us.drop r) x)
  fut : ∀ m ∈ ms, ∀ x, inL (ts.drop l) x → inL (us.drop r) x → ∃ c, m.2.2 = some c ∧ m.1 + (c - 1) * m.2.1 < x
theorem tail_gt {t : Trn} {a : List Trn} (h : Srt (t :: a)) {x : Int} (k : inL a x) : ∃ e, lastT t = some e ∧ e < x := by
  obtain ⟨v, hv, hx⟩ := k
  obtain ⟨c, hc, hl⟩ := h.lt v hv
  have := in_ge (h.1 v (List.mem_cons_of_mem _ hv)) hx
  exact ⟨_, lastT_some hc, by omega⟩
theorem meet_fin {m v : Trn} (hm : OkTr m) (hv : OkTr v) (h : ∀ x, inT m x → inT v x) {e : Int} (he : lastT v = some e) : ∃ c, m.2.2 = some c ∧ m.1 + (c - 1) * m.2.1 ≤ e := by
  cases hc : m.2.2 with
  | none =>
    obtain ⟨y, hy, k⟩ := in_big hm hc e
    have := in_lastT hv he (h y k)
    omega
  | some c => exact ⟨c, rfl, in_lastT hv he (h _ (in_last hm hc))⟩
theorem mei_add {ts us ms g : List Trn} {N l r l' r' : Nat} (I : MeI ts us N l r ms) (hlr : l' + r' = l + r + 1) (hg : g.length ≤ 1) (ho : ∀ m ∈ g, OkTr m) (hb : ∀ m ∈ g, BT N m)
    (h1 : ∀ x, inL (ts.drop l) x ∧ inL (us.drop r) x ↔ inL g x ∨ (inL (ts.drop l') x ∧ inL (us.drop r') x))
    (h2 : ∀ m ∈ g, ∀ x, inL (ts.drop l') x → inL (us.drop r') x → ∃ c, m.2.2 = some c ∧ m.1 + (c - 1) * m.2.1 < x) : MeI ts us N l' r' (ms ++ g) := by
  obtain ⟨srt, bt, len, mem, fut⟩ := I
  have gs : g.Pairwise Lt := by
    match g, hg with
    | [], _ => exact List.Pairwise.nil
    | [a], _ => exact List.pairwise_singleton ..
  refine ⟨⟨fun m hm => ?_, List.pairwise_append.mpr ⟨srt.2, gs, fun m hm m' hm' => ?_⟩⟩, fun m hm => ?_, by rw [List.length_append]; omega, fun x => ?_, fun m hm x a b => ?_⟩
  · rcases List.mem_append.mp hm with hm | hm
    · exact srt.1 m hm
    · exact ho m hm
  · have k : inL g m'.1 := ⟨m', hm', in_first (ho m' hm')⟩
    obtain ⟨k1, k2⟩ := (h1 m'.1).mpr (.inl k)
    exact fut m hm m'.1 k1 k2
  · rcases List.mem_append.mp hm with hm | hm
    · exact bt m hm
    · exact hb m hm
  · rw [mem x, h1 x, in_app, or_assoc]
  · rcases List.mem_append.mp hm with hm | hm
    · obtain ⟨k1, k2⟩ := (h1 x).mpr (.inr ⟨a, b⟩)
      exact fut m hm x k1 k2
    · exact h2 m hm x a b
theorem drop_cons {ts : List Trn} {l : Nat} {t : Trn} (h : ts[l]? = some t) : ts.drop l = t :: ts.drop (l + 1) := by
  obtain ⟨hl, rfl⟩ := List.getElem?_eq_some_iff.mp h
  exact List.drop_eq_getElem_cons hl
theorem srt_drop {ts : List Trn} (h : Srt ts) (l : Nat) : Srt (ts.drop l) := ⟨fun t ht => h.1 t (List.mem_of_mem_drop ht), h.2.drop⟩
theorem mei_left {ts us ms g : List Trn} {N l r : Nat} {t u : Trn} (hs : Srt ts) (hs' : Srt us) (I : MeI ts us N l r ms) (ht : ts[l]? = some t) (hu : us[r]? = some u) (G : Meet t u g) (hb : ∀ m ∈ g, BT N m) (he : endsF t u = true) : MeI ts us N (l + 1) r (ms ++ g) := by
  have st := srt_drop hs l
  have su := srt_drop hs' r
  have e1 := drop_cons ht
  have e2 := drop_cons hu
  rw [e1] at st
  rw [e2] at su
  obtain ⟨e, hte⟩ : ∃ e, lastT t = some e := by
    unfold endsF at he
    cases h : lastT t with
    | none => rw [h] at he; cases he
    | some e => exact ⟨e, rfl⟩
  have X : ∀ x, inT t x → inL (us.drop (r + 1)) x → False := fun x k1 k2 => by
    obtain ⟨g', hg, hlt⟩ := tail_gt su k2
    have := in_lastT st.head hte k1
    unfold endsF at he
    rw [hte, hg] at he
    have := of_decide_eq_true he
    omega
  refine mei_add I (by omega) G.len G.ok hb (fun x => ?_) (fun m hm x a b => ?_)
  · rw [e1, e2, in_cons, in_cons, G.mem x]
    constructor
    · rintro ⟨a | a, b⟩
      · rcases b with b | b
        · exact .inl ⟨a, b⟩
        · exact (X x a b).elim
      · exact .inr ⟨a, b⟩
    · rintro (⟨a, b⟩ | ⟨a, b⟩)
      · exact ⟨.inl a, .inl b⟩
      · exact ⟨.inr a, b⟩
  · obtain ⟨e', h1, h2⟩ := tail_gt st a
    obtain ⟨c, h3, h4⟩ := meet_fin (G.ok m hm) st.head (fun y k => ((G.mem y).mp ⟨m, hm, k⟩).1) h1
    exact ⟨c, h3, by omega⟩
theorem mei_right {ts us ms g : List Trn} {N l r : Nat} {t u : Trn} (hs : Srt ts) (hs' : Srt us) (I : MeI ts us N l r ms) (ht : ts[l]? = some t) (hu : us[r]? = some u) (G : Meet t u g) (hb : ∀ m ∈ g, BT N m) (he : endsF t u = false) : MeI ts us N l (r + 1) (ms ++ g) := by
  have st := srt_drop hs l
  have su := srt_drop hs' r
  have e1 := drop_cons ht
  have e2 := drop_cons hu
  rw [e1] at st
  rw [e2] at su
  have X : ∀ x, inT u x → inL (ts.drop (l + 1)) x → False := fun x k1 k2 => by
    obtain ⟨e, hte, hlt⟩ := tail_gt st k2
    unfold endsF at he
    rw [hte] at he
    cases hg : lastT u with
    | none => rw [hg] at he; cases he
    | some g' =>
      rw [hg] at he
      have := of_decide_eq_false he
      have := in_lastT su.head hg k1
      omega
  refine mei_add I (by omega) G.len G.ok hb (fun x => ?_) (fun m hm x a b => ?_)
  · rw [e1, e2, in_cons, in_cons, G.mem x]
    constructor
    · rintro ⟨a, b | b⟩
      · rcases a with a | a
        · exact .inl ⟨a, b⟩
        · exact (X x b a).elim
      · exact .inr ⟨a, b⟩
    · rintro (⟨a, b⟩ | ⟨a, b⟩)
      · exact ⟨.inl a, .inl b⟩
      · exact ⟨a, .inr b⟩
  · obtain ⟨e', h1, h2⟩ := tail_gt su b
    obtain ⟨c, h3, h4⟩ := meet_fin (G.ok m hm) su.head (fun y k => ((G.mem y).mp ⟨m, hm, k⟩).2) h1
    exact ⟨c, h3, by omega⟩
theorem mei_start (ts us : List Trn) (N : Nat) : MeI ts us N 0 0 [] :=
  ⟨⟨fun t ht => (by cases ht), List.Pairwise.nil⟩, fun m hm => (by cases hm), Nat.zero_le _, fun x => ⟨fun h => .inr h, fun h => by
    rcases h with h | h
    · exact absurd h in_nil
    · exact h⟩, fun m hm => (by cases hm)⟩
def spMl : Sp := fun vs H Q _ => ∃ a b xs ys ts us n, vs = [.ref a, .ref b] ∧ H a = some (.lst xs) ∧ H b = some (.lst ys) ∧ Trs H xs ts ∧ Trs H ys us ∧ Srt ts ∧ Srt us ∧ (∀ t ∈ ts, BT n t) ∧ (∀ t ∈ us, BT n t) ∧ n ≤ 2000 ∧ ts.length ≤ 1000 ∧ us.length ≤ 1000 ∧
  ∀ l zs ms H', H' l = some (.lst zs) → Trs H' zs ms → Srt ms → (∀ x, inL ms x ↔ inL ts x ∧ inL us x) → (∀ m ∈ ms, BT (n + n + 2) m) → ms.length ≤ ts.length + us.length → Same H H' → H l = none → Q (.ref l) H'
section
variable {P : Program} {w : World} {K : PySem.W.Frag} {mg : Str → Option Value} {base : Heap} {D : Ads} {aD aE aM aL aS : Addr}
abbrev N_meetings : List Str := ["one", "other", "met", "left", "right"]
theorem sc_meetings : FnScope N_meetings ["one", "other"] (defScope st_meetings) := ⟨rfl, rfl, rfl, by decide +kernel, rfl, by decide +kernel, by decide +kernel⟩
theorem ok_meetings (T : Tx K mg D) (TG : TxG K mg aD aE aM aL aS) : Cal P w K mg base "meetings" 4 aL ["one", "other"] spMl := TG.dL.cal fun fd F => by
  have G_meeting := ok_meeting (P := P) (w := w) (base := base) T TG
  have G_endsfirst := ok_ef (P := P) (w := w) (base := base) T TG
  have B := T.t2.B
  have nd := sc_meetings.nd
  refine F.ok sc_meetings (fun vs H Q E h => ?_) (fun cdv A outer s H vs Q E hr h => ?_)
  · obtain ⟨a, b, xs, ys, ts, us, n, rfl, _⟩ := h
    rfl
  · obtain ⟨a, b, xs, ys, ts, us, n, rfl, ha, hb, hxt, hyu, st, su, bt, bu, hn, lt, lu, k⟩ := h
    refine ⟨_, (pss_cons (ps_set (i := 2) nd rfl (Or.inl rfl) (pe_lst pa_nil))
       (pss_cons (ps_set (i := 3) nd rfl (Or.inl rfl) pe_int)
       (pss_cons (ps_set (i := 4) nd rfl (Or.inl rfl) pe_int)
       (pss_cons (ps_while PassesOwn.never (PW.pt (pw_and (pt_cmpR op_lt (pv 3) (pe_callB call_len_seq (by rfl) B.len PySem.boot_len (pa_cons (pv 0) pa_nil)) (nomark _)) (pw_and1 (pt_cmpR op_lt (pv 4) (pe_callB call_len_seq (by rfl) B.len PySem.boot_len (pa_cons (pv 1) pa_nil)) (nomark _))))) (pss_cons (ps_expr (pe_bm PySem.F.plainAttrs_list PySem.F.slot_list_extend PySem.F.type_list_extend mt_extend (pv 2) (pa_cons (pe_c G_meeting (hr.mono (by decide)) rfl (pa_cons (pe_ix (r := rIxL K) ix_list (pv 0) (pv 3) (fun _ _ => rfl)) (pa_cons (pe_ix (r := rIxL K) ix_list (pv 1) (pv 4) (fun _ _ => rfl)) pa_nil))) pa_nil)))
       (pss_one (ps_if (pt_val (pe_c G_endsfirst (hr.mono (by decide)) rfl (pa_cons (pe_ix (r := rIxL K) ix_list (pv 0) (pv 3) (fun _ _ => rfl)) (pa_cons (pe_ix (r := rIxL K) ix_list (pv 1) (pv 4) (fun _ _ => rfl)) pa_nil)))) (pss_one (ps_aug (i := 3) nd rfl (Or.inl rfl) pe_int ip_add)) (pss_one (ps_aug (i := 4) nd rfl (Or.inl rfl) pe_int ip_add))))))
       (pss_one (ps_ret (pv 2))))))), ?_⟩
    have xl := hxt.len
    have yl := hyu.len
    refine ⟨(by show 0 ≤ sizeLine; decide), fun l1 hl1 => ?_⟩
    have s1 : Same H (upd H l1 (.lst [])) := Same.upd hl1
    refine ⟨fun z σ H2 => ∃ (l r : Nat) (ws : List V) (ms : List Trn), z = (ts.length - l) + (us.length - r) ∧ σ = [some (.ref a), some (.ref b), some (.ref l1), some (.int l), some (.int r)] ∧ l ≤ ts.length ∧ r ≤ us.length ∧ H2 l1 = some (.lst ws) ∧ Trs H2 ws ms ∧ Same H H2 ∧ MeI ts us (n + n + 2) l r ms,
      ⟨_, 0, 0, [], [], rfl, rfl, Nat.zero_le _, Nat.zero_le _, upd_same, .nil, s1, mei_start ts us _⟩, ?_⟩
    rintro z σ H2 ⟨l, r, ws, ms, rfl, rfl, hl, hr', hl12, tw, s2, I⟩
    have ha2 := s2 _ _ ha
    have hb2 := s2 _ _ hb
    have done : (l = ts.length ∨ r = us.length) → Q (.ref l1) H2 := fun e => by
      refine k l1 ws ms H2 hl12 tw I.srt (fun x => ?_) I.bt (by have := I.len; omega) s2 (hl1)
      have := I.mem x
      rw [this]
      refine ⟨.inl, fun h => ?_⟩
      rcases h with h | ⟨h1, h2⟩
      · exact h
      · rcases e with e | e
        · rw [e, List.drop_length] at h1
          exact absurd h1 in_nil
        · rw [e, List.drop_length] at h2
          exact absurd h2 in_nil
    refine ⟨_, rfl, _, rfl, a, _, rfl, .inl (SqL.of ha2), _, _, rfl, rfl, _, rfl, ?_⟩
    refine ite2 (fun c => ?_) (fun c => ?_)
    rotate_left
    · have c' : ¬ ((l : Int) < xs.length) := fun z => c (decide_eq_true z)
      exact ⟨_, rfl, done (.inl (by omega))⟩
    have c1 : (l : Int) < xs.length := of_decide_eq_true c
    refine ⟨_, rfl, _, rfl, b, _, rfl, .inl (SqL.of hb2), _, _, rfl, rfl, _, rfl, ?_⟩
    refine ite2 (fun c => ?_) (fun c => ?_)
    rotate_left
    · have c' : ¬ ((r : Int) < ys.length) := fun z => c (decide_eq_true z)
      exact ⟨_, rfl, done (.inr (by omega))⟩
    have c2 : (r : Int) < ys.length := of_decide_eq_true c
    have ht := List.getElem?_eq_getElem (show l < ts.length by omega)
    have hu := List.getElem?_eq_getElem (show r < us.length by omega)
    generalize ts[l]'(by omega) = t at ht
    generalize us[r]'(by omega) = u at hu
    obtain ⟨x, hx, hxa⟩ := hxt.get2 ht
    obtain ⟨y, hy, hya⟩ := hyu.get2 hu
    have ot := st.1 t (List.mem_of_getElem? ht)
    have ou := su.1 u (List.mem_of_getElem? hu)
    have bt1 := bt t (List.mem_of_getElem? ht)
    have bu1 := bu u (List.mem_of_getElem? hu)
    have hxa2 := hxa.same s2
    have hya2 := hya.same s2
    refine ⟨fun σ' H' => ∃ (l' r' : Nat) (ws : List V) (ms : List Trn), (ts.length - l') + (us.length - r') < (ts.length - l) + (us.length - r) ∧ σ' = [some (.ref a), some (.ref b), some (.ref l1), some (.int l'), some (.int r')] ∧ l' ≤ ts.length ∧ r' ≤ us.length ∧ H' l1 = some (.lst ws) ∧ Trs H' ws ms ∧ Same H H' ∧ MeI ts us (n + n + 2) l' r' ms, ?_, ?_⟩
    · rintro σ' H' ⟨l', r', ws, ms, h1, h2⟩
      exact ⟨_, h1, l', r', ws, ms, rfl, h2⟩
    have il := I.len
    have wl := tw.len
    refine ⟨_, rfl, .inl ⟨rfl, _, SqL.of hl12⟩, _, rfl, _, rfl, a, _, (l : Int), x, rfl, rfl, SqL.of ha2, atI_nat hx, _, rfl, _, rfl, b, _, (r : Int), y, rfl, rfl, SqL.of hb2, atI_nat hy, x, y, t, u, n, rfl, hxa2, hya2, ot, ou, bt1, bu1, hn, fun l3 zs g H3 hl3 tz G gb s3 nl => ?_⟩
    have nll : l3 ≠ l1 := (ne_of_none hl12 nl).symm
    have hl13 := s3 _ _ hl12
    have zl := tz.len
    have gl := G.len
    refine ⟨l1, l3, ws, zs, rfl, rfl, hl13, hl3, small2 (by omega), ?_⟩
    have n4 := NL.upd (o := .lst (ws ++ zs)) hl13
    have tz4 := tz.nl n4
    have tw4 := (tw.same s3).nl n4
    have s4 : Same H (upd H3 l1 (.lst (ws ++ zs))) := fun b o e => by
      rw [upd_ne (ne_of_none e hl1)]
      exact s3 _ _ (s2 _ _ e)
    have ha4 := s4 _ _ ha
    have hb4 := s4 _ _ hb
    refine ⟨_, rfl, _, rfl, a, _, (l : Int), x, rfl, rfl, SqL.of ha4, atI_nat hx, _, rfl, _, rfl, b, _, (r : Int), y, rfl, rfl, SqL.of hb4, atI_nat hy, x, y, t, u, rfl, hxa.same s4, hya.same s4, ot, ou, bt1.le (by omega), bu1.le (by omega), _, rfl, ?_⟩
    refine ite2 (fun c => ?_) (fun c => ?_)
    · exact ⟨_, rfl, _, _, rfl, rfl, l + 1, r, ws ++ zs, ms ++ g, by omega, rfl, by omega, hr', upd_same, tw4.app tz4, s4, mei_left st su I ht hu G gb c⟩
    · exact ⟨_, rfl, _, _, rfl, rfl, l, r + 1, ws ++ zs, ms ++ g, by omega, rfl, hl, by omega, upd_same, tw4.app tz4, s4, mei_right st su I ht hu G gb (Bool.eq_false_iff.mpr c)⟩
end
/-! ### shared in the program -/
def spTo (C : Addr) : Sp := fun vs H Q _ => ∃ a xs ts n, vs = [.ref a] ∧ H a = some (.lst xs) ∧ Trs H xs ts ∧ Srt ts ∧ (∀ t ∈ ts, BT n t) ∧ n ≤ 4900 ∧ ts.length ≤ 1000 ∧ ∀ o H', TO C H H' o (nfs ts) (n + 2) → Same H H' → Q (.ref o) H'
def spSh (C : Addr) : Sp := fun vs H Q _ => ∃ p q ts us n H0 H1, vs = [.ref p, .ref q] ∧ TO C H0 H p ts n ∧ TO C H1 H q us n ∧ n ≤ 2000 ∧ ts.length + us.length ≤ 1000 ∧
  ∀ ms o H', Srt ms → (∀ x, inL ms x ↔ inL ts x ∧ inL us x) → TO C H H' o (nfs ms) (n + n + 4) → Same H H' → Q (.ref o) H'
section
variable {P : Program} {w : World} {K : PySem.W.Frag} {mg : Str → Option Value} {base : Heap} {D : Ads} {aD aE aM aL aS : Addr}
abbrev N_trainsof : List Str := ["runs", "normal"]
theorem sc_trainsof : FnScope N_trainsof ["runs"] (defScope st_trains_of) := ⟨rfl, rfl, rfl, by decide +kernel, rfl, by decide +kernel, by decide +kernel⟩
theorem ok_to (T : Tx K mg D) (M : MkT K mg D) : Cal P w K mg base "trains_of" 7 D.tf ["runs"] (spTo D.C) := T.dTf.cal fun fd F => by
  have G_normalform := ok_normalform (P := P) (w := w) (base := base) T
  obtain ⟨tM, hM⟩ := T.cM
  have c_MOST_TRAINS : mg "MOST_TRAINS" = some (.int 1000 tM) := hM
  have B := T.t2.B
  have nd := sc_trainsof.nd
  refine F.ok sc_trainsof (fun vs H Q E h => ?_) (fun cdv A outer s H vs Q E hr h => ?_)
  · obtain ⟨a, xs, ts, n, rfl, _⟩ := h
    rfl
  · obtain ⟨a, xs, ts, n, rfl, ha, hx, hs, hb, hn, hl, k⟩ := h
    refine ⟨_, (pss_cons (ps_set (i := 1) nd rfl (Or.inl rfl) (pe_c G_normalform (hr.mono (by decide)) rfl (pa_cons (pv 0) pa_nil)))
       (pss_cons (ps_if (pt_cmpR op_gt (pe_callB call_len_seq (by rfl) B.len PySem.boot_len (pa_cons (pv 1) pa_nil)) (pe_gI c_MOST_TRAINS) (nomark _)) (pss_one (ps_never)) pss_nil)
       (pss_one (ps_ret (pe_trains T M (hr.mono (by decide)) rfl (pa_cons (pv 1) pa_nil)))))), ?_⟩
    refine ⟨_, rfl, a, xs, ts, n, rfl, ha, hx, hs, hb, by omega, by omega, fun l zs H2 hl2 tz s2 nl => ?_⟩
    have zl := tz.len
    have nl' := nfs_len hs
    refine ⟨_, rfl, l, _, rfl, .inl (SqL.of hl2), _, _, rfl, rfl, _, rfl, ?_⟩
    refine ite2 (fun c => ?_) (fun _ => ?_)
    · have c' : (1000 : Int) < zs.length := of_decide_eq_true c
      omega
    refine ⟨_, rfl, ?_⟩
    refine trains_made (a := l) (xs := zs) (ts := nfs ts) (n := n + 1) hl2 tz (nfs_srt hs) (nfs_bt hs hb) (by omega) (by omega) fun o H4 TO4 s4 => ?_
    rw [nfs_idem hs] at TO4
    exact k o H4 (TO4.base s2) (s2.trans s4)
abbrev N_shared : List Str := ["one", "other"]
theorem sc_shared : FnScope N_shared ["one", "other"] (defScope st_shared) := ⟨rfl, rfl, rfl, by decide +kernel, rfl, by decide +kernel, by decide +kernel⟩
theorem ok_shared (T : Tx K mg D) (M : MkT K mg D) (TG : TxG K mg aD aE aM aL aS) : Cal P w K mg base "shared" 8 aS ["one", "other"] (spSh D.C) := TG.dS.cal fun fd F => by
  have G_trainsof := ok_to (P := P) (w := w) (base := base) T M
  have G_meetings := ok_meetings (P := P) (w := w) (base := base) T TG
  have nd := sc_shared.nd
  refine F.ok sc_shared (fun vs H Q E h => ?_) (fun cdv A outer s H vs Q E hr h => ?_)
  · obtain ⟨p, q, ts, us, n, H0, H1, rfl, _⟩ := h
    rfl
  · obtain ⟨p, q, ts, us, n, H0, H1, rfl, R, R', hn, hl, k⟩ := h
    refine ⟨_, (pss_one (ps_ret (pe_c G_trainsof (hr.mono (by decide)) rfl (pa_cons (pe_c G_meetings (hr.mono (by decide)) rfl (pa_cons (pe_fld (pv 0) rfl) (pa_cons (pe_fld (pv 1) rfl) pa_nil))) pa_nil)))), ?_⟩
    obtain ⟨dx, RR, FF, AA, xs, hp, h2, h3, h4, h5, _⟩ := R.ob
    obtain ⟨dy, RR', FF', AA', ys, hq, g2, g3, g4, g5, _⟩ := R'.ob
    refine ⟨_, rfl, p, D.C, dx, _, _, rfl, hp, T.cl, T.nR, trF_r _ _ _ _, _, rfl, q, D.C, dy, _, _, rfl, hq, T.cl, T.nR, trF_r _ _ _ _, RR, RR', xs, ys, ts, us, n, rfl, h2, g2, h3, g3, R.srt, R'.srt, R.bt, R'.bt, hn, R.ln, R'.ln, fun l zs ms H2 hl2 tz ss mem bts len s2 nl => ?_⟩
    refine ⟨l, zs, ms, n + n + 2, rfl, hl2, tz, ss, bts, by omega, by omega, fun o H' TO' s3 => ?_⟩
    exact k ms o H' ss mem (TO'.base s2) (s2.trans s3)
end
/-! ### window in the program -/
def spWo : Sp := fun vs H Q _ => ∃ (x : V) (t : Trn) (f : Int) (after : Option Int), vs = [x, .int f, cV after] ∧ TrAt H x t ∧ OkTr t ∧ BT 5000 t ∧ f ≤ PB 4900 ∧ 0 ≤ f ∧ ∀ l zs H', H' l = some (.lst zs) → Trs H' zs (wnT t f after) → Same H H' → H l = none → Q (.ref l) H'
def spWin (C : Addr) : Sp := fun vs H Q _ => ∃ p ts n H0 m f after, vs = [.ref p, .int f, cV after] ∧ TO C H0 H p ts n ∧ 0 ≤ f ∧ (∀ a, after = some a → f ≤ a) ∧ f ≤ PB m ∧ (∀ a, after = some a → a ≤ PB m) ∧ max n m + 2 ≤ 4900 ∧ ∀ o H', TO C H H' o (nfs (win ts f after)) (max n m + 2) → Same H H' → Q (.ref o) H'
def spWr : Sp := fun vs H Q _ => ∃ a xs ts n m f after, vs = [.ref a, .int f, cV after] ∧ H a = some (.lst xs) ∧ Trs H xs ts ∧ Srt ts ∧ (∀ t ∈ ts, BT n t) ∧ ts.length ≤ 5000 ∧ n ≤ 5000 ∧ 0 ≤ f ∧ (∀ b, after = some b → f ≤ b) ∧ f ≤ PB m ∧ (∀ b, after = some b → b ≤ PB m) ∧ m ≤ 4900 ∧ ∀ l zs H', H' l = some (.lst zs) → Trs H' zs (win ts f after) → Same H H' → H l = none → Q (.ref l) H'
structure TxW (K : PySem.W.Frag) (mg : Str → Option Value) (aO aR aW : Addr) : Prop where
  dO : Dfn K mg "window_of" st_window_of aO ["train", "first", "after"]
  dR : Dfn K mg "window_runs" st_window_runs aR ["trains", "first", "after"]
  dW : Dfn K mg "window" st_window aW ["trains", "first", "after"]
theorem lc2_outer {K : PySem.W.Frag} {a : Addr} {xs : List V} {g : TG} {tt : TT} {wi1 : TI} {g1 : TG} {tt1 : TT} {te : TE} {vs vs1 : List Nat} {σ : L2.St} {H1 : Hp} {D : Addr} {Qd : Hp → Prop} (Pv : Nat → Hp → Prop) (h0 : Pv 0 (upd H1 D (.lst []))) (hl : ∀ i H, i ≤ xs.length → Pv i H → SqL K H a xs)
    (hs : ∀ i x H, xs[i]? = some x → Pv i H → g x (wipe σ vs) H fun σ2 H2 => wipe σ2 vs = wipe σ vs ∧ tt σ2 H2 fun b H3 =>
      if b = true then wi1 σ2 H3 fun J1 H4 => ∃ W1 : Nat → Nat → Hp → Prop, (∃ m, W1 0 m H4) ∧ ∀ j k H, W1 j k H →
        (J1.stop j H ∧ Pv (i + 1) H) ∨ (J1.go j H ∧ ∃ Nx1 : Hp → Prop, (∀ H', Nx1 H' → ∃ k', k' < k ∧ W1 (j + 1) k' H') ∧ ∀ x H', J1.yld j H x H' → g1 x (wipe σ2 vs1) H' fun σ3 H5 => wipe σ3 vs1 = wipe σ2 vs1 ∧ tt1 σ3 H5 fun b H6 =>
          if b = true then te σ3 H6 fun y H7 => ∃ acc, H7 D = some (.lst acc) ∧ acc.length < sizeLine ∧ Nx1 (upd H7 D (.lst (acc ++ [y]))) else Nx1 H6)
      else Pv (i + 1) H3) (hd : ∀ H, Pv xs.length H → Qd H) :
    ∃ W : Nat → Nat → Hp → Prop, (∃ m, W 0 m (upd H1 D (.lst []))) ∧ ∀ i m H, W i m H →
      ((Itl K a).stop i H ∧ Qd H) ∨ ((Itl K a).go i H ∧ ∃ Nx : Hp → Prop, (∀ H', Nx H' → ∃ m', m' < m ∧ W (i + 1) m' H') ∧ ∀ x H', (Itl K a).yld i H x H' → g x (wipe σ vs) H' fun σ2 H2 => wipe σ2 vs = wipe σ vs ∧ tt σ2 H2 fun b H3 =>
        if b = true then wi1 σ2 H3 fun J1 H4 => ∃ W1 : Nat → Nat → Hp → Prop, (∃ m, W1 0 m H4) ∧ ∀ j k H, W1 j k H →
          (J1.stop j H ∧ Nx H) ∨ (J1.go j H ∧ ∃ Nx1 : Hp → Prop, (∀ H', Nx1 H' → ∃ k', k' < k ∧ W1 (j + 1) k' H') ∧ ∀ x H', J1.yld j H x H' → g1 x (wipe σ2 vs1) H' fun σ3 H5 => wipe σ3 vs1 = wipe σ2 vs1 ∧ tt1 σ3 H5 fun b H6 =>
            if b = true then te σ3 H6 fun y H7 => ∃ acc, H7 D = some (.lst acc) ∧ acc.length < sizeLine ∧ Nx1 (upd H7 D (.lst (acc ++ [y]))) else Nx1 H6)
        else Nx H3) := by
  refine ⟨fun i m H => m = xs.length - i ∧ i ≤ xs.length ∧ Pv i H, ⟨xs.length, by simp, Nat.zero_le _, h0⟩, ?_⟩
  rintro i m H ⟨rfl, hi, p⟩
  have q := hl i H hi p
  by_cases hlt : i < xs.length
  · refine .inr ⟨⟨xs, xs[i], q, by simp [hlt]⟩, Pv (i + 1), fun H' p' => ⟨xs.length - (i + 1), by omega, rfl, hlt, p'⟩, fun x H' y => ?_⟩
    obtain ⟨e, y⟩ := y
    subst e
    exact hs i x _ (y xs q) p
  · have e : i = xs.length := by omega
    subst e
    exact .inl ⟨⟨xs, q, Nat.le_refl _⟩, hd H p⟩
theorem lc2_inner {K : PySem.W.Frag} {a : Addr} {xs : List V} {g1 : TG} {tt1 : TT} {te : TE} {vs1 : List Nat} {σ2 : L2.St} {H4 : Hp} {D : Addr} {Nx : Hp → Prop} (Pv : Nat → Hp → Prop) (h0 : Pv 0 H4) (hl : ∀ i H, i ≤ xs.length → Pv i H → SqL K H a xs)
    (hs : ∀ j x H, xs[j]? = some x → Pv j H → g1 x (wipe σ2 vs1) H fun σ3 H5 => wipe σ3 vs1 = wipe σ2 vs1 ∧ tt1 σ3 H5 fun b H6 =>
      if b = true then te σ3 H6 fun y H7 => ∃ acc, H7 D = some (.lst acc) ∧ acc.length < sizeLine ∧ Pv (j + 1) (upd H7 D (.lst (acc ++ [y]))) else Pv (j + 1) H6) (hd : ∀ H, Pv xs.length H → Nx H) :
    ∃ W1 : Nat → Nat → Hp → Prop, (∃ m, W1 0 m H4) ∧ ∀ j k H, W1 j k H →
      ((Itl K a).stop j H ∧ Nx H) ∨ ((Itl K a).go j H ∧ ∃ Nx1 : Hp → Prop, (∀ H', Nx1 H' → ∃ k', k' < k ∧ W1 (j + 1) k' H') ∧ ∀ x H', (Itl K a).yld j H x H' → g1 x (wipe σ2 vs1) H' fun σ3 H5 => wipe σ3 vs1 = wipe σ2 vs1 ∧ tt1 σ3 H5 fun b H6 =>
        if b = true then te σ3 H6 fun y H7 => ∃ acc, H7 D = some (.lst acc) ∧ acc.length < sizeLine ∧ Nx1 (upd H7 D (.lst (acc ++ [y]))) else Nx1 H6) := by
  refine ⟨fun i m H => m = xs.length - i ∧ i ≤ xs.length ∧ Pv i H, ⟨xs.length, by simp, Nat.zero_le _, h0⟩, ?_⟩
  rintro i m H ⟨rfl, hi, p⟩
  have q := hl i H hi p
  by_cases hlt : i < xs.length
  · refine .inr ⟨⟨xs, xs[i], q, by simp [hlt]⟩, Pv (i + 1), fun H' p' => ⟨xs.length - (i + 1), by omega, rfl, hlt, p'⟩, fun x H' y => ?_⟩
    obtain ⟨e, y⟩ := y
    subst e
    exact hs i x _ (y xs q) p
  · have e : i = xs.length := by omega
    subst e
    exact .inl ⟨⟨xs, q, Nat.le_refl _⟩, hd H p⟩
section
variable {P : Program} {w : World} {K : PySem.W.Frag} {mg : Str → Option Value} {base : Heap} {D : Ads} {aO aR aW aC : Addr}
abbrev N_windowof : List Str := ["train", "first", "after", "high"]
theorem sc_windowof : FnScope N_windowof ["train", "first", "after"] (defScope st_window_of) := ⟨rfl, rfl, rfl, by decide +kernel, rfl, by decide +kernel, by decide +kernel⟩
theorem ok_wo (T : Tx K mg D) (TW : TxW K mg aO aR aW) : Cal P w K mg base "window_of" 3 aO ["train", "first", "after"] spWo := TW.dO.cal fun fd F => by
  have G_timesbefore := ok_tb (P := P) (w := w) (base := base) T.t0 T.t2
  have G_partof := ok_part (P := P) (w := w) (base := base) T.t2
  have nd := sc_windowof.nd
  refine F.ok sc_windowof (fun vs H Q E h => ?_) (fun cdv A outer s H vs Q E hr h => ?_)
  · obtain ⟨x, t, f, after, rfl, _⟩ := h
    rfl
  · obtain ⟨x, t, f, after, rfl, ⟨b, rfl, hb⟩, ok, bt, fm, f0, k⟩ := h
    refine ⟨_, (pss_cons (ps_set (i := 3) nd rfl (Or.inl rfl) (pe_ifExp (pt_cmp (pc_isN (pv 2))) (pe_ix (r := rIxT K) ix_tup (pv 0) pe_int (fun _ _ => rfl)) (pe_c G_timesbefore (hr.mono (by decide)) rfl (pa_cons (pv 0) (pa_cons (pv 2) pa_nil)))))
       (pss_one (ps_ret (pe_c G_partof (hr.mono (by decide)) rfl (pa_cons (pv 0) (pa_cons (pe_c G_timesbefore (hr.mono (by decide)) rfl (pa_cons (pv 0) (pa_cons (pv 1) pa_nil))) (pa_cons (pv 3) pa_nil))))))), ?_⟩
    have p1 := ok.2.1
    have n0 := nbT_nn ok f
    have s0 := ok.1
    have hn : nbT t f ≤ BB := by
      have h1 := steps_le' (d := f - t.1) (p := t.2.1) (by omega)
      have h2 : PB 4900 ≤ BB := PB_le (by decide)
      have h3 : nbT t f ≤ stepsUp (f - t.1) t.2.1 := by
        unfold nbT
        cases t.2.2 with
        | none => exact Int.le_refl _
        | some c => show (if c < stepsUp (f - t.1) t.2.1 then c else stepsUp (f - t.1) t.2.1) ≤ _; split <;> omega
      have := BB1
      split at h1 <;> omega
    have p2 : t.2.1 ≤ BB := bt.p
    have b1 := BB1
    have cm : CMulW (nbT t f) t.2.1 := mulBB n0 (by omega) (by omega) (by omega)
    cases after with
    | none =>
      refine ⟨_, rfl, _, rfl, iteT ⟨_, rfl, b, _, 2, cV t.2.2, rfl, rfl, SqT.of hb, rfl, ?_⟩⟩
      exact ⟨_, rfl, _, rfl, _, rfl, _, t, f, rfl, ⟨b, rfl, hb⟩, ok, bt, _, rfl, _, t, nbT t f, t.2.2, rfl, ⟨b, rfl, hb⟩, cm, k⟩
    | some a =>
      refine ⟨_, rfl, _, rfl, iteF ⟨_, rfl, _, rfl, _, t, a, rfl, ⟨b, rfl, hb⟩, ok, bt, ?_⟩⟩
      exact ⟨_, rfl, _, rfl, _, rfl, _, t, f, rfl, ⟨b, rfl, hb⟩, ok, bt, _, rfl, _, t, nbT t f, some (nbT t a), rfl, ⟨b, rfl, hb⟩, cm, k⟩
abbrev N_windowruns : List Str := ["trains", "first", "after", "train", "part"]
theorem sc_windowruns : FnScope N_windowruns ["trains", "first", "after"] (defScope st_window_runs) := ⟨rfl, rfl, rfl, by decide +kernel, rfl, by decide +kernel, by decide +kernel⟩
theorem ok_wr (T : Tx K mg D) (TW : TxW K mg aO aR aW) : Cal P w K mg base "window_runs" 4 aR ["trains", "first", "after"] spWr := TW.dR.cal fun fd F => by
  have G_windowof := ok_wo (P := P) (w := w) (base := base) T TW
  have nd := sc_windowruns.nd
  refine F.ok sc_windowruns (fun vs H Q E h => ?_) (fun cdv A outer s H vs Q E hr h => ?_)
  · obtain ⟨a, xs, ts, n, m, f, after, rfl, _⟩ := h
    rfl
  · obtain ⟨a, xs, ts, n, m, f, after, rfl, h2, h3, hs, bt, ln, n5, f0, hf, fm, am, m5, k⟩ := h
    refine ⟨_, (pss_one (ps_ret (pe_lc2 (own := [("train", 3), ("part", 4)]) (vs1 := [4]) (g := gName 3) (tt := tYes) (g1 := gName 4) (tt1 := tYes) (wi1 := iList K _) rfl nd (pi_list (pv 0)) (blkOk_by (own := [("train", 3), ("part", 4)]) (N := N_windowruns) (sc := defScope st_window_runs) (by decide +kernel)) (by simp) (fun _ _ _ _ _ => pg_name (i := 3) nd rfl (Or.inl rfl)) (fun _ _ _ _ _ => pts_nil) (fun _ _ _ _ _ => (pi_list (pe_c G_windowof (hr.mono (by decide)) rfl (pa_cons (pv 3) (pa_cons (pv 1) (pa_cons (pv 2) pa_nil)))))) (fun _ _ _ _ _ => pg_name (i := 4) nd rfl (Or.inl rfl)) (fun _ _ _ _ _ => pts_nil) (fun _ _ _ _ _ => (pv 4))))), ?_⟩
    have hxl := h3.len
    have fm2 : f ≤ PB 4900 := Int.le_trans fm (PB_le m5)
    refine ⟨_, rfl, a, rfl, ⟨_, SqL.of h2⟩, fun D1 hD1 => ?_⟩
    refine lc2_outer (K := K) (a := a) (xs := xs) (fun i H' => ∃ ws, H' D1 = some (.lst ws) ∧ Trs H' ws (win (ts.take i) f after) ∧ Same H H') ⟨[], upd_same, .nil, Same.upd hD1⟩ (fun i H' _ ⟨_, _, _, s⟩ => SqL.of (s _ _ h2)) ?_ ?_
    · rintro i x H3 hxi ⟨ws, hD, tw, s3⟩
      obtain ⟨t, ht, hxt⟩ := h3.get hxi
      have htm := List.mem_of_getElem? ht
      have hj := (List.getElem?_eq_some_iff.mp ht).1
      have wl : ws.length ≤ i := by
        rw [tw.len]
        have := (win_ok f0 hf fm am (ts := ts.take i) ⟨fun u hu => hs.1 u (List.mem_of_mem_take hu), hs.2.sublist (List.take_sublist _ _)⟩ fun u hu => bt u (List.mem_of_mem_take hu)).2.2
        rw [List.length_take] at this
        omega
      refine ⟨rfl, tYes_of ⟨_, rfl, _, rfl, _, rfl, x, t, f, after, rfl, hxt.same s3, hs.1 t htm, (bt t htm).le n5, fm2, f0, fun l zs H4 hl tz s4 nl => ⟨l, rfl, ⟨_, SqL.of hl⟩, ?_⟩⟩⟩
      have nlD : l ≠ D1 := (ne_of_none hD nl).symm
      have zl : zs.length ≤ 1 := by rw [tz.len]; exact (wn_ok (hs.1 t htm) (bt t htm) f0 hf fm am).2
      refine lc2_inner (K := K) (a := l) (xs := zs) (fun j H5 => ∃ ws, H5 D1 = some (.lst ws) ∧ Trs H5 ws (win (ts.take i) f after ++ (wnT t f after).take j) ∧ Kp D1 H4 H5 ∧ ws.length ≤ i + j) ⟨ws, s4 _ _ hD, by rw [List.take_zero, List.append_nil]; exact tw.same s4, Kp.refl, wl⟩ (fun j H5 _ ⟨_, _, _, k5, _⟩ => SqL.of (k5 _ _ nlD hl)) ?_ ?_
      · rintro j y H5 hy ⟨ws5, hD5, tw5, k5, wl5⟩
        obtain ⟨u, hu, hyu⟩ := tz.get hy
        have hjz := (List.getElem?_eq_some_iff.mp hy).1
        refine ⟨rfl, tYes_of ⟨_, rfl, ws5, hD5, small1 (by omega), ws5 ++ [y], upd_same, ?_, k5.trans Kp.upd, by rw [List.length_append]; show ws5.length + 1 ≤ i + (j + 1); omega⟩⟩
        have n6 := NL.upd (o := .lst (ws5 ++ [y])) hD5
        rw [List.take_add_one, hu, ← List.append_assoc]
        have hy5 : TrAt H5 y u := hyu.nl (Kp.nl k5 (s4 _ _ hD))
        exact (tw5.nl n6).app (Trs.one (hy5.nl n6))
      · rintro H5 ⟨ws5, hD5, tw5, k5, _⟩
        refine ⟨ws5, hD5, ?_, fun b o e => k5 _ _ (ne_of_none e hD1) (s4 _ _ (s3 _ _ e))⟩
        have e1 : (wnT t f after).take zs.length = wnT t f after := by rw [tz.len, List.take_length]
        rw [e1] at tw5
        have e2 : win (ts.take (i + 1)) f after = win (ts.take i) f after ++ wnT t f after := by
          unfold win
          rw [List.take_add_one, ht, List.flatMap_append]
          congr 1
          show wnT t f after ++ [] = _
          rw [List.append_nil]
        rw [e2]
        exact tw5
    rintro H3 ⟨ws, hD, tw, s3⟩
    rw [hxl, List.take_length] at tw
    exact k D1 ws H3 hD tw s3 hD1
abbrev N_window : List Str := ["trains", "first", "after"]
theorem sc_window : FnScope N_window ["trains", "first", "after"] (defScope st_window) := ⟨rfl, rfl, rfl, by decide +kernel, rfl, by decide +kernel, by decide +kernel⟩
theorem ok_window (T : Tx K mg D) (M : MkT K mg D) (TW : TxW K mg aO aR aW) : Cal P w K mg base "window" 7 aW ["trains", "first", "after"] (spWin D.C) := TW.dW.cal fun fd F => by
  have G_isatleast := ok_atl (P := P) (w := w) (base := base) T.t0
  have G_windowruns := ok_wr (P := P) (w := w) (base := base) T TW
  have nd := sc_window.nd
  refine F.ok sc_window (fun vs H Q E h => ?_) (fun cdv A outer s H vs Q E hr h => ?_)
  · obtain ⟨p, ts, n, H0, m, f, after, rfl, _⟩ := h
    rfl
  · obtain ⟨p, ts, n, H0, m, f, after, rfl, R, f0, hf, fm, am, nm, k⟩ := h
    refine ⟨_, (pss_cons (ps_if (pt_not (pt_val (pe_c G_isatleast (hr.mono (by decide)) rfl (pa_cons (pv 1) (pa_cons pe_int pa_nil))))) (pss_one (ps_never)) pss_nil)
       (pss_cons (ps_if (PW.pt (pw_and (pt_cmp (pc_notN (pv 2))) (pw_and1 (pt_not (pt_val (pe_c G_isatleast (hr.mono (by decide)) rfl (pa_cons (pv 2) (pa_cons (pv 1) pa_nil)))))))) (pss_one (ps_never)) pss_nil)
       (pss_one (ps_ret (pe_trains T M (hr.mono (by decide)) rfl (pa_cons (pe_c G_windowruns (hr.mono (by decide)) rfl (pa_cons (pe_fld (pv 0) rfl) (pa_cons (pv 1) (pa_cons (pv 2) pa_nil)))) pa_nil)))))), ?_⟩
    obtain ⟨dx, RR, FF, AA, xs, hp, h2, h3, h4, h5, _⟩ := R.ob
    obtain ⟨w1, w2, w3⟩ := win_ok f0 hf fm am R.srt R.bt
    have hRl := R.ln
    refine ⟨_, rfl, _, _, _, rfl, .int _, _, rfl, ?_⟩
    show if (!(decide ((0 : Int) ≤ f))) = true then _ else _
    rw [decide_eq_true f0]
    refine iteF ?_
    cases after with
    | none =>
      refine ⟨_, rfl, _, rfl, iteF (iteF ?_)⟩
      refine ⟨_, rfl, p, D.C, dx, _, _, rfl, hp, T.cl, T.nR, trF_r _ _ _ _, _, rfl, _, rfl, RR, xs, ts, n, m, f, none, rfl, h2, h3, R.srt, R.bt, by omega, R.n5, f0, hf, fm, am, by omega, fun D1 ws H3 hD tw s3 _ => ?_⟩
      refine trains_made (a := D1) (xs := ws) (ts := win ts f none) (n := max n m + 1) hD tw w1 w2 (by omega) (by omega) fun o H4 TO4 s4 => ?_
      exact k o H4 (TO4.base s3) (s3.trans s4)
    | some a =>
      refine ⟨_, rfl, _, rfl, iteT ⟨_, rfl, _, rfl, _, _, _, rfl, .int _, _, rfl, ?_⟩⟩
      show if (!(decide (f ≤ a))) = true then _ else _
      rw [decide_eq_true (hf a rfl)]
      refine iteF ?_
      refine ⟨_, rfl, p, D.C, dx, _, _, rfl, hp, T.cl, T.nR, trF_r _ _ _ _, _, rfl, _, rfl, RR, xs, ts, n, m, f, some a, rfl, h2, h3, R.srt, R.bt, by omega, R.n5, f0, hf, fm, am, by omega, fun D1 ws H3 hD tw s3 _ => ?_⟩
      refine trains_made (a := D1) (xs := ws) (ts := win ts f (some a)) (n := max n m + 1) hD tw w1 w2 (by omega) (by omega) fun o H4 TO4 s4 => ?_
      exact k o H4 (TO4.base s3) (s3.trans s4)
end
/-! ### lists of ints as data; what the law asks of told times -/
def intsD (ns : List Int) : PyData := .list (ns.map PyData.int)
theorem ints_dp {K : PySem.W.Frag} {H : Hp} : ∀ ns : List Int, DpAll K H (ns.map V.int) (ns.map PyData.int)
  | [] => .nil
  | n :: ns => .cons (.int n) (ints_dp ns)
theorem canInts : ∀ ns : List Int, PyData.canLayAll0 (ns.map PyData.int) = true
  | [] => by simp [PyData.canLayAll0]
  | n :: ns => by rw [List.map_cons, PyData.canLayAll0, canInts ns]; simp [PyData.canLay0]
theorem depInts : ∀ ns : List Int, PyData.depthAll (ns.map PyData.int) ≤ 10
  | [] => by simp [PyData.depthAll]
  | n :: ns => by
    have := depInts ns
    rw [List.map_cons, PyData.depthAll]
    have h2 : (PyData.int n).depth ≤ 10 := by simp [PyData.depth]
    omega
theorem shInts (ns : List Int) : SeqAt.shaped (intsD ns) = true := by
  refine Bool.and_eq_true_iff.mpr ⟨?_, decide_eq_true ?_⟩
  · unfold intsD
    rw [PyData.canLay0]
    exact canInts ns
  · have := depInts ns
    unfold intsD
    rw [PyData.depth]
    omega
theorem eqInts1 : ∀ ns ms : List Int, PyData.eqvAll (ns.map PyData.int) (ms.map PyData.int) = decide (ns = ms)
  | [], [] => by simp [PyData.eqvAll]
  | [], _ :: _ => by simp [PyData.eqvAll]
  | _ :: _, [] => by simp [PyData.eqvAll]
  | n :: ns, m :: ms => by
    rw [List.map_cons, List.map_cons, PyData.eqvAll, eqInts1 ns ms, Bool.eq_iff_iff]
    simp [PyData.eqv]
theorem eqInts (ns ms : List Int) : PyData.eqv (intsD ns) (intsD ms) = decide (ns = ms) := by
  unfold intsD
  rw [PyData.eqv]
  exact eqInts1 ns ms
theorem Dp.ints {K : PySem.W.Frag} {H : Hp} {a : Addr} {ns : List Int} (h : H a = some (.lst (ns.map V.int))) : Dp K H (.ref a) (intsD ns) := .lst (SqL.of h) (ints_dp ns)
theorem NB_le_self {ts : List Trn} (h : Srt ts) (x : Nat) : NB ts (x : Int) ≤ x := by
  induction x with
  | zero =>
    have : NB ts 0 = 0 := NB_zero h.1 fun t ht => (h.1 t ht).1
    show NB ts 0 ≤ 0
    omega
  | succ x ih =>
    have := NB_step h (x : Int)
    have e : ((x + 1 : Nat) : Int) = (x : Int) + 1 := by omega
    rw [e]
    omega
/-- the times below B -/
theorem win_at0 {g : List Trn} (h : Srt g) {B : Int} (B0 : 0 ≤ B) (hw : Srt (win g 0 (some B))) {i : Int} (i0 : 0 ≤ i) : At (win g 0 (some B)) i = if i < NB g B then At g i else none := by
  have z0 : NB g 0 = 0 := NB_zero h.1 fun t ht => (h.1 t ht).1
  have nb : ∀ x, NB (win g 0 (some B)) x = NB g (cx 0 (some B) x) := fun x => by
    rw [win_nb h.1 (fun a e => by cases e; exact B0) x, z0, Int.sub_zero]
  by_cases q : i < NB g B
  · rw [if_pos q]
    cases e : At g i with
    | none =>
      obtain ⟨n, h1, h2⟩ := (At_none h.1 i0).mp e
      have := NB_tot h.1 h1 B
      omega
    | some y =>
      have yB := (At_lt h i0 e B).mp q
      have y0 := At_nn h i0 e
      obtain ⟨e1, e2⟩ := (At_iff h i0).mp e
      refine (At_iff hw i0).mpr ⟨?_, ?_⟩
      · rw [nb]
        have : cx 0 (some B) y = y := by show (if y < 0 then 0 else if B < y then B else y) = y; rw [if_neg (by omega), if_neg (by omega)]
        rw [this, e1]
      · rw [nb]
        have : cx 0 (some B) (y + 1) = y + 1 := by show (if y + 1 < 0 then 0 else if B < y + 1 then B else y + 1) = y + 1; rw [if_neg (by omega), if_neg (by omega)]
        rw [this, e2]
  · rw [if_neg q]
    cases e : At (win g 0 (some B)) i with
    | none => rfl
    | some y =>
      obtain ⟨_, e2⟩ := (At_iff hw i0).mp e
      rw [nb] at e2
      have := NB_mono h.1 (show cx 0 (some B) (y + 1) ≤ B by
        show (if y + 1 < 0 then 0 else if B < y + 1 then B else y + 1) ≤ B
        split
        · exact B0
        · split <;> omega)
      omega
/-! ### _law_holds -/
def spHol (C : Addr) : Sp := fun vs H Q _ => ∃ p ts n H0 a, ∃ ys : List Int, vs = [.ref p, .ref a] ∧ TO C H0 H p ts n ∧ H a = some (.lst (ys.map V.int)) ∧ Tot ts = some (ys.length : Int) ∧ (∀ j : Nat, j < ys.length → At ts (j : Int) = ys[j]?) ∧ ys.length ≤ 5000 ∧ ∀ H', Same H H' → Q (.bl true) H'
structure TxO (K : PySem.W.Frag) (mg : Str → Option Value) (aO : Addr) : Prop where
  d : Dfn K mg "_law_holds" st__law_holds aO ["_law_told", "_law_times_here"]
section
variable {P : Program} {w : World} {K : PySem.W.Frag} {mg : Str → Option Value} {base : Heap} {D : Ads} {aC aO : Addr}
abbrev N_wholds : List Str := ["_law_told", "_law_times_here", "_law_at"]
theorem sc_wholds : FnScope N_wholds ["_law_told", "_law_times_here"] (defScope st__law_holds) := ⟨rfl, rfl, rfl, by decide +kernel, rfl, by decide +kernel, by decide +kernel⟩
theorem ok_holds (T : Tx K mg D) (TC : TxC K mg aC) (TO' : TxO K mg aO) : Cal P w K mg base "_law_holds" 5 aO ["_law_told", "_law_times_here"] (spHol D.C) := TO'.d.cal fun fd F => by
  have G_timecount := ok_tc (P := P) (w := w) (base := base) T TC
  have G_get := ok_get (P := P) (w := w) (base := base) T
  have B := T.t2.B
  have nd := sc_wholds.nd
  refine F.ok sc_wholds (fun vs H Q E h => ?_) (fun cdv A outer s H vs Q E hr h => ?_)
  · obtain ⟨p, ts, n, H0, a, ys, rfl, _⟩ := h
    rfl
  · obtain ⟨p, ts, n, H0, a, ys, rfl, R, ha, hT, hA, hl, k⟩ := h
    refine ⟨_, (pss_one (ps_ret (pe_and (pe_cmpR op_eq (pe_c G_timecount (hr.mono (by decide)) rfl (pa_cons (pv 0) pa_nil)) (pe_callB call_len_seq (by rfl) B.len PySem.boot_len (pa_cons (pv 1) pa_nil)) (nomark _)) (pe_one (pe_cmpR (op_eqD hr.units) (pe_lc (own := [("_law_at", 2)]) (g := gName 2) (tt := tYes) rfl nd (pi_range1 rfl B.range (pa_cons (pe_callB call_len_seq (by rfl) B.len PySem.boot_len (pa_cons (pv 1) pa_nil)) pa_nil)) (blkOk_by (own := [("_law_at", 2)]) (N := N_wholds) (sc := defScope st__law_holds) (by decide +kernel)) (fun _ _ _ _ _ => pg_name (i := 2) nd rfl (Or.inl rfl)) (fun _ _ _ _ _ => pts_nil) (fun _ _ _ _ _ => (G_get.p_ix (hr.mono (by decide)) (pv 0) (pv 2)))) (pv 1) (nomark _)))))), ?_⟩
    refine ⟨_, rfl, p, ts, n, H0, rfl, R, ?_⟩
    rw [hT]
    refine ⟨_, rfl, a, _, rfl, .inl (SqL.of ha), rfl, _, rfl, ?_⟩
    rw [List.length_map, decide_eq_true (show cV (some (ys.length : Int)) = V.int (ys.length : Int) from rfl)]
    refine iteT ⟨_, rfl, a, _, rfl, .inl (SqL.of ha), ?_⟩
    rw [List.length_map]
    refine ⟨(ys.length : Int), rfl, by omega, by omega, fun D1 hD1 => ?_⟩
    refine lc_range (lo := 0) (n := ((ys.length : Int)).toNat) (fun j H2 => H2 D1 = some (.lst ((ys.take j).map V.int)) ∧ Same H H2) ⟨upd_same, Same.upd hD1⟩ ?_ ?_
    · rintro j H2 hj ⟨hD, s2⟩
      have hj' : j < ys.length := by omega
      have hyj := List.getElem?_eq_getElem hj'
      have R2 := R.same s2
      obtain ⟨dx, fs, ho⟩ := R2.has
      have b1 := PB_le (show 30 ≤ 5000 by decide)
      have b2 : PB 30 = 1073741824 := by unfold PB; decide
      have b3 : PB 5000 = BB := rfl
      refine ⟨rfl, tYes_of ⟨_, rfl, _, rfl, p, dx, fs, rfl, ho, p, ts, n, H0, 0 + (j : Int), ys[j], rfl, R2, by omega, ?_, by omega, ?_⟩⟩
      · rw [Int.zero_add, hA j hj', hyj]
      · refine ⟨_, hD, small1 (by rw [List.length_map, List.length_take]; omega), ?_, fun b o e => ?_⟩
        · rw [upd_same, List.take_add_one, hyj, List.map_append]
          rfl
        · rw [upd_ne (ne_of_none e hD1)]
          exact s2 _ _ e
    · rintro H2 ⟨hD, s2⟩
      rw [Int.toNat_natCast, List.take_length] at hD
      refine ⟨_, rfl, intsD ys, intsD ys, Dp.ints hD, Dp.ints (s2 _ _ ha), shInts _, shInts _, ?_⟩
      rw [eqInts, decide_eq_true rfl]
      exact k H2 s2
end
/-! ### next_time -/
theorem nx_none {ts : List Trn} (h : Srt ts) (x : Int) : nxT ts x = none ↔ Tot ts = some (NB ts x) := by
  have n0 := NB_nn h.1 x
  unfold nxT
  rw [At_none h.1 n0]
  constructor
  · rintro ⟨n, e, l⟩
    have := NB_tot h.1 e x
    rw [e]
    congr 1
    omega
  · intro e
    exact ⟨_, e, Int.le_refl _⟩
theorem NB_le_pb {ts : List Trn} (h : Srt ts) {x : Int} {n : Nat} (hx : x ≤ PB n) : NB ts x ≤ PB n := by
  have p := PB_pos n
  have h1 := NB_le_self h (PB n).toNat
  have e : (((PB n).toNat : Nat) : Int) = PB n := by omega
  rw [e] at h1
  exact Int.le_trans (NB_mono h.1 hx) h1
theorem At_le {n a : Nat} : ∀ {ts : List Trn}, (∀ t ∈ ts, OkTr t) → (∀ t ∈ ts, BT n t) → ∀ {i y : Int}, 0 ≤ i → i ≤ PB a → At ts i = some y → y ≤ PB (n + a + 1)
  | [], _, _, i, y, _, _, e => by cases e
  | t :: ts, h, hb, i, y, i0, ia, e => by
    have ok := h t (List.mem_cons_self ..)
    have b := hb t (List.mem_cons_self ..)
    have bs := b.s
    have m := PB_mul i0 ia (show 0 ≤ t.2.1 by have := ok.2.1; omega) b.p
    have q1 : PB n ≤ PB (n + a) := PB_le (by omega)
    have q2 := PB_succ (n + a)
    have q3 : PB (a + n) = PB (n + a) := by rw [Nat.add_comm]
    by_cases c : ∀ c, t.2.2 = some c → i < c
    · rw [At_lo c] at e
      have := Option.some.inj e
      omega
    · cases hk : t.2.2 with
      | none => exact absurd (fun c hc => by rw [hk] at hc; cases hc) c
      | some d =>
        have hd : ¬ i < d := fun l => c fun c hc => by rw [hk] at hc; cases hc; exact l
        rw [At_some_t hk, if_neg hd] at e
        have := ok.2.2 d hk
        exact At_le (fun u hu => h u (List.mem_cons_of_mem _ hu)) (fun u hu => hb u (List.mem_cons_of_mem _ hu)) (by omega) (by omega) e
theorem tot_le {n : Nat} {ts : List Trn} (h : Srt ts) (hb : ∀ t ∈ ts, BT n t) {N : Int} (e : Tot ts = some N) : N ≤ PB (n + 1) := by
  have hf : ∀ t ∈ ts, t.2.2 ≠ none := fun t ht q => by rw [tot_none ht q] at e; cases e
  have p := PB_pos n
  have q := PB_succ n
  have := NB_full h.1 e (B := PB (n + 1)) fun t ht c hc => by
    have := (hb t ht).c c hc
    omega
  rw [← this]
  exact NB_le_pb h (Int.le_refl _)
/-! ### choices, and times that are in -/
theorem mem_of_at {ts : List Trn} (h : Srt ts) {j y : Int} (j0 : 0 ≤ j) (e : At ts j = some y) : memT ts y = true := by
  obtain ⟨e1, e2⟩ := (At_iff h j0).mp e
  unfold memT
  rw [e1, e2]
  exact decide_eq_true (by omega)
theorem choice_gen {P : Program} {w : World} {mg : Str → Option Value} {t : TA} {σ : L2.St} {H : Hp} {Q : VK} {a : Addr} {n : Nat} {ns : List Int} {j : Nat} (σ0 : σ[j]? = some (some (.ref a))) (hs : Src H a n) (hn : n ≤ 898000) (ht : ∀ R : List V → Hp → Prop, R (ns.map V.int) H → t σ H R)
    (h0 : 0 < ns.length) (h1 : ns.length ≤ 1000) (k : ∀ (m : Int) H', m ∈ ns → Src H' a (n + 1101) → Kp a H H' → Q (.int m) H') :
    tCall spOne [] E0 (tCons (tVar j) (tCons (tLst t) tNil)) σ H Q := by
  obtain ⟨ys, hy⟩ := hs.has
  refine ⟨_, σ0, ht _ ⟨(by rw [List.length_map]; exact Nat.le_trans h1 (by decide)), fun l hl => ?_⟩⟩
  have hal : a ≠ l := ne_of_none hy hl
  refine ⟨a, l, ns.map V.int, n, rfl, hal, upd_same, (by rw [List.length_map]; exact h0), (by rw [List.length_map]; omega), hs.same (Same.upd hl), by omega, fun v H1 hv hs1 k1 => ?_⟩
  obtain ⟨m, hm, rfl⟩ := List.mem_map.mp hv
  exact k m H1 hm hs1 ((Kp.of (Same.upd hl)).trans k1)
/-! ### the law's divisor; far trains -/
structure TxF (K : PySem.W.Frag) (mg : Str → Option Value) (aV aF aM : Addr) : Prop where
  dV : Dfn K mg "_law_divisor" st__law_divisor aV ["_law_one", "_law_other"]
  dF : Dfn K mg "_law_far_right" st__law_far_right aF ["_law_source", "_law_one", "_law_other"]
  dM : Dfn K mg "_law_meeting_right" st__law_meeting_right aM ["_law_source"]
def spDv : Sp := fun vs H Q _ => ∃ p q, vs = [.int p, .int q] ∧ 1 ≤ p ∧ 1 ≤ q ∧ ∀ d f, Euc p q d f → Q (.int d) H
def spFr (C : Addr) : Sp := fun vs H Q _ => ∃ s p q ts us n H0 H1, ∃ c : Nat, vs = [.ref s, .ref p, .ref q] ∧ Src H s c ∧ c ≤ 700000 ∧ TO C H0 H p ts n ∧ TO C H1 H q us n ∧ n ≤ 400 ∧ ts.length + us.length ≤ 1000 ∧ H0 s ≠ none ∧ H1 s ≠ none ∧ ∀ H', Kp s H H' → Src H' s (c + 16000) → Q (.bl true) H'
theorem rows_far {F most : Int} {ts : List Trn} (R : RowsOk F most ts) (f0 : 5 ≤ F) (f1 : F ≤ PB 41) : ∀ t ∈ ts, BT 100 t := by
  intro t ht
  obtain ⟨h1, h2, h3⟩ := R.bd t ht
  have ok := R.srt.1 t ht
  have p1 := ok.2.1
  have ff : F * F ≤ PB 82 := PB_mul (by omega) f1 (by omega) f1
  have e1 : PB 41 ≤ PB 82 := PB_le (by decide)
  have e2 : PB 83 = PB 82 + PB 82 := PB_succ 82
  have e3 : PB 84 = PB 83 + PB 83 := PB_succ 83
  have e4 : PB 85 = PB 84 + PB 84 := PB_succ 84
  have e5 : PB 86 = PB 85 + PB 85 := PB_succ 85
  have e6 : PB 87 = PB 86 + PB 86 := PB_succ 86
  have e7 : PB 87 ≤ PB 100 := PB_le (by decide)
  have e8 := PB_pos 82
  unfold gF at h1
  have ff0 : 0 ≤ F * F := Int.mul_nonneg (by omega) (by omega)
  refine ⟨by omega, by omega, fun c hc => ?_⟩
  have c1 := ok.2.2 c hc
  have c2 := h3 c hc
  have q : (c - 1) * t.2.1 ≤ F * F := Int.mul_le_mul (by omega) h2 (by omega) (by omega)
  omega
theorem sh_mem {ts us ms : List Trn} (hs : Srt ts) (hs' : Srt us) (hm : Srt ms) (mem : ∀ x, inL ms x ↔ inL ts x ∧ inL us x) (x : Int) : memT (nfs ms) x = (memT ts x && memT us x) := by
  have e : memT (nfs ms) x = memT ms x := by unfold memT; rw [nfs_nb hm, nfs_nb hm]
  rw [e]
  have w : ∀ {v : List Trn}, Srt v → (memT v x = true ↔ inL v x) := fun {v} hv => by
    rw [in_mem hv.1]
    exact ⟨of_decide_eq_true, decide_eq_true⟩
  rw [Bool.eq_iff_iff, Bool.and_eq_true, w hm, w hs, w hs', mem]
section
variable {P : Program} {w : World} {K : PySem.W.Frag} {mg : Str → Option Value} {base : Heap} {D : Ads} {aO aN aE aC aR aQ aV aF aM aD aE' aMt aL aS : Addr}
abbrev N_wdivisor : List Str := ["_law_one", "_law_other"]
theorem sc_wdivisor : FnScope N_wdivisor ["_law_one", "_law_other"] (defScope st__law_divisor) := ⟨rfl, rfl, rfl, by decide +kernel, rfl, by decide +kernel, by decide +kernel⟩
theorem ok_dv (T : Tx K mg D) (TF : TxF K mg aV aF aM) : Cal P w K mg base "_law_divisor" 1 aV ["_law_one", "_law_other"] spDv := TF.dV.cal fun fd F => by
  have B := T.t2.B
  have nd := sc_wdivisor.nd
  refine F.ok sc_wdivisor (fun vs H Q E h => ?_) (fun cdv A outer s H vs Q E hr h => ?_)
  · obtain ⟨p, q, rfl, _⟩ := h
    rfl
  · obtain ⟨p, q, rfl, p1, q1, k⟩ := h
    refine ⟨_, (pss_cons (ps_while PassesOwn.never (pt_cmpR op_gt (pv 1) pe_int (nomark _)) (pss_one (ps_par (i := 0) (j := 1) (by rfl) nd rfl rfl (by decide) rfl rfl (pa_cons (pv 1) (pa_cons (pe_op op_mod (pe_callTy call_int1 (by rfl) B.int (by decide +kernel) (pa_cons (pv 0) pa_nil)) (pv 1)) pa_nil)) (by rfl))))
       (pss_one (ps_ret (pv 0)))), ?_⟩
    refine ⟨fun z σ H2 => ∃ d r f g : Int, z = r.toNat ∧ σ = [some (.int d), some (.int r)] ∧ H2 = H ∧ EuS p q d r f g,
      ⟨q.toNat, p, q, 1, 0, rfl, rfl, rfl, eus_start p1 q1⟩, ?_⟩
    rintro z σ H2 ⟨d, r, f, g, rfl, rfl, rfl, S⟩
    have r0 := S.r0
    refine ⟨_, rfl, _, _, rfl, rfl, _, rfl, ?_⟩
    refine ite2 (fun c => ?_) (fun c => ?_)
    · have c' : 0 < r := of_decide_eq_true c
      have S' := eus_step S c'
      have m0 := S'.r0
      have ml := Int.emod_lt_of_pos d c'
      refine ⟨fun σ' H' => ∃ d' r' f' g' : Int, r'.toNat < r.toNat ∧ σ' = [some (.int d'), some (.int r')] ∧ H' = H2 ∧ EuS p q d' r' f' g', ?_, ?_⟩
      · rintro σ' H' ⟨d', r', f', g', h1, h2, h3, h4⟩
        exact ⟨r'.toNat, h1, d', r', f', g', rfl, h2, h3, h4⟩
      refine ⟨_, rfl, _, rfl, .inl ⟨_, rfl, _, rfl, _, _, rfl, rfl, c', _, _, rfl, ?_⟩⟩
      exact ⟨r, d % r, g, f - d / r * g, by omega, rfl, rfl, S'⟩
    · have c' : r = 0 := by
        have : ¬ (0 < r) := fun z => c (decide_eq_true z)
        omega
      subst c'
      exact ⟨_, rfl, k d f (eus_end p1 q1 S)⟩
abbrev N_wfarright : List Str := ["_law_source", "_law_one", "_law_other", "_law_both", "_law_some", "_law_every", "_law_repeat", "_law_time"]
theorem sc_wfarright : FnScope N_wfarright ["_law_source", "_law_one", "_law_other"] (defScope st__law_far_right) := ⟨rfl, rfl, rfl, by decide +kernel, rfl, by decide +kernel, by decide +kernel⟩
theorem ok_far15 (T : Tx K mg D) (M : MkT K mg D) (TL : TxL K mg aO aN aE aC aR) (TC : TxC K mg aQ) (TG : TxG K mg aD aE' aMt aL aS) (TF : TxF K mg aV aF aM) : Cal P w K mg base "_law_far_right" 9 aF ["_law_source", "_law_one", "_law_other"] (spFr D.C) := TF.dF.cal fun fd F => by
  have G_timecount := ok_tc (P := P) (w := w) (base := base) T TC
  have G_wdraw := ok_next (P := P) (w := w) (base := base) TL.t1
  have G_get := ok_get (P := P) (w := w) (base := base) T
  have G_con := ok_con (P := P) (w := w) (base := base) T
  have G_eq := ok_eq (P := P) (w := w) (base := base) T M
  have G_shared := ok_shared (P := P) (w := w) (base := base) T M TG
  have B := T.t2.B
  have nd := sc_wfarright.nd
  refine F.ok sc_wfarright (fun vs H Q E h => ?_) (fun cdv A outer S H vs Q E hr h => ?_)
  · obtain ⟨s, p, q, ts, us, n, H0, H1, c, rfl, _⟩ := h
    rfl
  · obtain ⟨s, p, q, ts, us, n, H0, H1, c, rfl, src, hc, TOp, TOq, hn, hln, hs0, hs1, k⟩ := h
    refine ⟨_, (pss_cons (ps_set (i := 3) nd rfl (Or.inl rfl) (pe_c G_shared (hr.mono (by decide)) rfl (pa_cons (pv 1) (pa_cons (pv 2) pa_nil))))
       (pss_cons (ps_if (pt_cmpR (G_eq.op_ne (hr.mono (by decide)) M.om M.ne) (pe_c G_shared (hr.mono (by decide)) rfl (pa_cons (pv 2) (pa_cons (pv 1) pa_nil))) (pv 3) (nomark _)) (pss_one (ps_ret pe_bl)) pss_nil)
       (pss_cons (ps_for PassesOwn.never rfl (pi_tup (pe_tup (pa_cons (pv 1) (pa_cons (pv 2) (pa_cons (pv 3) pa_nil))))) (pg_name (i := 4) nd rfl (Or.inl rfl)) (pss_cons (ps_set (i := 5) nd rfl (Or.inl rfl) (pe_c G_timecount (hr.mono (by decide)) rfl (pa_cons (pv 4) pa_nil)))
       (pss_one (ps_for PassesOwn.never rfl (pi_range1 rfl B.range (pa_cons (pe_op op_mulW pe_int (pe_callTy call_int1 (by rfl) B.int (by decide +kernel) (pa_cons (pe_cmpR op_ne (pv 5) pe_int (nomark _)) pa_nil))) pa_nil)) (pg_name (i := 6) nd rfl (Or.inl rfl)) (C8.pss_cut (ps_set (i := 7) nd rfl (Or.inl rfl) (G_get.p_ix (hr.mono (by decide)) (pv 4) (pe_c G_wdraw (hr.mono (by decide)) rfl (pa_cons (pv 0) (pa_cons (pe_ifExp (pt_cmp (pc_isN (pv 5))) (pe_op op_pow pe_int pe_int) (pv 5)) pa_nil)))))
       (pss_one (ps_if (pt_cmpR op_ne (pe_cmpR (G_con.op_in (hr.mono (by decide))) (pv 7) (pv 3) rfl) (pe_and (pe_cmpR (G_con.op_in (hr.mono (by decide))) (pv 7) (pv 1) rfl) (pe_one (pe_cmpR (G_con.op_in (hr.mono (by decide))) (pv 7) (pv 2) rfl))) (nomark _)) (pss_one (ps_ret pe_bl)) pss_nil)))))))
       (pss_one (ps_ret pe_bl))))), ?_⟩
    obtain ⟨ys, hys⟩ := src.has
    have hts := TOp.srt
    have hus := TOq.srt
    refine ⟨_, rfl, _, rfl, p, q, ts, us, n, H0, H1, rfl, TOp, TOq, by omega, hln, fun ms o H2 hm mem TOo s2 => ?_⟩
    have TOp2 := TOp.same s2
    have TOq2 := TOq.same s2
    refine ⟨_, rfl, _, rfl, q, p, us, ts, n, H1, H0, rfl, TOq2, TOp2, by omega, by omega, fun ms' o' H3 hm' mem' TOo' s3 => ?_⟩
    have e1 : nfs ms' = nfs ms := (nfs_iff hm' hm).mpr (nb_of_in hm' hm fun x => by rw [mem, mem', and_comm])
    have EB : EqT D.C H3 (nfs ms') (.ref o) (decide (nfs ms' = nfs ms)) := .row (TOo.same s3)
    obtain ⟨tB, tyB⟩ := EB.tyN
    rw [decide_eq_true e1] at EB
    obtain ⟨dxB, fsB, hoB⟩ := TOo'.has
    refine ⟨_, rfl, o', dxB, fsB, tB, rfl, hoB, tyB, o', _, _, _, _, _, rfl, TOo', EB, true, rfl, _, rfl, iteF ?_⟩
    have hso : H s ≠ none := by rw [hys]; exact fun z => nomatch z
    have TOo3 := TOo.same s3
    have TOp3 := TOp2.same s3
    have TOq3 := TOq2.same s3
    have s13 := s2.trans s3
    obtain ⟨zs3, hys3⟩ := (src.same s13).has
    refine ⟨_, rfl, _, rfl, _, rfl, (by show 3 ≤ sizeLine; decide), fun tp htp => ⟨tp, rfl, ⟨_, SqT.of upd_same⟩, ?_⟩⟩
    have ntp : tp ≠ s := (ne_of_none hys3 htp).symm
    have s4 := Same.upd (o := .tup [.ref p, .ref q, .ref o]) htp
    generalize hH4 : upd H3 tp (.tup [.ref p, .ref q, .ref o]) = H4 at s4
    have htp4 : H4 tp = some (.tup [.ref p, .ref q, .ref o]) := by rw [← hH4]; exact upd_same
    have TOo4 := TOo3.same s4
    have TOp4 := TOp3.same s4
    have TOq4 := TOq3.same s4
    have s14 := s13.trans s4
    have src4 := src.same s14
    obtain ⟨zs4, hys4⟩ := src4.has
    have objs : ∀ x ∈ [V.ref p, .ref q, .ref o], ∃ r g N Hb, x = .ref r ∧ TO D.C Hb H4 r g N ∧ N ≤ 804 ∧ Hb s ≠ none := fun x hx => by
      simp only [List.mem_cons, List.mem_nil_iff, or_false] at hx
      rcases hx with rfl | rfl | rfl
      · exact ⟨p, ts, n, H0, rfl, TOp4, by omega, hs0⟩
      · exact ⟨q, us, n, H1, rfl, TOq4, by omega, hs1⟩
      · exact ⟨o, nfs ms, n + n + 4, H, rfl, TOo4, by omega, hso⟩
    refine for_tup (K := K) (a := tp) (xs := [.ref p, .ref q, .ref o]) (fun i σ H6 => ∃ v4 v5 v6 v7 : Option V, σ = [some (.ref s), some (.ref p), some (.ref q), some (.ref o), v4, v5, v6, v7] ∧ Kp s H4 H6 ∧ Src H6 s (c + 4404 * i))
      ⟨_, _, _, _, rfl, Kp.refl, src4⟩ (fun i σ H6 _ ⟨_, _, _, _, _, k6, _⟩ => SqT.of (k6 _ _ ntp htp4)) ?_ ?_
    · rintro i x σ H6 hxi ⟨v4, v5, v6, v7, rfl, k6, src6⟩
      have hi : i < 3 := (List.getElem?_eq_some_iff.mp hxi).1
      obtain ⟨r, g, N, Hb, rfl, TOr, hN, hbs⟩ := objs x (List.mem_of_getElem? hxi)
      have TOr6 := TOr.ko (KO.kp k6 hbs hys4)
      refine ⟨_, rfl, r, g, N, Hb, rfl, TOr6, ?_⟩
      have hg := TOr.srt
      have b4 : (4 : Int) ≤ BB := by
        have h1 := PB_le (show 3 ≤ 5000 by decide)
        have h2 : PB 3 = 8 := by unfold PB; decide
        have h3 : PB 5000 = BB := rfl
        omega
      obtain ⟨W, hW, hW4, hW0⟩ : ∃ W : Nat, (4 * (if (!decide (cV (Tot g) = V.int 0)) = true then 1 else 0) : Int) = W ∧ W ≤ 4 ∧ (0 < W → Tot g ≠ some 0) := by
        by_cases z : Tot g = some 0
        · refine ⟨0, ?_, by decide, fun h => absurd h (by decide)⟩
          rw [z, decide_eq_true (show cV (some 0) = V.int 0 from rfl)]
          rfl
        · refine ⟨4, ?_, by decide, fun _ => z⟩
          rw [decide_eq_false fun e => z (by
            cases hT : Tot g with
            | none => rw [hT] at e; cases e
            | some m =>
              rw [hT] at e
              have := V.int.inj e
              rw [this])]
          rfl
      have hsc : scal (cV (Tot g)) (V.int 0) = true := by cases Tot g <;> rfl
      refine ⟨_, rfl, hsc, .inr ⟨_, rfl, _, _, rfl, rfl, mulS (by omega) (by omega) (by split <;> omega) (by split <;> omega), ?_⟩⟩
      refine ⟨(W : Int), congrArg (fun z => [V.int z]) hW, by omega, by omega, ?_⟩
      refine for_range (lo := 0) (n := W) (fun j σ H7 => ∃ v6 v7 : Option V, σ = [some (.ref s), some (.ref p), some (.ref q), some (.ref o), some (.ref r), some (cV (Tot g)), v6, v7] ∧ Kp s H4 H7 ∧ Src H7 s (c + 4404 * i + 1101 * j))
        ⟨_, _, rfl, k6, src6⟩ ?_ ?_
      · rintro j σ H7 hj ⟨v6, v7, rfl, k7, src7⟩
        have hz := hW0 (by omega)
        have TOr7 := TOr.ko (KO.kp k7 hbs hys4)
        obtain ⟨dr, fr, hr7⟩ := TOr7.has
        have e1k : PB 805 ≤ PB 1000 := PB_le (by decide)
        have e1l : PB 1000 ≤ PB 5000 := PB_le (by decide)
        have bb : PB 5000 = BB := rfl
        have p9 : (10 : Int) ^ (9 : Int).toNat ≤ PB 1000 := Int.le_trans (PB_of (n := 40) (by decide +kernel)) (PB_le (by decide))
        have tle : ∀ m, Tot g = some m → m ≤ PB 805 ∧ 1 ≤ m := fun m e => by
          have h1 := tot_le hg TOr.bt e
          have h2 : PB (N + 1) ≤ PB 805 := PB_le (by omega)
          have h3 := tot_nn hg.1 m e
          have : m ≠ 0 := fun z => hz (by rw [e, z])
          omega
        refine ⟨fun σ' H' => ∃ y : Int, σ' = [some (.ref s), some (.ref p), some (.ref q), some (.ref o), some (.ref r), some (cV (Tot g)), some (.int (0 + (j : Int))), some (.int y)] ∧ 0 ≤ y ∧ Kp s H4 H' ∧ Src H' s (c + 4404 * i + 1101 * (j + 1)), ?_, ?_⟩
        · have esum : c + 4404 * i + 1101 * j + 1101 = c + 4404 * i + 1101 * (j + 1) := by omega
          cases hT : Tot g with
          | none =>
            refine ⟨_, rfl, _, rfl, _, rfl, _, rfl, iteT ⟨_, _, rfl, rfl, ⟨by decide, by decide, by decide⟩, s, _, c + 4404 * i + 1101 * j, rfl, by decide, by decide +kernel, src7, by omega, fun a H8 a0 a1 src8 k8 => ?_⟩⟩
            have TOr8 := TOr7.ko (KO.kp k8 hbs (show H7 s = some (.lst (src7.has.choose)) from src7.has.choose_spec))
            obtain ⟨d8, f8, hr8⟩ := TOr8.has
            cases e : At g a with
            | none =>
              obtain ⟨m, e1, _⟩ := (At_none hg.1 a0).mp e
              rw [hT] at e1
              cases e1
            | some y =>
              rw [esum] at src8
              exact ⟨r, d8, f8, rfl, hr8, r, g, N, Hb, a, y, rfl, TOr8, a0, e, by omega, y, rfl, At_nn hg a0 e, k7.trans k8, src8⟩
          | some m =>
            obtain ⟨t1, t2⟩ := tle m hT
            refine ⟨_, rfl, _, rfl, _, rfl, _, rfl, iteF ⟨_, rfl, s, m, c + 4404 * i + 1101 * j, rfl, by omega, Nat.lt_of_lt_of_le (PB_abs (by omega) t1) (Nat.pow_le_pow_right (by decide) (by decide)), src7, by omega, fun a H8 a0 a1 src8 k8 => ?_⟩⟩
            have TOr8 := TOr7.ko (KO.kp k8 hbs (show H7 s = some (.lst (src7.has.choose)) from src7.has.choose_spec))
            obtain ⟨d8, f8, hr8⟩ := TOr8.has
            cases e : At g a with
            | none =>
              obtain ⟨m', e1, e2⟩ := (At_none hg.1 a0).mp e
              rw [hT] at e1
              cases e1
              omega
            | some y =>
              rw [esum] at src8
              exact ⟨r, d8, f8, rfl, hr8, r, g, N, Hb, a, y, rfl, TOr8, a0, e, by omega, y, rfl, At_nn hg a0 e, k7.trans k8, src8⟩
        rintro σ' H8 ⟨y, rfl, y0, k8, src8⟩
        have TOo8 := TOo4.ko (KO.kp k8 hso hys4)
        have TOp8 := TOp4.ko (KO.kp k8 hs0 hys4)
        have TOq8 := TOq4.ko (KO.kp k8 hs1 hys4)
        obtain ⟨do8, fo8, ho8⟩ := TOo8.has
        obtain ⟨dp8, fp8, hp8⟩ := TOp8.has
        obtain ⟨dq8, fq8, hq8⟩ := TOq8.has
        have vb : ∀ {g : List Trn} {b : Bool}, memT g y = b → V.bl (isI (.int y) && (decide (0 ≤ toI (.int y)) && memT g (toI (.int y)))) = .bl b := fun {g b} h => by
          show V.bl (true && (decide (0 ≤ y) && memT g y)) = _
          rw [decide_eq_true y0, h]
          rfl
        have hsm := sh_mem hts hus hm mem y
        cases hA : memT ts y with
        | false =>
          rw [hA, Bool.false_and] at hsm
          refine ⟨_, rfl, _, rfl, o, do8, fo8, rfl, ho8, o, _, _, _, .int y, _, rfl, TOo8, .int y, false, vb hsm, _, rfl, _, rfl, p, dp8, fp8, rfl, hp8, p, _, _, _, .int y, _, rfl, TOp8, .int y, false, vb hA, _, rfl, iteF ⟨rfl, _, rfl, ?_⟩⟩
          rw [decide_eq_true (show V.bl (id false) = V.bl false from rfl)]
          exact iteF ⟨_, _, rfl, k8, src8⟩
        | true =>
          rw [hA, Bool.true_and] at hsm
          refine ⟨_, rfl, _, rfl, o, do8, fo8, rfl, ho8, o, _, _, _, .int y, _, rfl, TOo8, .int y, memT us y, vb hsm, _, rfl, _, rfl, p, dp8, fp8, rfl, hp8, p, _, _, _, .int y, _, rfl, TOp8, .int y, true, vb hA, _, rfl, iteT ⟨_, rfl, _, rfl, q, dq8, fq8, rfl, hq8, q, _, _, _, .int y, _, rfl, TOq8, .int y, memT us y, vb rfl, rfl, _, rfl, ?_⟩⟩
          rw [decide_eq_true (show V.bl (id (memT us y)) = V.bl (id (memT us y)) from rfl)]
          exact iteF ⟨_, _, rfl, k8, src8⟩
      · rintro σ H7 ⟨v6, v7, rfl, k7, src7⟩
        exact ⟨_, _, _, _, rfl, k7, src7.mono (by omega)⟩
    · rintro σ H6 ⟨v4, v5, v6, v7, rfl, k6, src6⟩
      exact k H6 ((Kp.of s14).trans k6) (src6.mono (by show c + 4404 * 3 ≤ _; omega))
end
section
variable {P : Program} {w : World} {K : PySem.W.Frag} {mg : Str → Option Value} {base : Heap} {D : Ads}
abbrev N_Trainstrainlist : List Str := ["self"]
theorem sc_Trainstrainlist : FnScope N_Trainstrainlist ["self"] (defScope st_Trains_train_list) := ⟨rfl, rfl, rfl, by decide +kernel, rfl, by decide +kernel, by decide +kernel⟩
theorem ok_tl (T : Tx K mg D) : Met P w K mg base D.C "train_list" 1 D.mT ["self"] (spTl D.C) := T.mT.met fun fd F => by
  have B := T.t2.B
  refine F.ok sc_Trainstrainlist (fun vs H Q E h => ?_) (fun cdv A outer s H vs Q E hr h => ?_)
  · obtain ⟨p, ts, n, H0, rfl, _⟩ := h
    rfl
  · obtain ⟨p, ts, n, H0, rfl, R, k⟩ := h
    obtain ⟨dx, RR, FF, AA, xs, hp, h2, h3, h4, h5, _⟩ := R.ob
    refine ⟨_, (pss_one (ps_ret (pe_callTy call_list_of (by rfl) B.list (by decide +kernel) (pa_cons (pe_fld (pv 0) rfl) pa_nil)))), ?_⟩
    exact ⟨_, rfl, p, D.C, dx, _, _, rfl, hp, T.cl, T.nR, trF_r _ _ _ _, RR, xs, rfl, .inl (SqL.of h2), fun l hl => k l xs _ hl rfl h3⟩
end
/-! ### two trains without end -/
theorem nfs_end (b p : Int) : nfs [(b, p, none)] = [(b, p, none)] := by
  show [] ++ [plainT (b, p, none)] = _
  unfold plainT
  rw [if_neg (by intro z; cases z)]
  rfl
theorem in_end {b p x : Int} (hp : 1 ≤ p) : inT (b, p, none) x ↔ b ≤ x ∧ p ∣ x - b := by
  constructor
  · rintro ⟨i, i0, _, e⟩
    have e : x = b + i * p := e
    have := Int.mul_nonneg i0 (show 0 ≤ p by omega)
    exact ⟨by omega, i, by rw [Int.mul_comm]; omega⟩
  · rintro ⟨h, i, e⟩
    refine ⟨i, ?_, fun c hc => (by cases hc), ?_⟩
    · by_cases z : 0 ≤ i
      · exact z
      · have := Int.mul_le_mul_of_nonneg_left (show i ≤ -1 by omega) (show 0 ≤ p by omega)
        omega
    · show x = b + i * p
      rw [Int.mul_comm]
      omega
theorem lcm_dvd {p q d f z : Int} (E : Euc p q d f) : p / d * q ∣ z ↔ p ∣ z ∧ q ∣ z := by
  have d1 := E.d1
  obtain ⟨p', hp⟩ := E.dp
  obtain ⟨q', hq⟩ := E.dq
  obtain ⟨k, bz⟩ := E.bz
  have e1 : p / d = p' := by rw [hp, Int.mul_ediv_cancel_left _ (by omega)]
  rw [e1]
  constructor
  · rintro ⟨w, rfl⟩
    exact ⟨⟨q' * w, by rw [hp, hq]; simp only [Int.mul_assoc, Int.mul_left_comm]⟩, ⟨p' * w, by rw [Int.mul_comm p' q, Int.mul_assoc]⟩⟩
  · rintro ⟨⟨a, ha⟩, ⟨b, hb⟩⟩
    refine ⟨f * b - k * a, ?_⟩
    have h1 : d * z = d * (p' * q * (f * b - k * a)) := by
      have e2 : d * z = f * p * z - k * q * z := by rw [bz, Int.add_mul]; omega
      have e3 : f * p * z = d * (p' * q * (f * b)) := by
        rw [hb, hp]
        simp only [Int.mul_assoc, Int.mul_left_comm, Int.mul_comm]
      have e4 : k * q * z = d * (p' * q * (k * a)) := by
        rw [ha, hp]
        simp only [Int.mul_assoc, Int.mul_left_comm, Int.mul_comm]
      rw [e2, e3, e4, ← Int.mul_sub, ← Int.mul_sub]
    exact Int.eq_of_mul_eq_mul_left (by omega) h1
theorem srt_one {t : Trn} (h : OkTr t) : Srt [t] := ⟨fun u hu => by rw [List.mem_singleton.mp hu]; exact h, List.pairwise_singleton _ _⟩
theorem ends_meet {s p b q m d f : Int} {ms : List Trn} (E : Euc p q d f) (hm : Srt ms) (p1 : 1 ≤ p) (q1 : 1 ≤ q) (s0 : 0 ≤ s) (b0 : 0 ≤ b) (h1 : p ∣ m - s) (h2 : q ∣ m - b)
    (mem : ∀ x, inL ms x ↔ inL [((s, p, none) : Trn)] x ∧ inL [((b, q, none) : Trn)] x) : ∃ x0, nfs ms = [(x0, p / d * q, none)] ∧ 1 ≤ p / d * q ∧ mxI s b ≤ x0 ∧ x0 < mxI s b + p / d * q ∧ (m - x0) % (p / d * q) = 0 := by
  have d1 := E.d1
  obtain ⟨p', hp⟩ := E.dp
  have e1 : p / d = p' := by rw [hp, Int.mul_ediv_cancel_left _ (by omega)]
  have p'1 : 1 ≤ p' := by
    by_cases z : 1 ≤ p'
    · exact z
    · have := Int.mul_le_mul_of_nonneg_left (show p' ≤ 0 by omega) (show 0 ≤ d by omega)
      omega
  have L1 : 1 ≤ p / d * q := by
    rw [e1]
    have : 1 * 1 ≤ p' * q := Int.mul_le_mul p'1 q1 (by decide) (by omega)
    omega
  have lc : ∀ z, p / d * q ∣ z ↔ p ∣ z ∧ q ∣ z := fun z => lcm_dvd E
  generalize p / d * q = L at L1 lc
  have lo : s ≤ mxI s b ∧ b ≤ mxI s b ∧ (mxI s b = s ∨ mxI s b = b) := by unfold mxI; split <;> omega
  generalize mxI s b = M at lo
  have r0 := Int.emod_nonneg (m - M) (show L ≠ 0 by omega)
  have r1 := Int.emod_lt_of_pos (m - M) (show 0 < L by omega)
  have rd := Int.mul_ediv_add_emod (m - M) L
  have hx0 : L ∣ m - (M + (m - M) % L) := ⟨(m - M) / L, by omega⟩
  generalize (m - M) % L = r at r0 r1 rd hx0
  have ok0 : OkTr (M + r, L, none) := ⟨by show 0 ≤ M + r; omega, L1, fun c hc => by cases hc⟩
  refine ⟨M + r, ?_, L1, by omega, by omega, Int.emod_eq_zero_of_dvd hx0⟩
  rw [← nfs_end]
  refine (nfs_iff hm (srt_one ok0)).mpr (nb_of_in hm (srt_one ok0) fun x => ?_)
  rw [mem, in_one, in_one, in_one, in_end p1, in_end q1, in_end L1]
  have a1 : p ∣ x - s ↔ p ∣ x - m := by
    have e : x - s = (x - m) + (m - s) := by omega
    rw [e]
    exact ⟨fun h => (Int.dvd_add_left h1).mp h, fun h => Int.dvd_add h h1⟩
  have a2 : q ∣ x - b ↔ q ∣ x - m := by
    have e : x - b = (x - m) + (m - b) := by omega
    rw [e]
    exact ⟨fun h => (Int.dvd_add_left h2).mp h, fun h => Int.dvd_add h h2⟩
  have a3 : L ∣ x - (M + r) ↔ L ∣ x - m := by
    have e : x - (M + r) = (x - m) + (m - (M + r)) := by omega
    rw [e]
    exact ⟨fun h => (Int.dvd_add_left hx0).mp h, fun h => Int.dvd_add h hx0⟩
  rw [a1, a2, a3, lc]
  constructor
  · rintro ⟨⟨g1, g2⟩, g3, g4⟩
    refine ⟨?_, g2, g4⟩
    obtain ⟨w, hw⟩ := a3.mpr ((lc _).mpr ⟨g2, g4⟩)
    by_cases z : 0 ≤ w
    · have := Int.mul_nonneg (show 0 ≤ L by omega) z
      omega
    · have := Int.mul_le_mul_of_nonneg_left (show w ≤ -1 by omega) (show 0 ≤ L by omega)
      omega
  · rintro ⟨g1, g2, g3⟩
    exact ⟨⟨by omega, g2⟩, by omega, g3⟩
theorem ends_never {s p q : Int} {ms : List Trn} (hm : Srt ms) (p1 : 1 ≤ p) (q1 : 1 ≤ q)
    (mem : ∀ x, inL ms x ↔ inL [((s, 2 * p, none) : Trn)] x ∧ inL [((s + 1, 2 * q, none) : Trn)] x) : nfs ms = [] := by
  have sn : Srt ([] : List Trn) := ⟨fun t ht => (by cases ht), List.Pairwise.nil⟩
  have : nfs ms = nfs [] := (nfs_iff hm sn).mpr (nb_of_in hm sn fun x => by
    rw [mem, in_one, in_one, in_end (by omega), in_end (by omega)]
    constructor
    · rintro ⟨⟨_, a, ha⟩, _, b, hb⟩
      rw [Int.mul_assoc] at ha hb
      omega
    · intro h
      exact absurd h in_nil)
  rw [this]
  rfl
theorem sh_end (x : Int) : SeqAt.shaped (.tuple [.int x, .none]) = true := by
  refine Bool.and_eq_true_iff.mpr ⟨by simp [PyData.canLay0, PyData.canLayAll0], decide_eq_true ?_⟩
  simp only [PyData.depth, PyData.depthAll]
  omega
theorem eq_end (x : Int) : PyData.eqv (.tuple [.int x, .none]) (.tuple [.int x, .none]) = true := SeqAt.eqv_refl _ (Bool.and_eq_true_iff.mp (sh_end x)).1
/-- one train without end, made -/
theorem end_mk {C : Addr} {H : Hp} {Q : Addr → Hp → Prop} {tp l : Addr} {x p : Int} (htp : H tp = none) (hl : (upd H tp (.tup [.int x, .int p, .non])) l = none) (hx0 : 0 ≤ x) (hx1 : x ≤ PB 100) (hp0 : 1 ≤ p) (hp1 : p ≤ PB 100)
    (k : ∀ o H', TO C H H' o [(x, p, none)] 101 → Same H H' → Q o H') :
    ∀ z dx, (upd (upd H tp (.tup [.int x, .int p, .non])) l (.lst [.ref tp])) z = none → (upd (upd H tp (.tup [.int x, .int p, .non])) l (.lst [.ref tp])) dx = none → dx ≠ z → spInit C [.ref z, .ref l] (upd (upd (upd (upd H tp (.tup [.int x, .int p, .non])) l (.lst [.ref tp])) dx (.own z)) z (.ins C dx [])) (fun v H3 => v = .non ∧ Q z H3) E0 := by
  have s3 := Same.upd (o := .tup [.int x, .int p, .non]) htp
  have s4 := Same.upd (o := .lst [.ref tp]) hl
  have ok0 : OkTr (x, p, none) := ⟨hx0, hp0, fun c hc => by cases hc⟩
  refine trains_made (a := l) (xs := [.ref tp]) (ts := [(x, p, none)]) (n := 100) upd_same (Trs.one ⟨tp, rfl, s4 _ _ upd_same⟩) (srt_one ok0) (fun t ht => by
    rw [List.mem_singleton.mp ht]
    exact ⟨hx1, hp1, fun c hc => by cases hc⟩) (by decide) (by show 1 ≤ 1000; decide) fun o H5 TO5 s5 => ?_
  rw [nfs_end] at TO5
  exact k o H5 (TO5.base (s3.trans s4)) ((s3.trans s4).trans s5)
def spMr : Sp := fun vs H Q _ => ∃ s, ∃ c : Nat, vs = [.ref s] ∧ Src H s c ∧ c ≤ 700000 ∧ ∀ H', Kp s H H' → Src H' s (c + 12000) → Q (.bl true) H'
theorem p12 : (10 : Int) ^ (12 : Int).toNat ≤ PB 40 := PB_of (by decide +kernel)
section
variable {P : Program} {w : World} {K : PySem.W.Frag} {mg : Str → Option Value} {base : Heap} {D : Ads} {aO aN aE aC aR aQ aV aF aM aD aE' aMt aL aS : Addr}
abbrev N_wmeetingright : List Str := ["_law_source", "_law_start", "_law_step", "_law_gap", "_law_meet", "_law_begin", "_law_told", "_law_least", "_law_never"]
theorem sc_wmeetingright : FnScope N_wmeetingright ["_law_source"] (defScope st__law_meeting_right) := ⟨rfl, rfl, rfl, by decide +kernel, rfl, by decide +kernel, by decide +kernel⟩
theorem ok_mr (T : Tx K mg D) (M : MkT K mg D) (TL : TxL K mg aO aN aE aC aR) (TG : TxG K mg aD aE' aMt aL aS) (TF : TxF K mg aV aF aM) : Cal P w K mg base "_law_meeting_right" 9 aM ["_law_source"] spMr := TF.dM.cal fun fd F => by
  have G_wdraw := ok_next (P := P) (w := w) (base := base) TL.t1
  have G_wchoice := ok_one (P := P) (w := w) (base := base) TL.t1
  have G_trainlist := ok_tl (P := P) (w := w) (base := base) T
  have G_shared := ok_shared (P := P) (w := w) (base := base) T M TG
  have G_wdivisor := ok_dv (P := P) (w := w) (base := base) T TF
  have B := T.t2.B
  have nd := sc_wmeetingright.nd
  refine F.ok sc_wmeetingright (fun vs H Q E h => ?_) (fun cdv A outer S H vs Q E hr h => ?_)
  · obtain ⟨s, c, rfl, _⟩ := h
    rfl
  · obtain ⟨s, c, rfl, src, hc, k⟩ := h
    refine ⟨_, (pss_cons (ps_par (i := 1) (j := 2) (by rfl) nd rfl rfl (by decide) rfl rfl (pa_cons (pe_c G_wdraw (hr.mono (by decide)) rfl (pa_cons (pv 0) (pa_cons (pe_op op_pow pe_int pe_int) pa_nil))) (pa_cons (pe_op op_add pe_int (pe_c G_wdraw (hr.mono (by decide)) rfl (pa_cons (pv 0) (pa_cons (pe_c G_wchoice (hr.mono (by decide)) rfl (pa_cons (pv 0) (pa_cons (pe_lst (pa_cons pe_int (pa_cons (pe_op op_pow pe_int pe_int) pa_nil))) pa_nil))) pa_nil)))) pa_nil)) (by rfl))
       (pss_cons (ps_set (i := 3) nd rfl (Or.inl rfl) (pe_op op_add pe_int (pe_c G_wdraw (hr.mono (by decide)) rfl (pa_cons (pv 0) (pa_cons (pe_c G_wchoice (hr.mono (by decide)) rfl (pa_cons (pv 0) (pa_cons (pe_lst (pa_cons pe_int (pa_cons (pe_op op_pow pe_int pe_int) pa_nil))) pa_nil))) pa_nil)))))
       (pss_cons (ps_set (i := 4) nd rfl (Or.inl rfl) (pe_op op_add (pv 1) (pe_op op_mulW (pv 2) (pe_c G_wdraw (hr.mono (by decide)) rfl (pa_cons (pv 0) (pa_cons (pe_op op_pow pe_int pe_int) pa_nil))))))
       (C8.pss_cut (ps_set (i := 5) nd rfl (Or.inl rfl) (pe_op op_add (pe_op op_mod (pe_callTy call_int1 (by rfl) B.int (by decide +kernel) (pa_cons (pv 4) pa_nil)) (pv 3)) (pe_op op_mulW (pv 3) (pe_c G_wdraw (hr.mono (by decide)) rfl (pa_cons (pv 0) (pa_cons (pe_op op_add (pe_op op_fdivW (pv 4) (pv 3)) pe_int) pa_nil))))))
       (pss_cons (ps_set (i := 6) nd rfl (Or.inl rfl) (G_trainlist.p_m0 T.cl (hr.mono (by decide)) (pe_c G_shared (hr.mono (by decide)) rfl (pa_cons (pe_trains T M (hr.mono (by decide)) rfl (pa_cons (pe_lst (pa_cons (pe_tup (pa_cons (pv 1) (pa_cons (pv 2) (pa_cons pe_non pa_nil)))) pa_nil)) pa_nil)) (pa_cons (pe_trains T M (hr.mono (by decide)) rfl (pa_cons (pe_lst (pa_cons (pe_tup (pa_cons (pv 5) (pa_cons (pv 3) (pa_cons pe_non pa_nil)))) pa_nil)) pa_nil)) pa_nil)))))
       (C8.pss_cut (ps_set (i := 7) nd rfl (Or.inl rfl) (pe_op op_mulW (pe_op op_fdivW (pv 2) (pe_c G_wdivisor (hr.mono (by decide)) rfl (pa_cons (pv 2) (pa_cons (pv 3) pa_nil)))) (pv 3)))
       (pss_cons (ps_if (PW.pt (pw_or (pt_cmpR op_ne (pe_callB call_len_seq (by rfl) B.len PySem.boot_len (pa_cons (pv 6) pa_nil)) pe_int (nomark _)) (pw_or (pt_cmpR (op_neD hr.units) (pe_slice (r := rSlA K) sl_tupA (pe_ix (r := rIxL K) ix_list (pv 6) pe_int (fun _ _ => rfl)) (po_some pe_int) po_none) (pe_tup (pa_cons (pv 7) (pa_cons pe_non pa_nil))) (nomark _)) (pw_or1 (pt_cmpR op_ne (pe_op op_mod (pe_callTy call_int1 (by rfl) B.int (by decide +kernel) (pa_cons (pe_op op_sub (pv 4) (pe_ix (r := rIxT K) ix_tup (pe_ix (r := rIxL K) ix_list (pv 6) pe_int (fun _ _ => rfl)) pe_int (fun _ _ => rfl))) pa_nil)) (pv 7)) pe_int (nomark _)))))) (pss_one (ps_ret pe_bl)) pss_nil)
       (pss_cons (ps_if (pt_not (pt_chain op_le op_lt (pe_callB (call_max2 rfl) (by rfl) B.max (by decide +kernel) (pa_cons (pv 1) (pa_cons (pv 5) pa_nil))) (pe_ix (r := rIxT K) ix_tup (pe_ix (r := rIxL K) ix_list (pv 6) pe_int (fun _ _ => rfl)) pe_int (fun _ _ => rfl)) (pe_op op_add (pe_callB (call_max2 rfl) (by rfl) B.max (by decide +kernel) (pa_cons (pv 1) (pa_cons (pv 5) pa_nil))) (pv 7)))) (pss_one (ps_ret pe_bl)) pss_nil)
       (pss_cons (ps_set (i := 8) nd rfl (Or.inl rfl) (pe_c G_shared (hr.mono (by decide)) rfl (pa_cons (pe_trains T M (hr.mono (by decide)) rfl (pa_cons (pe_lst (pa_cons (pe_tup (pa_cons (pv 1) (pa_cons (pe_op op_mulW pe_int (pv 2)) (pa_cons pe_non pa_nil)))) pa_nil)) pa_nil)) (pa_cons (pe_trains T M (hr.mono (by decide)) rfl (pa_cons (pe_lst (pa_cons (pe_tup (pa_cons (pe_op op_add (pv 1) pe_int) (pa_cons (pe_op op_mulW pe_int (pv 3)) (pa_cons pe_non pa_nil)))) pa_nil)) pa_nil)) pa_nil))))
       (pss_one (ps_ret (pe_cmpR (op_eqD hr.units) (G_trainlist.p_m0 T.cl (hr.mono (by decide)) (pv 8)) (pe_lst pa_nil) (nomark _))))))))))))), ?_⟩
    have hp12 := p12
    have e41 : PB 41 = PB 40 + PB 40 := PB_succ 40
    have e40 := PB_pos 40
    have e80 : PB 41 ≤ PB 81 := PB_le (by decide)
    have e82 : PB 82 = PB 81 + PB 81 := PB_succ 81
    have e97 : PB 83 ≤ PB 100 := PB_le (by decide)
    have e83 : PB 82 ≤ PB 100 := PB_le (by decide)
    have e84 : PB 41 ≤ PB 100 := PB_le (by decide)
    have e101 : PB 42 ≤ PB 100 := PB_le (by decide)
    have e42 : PB 42 = PB 41 + PB 41 := PB_succ 41
    have e100 : PB 100 ≤ PB 5000 := PB_le (by decide)
    have bb : PB 5000 = BB := rfl
    obtain ⟨ys, hys⟩ := src.has
    -- start and step
    refine ⟨_, rfl, _, _, rfl, rfl, ⟨by decide, by decide, by decide⟩, s, _, c, rfl, by decide, by decide +kernel, src, by omega, fun st H1 st0 st1 src1 k1 => ?_⟩
    refine draw_gen (P := P) (w := w) (mg := mg) (a := s) (n := c + 1101) (ns := [9, 10 ^ (12 : Int).toNat]) (hi := 10 ^ (12 : Int).toNat) rfl src1 (by omega) (fun R h => ⟨_, _, rfl, rfl, ⟨by decide, by decide, by decide⟩, h⟩) (by simp) (by simp) (fun m hm => ?_) (by decide +kernel) fun pr H2 pr0 pr1 _ src2 k2 => ⟨_, _, rfl, rfl, _, _, rfl, ?_⟩
    · simp only [List.mem_cons, List.mem_nil_iff, or_false] at hm
      rcases hm with rfl | rfl <;> decide +kernel
    -- gap
    refine draw_gen (P := P) (w := w) (mg := mg) (a := s) (n := c + 1101 + 2202) (ns := [9, 10 ^ (12 : Int).toNat]) (hi := 10 ^ (12 : Int).toNat) rfl src2 (by omega) (fun R h => ⟨_, _, rfl, rfl, ⟨by decide, by decide, by decide⟩, h⟩) (by simp) (by simp) (fun m hm => ?_) (by decide +kernel) fun gr H3 gr0 gr1 _ src3 k3 => ⟨_, _, rfl, rfl, ?_⟩
    · simp only [List.mem_cons, List.mem_nil_iff, or_false] at hm
      rcases hm with rfl | rfl <;> decide +kernel
    -- meet
    refine ⟨_, rfl, _, rfl, _, rfl, _, _, rfl, rfl, ⟨by decide, by decide, by decide⟩, s, _, c + 1101 + 2202 + 2202, rfl, by decide, by decide +kernel, src3, by omega, fun mr H4 mr0 mr1 src4 k4 => ⟨_, _, rfl, rfl, mulS (i := 1 + pr) (j := mr) (by omega) (by omega) (by omega) (by omega), _, _, rfl, rfl, ?_⟩⟩
    have P1 : 1 ≤ 1 + pr := by omega
    have Q1 : 1 ≤ 1 + gr := by omega
    have pb : 1 + pr ≤ PB 41 := by omega
    have qb : 1 + gr ≤ PB 41 := by omega
    have mm0 : 0 ≤ (1 + pr) * mr := Int.mul_nonneg (by omega) mr0
    have mm1 : (1 + pr) * mr ≤ PB (41 + 40) := PB_mul (by omega) pb mr0 (by omega)
    have hpm : (1 + pr) ∣ st + (1 + pr) * mr - st := ⟨mr, by omega⟩
    have M0 : 0 ≤ st + (1 + pr) * mr := by omega
    have M1 : st + (1 + pr) * mr ≤ PB 82 := by
      have : PB (41 + 40) = PB 81 := rfl
      omega
    have hsm : st ≤ st + (1 + pr) * mr := by omega
    have k04 := ((k1.trans k2).trans k3).trans k4
    refine ⟨fun σ' H' => ∃ p q m b : Int, σ' = [some (.ref s), some (.int st), some (.int p), some (.int q), some (.int m), some (.int b), none, none, none] ∧ 1 ≤ p ∧ 1 ≤ q ∧ p ≤ PB 41 ∧ q ≤ PB 41 ∧ p ∣ m - st ∧ q ∣ m - b ∧ m ≤ PB 82 ∧ 0 ≤ b ∧ b ≤ m ∧ Kp s H H' ∧ Src H' s (c + 1101 + 2202 + 2202 + 1101 + 1101), ?_, ?_⟩
    · -- begin
      have mq0 := Int.emod_nonneg (st + (1 + pr) * mr) (show 1 + gr ≠ 0 by omega)
      have mq1 := Int.emod_lt_of_pos (st + (1 + pr) * mr) (show 0 < 1 + gr by omega)
      have md := Int.mul_ediv_add_emod (st + (1 + pr) * mr) (1 + gr)
      have d0 : 0 ≤ (st + (1 + pr) * mr) / (1 + gr) := Int.ediv_nonneg M0 (by omega)
      have d1 : (st + (1 + pr) * mr) / (1 + gr) ≤ st + (1 + pr) * mr := Int.ediv_le_self _ M0
      have e99 : PB 83 = PB 82 + PB 82 := PB_succ 82
      have e98 := PB_pos 82
      refine ⟨_, rfl, .inl ⟨_, rfl, _, rfl, _, _, rfl, rfl, (by show 0 < 1 + gr; omega), _, rfl, _, rfl, _, rfl, _, rfl, _, _, rfl, rfl, ⟨(by show 0 < 1 + gr; omega), divBB (j := 1 + gr) (by omega) (by omega)⟩, _, _, rfl, rfl, s, (st + (1 + pr) * mr) / (1 + gr) + 1, c + 1101 + 2202 + 2202 + 1101, rfl, by omega, Nat.lt_of_lt_of_le (PB_abs (n := 83) (by omega) (by omega)) (Nat.pow_le_pow_right (by decide) (by decide)), src4, by omega, fun br H5 br0 br1 src5 k5 => ⟨_, _, rfl, rfl, mulS (i := 1 + gr) (j := br) (by omega) (by omega) (by omega) (by omega), _, _, rfl, rfl, ?_⟩⟩⟩
      have qm0 : 0 ≤ (1 + gr) * br := Int.mul_nonneg (by omega) br0
      have qm1 : (1 + gr) * br ≤ (1 + gr) * ((st + (1 + pr) * mr) / (1 + gr)) := Int.mul_le_mul_of_nonneg_left (by omega) (by omega)
      exact ⟨1 + pr, 1 + gr, st + (1 + pr) * mr, (st + (1 + pr) * mr) % (1 + gr) + (1 + gr) * br, rfl, P1, Q1, pb, qb, hpm, ⟨(st + (1 + pr) * mr) / (1 + gr) - br, by rw [Int.mul_sub]; omega⟩, M1, by omega, by omega, k04.trans k5, src5⟩
    rintro σ' H5 ⟨p, q, m, b, rfl, P1, Q1, pb, qb, hpm, hqm, M1, B0, B1, k05, src5⟩
    -- told
    refine ⟨_, rfl, _, rfl, (by show 3 ≤ sizeLine; decide), fun ta hta => ⟨(by show 1 ≤ sizeLine; decide), fun la hla => ?_⟩⟩
    refine end_mk hta hla (by omega) (by omega) P1 (by omega) fun o1 H6 TO1 s6 => ?_
    refine ⟨_, rfl, _, rfl, (by show 3 ≤ sizeLine; decide), fun tb htb => ⟨(by show 1 ≤ sizeLine; decide), fun lb hlb => ?_⟩⟩
    refine end_mk htb hlb B0 (by omega) Q1 (by omega) fun o2 H7 TO2 s7 => ?_
    refine ⟨o1, o2, _, _, 101, _, _, rfl, TO1.same s7, TO2, by decide, (by show 1 + 1 ≤ 1000; decide), fun ms o H8 hm mem TOo s8 => ?_⟩
    obtain ⟨dx, RR, FF, AA, zs0, ho8, _⟩ := TOo.ob
    have tlno : ∀ {t : V}, (trF RR FF AA t).lookup ("train_list" : Str) = none := trF_no _ _ _ _ (by decide +kernel) (by decide +kernel) (by decide +kernel) (by decide +kernel)
    refine ⟨o, dx, _, rfl, ho8, tlno, o, _, _, _, rfl, TOo, fun lz zs H9 hlz e9 tz => ?_⟩
    subst e9
    have s9 := Same.upd (o := .lst zs) hlz
    -- least
    refine ⟨fun σ' H' => ∃ L x0 : Int, σ' = [some (.ref s), some (.int st), some (.int p), some (.int q), some (.int m), some (.int b), some (.ref lz), some (.int L), none] ∧ nfs ms = [(x0, L, none)] ∧ 1 ≤ L ∧ mxI st b ≤ x0 ∧ x0 < mxI st b + L ∧ (m - x0) % L = 0 ∧ H' = upd H8 lz (.lst zs), ?_, ?_⟩
    · refine ⟨_, rfl, _, rfl, _, rfl, p, q, rfl, P1, Q1, fun d f E => ?_⟩
      have dd1 := E.d1
      have ddb : d ≤ p := by
        obtain ⟨w, hw⟩ := E.dp
        by_cases z : 1 ≤ w
        · have := Int.mul_le_mul_of_nonneg_left z (show 0 ≤ d by omega)
          omega
        · have := Int.mul_le_mul_of_nonneg_left (show w ≤ 0 by omega) (show 0 ≤ d by omega)
          omega
      have pd0 : 0 ≤ p / d := Int.ediv_nonneg (by omega) (by omega)
      have pd1 : p / d ≤ p := Int.ediv_le_self _ (by omega)
      refine ⟨_, _, rfl, rfl, ⟨(by show 0 < d; omega), divBB (j := d) (by omega) (by omega)⟩, _, rfl, _, _, rfl, rfl, mulS (i := p / d) (j := q) (by omega) (by omega) (by omega) (by omega), ?_⟩
      obtain ⟨x0, hx, L1, x1, x2, x3⟩ := ends_meet E hm P1 Q1 st0 B0 hpm hqm mem
      exact ⟨p / d * q, x0, rfl, hx, L1, x1, x2, x3, rfl⟩
    rintro σ' H9 ⟨L, x0, rfl, hx, L1, x1, x2, x3, rfl⟩
    rw [hx] at tz
    obtain ⟨y, e8, u, rfl, hu⟩ : ∃ y, zs = [y] ∧ TrAt H8 y (x0, L, none) := by
      cases tz with
      | cons r tl =>
        cases tl
        exact ⟨_, rfl, r⟩
    subst e8
    have hu9 := s9 _ _ hu
    have hlz9 : (upd H8 lz (.lst [.ref u])) lz = some (.lst [.ref u]) := upd_same
    have s59 := ((s6.trans s7).trans s8).trans s9
    generalize upd H8 lz (.lst [.ref u]) = H9 at s9 hu9 hlz9 s59
    refine ⟨_, rfl, lz, _, rfl, .inl (SqL.of hlz9), rfl, _, rfl, iteF ?_⟩
    refine ⟨_, rfl, lz, _, 0, .ref u, rfl, rfl, SqL.of hlz9, rfl, _, rfl, u, _, rfl, SqT.of hu9, fun z => absurd (show (1 : Nat) = 0 from z.1) (by decide), fun _ p1 hp1 => ?_⟩
    have s10 := Same.upd (o := .tup (cutV (TrV (x0, L, none)) (some 1) none)) hp1
    refine ⟨_, rfl, (by show 2 ≤ sizeLine; decide), fun p2 hp2 => ?_⟩
    have s11 := Same.upd (o := .tup [.int L, .non]) hp2
    refine ⟨.tuple [.int L, .none], .tuple [.int L, .none], .tup (SqT.of (s11 _ _ upd_same)) (.cons (.int _) (.cons .non .nil)), .tup (SqT.of upd_same) (.cons (.int _) (.cons .non .nil)), sh_end _, sh_end _, _, rfl, ?_⟩
    rw [eq_end]
    refine iteF ?_
    have s911 := s10.trans s11
    have hlz11 := s911 _ _ hlz9
    have hu11 := s911 _ _ hu9
    have s5b := s59.trans s911
    generalize upd (upd H9 p1 (.tup (cutV (TrV (x0, L, none)) (some 1) none))) p2 (.tup [.int L, .non]) = H11 at hlz11 hu11 s5b
    refine ⟨_, rfl, _, rfl, lz, _, 0, .ref u, rfl, rfl, SqL.of hlz11, rfl, u, _, 0, .int x0, rfl, rfl, SqT.of hu11, rfl, _, _, rfl, rfl, .inl ⟨_, rfl, _, rfl, _, _, rfl, rfl, (by show 0 < L; omega), rfl, _, rfl, ?_⟩⟩
    show if (!decide (V.int ((m - x0) % L) = V.int 0)) = true then _ else _
    rw [x3, decide_eq_true rfl]
    refine iteF ?_
    -- between
    refine ⟨_, rfl, _, rfl, _, _, rfl, _, rfl, lz, _, 0, .ref u, rfl, rfl, SqL.of hlz11, rfl, u, _, 0, .int x0, rfl, rfl, SqT.of hu11, rfl, _, _, rfl, rfl, _, rfl, ?_⟩
    show if decide (mxI st b ≤ x0) = true then _ else _
    rw [decide_eq_true x1]
    refine iteT ⟨_, rfl, _, rfl, _, _, rfl, _, rfl, _, _, rfl, rfl, _, _, rfl, rfl, _, rfl, ?_⟩
    show if (!decide (x0 < mxI st b + L)) = true then _ else _
    rw [decide_eq_true x2]
    refine iteF ?_
    -- never
    refine ⟨_, rfl, _, rfl, _, _, rfl, rfl, mulS (i := 2) (j := p) (by omega) (by omega) (by omega) (by omega), (by show 3 ≤ sizeLine; decide), fun tc htc => ⟨(by show 1 ≤ sizeLine; decide), fun lc hlc => ?_⟩⟩
    refine end_mk (x := st) (p := 2 * p) htc hlc (by omega) (by omega) (by omega) (by omega) fun o3 H12 TO3 s12 => ?_
    refine ⟨_, rfl, _, _, rfl, rfl, _, rfl, _, _, rfl, rfl, mulS (i := 2) (j := q) (by omega) (by omega) (by omega) (by omega), (by show 3 ≤ sizeLine; decide), fun td htd => ⟨(by show 1 ≤ sizeLine; decide), fun ld hld => ?_⟩⟩
    refine end_mk (x := st + 1) (p := 2 * q) htd hld (by omega) (by omega) (by omega) (by omega) fun o4 H13 TO4 s13 => ?_
    refine ⟨o3, o4, _, _, 101, _, _, rfl, TO3.same s13, TO4, by decide, (by show 1 + 1 ≤ 1000; decide), fun ms2 o5 H14 hm2 mem2 TO5 s14 => ?_⟩
    have hx2 := ends_never hm2 P1 Q1 mem2
    rw [hx2] at TO5
    obtain ⟨dx5, R5, F5, A5, zs5, ho5, _⟩ := TO5.ob
    have tlno5 : ∀ {t : V}, (trF R5 F5 A5 t).lookup ("train_list" : Str) = none := trF_no _ _ _ _ (by decide +kernel) (by decide +kernel) (by decide +kernel) (by decide +kernel)
    refine ⟨_, rfl, o5, dx5, _, rfl, ho5, tlno5, o5, _, _, _, rfl, TO5, fun lz2 zs2 H15 hlz2 e15 tz2 => ⟨(by show 0 ≤ sizeLine; decide), fun l9 hl9 => ?_⟩⟩
    subst e15
    have s15 := Same.upd (o := .lst zs2) hlz2
    have s16 := Same.upd (o := .lst []) hl9
    have z2 : zs2 = [] := by
      cases tz2
      rfl
    subst z2
    refine ⟨.list [], .list [], .lst (SqL.of (s16 _ _ upd_same)) .nil, .lst (SqL.of upd_same) .nil, shNil, shNil, ?_⟩
    have eqn : PyData.eqv (.list []) (.list []) = true := eqTrs [] []
    rw [eqn]
    have sf := ((((s5b.trans s12).trans s13).trans s14).trans s15).trans s16
    exact k _ (k05.trans (Kp.of sf)) ((src5.same sf).mono (by omega))
end
/-! ### the law -/
def spLaw (K : PySem.W.Frag) : Sp := fun vs H Q _ => ∃ (a : Addr) (ns : List Int), vs = [.ref a] ∧ SqL K H a (ns.map V.int) ∧ ns.length ≤ 63 ∧ ∀ H', Q (.bl true) H'
theorem sgl_bt {xs : List Int} {n : Nat} (h : ∀ x ∈ xs, x ≤ PB n) : ∀ t ∈ sgl xs, BT n t := fun t ht => by
  obtain ⟨x, hx, rfl⟩ := List.mem_map.mp ht
  refine ⟨h x hx, PB_pos n, fun c hc => ?_⟩
  cases hc
  show x + (1 - 1) * 1 ≤ _
  have := h x hx
  omega
theorem sgl_tot (xs : List Int) : Tot (sgl xs) = some (xs.length : Int) := by
  induction xs with
  | nil => rfl
  | cons x xs ih =>
    show addO 1 (Tot (sgl xs)) = _
    rw [ih]
    show some (1 + (xs.length : Int)) = some ((xs.length + 1 : Nat) : Int)
    congr 1
    omega
theorem flt_turn {H H3 : Hp} {D : Addr} {xs : List Int} {j : Nat} {x : Int} {p : Int → Bool} (hx : xs[j]? = some x) (hp : p x = true) (hD : H3 D = some (.lst (((xs.take j).filter p).map V.int))) (hl : xs.length ≤ 50000) (s3 : Same H H3) (nD : H D = none) :
    ∃ acc, H3 D = some (.lst acc) ∧ acc.length < sizeLine ∧ (upd H3 D (.lst (acc ++ [V.int x]))) D = some (.lst (((xs.take (j + 1)).filter p).map V.int)) ∧ Same H (upd H3 D (.lst (acc ++ [V.int x]))) := by
  refine ⟨_, hD, small1 ?_, ?_, fun b o e => ?_⟩
  · rw [List.length_map]
    have h1 := List.length_filter_le p (xs.take j)
    rw [List.length_take] at h1
    omega
  · rw [upd_same, List.take_add_one, hx, List.filter_append]
    show _ = some (HO.lst (List.map V.int (_ ++ [x].filter p)))
    rw [List.filter_cons_of_pos hp, List.map_append]
    rfl
  · rw [upd_ne (ne_of_none e nD)]
    exact s3 _ _ e
theorem flt_skip {H3 : Hp} {D : Addr} {xs : List Int} {j : Nat} {x : Int} {p : Int → Bool} (hx : xs[j]? = some x) (hp : p x = false) (hD : H3 D = some (.lst (((xs.take j).filter p).map V.int))) : H3 D = some (.lst (((xs.take (j + 1)).filter p).map V.int)) := by
  rw [hD, List.take_add_one, hx, List.filter_append]
  show _ = some (HO.lst (List.map V.int (_ ++ [x].filter p)))
  rw [List.filter_cons_of_neg (by rw [hp]; exact Bool.false_ne_true), List.filter_nil, List.append_nil]
theorem op_inK {X : Cx} {K : PySem.W.Frag} (h : X.K = K) : OpR X (compareOp CmpOp.In) (rIn K false) := h ▸ op_in_seq
theorem tms_mem {ts : List Trn} (h : ∀ t ∈ ts, OkTr t) (B x : Int) : x ∈ tms ts B ↔ inL ts x ∧ x < B := by
  unfold tms
  rw [List.mem_flatMap]
  constructor
  · rintro ⟨t, ht, hx⟩
    unfold tmT at hx
    obtain ⟨j, hj, rfl⟩ := List.mem_map.mp hx
    have hj := List.mem_range.mp hj
    have ok := h t ht
    have hj' : (j : Int) < nbT t B := by omega
    have hc : ∀ c, t.2.2 = some c → (j : Int) < c := fun c e => by
      have := nbT_le (x := B) e
      omega
    have := (nbT_lt ok (by omega) hc).mp hj'
    rw [Int.mul_comm t.2.1]
    exact ⟨⟨t, ht, j, by omega, hc, rfl⟩, this⟩
  · rintro ⟨⟨t, ht, i, i0, hc, rfl⟩, hx⟩
    have ok := h t ht
    have := (nbT_lt ok i0 hc).mpr hx
    refine ⟨t, ht, ?_⟩
    unfold tmT
    refine List.mem_map.mpr ⟨i.toNat, List.mem_range.mpr (by omega), ?_⟩
    rw [show ((i.toNat : Nat) : Int) = i by omega, Int.mul_comm]
theorem in_sgl {xs : List Int} {x : Int} : inL (sgl xs) x ↔ x ∈ xs := by
  unfold sgl
  constructor
  · rintro ⟨t, ht, i, i0, hc, e⟩
    obtain ⟨y, hy, rfl⟩ := List.mem_map.mp ht
    have := hc 1 rfl
    have i1 : i = 0 := by omega
    subst i1
    have e : x = y + 0 * 1 := e
    have : x = y := by omega
    rw [this]
    exact hy
  · intro h
    exact ⟨(x, 1, some 1), List.mem_map.mpr ⟨x, h, rfl⟩, 0, Int.le_refl _, fun c hc => (by cases hc; decide), by show x = x + 0 * 1; omega⟩
theorem in_win {g : List Trn} (h : Srt g) {B : Int} (B0 : 0 ≤ B) (hw : Srt (win g 0 (some B))) (x : Int) : inL (win g 0 (some B)) x ↔ inL g x ∧ x < B := by
  rw [in_mem hw.1, in_mem h.1]
  have nb := fun y => win_nb h.1 (f := 0) (after := some B) (fun a e => by cases e; exact B0) y
  rw [nb, nb]
  have e1 : ∀ y, cx 0 (some B) y = if y < 0 then 0 else if B < y then B else y := fun _ => rfl
  rw [e1, e1]
  have z : ∀ y, y ≤ 0 → NB g y = 0 := fun y hy => NB_zero h.1 fun t ht => by have := (h.1 t ht).1; omega
  by_cases x0 : x < 0
  · have z1 := z x (by omega)
    have z2 := z (x + 1) (by omega)
    rw [if_pos x0]
    have z0 := z 0 (Int.le_refl _)
    by_cases x1 : x + 1 < 0
    · rw [if_pos x1]
      omega
    · rw [if_neg x1]
      have : x + 1 = 0 := by omega
      rw [this, if_neg (by omega)]
      rw [this] at z2
      omega
  · have x2 : ¬ (x + 1 < 0) := by omega
    rw [if_neg x0, if_neg x2]
    by_cases xB : x < B
    · have q1 : ¬ (B < x) := by omega
      have q2 : ¬ (B < x + 1) := by omega
      rw [if_neg q1, if_neg q2]
      omega
    · rw [if_pos (show B < x + 1 by omega)]
      by_cases xe : B < x
      · rw [if_pos xe]
        omega
      · rw [if_neg xe]
        have : x = B := by omega
        subst this
        omega
theorem told_both {ts us ms : List Trn} (hs : Srt ts) (hs' : Srt us) (hm : Srt ms) (mem : ∀ x, inL ms x ↔ inL ts x ∧ inL us x) {B : Int} (B0 : 0 ≤ B) (hw : Srt (win (nfs ms) 0 (some B))) :
    Srt (sgl ((tms ts B).filter fun v => decide (v ∈ tms us B))) ∧ nfs (win (nfs ms) 0 (some B)) = nfs (sgl ((tms ts B).filter fun v => decide (v ∈ tms us B))) := by
  have h1 : Srt (sgl ((tms ts B).filter fun v => decide (v ∈ tms us B))) := sgl_srt ((tms_asc hs B).sublist List.filter_sublist) fun x hx => tms_nn hs B x (List.mem_filter.mp hx).1
  refine ⟨h1, (nfs_iff hw h1).mpr (nb_of_in hw h1 fun x => ?_)⟩
  rw [in_win (nfs_srt hm) B0 hw, in_sgl, List.mem_filter, decide_eq_true_iff, tms_mem hs.1, tms_mem hs'.1, in_of_nb (nfs_srt hm) hm (nfs_nb hm), mem]
  constructor
  · rintro ⟨⟨a, b⟩, c⟩
    exact ⟨⟨a, c⟩, b, c⟩
  · rintro ⟨⟨a, c⟩, b, _⟩
    exact ⟨⟨a, b⟩, c⟩
theorem inInts (x : Int) (ys : List Int) : inV (.int x) (ys.map V.int) = decide (x ∈ ys) := by
  induction ys with
  | nil => rfl
  | cons y ys ih =>
    have e : eqV (V.int y) (V.int x) = decide (y = x) := rfl
    unfold inV at *
    rw [List.map_cons, List.any_cons, ih, e, Bool.eq_iff_iff, Bool.or_eq_true, decide_eq_true_iff, decide_eq_true_iff, decide_eq_true_iff, List.mem_cons]
    exact ⟨fun h => h.elim (fun h => .inl h.symm) .inr, fun h => h.elim (fun h => .inl h.symm) .inr⟩
theorem flatInts (ys : List Int) : (ys.map V.int).all flatV = true := by
  induction ys with
  | nil => rfl
  | cons y ys ih => exact ih
section
variable {P : Program} {w : World} {K : PySem.W.Frag} {mg : Str → Option Value} {base : Heap} {D : Ads} {aO aN aE aC aR aT aW aV aQ aZ aX aF aM aD aE' aMt aL aS aLaw aWr : Addr}
abbrev N_law : List Str := ["_law_script", "_law_cell", "_law_source", "_law_rows_here", "_law_more", "_law_times_here", "_law_due", "_law_told", "_law_far", "_law_time", "_law_repeat"]
theorem sc_law : FnScope N_law ["_law_script"] (defScope st_law) := ⟨rfl, rfl, rfl, by decide +kernel, rfl, by decide +kernel, by decide +kernel⟩
theorem ok_law {fd : FuncData} (F : Fun K "law" "law" st_law aLaw fd) (T : Tx K mg D) (M : MkT K mg D) (TL : TxL K mg aO aN aE aC aR) (TM : TxM K mg aT) (TW : TxW K mg aW aWr aV) (TC : TxC K mg aQ) (TO' : TxO K mg aZ) (TG : TxG K mg aD aE' aMt aL aS) (TF : TxF K mg aX aF aM) : FnOk P w K mg base CX0 10 aLaw fd ["_law_script"] (spLaw K) := by
  have G_wcellat := ok_cellat (P := P) (w := w) (base := base) TL.t1
  have G_wsourceof := ok_srcof (P := P) (w := w) (base := base) TL.t1
  have G_wrows := ok_rows (P := P) (w := w) (base := base) TL
  have G_wtimes := ok_times (P := P) (w := w) (base := base) TM
  have G_window := ok_window (P := P) (w := w) (base := base) T M TW
  have G_shared := ok_shared (P := P) (w := w) (base := base) T M TG
  have G_wholds := ok_holds (P := P) (w := w) (base := base) T TC TO'
  have G_wfarright := ok_far15 (P := P) (w := w) (base := base) T M TL TC TG TF
  have G_wmeetingright := ok_mr (P := P) (w := w) (base := base) T M TL TG TF
  have G_eq := ok_eq (P := P) (w := w) (base := base) T M
  have B := T.t2.B
  have nd := sc_law.nd
  refine F.ok sc_law (fun vs H Q E h => ?_) (fun cdv A outer S H vs Q E hr h => ?_)
  · obtain ⟨a, ns, rfl, _⟩ := h
    rfl
  · obtain ⟨a, ns, rfl, hS, hnl, k⟩ := h
    refine ⟨_, (pss_cons (ps_for PassesOwn.never rfl (pi_list (pe_op op_cat (pe_lst (pa_cons (pe_c G_wcellat (hr.mono (by decide)) rfl (pa_cons (pv 0) (pa_cons pe_int pa_nil))) pa_nil)) (pe_slice (r := rSlL K) sl_list (pv 0) (po_some pe_int) (po_some pe_int)))) (pg_name (i := 1) nd rfl (Or.inl rfl)) (pss_cons (ps_set (i := 2) nd rfl (Or.inr rfl) (pe_c G_wsourceof (hr.mono (by decide)) rfl (pa_cons (pv 1) pa_nil)))
       (pss_cons (ps_par (i := 3) (j := 4) (by rfl) nd rfl rfl (by decide) rfl rfl (pa_cons (pe_c G_wrows (hr.mono (by decide)) rfl (pa_cons (pv 2) (pa_cons pe_int (pa_cons pe_int pa_nil)))) (pa_cons (pe_c G_wrows (hr.mono (by decide)) rfl (pa_cons (pv 2) (pa_cons pe_int (pa_cons pe_int pa_nil)))) pa_nil)) (by rfl))
       (pss_cons (ps_set (i := 5) nd rfl (Or.inr rfl) (pe_c G_wtimes (hr.mono (by decide)) rfl (pa_cons (pv 4) (pa_cons pe_int pa_nil))))
       (pss_cons (ps_setLc (i := 6) (own := [("_law_time", 9)]) (g := gName 9) rfl nd rfl rfl (sw_true rfl rfl rfl (by decide +kernel)) (pi_list (pe_c G_wtimes (hr.mono (by decide)) rfl (pa_cons (pv 3) (pa_cons pe_int pa_nil)))) (blkOk_by (own := [("_law_time", 9)]) (N := N_law) (sc := defScope st_law) (by decide +kernel)) (fun _ _ _ _ _ => pg_name (i := 9) nd rfl (Or.inl rfl)) (fun _ _ _ _ _ => pts_one (pt_cmpR (op_inK (K := K) rfl) (pv 9) (pv 5) rfl)) (fun _ _ _ _ _ => (pv 9)))
       (pss_cons (ps_set (i := 7) nd rfl (Or.inl rfl) (pe_c G_window (hr.mono (by decide)) rfl (pa_cons (pe_c G_shared (hr.mono (by decide)) rfl (pa_cons (pe_trains T M (hr.mono (by decide)) rfl (pa_cons (pv 3) pa_nil)) (pa_cons (pe_trains T M (hr.mono (by decide)) rfl (pa_cons (pv 4) pa_nil)) pa_nil))) (pa_cons pe_int (pa_cons pe_int pa_nil)))))
       (pss_cons (ps_if (PW.pt (pw_or (pt_cmpR (G_eq.op_ne (hr.mono (by decide)) M.om M.ne) (pv 7) (pe_trains T M (hr.mono (by decide)) rfl (pa_cons (pe_lc (own := [("_law_time", 9)]) (g := gName 9) (tt := tYes) rfl nd (pi_list (pv 6)) (blkOk_by (own := [("_law_time", 9)]) (N := N_law) (sc := defScope st_law) (by decide +kernel)) (fun _ _ _ _ _ => pg_name (i := 9) nd rfl (Or.inl rfl)) (fun _ _ _ _ _ => pts_nil) (fun _ _ _ _ _ => (pe_tup (pa_cons (pv 9) (pa_cons pe_int (pa_cons pe_int pa_nil)))))) pa_nil)) (nomark _)) (pw_or1 (pt_not (pt_val (pe_c G_wholds (hr.mono (by decide)) rfl (pa_cons (pv 7) (pa_cons (pv 6) pa_nil)))))))) (pss_one (ps_ret pe_bl)) pss_nil)
       (pss_cons (ps_if (pt_cmpR (G_eq.op_ne (hr.mono (by decide)) M.om M.ne) (pe_c G_shared (hr.mono (by decide)) rfl (pa_cons (pe_trains T M (hr.mono (by decide)) rfl (pa_cons (pv 4) pa_nil)) (pa_cons (pe_trains T M (hr.mono (by decide)) rfl (pa_cons (pv 3) pa_nil)) pa_nil))) (pe_c G_shared (hr.mono (by decide)) rfl (pa_cons (pe_trains T M (hr.mono (by decide)) rfl (pa_cons (pv 3) pa_nil)) (pa_cons (pe_trains T M (hr.mono (by decide)) rfl (pa_cons (pv 4) pa_nil)) pa_nil))) (nomark _)) (pss_one (ps_ret pe_bl)) pss_nil)
       (pss_cons (ps_setLc (i := 8) (own := [("_law_repeat", 10)]) (g := gName 10) (tt := tYes) rfl nd rfl rfl (sw_true rfl rfl rfl (by decide +kernel)) (pi_range1 rfl B.range (pa_cons pe_int pa_nil)) (blkOk_by (own := [("_law_repeat", 10)]) (N := N_law) (sc := defScope st_law) (by decide +kernel)) (fun _ _ _ _ _ => pg_name (i := 10) nd rfl (Or.inl rfl)) (fun _ _ _ _ _ => pts_nil) (fun _ _ _ _ _ => (pe_trains T M (hr.mono (by decide)) rfl (pa_cons (pe_c G_wrows (hr.mono (by decide)) rfl (pa_cons (pv 2) (pa_cons (pe_op op_pow pe_int pe_int) (pa_cons pe_int pa_nil)))) pa_nil))))
       (pss_one (ps_if (PW.pt (pw_or (pt_not (pt_val (pe_c G_wfarright (hr.mono (by decide)) rfl (pa_cons (pv 2) (pa_cons (pe_ix (r := rIxL K) ix_list (pv 8) pe_int (fun _ _ => rfl)) (pa_cons (pe_ix (r := rIxL K) ix_list (pv 8) pe_int (fun _ _ => rfl)) pa_nil)))))) (pw_or1 (pt_not (pt_val (pe_c G_wmeetingright (hr.mono (by decide)) rfl (pa_cons (pv 2) pa_nil))))))) (pss_one (ps_ret pe_bl)) pss_nil)))))))))))
       (pss_one (ps_ret pe_bl))), ?_⟩
    refine ⟨_, rfl, a, ns, 0, rfl, hS, Int.le_refl _, fun z => ⟨(by show 1 ≤ sizeLine; decide), fun l1 hl1 => ?_⟩⟩
    have z1 : Same H (upd H l1 (.lst [.int z])) := Same.upd hl1
    refine ⟨_, rfl, 1, rfl, 4, rfl, a, ns.map V.int, rfl, z1.seq hS, fun l2 hl2 => ?_⟩
    refine ⟨l1, l2, _, _, rfl, rfl, (Same.upd hl2) _ _ upd_same, upd_same, small2 (by have := cutV_length (ns.map V.int) (some 1) (some 4); rw [List.length_map] at this; show 1 + _ ≤ 100000; omega), fun l3 hl3 => ?_⟩
    have items : ∀ v ∈ [V.int z] ++ cutV (ns.map V.int) (some 1) (some 4), ∃ c, v = .int c := fun v hv => by
      rcases List.mem_append.mp hv with hv | hv
      · exact ⟨z, by simpa using hv⟩
      · obtain ⟨c, _, e⟩ := List.mem_map.mp (List.mem_of_mem_drop (List.mem_of_mem_take hv))
        exact ⟨c, e.symm⟩
    generalize hit : [V.int z] ++ cutV (ns.map V.int) (some 1) (some 4) = its at items
    refine ⟨l3, rfl, ⟨_, SqL.of upd_same⟩, ?_⟩
    refine for_list (K := K) (a := l3) (xs := its) (fun i σ H2 => ∃ v1 v2 v3 v4 v5 v6 v7 v8 : Option V, σ = [some (.ref a), v1, v2, v3, v4, v5, v6, v7, v8, none, none] ∧ H2 l3 = some (.lst its))
      ⟨none, none, none, none, none, none, none, none, rfl, by rw [upd_same]⟩ (fun i σ H2 _ ⟨_, _, _, _, _, _, _, _, _, e⟩ => SqL.of e) ?_ ?_
    rotate_left
    · rintro σ H2 ⟨_, _, _, _, _, _, _, _, rfl, _⟩
      exact k H2
    rintro i v σ H0 hi ⟨v1, v2, v3, v4, v5, v6, v7, v8, rfl, hL⟩
    obtain ⟨cc, rfl⟩ := items v (List.mem_of_getElem? hi)
    refine ⟨_, rfl, cc, rfl, fun s H1 hs0 y1 src1 => ?_⟩
    have nls : l3 ≠ s := ne_of_none hL hs0
    have hL1 := y1 _ _ hL
    have p48 : (8 : Int) ≤ PB 400 := by
      have h1 := PB_le (show 3 ≤ 400 by decide)
      have h2 : PB 3 = 8 := by unfold PB; decide
      omega
    have hB9 : (300 : Int) ≤ PB 899 := by
      have h1 := PB_le (show 10 ≤ 899 by decide)
      have h2 : PB 10 = 1024 := by unfold PB; decide
      omega
    have p10 : PB 10 = 1024 := by unfold PB; decide
    -- two lists of rows
    refine ⟨_, rfl, s, 8, 8, 0, rfl, by decide, p48, by decide, by decide, src1, by decide, fun l xs ts H2 hl hx R0 src2 k2 nl => ?_⟩
    refine ⟨_, rfl, s, 8, 8, 60000, rfl, by decide, p48, by decide, by decide, src2, by decide, fun l' xs' us H3 hl' hx' R0' src3 k3 nl' => ⟨_, _, rfl, ?_⟩⟩
    have R : RowsOk 13 8 ts := R0
    have R' : RowsOk 13 8 us := R0'
    obtain ⟨hbt, hln, hb3, hb4⟩ := rows_small R
    obtain ⟨hbt', hln', hb3', hb4'⟩ := rows_small R'
    obtain ⟨y1s, hy1s⟩ := src1.has
    obtain ⟨y2s, hy2s⟩ := src2.has
    have ns1 : l ≠ s := fun e => by rw [e, hy1s] at nl; cases nl
    have hl3' := k3 _ _ ns1 hl
    have hx3 := hx.nl (Kp.nl k3 hy2s)
    have hL3 := k3 _ _ nls (k2 _ _ nls hL1)
    obtain ⟨f1, f2⟩ := tms_fit R hB9 fun t ht e => by have := (R.srt.1 t ht).1; omega
    obtain ⟨f1', f2'⟩ := tms_fit R' hB9 fun t ht e => by have := (R'.srt.1 t ht).1; omega
    have tlen : ∀ {v : List Trn}, RowsOk 13 8 v → (tms v 300).length ≤ 300 := fun {v} R => by
      have h2 := tms_len R.srt.1 300
      have h3 := NB_le_self R.srt 300
      have h3 : NB v 300 ≤ 300 := h3
      omega
    -- times of the second
    refine ⟨_, rfl, l', xs', us, 300, rfl, hl', hx', R'.srt.1, fun t ht => (hbt' t ht).le (by decide), by omega, f1', f2', fun lt H4 hlt s4 n4 => ?_⟩
    -- due
    refine ⟨_, rfl, l, xs, ts, 300, rfl, s4 _ _ hl3', hx3.same s4, R.srt.1, fun t ht => (hbt t ht).le (by decide), by omega, f1, f2, fun lh H5 hlh s5 n5 => ⟨lh, rfl, ⟨_, SqL.of hlh⟩, fun D1 hD1 => ?_⟩⟩
    have hlt5 := s5 _ _ hlt
    refine lc_list (K := K) (a := lh) (xs := (tms ts 300).map V.int) (fun j Hc => Hc D1 = some (.lst ((((tms ts 300).take j).filter (fun v => decide (v ∈ tms us 300))).map V.int)) ∧ Same H5 Hc) ⟨upd_same, Same.upd hD1⟩ (fun j Hc _ ⟨_, s⟩ => SqL.of (s _ _ hlh)) ?_ ?_
    · rintro j y Hc hy ⟨hD, sc⟩
      obtain ⟨x, hx7, rfl⟩ : ∃ x, (tms ts 300)[j]? = some x ∧ y = .int x := by
        rw [List.getElem?_map] at hy
        cases q : (tms ts 300)[j]? with
        | none => rw [q] at hy; cases hy
        | some x => rw [q] at hy; cases hy; exact ⟨x, rfl, rfl⟩
      have := tlen R
      refine ⟨rfl, _, rfl, _, rfl, lt, _, rfl, .inl (SqL.of (sc _ _ hlt5)), rfl, flatInts _, _, rfl, ?_⟩
      show if inV (.int x) ((tms us 300).map V.int) = true then _ else _
      rw [inInts]
      refine ite2 (fun c => ⟨_, rfl, ?_⟩) (fun c => ⟨flt_skip (p := (fun v => decide (v ∈ tms us 300))) hx7 (by simpa using c) hD, sc⟩)
      exact flt_turn (p := (fun v => decide (v ∈ tms us 300))) hx7 c hD (by omega) sc hD1
    rintro H6 ⟨hD1', s6⟩
    rw [List.length_map, List.take_length] at hD1'
    have nts1 := nfs_len R.srt
    have nts2 := nfs_len R'.srt
    have s46 := (s4.trans s5).trans s6
    -- told
    refine ⟨_, rfl, ?_⟩
    refine trains_made (a := l) (xs := xs) (ts := ts) (n := 810) (s46 _ _ hl3') (hx3.same s46) R.srt hbt (by decide) (by omega) fun o1 H7 TO1 s7 => ?_
    have s47 := s46.trans s7
    refine ⟨_, rfl, ?_⟩
    refine trains_made (a := l') (xs := xs') (ts := us) (n := 810) (s47 _ _ hl') (hx'.same s47) R'.srt hbt' (by decide) (by omega) fun o2 H8 TO2 s8 => ?_
    have memC : ∀ {ms : List Trn}, (∀ x, inL ms x ↔ inL (nfs ts) x ∧ inL (nfs us) x) → ∀ x, inL ms x ↔ inL ts x ∧ inL us x := fun {ms} h x => by
      rw [h, in_of_nb (nfs_srt R.srt) R.srt (nfs_nb R.srt), in_of_nb (nfs_srt R'.srt) R'.srt (nfs_nb R'.srt)]
    refine ⟨o1, o2, _, _, 811, _, _, rfl, TO1.same s8, TO2, by decide, by omega, fun ms o3 H9 hm mem0 TO3 s9 => ?_⟩
    have mem := memC mem0
    refine ⟨o3, _, _, _, 10, 0, some 300, rfl, TO3, Int.le_refl _, fun q e => (by cases e; decide), by omega, fun q e => (by cases e; omega), by decide, fun o4 HB TB sB => ?_⟩
    have wk := win_ok (n := 811 + 811 + 4) (m := 10) (f := 0) (after := some 300) (Int.le_refl _) (fun q e => (by cases e; decide)) (by omega) (fun q e => (by cases e; omega)) TO3.srt TO3.bt
    obtain ⟨hsg, e1⟩ := told_both R.srt R'.srt hm mem (B := 300) (by decide) wk.1
    have dlen : ((tms ts 300).filter fun v => decide (v ∈ tms us 300)).length ≤ 300 := Nat.le_trans (List.length_filter_le _ _) (tlen R)
    have dlt : ∀ x ∈ (tms ts 300).filter (fun v => decide (v ∈ tms us 300)), x < 300 := fun x hx => tms_lt R.srt 300 x (List.mem_filter.mp hx).1
    obtain ⟨due, hdue⟩ : ∃ due, due = (tms ts 300).filter fun v => decide (v ∈ tms us 300) := ⟨_, rfl⟩
    rw [← hdue] at hsg e1 dlen dlt hD1'
    have hdB := sB _ _ (s9 _ _ (s8 _ _ (s7 _ _ hD1')))
    refine ⟨_, rfl, _, rfl, D1, rfl, ⟨_, SqL.of hdB⟩, fun D2 hD2 => ?_⟩
    refine lc_list (K := K) (a := D1) (xs := due.map V.int) (fun j HC => ∃ ws, HC D2 = some (.lst ws) ∧ Trs HC ws (sgl (due.take j)) ∧ Same HB HC) ⟨[], upd_same, .nil, Same.upd hD2⟩ (fun j HC _ ⟨_, _, _, sC⟩ => SqL.of (sC _ _ hdB)) ?_ ?_
    · rintro j y HC hy ⟨ws2, hD2', tw2, sC⟩
      obtain ⟨x, hx7, rfl⟩ : ∃ x, due[j]? = some x ∧ y = .int x := by
        rw [List.getElem?_map] at hy
        cases q : due[j]? with
        | none => rw [q] at hy; cases hy
        | some x => rw [q] at hy; cases hy; exact ⟨x, rfl, rfl⟩
      have hj := (List.getElem?_eq_some_iff.mp hx7).1
      refine ⟨rfl, tYes_of ⟨_, rfl, (by show 3 ≤ sizeLine; decide), fun tp htp => ?_⟩⟩
      have s10 := Same.upd (o := .tup [.int x, .int 1, .int 1]) htp
      have hD10 := s10 _ _ hD2'
      have n11 := NL.upd (o := .lst (ws2 ++ [.ref tp])) hD10
      have hw2 : ws2.length ≤ 300 := by
        rw [tw2.len]
        unfold sgl
        rw [List.length_map, List.length_take]
        omega
      refine ⟨ws2, hD10, small1 (by omega), ws2 ++ [.ref tp], upd_same, ?_, fun b o e => ?_⟩
      · rw [List.take_add_one, hx7]
        unfold sgl
        rw [List.map_append]
        exact ((tw2.same s10).nl n11).app (Trs.one ⟨tp, rfl, n11 _ _ upd_same fun _ z => nomatch z⟩)
      · rw [upd_ne (ne_of_none e hD2)]
        exact s10 _ _ (sC _ _ e)
    rintro HC ⟨ws2, hD2', tw2, sC⟩
    rw [List.length_map, List.take_length] at tw2
    refine trains_made (a := D2) (xs := ws2) (ts := sgl due) (n := 10) hD2' tw2 hsg (sgl_bt fun x hx => by have := dlt x hx; omega) (by decide) (by unfold sgl; rw [List.length_map]; omega) fun o5 HD TD sD => ?_
    have TBD := TB.same (sC.trans sD)
    have EB : EqT D.C HD (nfs (win (nfs ms) 0 (some 300))) (.ref o5) (decide (nfs (win (nfs ms) 0 (some 300)) = nfs (sgl due))) := .row TD
    obtain ⟨tB, tyB⟩ := EB.tyN
    rw [decide_eq_true e1] at EB
    obtain ⟨dxB, fsB, hoB⟩ := TBD.has
    refine ⟨o4, dxB, fsB, tB, rfl, hoB, tyB, o4, _, _, _, _, _, rfl, TBD, EB, true, rfl, _, rfl, iteF ?_⟩
    have hdD := sD _ _ (sC _ _ hdB)
    have etot : Tot (nfs (win (nfs ms) 0 (some 300))) = some (due.length : Int) := by
      rw [e1, nfs_tot hsg, sgl_tot]
    refine ⟨_, rfl, _, rfl, o4, _, _, _, D1, due, rfl, TBD, hdD, etot, fun q hq => by rw [e1, nfs_at hsg (by omega), sgl_at], by omega, fun HE sE => ⟨_, rfl, iteF ?_⟩⟩
    -- exchanged
    have s4E := ((((((s47.trans s8).trans s9).trans sB).trans sC).trans sD).trans sE)
    refine ⟨_, rfl, ?_⟩
    refine trains_made (a := l') (xs := xs') (ts := us) (n := 810) (s4E _ _ hl') (hx'.same s4E) R'.srt hbt' (by decide) (by omega) fun q1 G1 U1 t1 => ?_
    have u1 := s4E.trans t1
    refine ⟨_, rfl, ?_⟩
    refine trains_made (a := l) (xs := xs) (ts := ts) (n := 810) (u1 _ _ hl3') (hx3.same u1) R.srt hbt (by decide) (by omega) fun q2 G2 U2 t2 => ?_
    refine ⟨q1, q2, _, _, 811, _, _, rfl, U1.same t2, U2, by decide, by omega, fun ma q3 G3 hma mema UA t3 => ?_⟩
    have u3 := (u1.trans t2).trans t3
    refine ⟨_, rfl, ?_⟩
    refine trains_made (a := l) (xs := xs) (ts := ts) (n := 810) (u3 _ _ hl3') (hx3.same u3) R.srt hbt (by decide) (by omega) fun q4 G4 U4 t4 => ?_
    have u4 := u3.trans t4
    refine ⟨_, rfl, ?_⟩
    refine trains_made (a := l') (xs := xs') (ts := us) (n := 810) (u4 _ _ hl') (hx'.same u4) R'.srt hbt' (by decide) (by omega) fun q5 G5 U5 t5 => ?_
    refine ⟨q4, q5, _, _, 811, _, _, rfl, U4.same t5, U5, by decide, by omega, fun mb q6 G6 hmb memb UB t6 => ?_⟩
    have e2 : nfs ma = nfs mb := (nfs_iff hma hmb).mpr (nb_of_in hma hmb fun x => by rw [mema, memb, and_comm])
    have UA6 := ((UA.same t4).same t5).same t6
    have EX : EqT D.C G6 (nfs ma) (.ref q6) (decide (nfs ma = nfs mb)) := .row UB
    obtain ⟨tX, tyX⟩ := EX.tyN
    rw [decide_eq_true e2] at EX
    obtain ⟨dxX, fsX, hoX⟩ := UA6.has
    refine ⟨q3, dxX, fsX, tX, rfl, hoX, tyX, q3, _, _, _, _, _, rfl, UA6, EX, true, rfl, _, rfl, iteF ?_⟩
    have s4F := ((u4.trans t5).trans t6)
    have srcF := src3.same s4F
    have hLF := s4F _ _ hL3
    obtain ⟨yF, hyF⟩ := srcF.has
    -- far
    have f12 : (10 : Int) ^ (12 : Int).toNat ≤ PB 400 := Int.le_trans p12 (PB_le (by decide))
    have f41 : (10 : Int) ^ (12 : Int).toNat + 5 ≤ PB 41 := by
      have h1 := p12
      have h2 : PB 41 = PB 40 + PB 40 := PB_succ 40
      have h3 := PB_le (show 10 ≤ 40 by decide)
      omega
    refine ⟨2, rfl, by decide, by decide, fun D3 hD3 => ?_⟩
    have nds : D3 ≠ s := (ne_of_none hyF hD3).symm
    have nld : l3 ≠ D3 := ne_of_none hLF hD3
    have s0 := Same.upd (o := .lst []) hD3
    refine lc_range (lo := 0) (n := 2) (fun j H' => ∃ os : List V, H' D3 = some (.lst os) ∧ os.length = j ∧ (∀ x ∈ os, ∃ r g Hb, x = .ref r ∧ TO D.C Hb H' r g 101 ∧ Hb s ≠ none ∧ Hb D3 ≠ none ∧ g.length ≤ 4) ∧ H' l3 = some (.lst its) ∧ Src H' s (60000 + 60000 + 60000 * j))
      ⟨[], upd_same, rfl, fun x hx => (by cases hx), s0 _ _ hLF, srcF.same s0⟩ ?_ ?_
    · rintro j H' hj ⟨os, hDo, hol, hos, hLo, srco⟩
      obtain ⟨yo, hyo⟩ := srco.has
      refine ⟨rfl, tYes_of ⟨_, rfl, _, _, rfl, rfl, ⟨by decide, by decide, by decide⟩, s, _, 4, 60000 + 60000 + 60000 * j, rfl, (by decide), f12, by decide, by decide, srco, by omega, fun la xa ta Ha hla hxa Ra srca ka na => ?_⟩⟩
      have hDa := ka _ _ nds hDo
      have hLa := ka _ _ nls hLo
      refine trains_made (a := la) (xs := xa) (ts := ta) (n := 100) hla hxa Ra.srt (rows_far Ra (by decide) f41) (by decide) (by have := Ra.ln; omega) fun ob Hc TOb sb => ?_
      obtain ⟨ya, hya⟩ := srca.has
      have hDc := sb _ _ hDa
      refine ⟨os, hDc, small1 (by omega), os ++ [.ref ob], upd_same, by rw [List.length_append, hol]; rfl, fun x hx => ?_, ?_, ?_⟩
      · rcases List.mem_append.mp hx with hx | hx
        · obtain ⟨r, g, Hb, rfl, TOr, h1, h2, h3⟩ := hos x hx
          exact ⟨r, g, Hb, rfl, ((TOr.ko (KO.kp ka h1 hyo)).same sb).ko (KO.kp Kp.upd h2 hDc), h1, h2, h3⟩
        · rw [List.mem_singleton.mp hx]
          have hd3 : Ha D3 ≠ none := by rw [hDa]; exact fun z => nomatch z
          refine ⟨ob, _, Ha, rfl, TOb.ko (KO.kp Kp.upd hd3 hDc), (by rw [hya]; exact fun z => nomatch z), hd3, ?_⟩
          have h1 := nfs_len Ra.srt
          have h2 := Ra.ln
          omega
      · rw [upd_ne nld]
        exact sb _ _ hLa
      · obtain ⟨x, y, z, h, rest⟩ := (srca.same sb).mono (m := 60000 + 60000 + 60000 * (j + 1)) (by omega)
        exact ⟨x, y, z, by rw [upd_ne nds.symm]; exact h, rest⟩
    rintro HG ⟨os, hDo, hol, hos, hLo, srco⟩
    obtain ⟨yo, hyo⟩ := srco.has
    obtain ⟨w1, w2, rfl⟩ : ∃ w1 w2, os = [w1, w2] := by
      match os, hol with
      | [a, b], _ => exact ⟨a, b, rfl⟩
    obtain ⟨r1, g1, Hb1, rfl, TOr1, a1, _, b1⟩ := hos w1 (List.mem_cons_self ..)
    obtain ⟨r2, g2, Hb2, rfl, TOr2, a2, _, b2⟩ := hos w2 (List.mem_cons_of_mem _ (List.mem_cons_self ..))
    refine ⟨_, rfl, _, rfl, D3, _, 0, .ref r1, rfl, rfl, SqL.of hDo, rfl, _, rfl, D3, _, 1, .ref r2, rfl, rfl, SqL.of hDo, rfl, s, r1, r2, g1, g2, 101, Hb1, Hb2, 60000 + 60000 + 60000 * 2, rfl, srco, by decide, TOr1, TOr2, by decide, by omega, a1, a2, fun HH kH srcH => ⟨_, rfl, iteF ?_⟩⟩
    refine ⟨_, rfl, s, 60000 + 60000 + 60000 * 2 + 16000, rfl, srcH, by decide, fun HI kI srcI => ⟨_, rfl, iteF ?_⟩⟩
    exact ⟨_, _, _, _, _, _, _, _, rfl, kI _ _ nls (kH _ _ nls hLo)⟩
end
/-! ### the end -/
theorem bn_I (kV doc pm : Value) (an : Option Addr) (cdv ct : Value) (us : List Value) (hl : us.length = (["value"] : List Str).length) : bindArgs (PySem.W.fnOf "is_integer" "is_integer" (defArgs st_is_integer) (defBody st_is_integer) (defScope st_is_integer) .none kV doc pm an cdv ct) ⟨us, []⟩ = pure ((["value"] : List Str).zip us) :=
  match us, hl with | [_], _ => rfl
theorem bn_L (kV doc pm : Value) (an : Option Addr) (cdv ct : Value) (us : List Value) (hl : us.length = (["value", "least"] : List Str).length) : bindArgs (PySem.W.fnOf "is_at_least" "is_at_least" (defArgs st_is_at_least) (defBody st_is_at_least) (defScope st_is_at_least) .none kV doc pm an cdv ct) ⟨us, []⟩ = pure ((["value", "least"] : List Str).zip us) :=
  match us, hl with | [_, _], _ => rfl
theorem bn_S (kV doc pm : Value) (an : Option Addr) (cdv ct : Value) (us : List Value) (hl : us.length = (["distance", "step"] : List Str).length) : bindArgs (PySem.W.fnOf "steps_to" "steps_to" (defArgs st_steps_to) (defBody st_steps_to) (defScope st_steps_to) .none kV doc pm an cdv ct) ⟨us, []⟩ = pure ((["distance", "step"] : List Str).zip us) :=
  match us, hl with | [_, _], _ => rfl
theorem bn_B (kV doc pm : Value) (an : Option Addr) (cdv ct : Value) (us : List Value) (hl : us.length = (["value"] : List Str).length) : bindArgs (PySem.W.fnOf "is_train" "is_train" (defArgs st_is_train) (defBody st_is_train) (defScope st_is_train) .none kV doc pm an cdv ct) ⟨us, []⟩ = pure ((["value"] : List Str).zip us) :=
  match us, hl with | [_], _ => rfl
theorem bn_K (kV doc pm : Value) (an : Option Addr) (cdv ct : Value) (us : List Value) (hl : us.length = (["train"] : List Str).length) : bindArgs (PySem.W.fnOf "last_time" "last_time" (defArgs st_last_time) (defBody st_last_time) (defScope st_last_time) .none kV doc pm an cdv ct) ⟨us, []⟩ = pure ((["train"] : List Str).zip us) :=
  match us, hl with | [_], _ => rfl
theorem bn_X (kV doc pm : Value) (an : Option Addr) (cdv ct : Value) (us : List Value) (hl : us.length = (["train", "time"] : List Str).length) : bindArgs (PySem.W.fnOf "times_before" "times_before" (defArgs st_times_before) (defBody st_times_before) (defScope st_times_before) .none kV doc pm an cdv ct) ⟨us, []⟩ = pure ((["train", "time"] : List Str).zip us) :=
  match us, hl with | [_, _], _ => rfl
theorem bn_Pp (kV doc pm : Value) (an : Option Addr) (cdv ct : Value) (us : List Value) (hl : us.length = (["train", "low", "high"] : List Str).length) : bindArgs (PySem.W.fnOf "part_of" "part_of" (defArgs st_part_of) (defBody st_part_of) (defScope st_part_of) .none kV doc pm an cdv ct) ⟨us, []⟩ = pure ((["train", "low", "high"] : List Str).zip us) :=
  match us, hl with | [_, _, _], _ => rfl
theorem bn_Z (kV doc pm : Value) (an : Option Addr) (cdv ct : Value) (us : List Value) (hl : us.length = (["train", "following"] : List Str).length) : bindArgs (PySem.W.fnOf "joined" "joined" (defArgs st_joined) (defBody st_joined) (defScope st_joined) .none kV doc pm an cdv ct) ⟨us, []⟩ = pure ((["train", "following"] : List Str).zip us) :=
  match us, hl with | [_, _], _ => rfl
theorem bn_U (kV doc pm : Value) (an : Option Addr) (cdv ct : Value) (us : List Value) (hl : us.length = (["train"] : List Str).length) : bindArgs (PySem.W.fnOf "with_plain_step" "with_plain_step" (defArgs st_with_plain_step) (defBody st_with_plain_step) (defScope st_with_plain_step) .none kV doc pm an cdv ct) ⟨us, []⟩ = pure ((["train"] : List Str).zip us) :=
  match us, hl with | [_], _ => rfl
theorem bn_F (kV doc pm : Value) (an : Option Addr) (cdv ct : Value) (us : List Value) (hl : us.length = (["trains"] : List Str).length) : bindArgs (PySem.W.fnOf "normal_form" "normal_form" (defArgs st_normal_form) (defBody st_normal_form) (defScope st_normal_form) .none kV doc pm an cdv ct) ⟨us, []⟩ = pure ((["trains"] : List Str).zip us) :=
  match us, hl with | [_], _ => rfl
theorem bn_A (kV doc pm : Value) (an : Option Addr) (cdv ct : Value) (us : List Value) (hl : us.length = (["trains"] : List Str).length) : bindArgs (PySem.W.fnOf "counts_ahead" "counts_ahead" (defArgs st_counts_ahead) (defBody st_counts_ahead) (defScope st_counts_ahead) .none kV doc pm an cdv ct) ⟨us, []⟩ = pure ((["trains"] : List Str).zip us) :=
  match us, hl with | [_], _ => rfl
theorem bn_T (kV doc pm : Value) (an : Option Addr) (cdv ct : Value) (us : List Value) (hl : us.length = (["trains"] : List Str).length) : bindArgs (PySem.W.fnOf "total_count" "total_count" (defArgs st_total_count) (defBody st_total_count) (defScope st_total_count) .none kV doc pm an cdv ct) ⟨us, []⟩ = pure ((["trains"] : List Str).zip us) :=
  match us, hl with | [_], _ => rfl
theorem bn_H (kV doc pm : Value) (an : Option Addr) (cdv ct : Value) (us : List Value) (hl : us.length = (["trains"] : List Str).length) : bindArgs (PySem.W.fnOf "check_trains" "check_trains" (defArgs st_check_trains) (defBody st_check_trains) (defScope st_check_trains) .none kV doc pm an cdv ct) ⟨us, []⟩ = pure ((["trains"] : List Str).zip us) :=
  match us, hl with | [_], _ => rfl
theorem bn_M (kV doc pm : Value) (an : Option Addr) (cdv ct : Value) (us : List Value) (hl : us.length = (["numbers", "bound"] : List Str).length) : bindArgs (PySem.W.fnOf "count_below" "count_below" (defArgs st_count_below) (defBody st_count_below) (defScope st_count_below) .none kV doc pm an cdv ct) ⟨us, []⟩ = pure ((["numbers", "bound"] : List Str).zip us) :=
  match us, hl with | [_, _], _ => rfl
theorem bn_J (kV doc pm : Value) (an : Option Addr) (cdv ct : Value) (us : List Value) (hl : us.length = (["trains", "time"] : List Str).length) : bindArgs (PySem.W.fnOf "count_before" "count_before" (defArgs st_count_before) (defBody st_count_before) (defScope st_count_before) .none kV doc pm an cdv ct) ⟨us, []⟩ = pure ((["trains", "time"] : List Str).zip us) :=
  match us, hl with | [_, _], _ => rfl
theorem bn_bh (kV doc pm : Value) (an : Option Addr) (cdv ct : Value) (us : List Value) (hl : us.length = (["one", "other"] : List Str).length) : bindArgs (PySem.W.fnOf "is_behind" "is_behind" (defArgs st_is_behind) (defBody st_is_behind) (defScope st_is_behind) .none kV doc pm an cdv ct) ⟨us, []⟩ = pure ((["one", "other"] : List Str).zip us) :=
  match us, hl with | [_, _], _ => rfl
theorem bn_tf (kV doc pm : Value) (an : Option Addr) (cdv ct : Value) (us : List Value) (hl : us.length = (["runs"] : List Str).length) : bindArgs (PySem.W.fnOf "trains_of" "trains_of" (defArgs st_trains_of) (defBody st_trains_of) (defScope st_trains_of) .none kV doc pm an cdv ct) ⟨us, []⟩ = pure ((["runs"] : List Str).zip us) :=
  match us, hl with | [_], _ => rfl
theorem bn_O (kV doc pm : Value) (an : Option Addr) (cdv ct : Value) (us : List Value) (hl : us.length = (["_law_cell"] : List Str).length) : bindArgs (PySem.W.fnOf "_law_source_of" "_law_source_of" (defArgs st__law_source_of) (defBody st__law_source_of) (defScope st__law_source_of) .none kV doc pm an cdv ct) ⟨us, []⟩ = pure ((["_law_cell"] : List Str).zip us) :=
  match us, hl with | [_], _ => rfl
theorem bn_N (kV doc pm : Value) (an : Option Addr) (cdv ct : Value) (us : List Value) (hl : us.length = (["_law_source", "_law_bound"] : List Str).length) : bindArgs (PySem.W.fnOf "_law_draw" "_law_draw" (defArgs st__law_draw) (defBody st__law_draw) (defScope st__law_draw) .none kV doc pm an cdv ct) ⟨us, []⟩ = pure ((["_law_source", "_law_bound"] : List Str).zip us) :=
  match us, hl with | [_, _], _ => rfl
theorem bn_E (kV doc pm : Value) (an : Option Addr) (cdv ct : Value) (us : List Value) (hl : us.length = (["_law_source", "_law_options"] : List Str).length) : bindArgs (PySem.W.fnOf "_law_choice" "_law_choice" (defArgs st__law_choice) (defBody st__law_choice) (defScope st__law_choice) .none kV doc pm an cdv ct) ⟨us, []⟩ = pure ((["_law_source", "_law_options"] : List Str).zip us) :=
  match us, hl with | [_, _], _ => rfl
theorem bn_C (kV doc pm : Value) (an : Option Addr) (cdv ct : Value) (us : List Value) (hl : us.length = (["_law_script", "_law_place"] : List Str).length) : bindArgs (PySem.W.fnOf "_law_cell_at" "_law_cell_at" (defArgs st__law_cell_at) (defBody st__law_cell_at) (defScope st__law_cell_at) .none kV doc pm an cdv ct) ⟨us, []⟩ = pure ((["_law_script", "_law_place"] : List Str).zip us) :=
  match us, hl with | [_, _], _ => rfl
theorem bn_R (kV doc pm : Value) (an : Option Addr) (cdv ct : Value) (us : List Value) (hl : us.length = (["_law_source", "_law_far", "_law_most"] : List Str).length) : bindArgs (PySem.W.fnOf "_law_rows" "_law_rows" (defArgs st__law_rows) (defBody st__law_rows) (defScope st__law_rows) .none kV doc pm an cdv ct) ⟨us, []⟩ = pure ((["_law_source", "_law_far", "_law_most"] : List Str).zip us) :=
  match us, hl with | [_, _, _], _ => rfl
theorem bn_W (kV doc pm : Value) (an : Option Addr) (cdv ct : Value) (us : List Value) (hl : us.length = (["_law_rows_here", "_law_bound"] : List Str).length) : bindArgs (PySem.W.fnOf "_law_times" "_law_times" (defArgs st__law_times) (defBody st__law_times) (defScope st__law_times) .none kV doc pm an cdv ct) ⟨us, []⟩ = pure ((["_law_rows_here", "_law_bound"] : List Str).zip us) :=
  match us, hl with | [_, _], _ => rfl
theorem bn_tc (kV doc pm : Value) (an : Option Addr) (cdv ct : Value) (us : List Value) (hl : us.length = (["trains"] : List Str).length) : bindArgs (PySem.W.fnOf "time_count" "time_count" (defArgs st_time_count) (defBody st_time_count) (defScope st_time_count) .none kV doc pm an cdv ct) ⟨us, []⟩ = pure ((["trains"] : List Str).zip us) :=
  match us, hl with | [_], _ => rfl
theorem bn_wo (kV doc pm : Value) (an : Option Addr) (cdv ct : Value) (us : List Value) (hl : us.length = (["train", "first", "after"] : List Str).length) : bindArgs (PySem.W.fnOf "window_of" "window_of" (defArgs st_window_of) (defBody st_window_of) (defScope st_window_of) .none kV doc pm an cdv ct) ⟨us, []⟩ = pure ((["train", "first", "after"] : List Str).zip us) :=
  match us, hl with | [_, _, _], _ => rfl
theorem bn_wr (kV doc pm : Value) (an : Option Addr) (cdv ct : Value) (us : List Value) (hl : us.length = (["trains", "first", "after"] : List Str).length) : bindArgs (PySem.W.fnOf "window_runs" "window_runs" (defArgs st_window_runs) (defBody st_window_runs) (defScope st_window_runs) .none kV doc pm an cdv ct) ⟨us, []⟩ = pure ((["trains", "first", "after"] : List Str).zip us) :=
  match us, hl with | [_, _, _], _ => rfl
theorem bn_wi (kV doc pm : Value) (an : Option Addr) (cdv ct : Value) (us : List Value) (hl : us.length = (["trains", "first", "after"] : List Str).length) : bindArgs (PySem.W.fnOf "window" "window" (defArgs st_window) (defBody st_window) (defScope st_window) .none kV doc pm an cdv ct) ⟨us, []⟩ = pure ((["trains", "first", "after"] : List Str).zip us) :=
  match us, hl with | [_, _, _], _ => rfl
theorem bn_ho (kV doc pm : Value) (an : Option Addr) (cdv ct : Value) (us : List Value) (hl : us.length = (["_law_told", "_law_times_here"] : List Str).length) : bindArgs (PySem.W.fnOf "_law_holds" "_law_holds" (defArgs st__law_holds) (defBody st__law_holds) (defScope st__law_holds) .none kV doc pm an cdv ct) ⟨us, []⟩ = pure ((["_law_told", "_law_times_here"] : List Str).zip us) :=
  match us, hl with | [_, _], _ => rfl
theorem bn_dv (kV doc pm : Value) (an : Option Addr) (cdv ct : Value) (us : List Value) (hl : us.length = (["one", "other"] : List Str).length) : bindArgs (PySem.W.fnOf "divisor_and_factor" "divisor_and_factor" (defArgs st_divisor_and_factor) (defBody st_divisor_and_factor) (defScope st_divisor_and_factor) .none kV doc pm an cdv ct) ⟨us, []⟩ = pure ((["one", "other"] : List Str).zip us) :=
  match us, hl with | [_, _], _ => rfl
theorem bn_ef (kV doc pm : Value) (an : Option Addr) (cdv ct : Value) (us : List Value) (hl : us.length = (["one", "other"] : List Str).length) : bindArgs (PySem.W.fnOf "ends_first" "ends_first" (defArgs st_ends_first) (defBody st_ends_first) (defScope st_ends_first) .none kV doc pm an cdv ct) ⟨us, []⟩ = pure ((["one", "other"] : List Str).zip us) :=
  match us, hl with | [_, _], _ => rfl
theorem bn_me (kV doc pm : Value) (an : Option Addr) (cdv ct : Value) (us : List Value) (hl : us.length = (["one", "other"] : List Str).length) : bindArgs (PySem.W.fnOf "meeting" "meeting" (defArgs st_meeting) (defBody st_meeting) (defScope st_meeting) .none kV doc pm an cdv ct) ⟨us, []⟩ = pure ((["one", "other"] : List Str).zip us) :=
  match us, hl with | [_, _], _ => rfl
theorem bn_ms (kV doc pm : Value) (an : Option Addr) (cdv ct : Value) (us : List Value) (hl : us.length = (["one", "other"] : List Str).length) : bindArgs (PySem.W.fnOf "meetings" "meetings" (defArgs st_meetings) (defBody st_meetings) (defScope st_meetings) .none kV doc pm an cdv ct) ⟨us, []⟩ = pure ((["one", "other"] : List Str).zip us) :=
  match us, hl with | [_, _], _ => rfl
theorem bn_sh (kV doc pm : Value) (an : Option Addr) (cdv ct : Value) (us : List Value) (hl : us.length = (["one", "other"] : List Str).length) : bindArgs (PySem.W.fnOf "shared" "shared" (defArgs st_shared) (defBody st_shared) (defScope st_shared) .none kV doc pm an cdv ct) ⟨us, []⟩ = pure ((["one", "other"] : List Str).zip us) :=
  match us, hl with | [_, _], _ => rfl
theorem bn_ld (kV doc pm : Value) (an : Option Addr) (cdv ct : Value) (us : List Value) (hl : us.length = (["_law_one", "_law_other"] : List Str).length) : bindArgs (PySem.W.fnOf "_law_divisor" "_law_divisor" (defArgs st__law_divisor) (defBody st__law_divisor) (defScope st__law_divisor) .none kV doc pm an cdv ct) ⟨us, []⟩ = pure ((["_law_one", "_law_other"] : List Str).zip us) :=
  match us, hl with | [_, _], _ => rfl
theorem bn_fr (kV doc pm : Value) (an : Option Addr) (cdv ct : Value) (us : List Value) (hl : us.length = (["_law_source", "_law_one", "_law_other"] : List Str).length) : bindArgs (PySem.W.fnOf "_law_far_right" "_law_far_right" (defArgs st__law_far_right) (defBody st__law_far_right) (defScope st__law_far_right) .none kV doc pm an cdv ct) ⟨us, []⟩ = pure ((["_law_source", "_law_one", "_law_other"] : List Str).zip us) :=
  match us, hl with | [_, _, _], _ => rfl
theorem bn_mr (kV doc pm : Value) (an : Option Addr) (cdv ct : Value) (us : List Value) (hl : us.length = (["_law_source"] : List Str).length) : bindArgs (PySem.W.fnOf "_law_meeting_right" "_law_meeting_right" (defArgs st__law_meeting_right) (defBody st__law_meeting_right) (defScope st__law_meeting_right) .none kV doc pm an cdv ct) ⟨us, []⟩ = pure ((["_law_source"] : List Str).zip us) :=
  match us, hl with | [_], _ => rfl
theorem bn_mT (kV doc pm : Value) (an : Option Addr) (cdv ct : Value) (us : List Value) (hl : us.length = (["self"] : List Str).length) : bindArgs (PySem.W.fnOf "train_list" "Trains.train_list" (defArgs st_Trains_train_list) (defBody st_Trains_train_list) (defScope st_Trains_train_list) .none kV doc pm an cdv ct) ⟨us, []⟩ = pure ((["self"] : List Str).zip us) :=
  match us, hl with | [_], _ => rfl
theorem bn_mL (kV doc pm : Value) (an : Option Addr) (cdv ct : Value) (us : List Value) (hl : us.length = (["self"] : List Str).length) : bindArgs (PySem.W.fnOf "__len__" "Trains.__len__" (defArgs st_Trains_len) (defBody st_Trains_len) (defScope st_Trains_len) .none kV doc pm an cdv ct) ⟨us, []⟩ = pure ((["self"] : List Str).zip us) :=
  match us, hl with | [_], _ => rfl
theorem bn_mC (kV doc pm : Value) (an : Option Addr) (cdv ct : Value) (us : List Value) (hl : us.length = (["self", "x"] : List Str).length) : bindArgs (PySem.W.fnOf "__contains__" "Trains.__contains__" (defArgs st_Trains_contains) (defBody st_Trains_contains) (defScope st_Trains_contains) .none kV doc pm an cdv ct) ⟨us, []⟩ = pure ((["self", "x"] : List Str).zip us) :=
  match us, hl with | [_, _], _ => rfl
theorem bn_mG (kV doc pm : Value) (an : Option Addr) (cdv ct : Value) (us : List Value) (hl : us.length = (["self", "at"] : List Str).length) : bindArgs (PySem.W.fnOf "__getitem__" "Trains.__getitem__" (defArgs st_Trains_getitem) (defBody st_Trains_getitem) (defScope st_Trains_getitem) .none kV doc pm an cdv ct) ⟨us, []⟩ = pure ((["self", "at"] : List Str).zip us) :=
  match us, hl with | [_, _], _ => rfl
theorem bn_mA (kV doc pm : Value) (an : Option Addr) (cdv ct : Value) (us : List Value) (hl : us.length = (["self", "other"] : List Str).length) : bindArgs (PySem.W.fnOf "__add__" "Trains.__add__" (defArgs st_Trains_add) (defBody st_Trains_add) (defScope st_Trains_add) .none kV doc pm an cdv ct) ⟨us, []⟩ = pure ((["self", "other"] : List Str).zip us) :=
  match us, hl with | [_, _], _ => rfl
theorem bn_mE (kV doc pm : Value) (an : Option Addr) (cdv ct : Value) (us : List Value) (hl : us.length = (["self", "other"] : List Str).length) : bindArgs (PySem.W.fnOf "__eq__" "Trains.__eq__" (defArgs st_Trains_eq) (defBody st_Trains_eq) (defScope st_Trains_eq) .none kV doc pm an cdv ct) ⟨us, []⟩ = pure ((["self", "other"] : List Str).zip us) :=
  match us, hl with | [_, _], _ => rfl
theorem bn_Nn (kV doc pm : Value) (an : Option Addr) (cdv ct : Value) (us : List Value) (hl : us.length = (["self", "trains"] : List Str).length) : bindArgs (PySem.W.fnOf "__init__" "Trains.__init__" (defArgs st_Trains_init) (defBody st_Trains_init) (defScope st_Trains_init) .none kV doc pm an cdv ct) ⟨us, []⟩ = pure ((["self", "trains"] : List Str).zip us) :=
  match us, hl with | [_, _], _ => rfl
theorem mk_dfn {K : PySem.W.Frag} {h : Heap} {mg : Str → Option Value} {x : Str} {st : Stmt} {f : Addr} {ps : List Str} {oc : Value} {od an : Option Addr} {sl : Array (Option Value)} {kV dc pm cd ct : Value} (X : K.In h) (G : h.Ns mainGlobals mg) (a : PySem.W.nsIn K mainGlobals x = some (some (.ref f)))
    (l : K.lookup f = some ⟨oc, od, .func (PySem.W.fnOf x x (defArgs st) (defBody st) (defScope st) .none kV dc pm an cd ct), sl⟩) (c : PySem.W.codeIn K cd x = true) (k : PySem.W.keepIn K (.ref f) = true)
    (hb : ∀ (kV doc pm : Value) (an : Option Addr) (cdv ct : Value) (us : List Value), us.length = ps.length → bindArgs (PySem.W.fnOf x x (defArgs st) (defBody st) (defScope st) .none kV doc pm an cdv ct) ⟨us, []⟩ = pure (ps.zip us)) : Dfn K mg x st f ps :=
  ⟨⟨_, fun_mk l c k, (fun_mk l c k).binds hb⟩, PySem.W.mg_of X G a⟩
theorem mk_mth {K : PySem.W.Frag} {C : Addr} {x q : Str} {st : Stmt} {f : Addr} {ps : List Str} {oc : Value} {od an : Option Addr} {sl : Array (Option Value)} {kV dc pm cd ct : Value} (a : PySem.W.findIn K (.ref C) x = some (some (.ref f))) (i : PySem.W.isFn K (.ref f) = true) (fk : PySem.W.fnIn K f = true)
    (l : K.lookup f = some ⟨oc, od, .func (PySem.W.fnOf x q (defArgs st) (defBody st) (defScope st) .none kV dc pm an cd ct), sl⟩) (c : PySem.W.codeIn K cd q = true) (k : PySem.W.keepIn K (.ref f) = true)
    (hb : ∀ (kV doc pm : Value) (an : Option Addr) (cdv ct : Value) (us : List Value), us.length = ps.length → bindArgs (PySem.W.fnOf x q (defArgs st) (defBody st) (defScope st) .none kV doc pm an cdv ct) ⟨us, []⟩ = pure (ps.zip us)) : Mth K C x q st f ps :=
  ⟨⟨_, fun_mk l c k, (fun_mk l c k).binds hb⟩, a, i, fk⟩
set_option maxHeartbeats 16000000 in
theorem all_mk {P : Program} {w : World} {K : PySem.W.Frag} {h : Heap} {mg : Str → Option Value} {lv : List (Str × PySem.W.WData)} {fa aLaw C fI fL fS fB fK fX fPp fZ fU fF fA fT fH fM fJ fbh ftf fO fN fE fC fR fW ftc fwo fwr fwi fho fdv fef fme fms fsh fld ffr fmr fmT fmL fmC fmG fmA fmE adN : Addr} {tB : Tok} {odI anI odL anL odS anS odB anB odK anK odX anX odPp anPp odZ anZ odU anU odF anF odA anA odT anT odH anH odM anM odJ anJ odbh anbh odtf antf odO anO odN anN odE anE odC anC odR anR odW anW odtc antc odwo anwo odwr anwr odwi anwi odho anho oddv andv odef anef odme anme odms anms odsh ansh odld anld odfr anfr odmr anmr odmT anmT odmL anmL odmC anmC odmG anmG odmA anmA odmE anmE odY anY odNn anNn : Option Addr} {slI slL slS slB slK slX slPp slZ slU slF slA slT slH slM slJ slbh sltf slO slN slE slC slR slW sltc slwo slwr slwi slho sldv slef slme slms slsh slld slfr slmr slmT slmL slmC slmG slmA slmE slY slNn : Array (Option Value)} {ocI kVI dcI pmI cdI ctI ocL kVL dcL pmL cdL ctL ocS kVS dcS pmS cdS ctS ocB kVB dcB pmB cdB ctB ocK kVK dcK pmK cdK ctK ocX kVX dcX pmX cdX ctX ocPp kVPp dcPp pmPp cdPp ctPp ocZ kVZ dcZ pmZ cdZ ctZ ocU kVU dcU pmU cdU ctU ocF kVF dcF pmF cdF ctF ocA kVA dcA pmA cdA ctA ocT kVT dcT pmT cdT ctT ocH kVH dcH pmH cdH ctH ocM kVM dcM pmM cdM ctM ocJ kVJ dcJ pmJ cdJ ctJ ocbh kVbh dcbh pmbh cdbh ctbh octf kVtf dctf pmtf cdtf cttf ocO kVO dcO pmO cdO ctO ocN kVN dcN pmN cdN ctN ocE kVE dcE pmE cdE ctE ocC kVC dcC pmC cdC ctC ocR kVR dcR pmR cdR ctR ocW kVW dcW pmW cdW ctW octc kVtc dctc pmtc cdtc cttc ocwo kVwo dcwo pmwo cdwo ctwo ocwr kVwr dcwr pmwr cdwr ctwr ocwi kVwi dcwi pmwi cdwi ctwi ocho kVho dcho pmho cdho ctho ocdv kVdv dcdv pmdv cddv ctdv ocef kVef dcef pmef cdef ctef ocme kVme dcme pmme cdme ctme ocms kVms dcms pmms cdms ctms ocsh kVsh dcsh pmsh cdsh ctsh ocld kVld dcld pmld cdld ctld ocfr kVfr dcfr pmfr cdfr ctfr ocmr kVmr dcmr pmmr cdmr ctmr ocmT kVmT dcmT pmmT cdmT ctmT ocmL kVmL dcmL pmmL cdmL ctmL ocmC kVmC dcmC pmmC cdmC ctmC ocmG kVmG dcmG pmmG cdmG ctmG ocmA kVmA dcmA pmmA cdmA ctmA ocmE kVmE dcmE pmmE cdmE ctmE ocY kVY dcY pmY cdY ctY kVNn ocNn dcNn pmNn cdNn ctNn : Value}
    (X : K.In h) (G : h.Ns mainGlobals mg) (L : PySem.W.LooseAre lv mg h)  (hfa : mg "law" = some (.ref fa))
    (aCls : PySem.W.nsIn K mainGlobals "Trains" = some (some (.ref C)))
    (aI : PySem.W.nsIn K mainGlobals "is_integer" = some (some (.ref fI)))
    (lI : K.lookup fI = some ⟨ocI, odI, .func (PySem.W.fnOf "is_integer" "is_integer" (defArgs st_is_integer) (defBody st_is_integer) (defScope st_is_integer) .none kVI dcI pmI anI cdI ctI), slI⟩)
    (cI : PySem.W.codeIn K cdI "is_integer" = true)
    (kI : PySem.W.keepIn K (.ref fI) = true)
    (aL : PySem.W.nsIn K mainGlobals "is_at_least" = some (some (.ref fL)))
    (lL : K.lookup fL = some ⟨ocL, odL, .func (PySem.W.fnOf "is_at_least" "is_at_least" (defArgs st_is_at_least) (defBody st_is_at_least) (defScope st_is_at_least) .none kVL dcL pmL anL cdL ctL), slL⟩)
    (cL : PySem.W.codeIn K cdL "is_at_least" = true)
    (kL : PySem.W.keepIn K (.ref fL) = true)
    (aS : PySem.W.nsIn K mainGlobals "steps_to" = some (some (.ref fS)))
    (lS : K.lookup fS = some ⟨ocS, odS, .func (PySem.W.fnOf "steps_to" "steps_to" (defArgs st_steps_to) (defBody st_steps_to) (defScope st_steps_to) .none kVS dcS pmS anS cdS ctS), slS⟩)
    (cS : PySem.W.codeIn K cdS "steps_to" = true)
    (kS : PySem.W.keepIn K (.ref fS) = true)
    (aB : PySem.W.nsIn K mainGlobals "is_train" = some (some (.ref fB)))
    (lB : K.lookup fB = some ⟨ocB, odB, .func (PySem.W.fnOf "is_train" "is_train" (defArgs st_is_train) (defBody st_is_train) (defScope st_is_train) .none kVB dcB pmB anB cdB ctB), slB⟩)
    (cB : PySem.W.codeIn K cdB "is_train" = true)
    (kB : PySem.W.keepIn K (.ref fB) = true)
    (aK : PySem.W.nsIn K mainGlobals "last_time" = some (some (.ref fK)))
    (lK : K.lookup fK = some ⟨ocK, odK, .func (PySem.W.fnOf "last_time" "last_time" (defArgs st_last_time) (defBody st_last_time) (defScope st_last_time) .none kVK dcK pmK anK cdK ctK), slK⟩)
    (cK : PySem.W.codeIn K cdK "last_time" = true)
    (kK : PySem.W.keepIn K (.ref fK) = true)
    (aX : PySem.W.nsIn K mainGlobals "times_before" = some (some (.ref fX)))
    (lX : K.lookup fX = some ⟨ocX, odX, .func (PySem.W.fnOf "times_before" "times_before" (defArgs st_times_before) (defBody st_times_before) (defScope st_times_before) .none kVX dcX pmX anX cdX ctX), slX⟩)
    (cX : PySem.W.codeIn K cdX "times_before" = true)
    (kX : PySem.W.keepIn K (.ref fX) = true)
    (aPp : PySem.W.nsIn K mainGlobals "part_of" = some (some (.ref fPp)))
    (lPp : K.lookup fPp = some ⟨ocPp, odPp, .func (PySem.W.fnOf "part_of" "part_of" (defArgs st_part_of) (defBody st_part_of) (defScope st_part_of) .none kVPp dcPp pmPp anPp cdPp ctPp), slPp⟩)
    (cPp : PySem.W.codeIn K cdPp "part_of" = true)
    (kPp : PySem.W.keepIn K (.ref fPp) = true)
    (aZ : PySem.W.nsIn K mainGlobals "joined" = some (some (.ref fZ)))
    (lZ : K.lookup fZ = some ⟨ocZ, odZ, .func (PySem.W.fnOf "joined" "joined" (defArgs st_joined) (defBody st_joined) (defScope st_joined) .none kVZ dcZ pmZ anZ cdZ ctZ), slZ⟩)
    (cZ : PySem.W.codeIn K cdZ "joined" = true)
    (kZ : PySem.W.keepIn K (.ref fZ) = true)
    (aU : PySem.W.nsIn K mainGlobals "with_plain_step" = some (some (.ref fU)))
    (lU : K.lookup fU = some ⟨ocU, odU, .func (PySem.W.fnOf "with_plain_step" "with_plain_step" (defArgs st_with_plain_step) (defBody st_with_plain_step) (defScope st_with_plain_step) .none kVU dcU pmU anU cdU ctU), slU⟩)
    (cU : PySem.W.codeIn K cdU "with_plain_step" = true)
    (kU : PySem.W.keepIn K (.ref fU) = true)
    (aF : PySem.W.nsIn K mainGlobals "normal_form" = some (some (.ref fF)))
    (lF : K.lookup fF = some ⟨ocF, odF, .func (PySem.W.fnOf "normal_form" "normal_form" (defArgs st_normal_form) (defBody st_normal_form) (defScope st_normal_form) .none kVF dcF pmF anF cdF ctF), slF⟩)
    (cF : PySem.W.codeIn K cdF "normal_form" = true)
    (kF : PySem.W.keepIn K (.ref fF) = true)
    (aA : PySem.W.nsIn K mainGlobals "counts_ahead" = some (some (.ref fA)))
    (lA : K.lookup fA = some ⟨ocA, odA, .func (PySem.W.fnOf "counts_ahead" "counts_ahead" (defArgs st_counts_ahead) (defBody st_counts_ahead) (defScope st_counts_ahead) .none kVA dcA pmA anA cdA ctA), slA⟩)
    (cA : PySem.W.codeIn K cdA "counts_ahead" = true)
    (kA : PySem.W.keepIn K (.ref fA) = true)
    (aT : PySem.W.nsIn K mainGlobals "total_count" = some (some (.ref fT)))
    (lT : K.lookup fT = some ⟨ocT, odT, .func (PySem.W.fnOf "total_count" "total_count" (defArgs st_total_count) (defBody st_total_count) (defScope st_total_count) .none kVT dcT pmT anT cdT ctT), slT⟩)
    (cT : PySem.W.codeIn K cdT "total_count" = true)
    (kT : PySem.W.keepIn K (.ref fT) = true)
    (aH : PySem.W.nsIn K mainGlobals "check_trains" = some (some (.ref fH)))
    (lH : K.lookup fH = some ⟨ocH, odH, .func (PySem.W.fnOf "check_trains" "check_trains" (defArgs st_check_trains) (defBody st_check_trains) (defScope st_check_trains) .none kVH dcH pmH anH cdH ctH), slH⟩)
    (cH : PySem.W.codeIn K cdH "check_trains" = true)
    (kH : PySem.W.keepIn K (.ref fH) = true)
    (aM : PySem.W.nsIn K mainGlobals "count_below" = some (some (.ref fM)))
    (lM : K.lookup fM = some ⟨ocM, odM, .func (PySem.W.fnOf "count_below" "count_below" (defArgs st_count_below) (defBody st_count_below) (defScope st_count_below) .none kVM dcM pmM anM cdM ctM), slM⟩)
    (cM : PySem.W.codeIn K cdM "count_below" = true)
    (kM : PySem.W.keepIn K (.ref fM) = true)
    (aJ : PySem.W.nsIn K mainGlobals "count_before" = some (some (.ref fJ)))
    (lJ : K.lookup fJ = some ⟨ocJ, odJ, .func (PySem.W.fnOf "count_before" "count_before" (defArgs st_count_before) (defBody st_count_before) (defScope st_count_before) .none kVJ dcJ pmJ anJ cdJ ctJ), slJ⟩)
    (cJ : PySem.W.codeIn K cdJ "count_before" = true)
    (kJ : PySem.W.keepIn K (.ref fJ) = true)
    (abh : PySem.W.nsIn K mainGlobals "is_behind" = some (some (.ref fbh)))
    (lbh : K.lookup fbh = some ⟨ocbh, odbh, .func (PySem.W.fnOf "is_behind" "is_behind" (defArgs st_is_behind) (defBody st_is_behind) (defScope st_is_behind) .none kVbh dcbh pmbh anbh cdbh ctbh), slbh⟩)
    (cbh : PySem.W.codeIn K cdbh "is_behind" = true)
    (kbh : PySem.W.keepIn K (.ref fbh) = true)
    (atf : PySem.W.nsIn K mainGlobals "trains_of" = some (some (.ref ftf)))
    (ltf : K.lookup ftf = some ⟨octf, odtf, .func (PySem.W.fnOf "trains_of" "trains_of" (defArgs st_trains_of) (defBody st_trains_of) (defScope st_trains_of) .none kVtf dctf pmtf antf cdtf cttf), sltf⟩)
    (ctf : PySem.W.codeIn K cdtf "trains_of" = true)
    (ktf : PySem.W.keepIn K (.ref ftf) = true)
    (aO : PySem.W.nsIn K mainGlobals "_law_source_of" = some (some (.ref fO)))
    (lO : K.lookup fO = some ⟨ocO, odO, .func (PySem.W.fnOf "_law_source_of" "_law_source_of" (defArgs st__law_source_of) (defBody st__law_source_of) (defScope st__law_source_of) .none kVO dcO pmO anO cdO ctO), slO⟩)
    (cO : PySem.W.codeIn K cdO "_law_source_of" = true)
    (kO : PySem.W.keepIn K (.ref fO) = true)
    (aN : PySem.W.nsIn K mainGlobals "_law_draw" = some (some (.ref fN)))
    (lN : K.lookup fN = some ⟨ocN, odN, .func (PySem.W.fnOf "_law_draw" "_law_draw" (defArgs st__law_draw) (defBody st__law_draw) (defScope st__law_draw) .none kVN dcN pmN anN cdN ctN), slN⟩)
    (cN : PySem.W.codeIn K cdN "_law_draw" = true)
    (kN : PySem.W.keepIn K (.ref fN) = true)
    (aE : PySem.W.nsIn K mainGlobals "_law_choice" = some (some (.ref fE)))
    (lE : K.lookup fE = some ⟨ocE, odE, .func (PySem.W.fnOf "_law_choice" "_law_choice" (defArgs st__law_choice) (defBody st__law_choice) (defScope st__law_choice) .none kVE dcE pmE anE cdE ctE), slE⟩)
    (cE : PySem.W.codeIn K cdE "_law_choice" = true)
    (kE : PySem.W.keepIn K (.ref fE) = true)
    (aC : PySem.W.nsIn K mainGlobals "_law_cell_at" = some (some (.ref fC)))
    (lC : K.lookup fC = some ⟨ocC, odC, .func (PySem.W.fnOf "_law_cell_at" "_law_cell_at" (defArgs st__law_cell_at) (defBody st__law_cell_at) (defScope st__law_cell_at) .none kVC dcC pmC anC cdC ctC), slC⟩)
    (cC : PySem.W.codeIn K cdC "_law_cell_at" = true)
    (kC : PySem.W.keepIn K (.ref fC) = true)
    (aR : PySem.W.nsIn K mainGlobals "_law_rows" = some (some (.ref fR)))
    (lR : K.lookup fR = some ⟨ocR, odR, .func (PySem.W.fnOf "_law_rows" "_law_rows" (defArgs st__law_rows) (defBody st__law_rows) (defScope st__law_rows) .none kVR dcR pmR anR cdR ctR), slR⟩)
    (cR : PySem.W.codeIn K cdR "_law_rows" = true)
    (kR : PySem.W.keepIn K (.ref fR) = true)
    (aW : PySem.W.nsIn K mainGlobals "_law_times" = some (some (.ref fW)))
    (lW : K.lookup fW = some ⟨ocW, odW, .func (PySem.W.fnOf "_law_times" "_law_times" (defArgs st__law_times) (defBody st__law_times) (defScope st__law_times) .none kVW dcW pmW anW cdW ctW), slW⟩)
    (cW : PySem.W.codeIn K cdW "_law_times" = true)
    (kW : PySem.W.keepIn K (.ref fW) = true)
    (atc : PySem.W.nsIn K mainGlobals "time_count" = some (some (.ref ftc)))
    (ltc : K.lookup ftc = some ⟨octc, odtc, .func (PySem.W.fnOf "time_count" "time_count" (defArgs st_time_count) (defBody st_time_count) (defScope st_time_count) .none kVtc dctc pmtc antc cdtc cttc), sltc⟩)
    (ctc : PySem.W.codeIn K cdtc "time_count" = true)
    (ktc : PySem.W.keepIn K (.ref ftc) = true)
    (awo : PySem.W.nsIn K mainGlobals "window_of" = some (some (.ref fwo)))
    (lwo : K.lookup fwo = some ⟨ocwo, odwo, .func (PySem.W.fnOf "window_of" "window_of" (defArgs st_window_of) (defBody st_window_of) (defScope st_window_of) .none kVwo dcwo pmwo anwo cdwo ctwo), slwo⟩)
    (cwo : PySem.W.codeIn K cdwo "window_of" = true)
    (kwo : PySem.W.keepIn K (.ref fwo) = true)
    (awr : PySem.W.nsIn K mainGlobals "window_runs" = some (some (.ref fwr)))
    (lwr : K.lookup fwr = some ⟨ocwr, odwr, .func (PySem.W.fnOf "window_runs" "window_runs" (defArgs st_window_runs) (defBody st_window_runs) (defScope st_window_runs) .none kVwr dcwr pmwr anwr cdwr ctwr), slwr⟩)
    (cwr : PySem.W.codeIn K cdwr "window_runs" = true)
    (kwr : PySem.W.keepIn K (.ref fwr) = true)
    (awi : PySem.W.nsIn K mainGlobals "window" = some (some (.ref fwi)))
    (lwi : K.lookup fwi = some ⟨ocwi, odwi, .func (PySem.W.fnOf "window" "window" (defArgs st_window) (defBody st_window) (defScope st_window) .none kVwi dcwi pmwi anwi cdwi ctwi), slwi⟩)
    (cwi : PySem.W.codeIn K cdwi "window" = true)
    (kwi : PySem.W.keepIn K (.ref fwi) = true)
    (aho : PySem.W.nsIn K mainGlobals "_law_holds" = some (some (.ref fho)))
    (lho : K.lookup fho = some ⟨ocho, odho, .func (PySem.W.fnOf "_law_holds" "_law_holds" (defArgs st__law_holds) (defBody st__law_holds) (defScope st__law_holds) .none kVho dcho pmho anho cdho ctho), slho⟩)
    (cho : PySem.W.codeIn K cdho "_law_holds" = true)
    (kho : PySem.W.keepIn K (.ref fho) = true)
    (adv : PySem.W.nsIn K mainGlobals "divisor_and_factor" = some (some (.ref fdv)))
    (ldv : K.lookup fdv = some ⟨ocdv, oddv, .func (PySem.W.fnOf "divisor_and_factor" "divisor_and_factor" (defArgs st_divisor_and_factor) (defBody st_divisor_and_factor) (defScope st_divisor_and_factor) .none kVdv dcdv pmdv andv cddv ctdv), sldv⟩)
    (cdv : PySem.W.codeIn K cddv "divisor_and_factor" = true)
    (kdv : PySem.W.keepIn K (.ref fdv) = true)
    (aef : PySem.W.nsIn K mainGlobals "ends_first" = some (some (.ref fef)))
    (lef : K.lookup fef = some ⟨ocef, odef, .func (PySem.W.fnOf "ends_first" "ends_first" (defArgs st_ends_first) (defBody st_ends_first) (defScope st_ends_first) .none kVef dcef pmef anef cdef ctef), slef⟩)
    (cef : PySem.W.codeIn K cdef "ends_first" = true)
    (kef : PySem.W.keepIn K (.ref fef) = true)
    (ame : PySem.W.nsIn K mainGlobals "meeting" = some (some (.ref fme)))
    (lme : K.lookup fme = some ⟨ocme, odme, .func (PySem.W.fnOf "meeting" "meeting" (defArgs st_meeting) (defBody st_meeting) (defScope st_meeting) .none kVme dcme pmme anme cdme ctme), slme⟩)
    (cme : PySem.W.codeIn K cdme "meeting" = true)
    (kme : PySem.W.keepIn K (.ref fme) = true)
    (ams : PySem.W.nsIn K mainGlobals "meetings" = some (some (.ref fms)))
    (lms : K.lookup fms = some ⟨ocms, odms, .func (PySem.W.fnOf "meetings" "meetings" (defArgs st_meetings) (defBody st_meetings) (defScope st_meetings) .none kVms dcms pmms anms cdms ctms), slms⟩)
    (cms : PySem.W.codeIn K cdms "meetings" = true)
    (kms : PySem.W.keepIn K (.ref fms) = true)
    (ash : PySem.W.nsIn K mainGlobals "shared" = some (some (.ref fsh)))
    (lsh : K.lookup fsh = some ⟨ocsh, odsh, .func (PySem.W.fnOf "shared" "shared" (defArgs st_shared) (defBody st_shared) (defScope st_shared) .none kVsh dcsh pmsh ansh cdsh ctsh), slsh⟩)
    (csh : PySem.W.codeIn K cdsh "shared" = true)
    (ksh : PySem.W.keepIn K (.ref fsh) = true)
    (ald : PySem.W.nsIn K mainGlobals "_law_divisor" = some (some (.ref fld)))
    (lld : K.lookup fld = some ⟨ocld, odld, .func (PySem.W.fnOf "_law_divisor" "_law_divisor" (defArgs st__law_divisor) (defBody st__law_divisor) (defScope st__law_divisor) .none kVld dcld pmld anld cdld ctld), slld⟩)
    (cld : PySem.W.codeIn K cdld "_law_divisor" = true)
    (kld : PySem.W.keepIn K (.ref fld) = true)
    (afr : PySem.W.nsIn K mainGlobals "_law_far_right" = some (some (.ref ffr)))
    (lfr : K.lookup ffr = some ⟨ocfr, odfr, .func (PySem.W.fnOf "_law_far_right" "_law_far_right" (defArgs st__law_far_right) (defBody st__law_far_right) (defScope st__law_far_right) .none kVfr dcfr pmfr anfr cdfr ctfr), slfr⟩)
    (cfr : PySem.W.codeIn K cdfr "_law_far_right" = true)
    (kfr : PySem.W.keepIn K (.ref ffr) = true)
    (amr : PySem.W.nsIn K mainGlobals "_law_meeting_right" = some (some (.ref fmr)))
    (lmr : K.lookup fmr = some ⟨ocmr, odmr, .func (PySem.W.fnOf "_law_meeting_right" "_law_meeting_right" (defArgs st__law_meeting_right) (defBody st__law_meeting_right) (defScope st__law_meeting_right) .none kVmr dcmr pmmr anmr cdmr ctmr), slmr⟩)
    (cmr : PySem.W.codeIn K cdmr "_law_meeting_right" = true)
    (kmr : PySem.W.keepIn K (.ref fmr) = true)
    (amT : PySem.W.findIn K (.ref C) "train_list" = some (some (.ref fmT)))
    (imT : PySem.W.isFn K (.ref fmT) = true)
    (nmT : PySem.W.fnIn K fmT = true)
    (lmT : K.lookup fmT = some ⟨ocmT, odmT, .func (PySem.W.fnOf "train_list" "Trains.train_list" (defArgs st_Trains_train_list) (defBody st_Trains_train_list) (defScope st_Trains_train_list) .none kVmT dcmT pmmT anmT cdmT ctmT), slmT⟩)
    (cmT : PySem.W.codeIn K cdmT "Trains.train_list" = true)
    (kmT : PySem.W.keepIn K (.ref fmT) = true)
    (amL : PySem.W.findIn K (.ref C) "__len__" = some (some (.ref fmL)))
    (imL : PySem.W.isFn K (.ref fmL) = true)
    (nmL : PySem.W.fnIn K fmL = true)
    (lmL : K.lookup fmL = some ⟨ocmL, odmL, .func (PySem.W.fnOf "__len__" "Trains.__len__" (defArgs st_Trains_len) (defBody st_Trains_len) (defScope st_Trains_len) .none kVmL dcmL pmmL anmL cdmL ctmL), slmL⟩)
    (cmL : PySem.W.codeIn K cdmL "Trains.__len__" = true)
    (kmL : PySem.W.keepIn K (.ref fmL) = true)
    (amC : PySem.W.findIn K (.ref C) "__contains__" = some (some (.ref fmC)))
    (imC : PySem.W.isFn K (.ref fmC) = true)
    (nmC : PySem.W.fnIn K fmC = true)
    (lmC : K.lookup fmC = some ⟨ocmC, odmC, .func (PySem.W.fnOf "__contains__" "Trains.__contains__" (defArgs st_Trains_contains) (defBody st_Trains_contains) (defScope st_Trains_contains) .none kVmC dcmC pmmC anmC cdmC ctmC), slmC⟩)
    (cmC : PySem.W.codeIn K cdmC "Trains.__contains__" = true)
    (kmC : PySem.W.keepIn K (.ref fmC) = true)
    (amG : PySem.W.findIn K (.ref C) "__getitem__" = some (some (.ref fmG)))
    (imG : PySem.W.isFn K (.ref fmG) = true)
    (nmG : PySem.W.fnIn K fmG = true)
    (lmG : K.lookup fmG = some ⟨ocmG, odmG, .func (PySem.W.fnOf "__getitem__" "Trains.__getitem__" (defArgs st_Trains_getitem) (defBody st_Trains_getitem) (defScope st_Trains_getitem) .none kVmG dcmG pmmG anmG cdmG ctmG), slmG⟩)
    (cmG : PySem.W.codeIn K cdmG "Trains.__getitem__" = true)
    (kmG : PySem.W.keepIn K (.ref fmG) = true)
    (amA : PySem.W.findIn K (.ref C) "__add__" = some (some (.ref fmA)))
    (imA : PySem.W.isFn K (.ref fmA) = true)
    (nmA : PySem.W.fnIn K fmA = true)
    (lmA : K.lookup fmA = some ⟨ocmA, odmA, .func (PySem.W.fnOf "__add__" "Trains.__add__" (defArgs st_Trains_add) (defBody st_Trains_add) (defScope st_Trains_add) .none kVmA dcmA pmmA anmA cdmA ctmA), slmA⟩)
    (cmA : PySem.W.codeIn K cdmA "Trains.__add__" = true)
    (kmA : PySem.W.keepIn K (.ref fmA) = true)
    (amE : PySem.W.findIn K (.ref C) "__eq__" = some (some (.ref fmE)))
    (imE : PySem.W.isFn K (.ref fmE) = true)
    (nmE : PySem.W.fnIn K fmE = true)
    (lmE : K.lookup fmE = some ⟨ocmE, odmE, .func (PySem.W.fnOf "__eq__" "Trains.__eq__" (defArgs st_Trains_eq) (defBody st_Trains_eq) (defScope st_Trains_eq) .none kVmE dcmE pmmE anmE cdmE ctmE), slmE⟩)
    (cmE : PySem.W.codeIn K cdmE "Trains.__eq__" = true)
    (kmE : PySem.W.keepIn K (.ref fmE) = true)
    (aNn : PySem.W.findIn K (.ref C) "__init__" = some (some (.ref adN)))
    (iNn : PySem.W.isFn K (.ref adN) = true)
    (lNn : K.lookup adN = some ⟨ocNn, odNn, .func (PySem.W.fnOf "__init__" "Trains.__init__" (defArgs st_Trains_init) (defBody st_Trains_init) (defScope st_Trains_init) .none kVNn dcNn pmNn anNn cdNn ctNn), slNn⟩)
    (cNn : PySem.W.codeIn K cdNn "Trains.__init__" = true)
    (kNn : PySem.W.keepIn K (.ref adN) = true)
    (aY : PySem.W.nsIn K mainGlobals "law" = some (some (.ref aLaw)))
    (lY : K.lookup aLaw = some ⟨ocY, odY, .func (PySem.W.fnOf "law" "law" (defArgs st_law) (defBody st_law) (defScope st_law) .none kVY dcY pmY anY cdY ctY), slY⟩)
    (cY : PySem.W.codeIn K cdY "law" = true)
    (kY : PySem.W.keepIn K (.ref aLaw) = true)
    (g1 : PySem.W.plainGet K C Str.empty = true)
    (g2 : PySem.W.hasDictIn K C = true)
    (g3 : PySem.W.plainOver K C = true)
    (g4 : PySem.W.findIn K (.ref C) "__setattr__" = some (some (.builtin "object.__setattr__")))
    (g5 : PySem.W.makesIn K C = true)
    (g6 : PySem.W.keepIn K (.ref C) = true)
    (g7 : PySem.W.findIn K (.ref C) "runs" = some none)
    (g8 : PySem.W.findIn K (.ref C) "firsts" = some none)
    (g9 : PySem.W.findIn K (.ref C) "ahead" = some none)
    (g9b : PySem.W.findIn K (.ref C) "total" = some none)
    (g10 : PySem.W.isClsIn K C = true)
    (g11 : PySem.W.typeIn K (.ref C) = some (.type "type"))
    (g12 : PySem.W.findIn K (.ref C) "__class__" = some (some (.builtin "object.__class__")))
    (g13 : PySem.W.specialIn K (.builtin "object.__class__") "__get__" = some (some (.builtin "getset_descriptor.__get__")))
    (g14 : PySem.W.takesIn K (.builtin "object.__class__") = some true)
    (g15 : PySem.W.mroIn K C (.type "object") = some true)
    (g16 : PySem.W.selfFirst K C = true)
    (g17 : PySem.W.findIn K (.ref C) "__ne__" = some (some (.builtin "object.__ne__")))
    (gB : PySem.W.nsIn K mainGlobals "MOST_TRAINS" = some (some (.int 1000 tB)))
    (z_isinstance : PySem.W.nsIn K mainGlobals "isinstance" = some none)
    (z_int : PySem.W.nsIn K mainGlobals "int" = some none)
    (z_bool : PySem.W.nsIn K mainGlobals "bool" = some none)
    (z_max : PySem.W.nsIn K mainGlobals "max" = some none)
    (z_min : PySem.W.nsIn K mainGlobals "min" = some none)
    (z_len : PySem.W.nsIn K mainGlobals "len" = some none)
    (z_list : PySem.W.nsIn K mainGlobals "list" = some none)
    (z_tuple : PySem.W.nsIn K mainGlobals "tuple" = some none)
    (z_enumerate : PySem.W.nsIn K mainGlobals "enumerate" = some none)
    (z_sum : PySem.W.nsIn K mainGlobals "sum" = some none)
    (z_range : PySem.W.nsIn K mainGlobals "range" = some none)
    (z_divmod : PySem.W.nsIn K mainGlobals "divmod" = some none) :
    ∃ fd : FuncData, (∀ (s : Shared) (v : Value), BindsTo s fd ⟨[v], []⟩ [("_law_script", v)]) ∧ ∀ base : Heap, K.In base → base.Ns mainGlobals mg → FnOk P w K mg base CX0 10 fa fd ["_law_script"] (spLaw K) := by
  have e := hfa.symm.trans (PySem.W.mg_of X G aY)
  cases e
  have BB : Bi mg := ⟨PySem.W.mg_none_of X G z_isinstance, PySem.W.mg_none_of X G z_int, PySem.W.mg_none_of X G z_bool, PySem.W.mg_none_of X G z_max, PySem.W.mg_none_of X G z_min, PySem.W.mg_none_of X G z_len, PySem.W.mg_none_of X G z_list, PySem.W.mg_none_of X G z_tuple, PySem.W.mg_none_of X G z_enumerate, PySem.W.mg_none_of X G z_sum, PySem.W.mg_none_of X G z_range⟩
  have T0 : Tx0 K mg fI fL fS := ⟨PySem.W.mg_none_of X G z_isinstance, PySem.W.mg_none_of X G z_int, PySem.W.mg_none_of X G z_bool, PySem.W.mg_none_of X G z_max, mk_dfn X G aI lI cI kI bn_I, mk_dfn X G aL lL cL kL bn_L, mk_dfn X G aS lS cS kS bn_S⟩
  have T1 : Tx1 K mg fO fN fE fC := ⟨PySem.W.mg_none_of X G z_int, PySem.W.mg_none_of X G z_len, mk_dfn X G aO lO cO kO bn_O, mk_dfn X G aN lN cN kN bn_N, mk_dfn X G aE lE cE kE bn_E, mk_dfn X G aC lC cC kC bn_C⟩
  have T2 : Tx2 K mg fB fK fX fPp fZ fU := ⟨BB, mk_dfn X G aB lB cB kB bn_B, mk_dfn X G aK lK cK kK bn_K, mk_dfn X G aX lX cX kX bn_X, mk_dfn X G aPp lPp cPp kPp bn_Pp, mk_dfn X G aZ lZ cZ kZ bn_Z, mk_dfn X G aU lU cU kU bn_U⟩
  have FN : ∃ fd, Fun K "__init__" "Trains.__init__" st_Trains_init adN fd ∧ Binds K fd ["self", "trains"] [] := ⟨_, fun_mk lNn cNn kNn, (fun_mk lNn cNn kNn).binds bn_Nn⟩
  have TT : Tx K mg ⟨fI, fL, fS, fB, fK, fX, fPp, fZ, fU, fF, fA, fT, fH, fM, fJ, C, adN, fmT, fmL, fmC, fmG, fmA, fmE, fbh, ftf⟩ := ⟨T0, T2, ⟨_, PySem.W.mg_of X G gB⟩, mk_dfn X G aF lF cF kF bn_F, mk_dfn X G aA lA cA kA bn_A, mk_dfn X G aT lT cT kT bn_T, mk_dfn X G aH lH cH kH bn_H, mk_dfn X G aM lM cM kM bn_M, mk_dfn X G aJ lJ cJ kJ bn_J, mk_dfn X G abh lbh cbh kbh bn_bh, mk_dfn X G atf ltf ctf ktf bn_tf, ⟨g1, g2, g3, g4⟩, g7, g8, g9, g9b, FN, mk_mth amT imT nmT lmT cmT kmT bn_mT, mk_mth amL imL nmL lmL cmL kmL bn_mL, mk_mth amC imC nmC lmC cmC kmC bn_mC, mk_mth amG imG nmG lmG cmG kmG bn_mG, mk_mth amA imA nmA lmA cmA kmA bn_mA, mk_mth amE imE nmE lmE cmE kmE bn_mE⟩
  have MM : MkT K mg ⟨fI, fL, fS, fB, fK, fX, fPp, fZ, fU, fF, fA, fT, fH, fM, fJ, C, adN, fmT, fmL, fmC, fmG, fmA, fmE, fbh, ftf⟩ := ⟨⟨g5, aNn, iNn, g6⟩, PySem.W.mg_of X G aCls, g10, g11, g12, g13, g14, g15, g17, g16⟩
  have TL : TxL K mg fO fN fE fC fR := ⟨BB, T1, mk_dfn X G aR lR cR kR bn_R⟩
  have TM : TxM K mg fW := ⟨BB, mk_dfn X G aW lW cW kW bn_W⟩
  have TW : TxW K mg fwo fwr fwi := ⟨mk_dfn X G awo lwo cwo kwo bn_wo, mk_dfn X G awr lwr cwr kwr bn_wr, mk_dfn X G awi lwi cwi kwi bn_wi⟩
  have TC : TxC K mg ftc := ⟨mk_dfn X G atc ltc ctc ktc bn_tc⟩
  have TO' : TxO K mg fho := ⟨mk_dfn X G aho lho cho kho bn_ho⟩
  have TG : TxG K mg fdv fef fme fms fsh := ⟨PySem.W.mg_none_of X G z_divmod, mk_dfn X G adv ldv cdv kdv bn_dv, mk_dfn X G aef lef cef kef bn_ef, mk_dfn X G ame lme cme kme bn_me, mk_dfn X G ams lms cms kms bn_ms, mk_dfn X G ash lsh csh ksh bn_sh⟩
  have TF : TxF K mg fld ffr fmr := ⟨mk_dfn X G ald lld cld kld bn_ld, mk_dfn X G afr lfr cfr kfr bn_fr, mk_dfn X G amr lmr cmr kmr bn_mr⟩
  exact ⟨_, fun s v => .of_eq rfl, fun base _ _ => ok_law (fun_mk lY cY kY) TT MM TL TM TW TC TO' TG TF⟩
/-- as the hand layer's end, with what the loose names hold -/
theorem walk_loose {l : PySem.W.OpenLaw} {q p : Program} {lv : List (Str × PySem.W.WData)} {loose : List Str} {YP : World → Heap → Prop} {d : DefRec} {K : Params → PySem.W.Frag} (hn : l.most = some 63) (hd : d.params.defaults = []) (hY : ∀ (w : World) (h : Heap), YP w h → (K w.params).In h)
    (F : ∀ (w : World) (mg : Str → Option Value) (fa : Addr) (h : Heap), (K w.params).In h → h.Ns mainGlobals mg → PySem.W.LooseAre lv mg h → mg d.name = some (.ref fa) → ∃ fd : FuncData, (∀ (s : Shared) (u : Value), BindsTo s fd ⟨[u], []⟩ [("_law_script", u)]) ∧ ∀ base : Heap, (K w.params).In base → base.Ns mainGlobals mg → FnOk l.prog w (K w.params) mg base CX0 10 fa fd ["_law_script"] (spLaw (K w.params))) :
    PySem.W.WalkO q loose (PySem.W.XL p lv) YP l.row.toRowW d [] (fun f vs => PySem.call f vs) := Att.attach_call hn hd fun w _ s₁ mg mb fa _ _ _ _ a vs ns G Y _ _ _ hmg hobj hints hlen hg => by
  obtain ⟨fd, hb, hF⟩ := F w mg fa s₁.heap (hY w s₁.heap Y) G.T.g G.X.2 hmg
  exact law_call (hY w s₁.heap Y) G.T.g G.T.b G.T.builtins G.T.nolimit hg hobj hints (Nat.le_trans hlen (by decide)) ⟨rfl, by decide, by decide⟩ hF hb (fun H _ hS => ⟨a, ns, rfl, hS, hlen, fun _ => rfl⟩) fun _ _ _ z => z

end Toy
open PySem PySem.W PyProof.Rows
set_option maxRecDepth 100000 in
set_option maxHeartbeats 0 in
theorem PySem.Challenge.cw_breakerrow_k15_times_shared_holds : PySem.Challenge.rw_breakerrow_k15_times_shared.Holds := by
  w_on; o_law; k_head; (case hw => w_witness2)
  k_fill
  refine Toy.walk_loose (l := PySem.Challenge.rw_breakerrow_k15_times_shared) rfl rfl (fun w h Y => PySem.W.kIn_of Y) ?F
  intro w mg fa h KX G LL hmg
  refine' Toy.all_mk KX G LL  hmg ?aCls ?aI ?lI ?cI ?kI ?aL ?lL ?cL ?kL ?aS ?lS ?cS ?kS ?aB ?lB ?cB ?kB ?aK ?lK ?cK ?kK ?aX ?lX ?cX ?kX ?aPp ?lPp ?cPp ?kPp ?aZ ?lZ ?cZ ?kZ ?aU ?lU ?cU ?kU ?aF ?lF ?cF ?kF ?aA ?lA ?cA ?kA ?aT ?lT ?cT ?kT ?aH ?lH ?cH ?kH ?aM ?lM ?cM ?kM ?aJ ?lJ ?cJ ?kJ ?abh ?lbh ?cbh ?kbh ?atf ?ltf ?ctf ?ktf ?aO ?lO ?cO ?kO ?aN ?lN ?cN ?kN ?aE ?lE ?cE ?kE ?aC ?lC ?cC ?kC ?aR ?lR ?cR ?kR ?aW ?lW ?cW ?kW ?atc ?ltc ?ctc ?ktc ?awo ?lwo ?cwo ?kwo ?awr ?lwr ?cwr ?kwr ?awi ?lwi ?cwi ?kwi ?aho ?lho ?cho ?kho ?adv ?ldv ?cdv ?kdv ?aef ?lef ?cef ?kef ?ame ?lme ?cme ?kme ?ams ?lms ?cms ?kms ?ash ?lsh ?csh ?ksh ?ald ?lld ?cld ?kld ?afr ?lfr ?cfr ?kfr ?amr ?lmr ?cmr ?kmr ?amT ?imT ?nmT ?lmT ?cmT ?kmT ?amL ?imL ?nmL ?lmL ?cmL ?kmL ?amC ?imC ?nmC ?lmC ?cmC ?kmC ?amG ?imG ?nmG ?lmG ?cmG ?kmG ?amA ?imA ?nmA ?lmA ?cmA ?kmA ?amE ?imE ?nmE ?lmE ?cmE ?kmE ?aNn ?iNn ?lNn ?cNn ?kNn ?aY ?lY ?cY ?kY ?g1 ?g2 ?g3 ?g4 ?g5 ?g6 ?g7 ?g8 ?g9 ?g9b ?g10 ?g11 ?g12 ?g13 ?g14 ?g15 ?g16 ?g17 ?gB ?z_isinstance ?z_int ?z_bool ?z_max ?z_min ?z_len ?z_list ?z_tuple ?z_enumerate ?z_sum ?z_range ?z_divmod
  (case aCls => k_is)
  (case aI => k_is)
  (case lI => k_is)
  (case cI => k_is)
  (case kI => k_is)
  (case aL => k_is)
  (case lL => k_is)
  (case cL => k_is)
  (case kL => k_is)
  (case aS => k_is)
  (case lS => k_is)
  (case cS => k_is)
  (case kS => k_is)
  (case aB => k_is)
  (case lB => k_is)
  (case cB => k_is)
  (case kB => k_is)
  (case aK => k_is)
  (case lK => k_is)
  (case cK => k_is)
  (case kK => k_is)
  (case aX => k_is)
  (case lX => k_is)
  (case cX => k_is)
  (case kX => k_is)
  (case aPp => k_is)
  (case lPp => k_is)
  (case cPp => k_is)
  (case kPp => k_is)
  (case aZ => k_is)
  (case lZ => k_is)
  (case cZ => k_is)
  (case kZ => k_is)
  (case aU => k_is)
  (case lU => k_is)
  (case cU => k_is)
  (case kU => k_is)
  (case aF => k_is)
  (case lF => k_is)
  (case cF => k_is)
  (case kF => k_is)
  (case aA => k_is)
  (case lA => k_is)
  (case cA => k_is)
  (case kA => k_is)
  (case aT => k_is)
  (case lT => k_is)
  (case cT => k_is)
  (case kT => k_is)
  (case aH => k_is)
  (case lH => k_is)
  (case cH => k_is)
  (case kH => k_is)
  (case aM => k_is)
  (case lM => k_is)
  (case cM => k_is)
  (case kM => k_is)
  (case aJ => k_is)
  (case lJ => k_is)
  (case cJ => k_is)
  (case kJ => k_is)
  (case abh => k_is)
  (case lbh => k_is)
  (case cbh => k_is)
  (case kbh => k_is)
  (case atf => k_is)
  (case ltf => k_is)
  (case ctf => k_is)
  (case ktf => k_is)
  (case aO => k_is)
  (case lO => k_is)
  (case cO => k_is)
  (case kO => k_is)
  (case aN => k_is)
  (case lN => k_is)
  (case cN => k_is)
  (case kN => k_is)
  (case aE => k_is)
  (case lE => k_is)
  (case cE => k_is)
  (case kE => k_is)
  (case aC => k_is)
  (case lC => k_is)
  (case cC => k_is)
  (case kC => k_is)
  (case aR => k_is)
  (case lR => k_is)
  (case cR => k_is)
  (case kR => k_is)
  (case aW => k_is)
  (case lW => k_is)
  (case cW => k_is)
  (case kW => k_is)
  (case atc => k_is)
  (case ltc => k_is)
  (case ctc => k_is)
  (case ktc => k_is)
  (case awo => k_is)
  (case lwo => k_is)
  (case cwo => k_is)
  (case kwo => k_is)
  (case awr => k_is)
  (case lwr => k_is)
  (case cwr => k_is)
  (case kwr => k_is)
  (case awi => k_is)
  (case lwi => k_is)
  (case cwi => k_is)
  (case kwi => k_is)
  (case aho => k_is)
  (case lho => k_is)
  (case cho => k_is)
  (case kho => k_is)
  (case adv => k_is)
  (case ldv => k_is)
  (case cdv => k_is)
  (case kdv => k_is)
  (case aef => k_is)
  (case lef => k_is)
  (case cef => k_is)
  (case kef => k_is)
  (case ame => k_is)
  (case lme => k_is)
  (case cme => k_is)
  (case kme => k_is)
  (case ams => k_is)
  (case lms => k_is)
  (case cms => k_is)
  (case kms => k_is)
  (case ash => k_is)
  (case lsh => k_is)
  (case csh => k_is)
  (case ksh => k_is)
  (case ald => k_is)
  (case lld => k_is)
  (case cld => k_is)
  (case kld => k_is)
  (case afr => k_is)
  (case lfr => k_is)
  (case cfr => k_is)
  (case kfr => k_is)
  (case amr => k_is)
  (case lmr => k_is)
  (case cmr => k_is)
  (case kmr => k_is)
  (case amT => k_is)
  (case imT => k_is)
  (case nmT => k_is)
  (case lmT => k_is)
  (case cmT => k_is)
  (case kmT => k_is)
  (case amL => k_is)
  (case imL => k_is)
  (case nmL => k_is)
  (case lmL => k_is)
  (case cmL => k_is)
  (case kmL => k_is)
  (case amC => k_is)
  (case imC => k_is)
  (case nmC => k_is)
  (case lmC => k_is)
  (case cmC => k_is)
  (case kmC => k_is)
  (case amG => k_is)
  (case imG => k_is)
  (case nmG => k_is)
  (case lmG => k_is)
  (case cmG => k_is)
  (case kmG => k_is)
  (case amA => k_is)
  (case imA => k_is)
  (case nmA => k_is)
  (case lmA => k_is)
  (case cmA => k_is)
  (case kmA => k_is)
  (case amE => k_is)
  (case imE => k_is)
  (case nmE => k_is)
  (case lmE => k_is)
  (case cmE => k_is)
  (case kmE => k_is)
  (case aNn => k_is)
  (case iNn => k_is)
  (case lNn => k_is)
  (case cNn => k_is)
  (case kNn => k_is)
  (case aY => k_is)
  (case lY => k_is)
  (case cY => k_is)
  (case kY => k_is)
  (case g1 => k_is)
  (case g2 => k_is)
  (case g3 => k_is)
  (case g4 => k_is)
  (case g5 => k_is)
  (case g6 => k_is)
  (case g7 => k_is)
  (case g8 => k_is)
  (case g9 => k_is)
  (case g9b => k_is)
  (case g10 => k_is)
  (case g11 => k_is)
  (case g12 => k_is)
  (case g13 => k_is)
  (case g14 => k_is)
  (case g15 => k_is)
  (case g16 => k_is)
  (case g17 => k_is)
  (case gB => k_is)
  (case z_isinstance => k_is)
  (case z_int => k_is)
  (case z_bool => k_is)
  (case z_max => k_is)
  (case z_min => k_is)
  (case z_len => k_is)
  (case z_list => k_is)
  (case z_tuple => k_is)
  (case z_enumerate => k_is)
  (case z_sum => k_is)
  (case z_range => k_is)
  (case z_divmod => k_is)
