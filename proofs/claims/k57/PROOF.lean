import PyProof.Rows.All
import Wide.All
import OpenK.AllK
import Wide.FinOn
import HandS.ForMost
import HandS.IsInst
import HandS.Wide
import HandS.Style
import HandS.Defaults
import HandS.MakeKwOnly
import HandS.Zip
import HandS.SortRule
import HandS.TupAny
import HandS.Lambda
import KE.GoesEnum
import HandS.Flow
import HandS.Codes
import HandS.WideBits
import HandS.OwnEq
import HandS.TryOnly
import HandS.TupLe
import HandS.SetFor
import KE.DataMinMax
import HandS.Conv
import KE.DataFind
import PyProof.Rows.CallKwBuiltin
import PySem.Challenge.RW_breakerrow_k57_routes_request_by_request
set_option Elab.async false
set_option linter.all false
set_option maxRecDepth 100000
set_option maxHeartbeats 4000000
namespace Own
open PySem PySem.Spec PyProof.Rows L2
open Builtin

section
variable {X : Cx} {CX : CXT} {k : Nat} {f C : Addr} {fd : FuncData} {ps : List Str} {sp : Sp} {E : XK}

theorem rr {p : Addr} : L2.RelV (.ref p) (.ref p) := rfl
/-- a promise used under any frame below the body -/
theorem run_at {A : Around} {pins : List (Addr × Obj)} {σ : L2.St} {H : Hp} {s : Shared} {Q : VK} {us : List Value} {vs : List V} (F : FnOk X.prog X.w X.K X.mg X.base CX k f fd ps sp) (hr : Room k A) (hA : A.frames = X.A.frames)
    (hb : Binds X.K fd ps []) (hx : Passes CX X E) (I : Inv X pins σ H s) (r : Vals vs us) (h : sp vs H Q E) : wpAny (model X.prog X.w) A (call (.ref f) us) (EP X pins σ Q) X.xe s := by
  have hl : us.length = ps.length := by rw [← r.length]; exact F.len _ _ _ _ h
  have e0 : Env0 X.prog X.w X.K X.mg X.base A X.stack s H := by
    have e := I.env0
    exact ⟨by rw [hA]; exact e.frames, e.mod, e.bs, e.bsz, e.funs, e.frf, e.hok, e.bare⟩
  have hB : BindsTo s fd ⟨us, []⟩ (ps.zip us) := by
    have := hb s us I.kIn (by rw [List.append_nil]; exact hl)
    rwa [List.append_nil] at this
  refine wpAny_call (codeAny_mono (F.run A X.stack s H ⟨us, []⟩ us vs Q E hr e0 hB r h) fun r s' hq => ?_)
  cases r with
  | error e => exact hx pins σ H s e s' I hq
  | ok fl =>
    cases fl with
    | ret u => exact I.after hq
    | next => exact False.elim hq
    | brk => exact False.elim hq
    | cont => exact False.elim hq

theorem inst_of {pins : List (Addr × Obj)} {σ : L2.St} {H : Hp} {s : Shared} {p dx : Addr} {fs : List (Str × V)} (I : Inv X pins σ H s) (e : H p = some (.ins C dx fs)) : ∃ od, PySem.W.InstAt s.heap p (PySem.W.instObj C dx) C od := by
  obtain ⟨mA, O, _⟩ := ins_get I.hok e
  obtain ⟨od, J, _⟩ := O.look
  exact ⟨_, J⟩

/-- a bool is wanted of the method -/
def BlQ (Q : VK) (g : Bool → Bool) : VK := fun v H' => ∃ b, v = .bl b ∧ Q (.bl (g b)) H'
def rOwnIn (C : Addr) (sp : Sp) (E : XK) (g : Bool → Bool) : R2 := fun x y H Q => ∃ p dx fs, y = .ref p ∧ H p = some (.ins C dx fs) ∧ sp [.ref p, x] H (BlQ Q g) E
theorem op_own_in (F : FnOk X.prog X.w X.K X.mg X.base CX k f fd ps sp) (hr : Room k X.A) (hs : PySem.W.findIn X.K (.ref C) "__contains__" = some (some (.ref f))) (hf : PySem.W.isFn X.K (.ref f) = true) (hb : Binds X.K fd ps []) (hx : Passes CX X E) :
    OpR X (compareOp .In) (rOwnIn C sp E id) := by
  intro pins s σ H x y v u Q I rx ry h
  obtain ⟨p, dx, fs, rfl, hp, q⟩ := h
  cases ry
  obtain ⟨od, J⟩ := inst_of I hp
  obtain ⟨m, hF⟩ := I.fr
  refine PySem.W.in_K hF I.ok.mod.kin J hs hf (thn (run_at F hr rfl hb hx I (.cons rr (.cons rx .nil)) q) fun r s' hh => ?_)
  obtain ⟨z, H', I', rz, b, ez, q'⟩ := hh
  subst ez
  cases rz
  exact wpAny_truthy_bool ⟨.bl b, H', I', rfl, q'⟩
theorem op_own_notin (F : FnOk X.prog X.w X.K X.mg X.base CX k f fd ps sp) (hr : Room k X.A) (hs : PySem.W.findIn X.K (.ref C) "__contains__" = some (some (.ref f))) (hf : PySem.W.isFn X.K (.ref f) = true) (hb : Binds X.K fd ps []) (hx : Passes CX X E) :
    OpR X (compareOp .NotIn) (rOwnIn C sp E not) := by
  intro pins s σ H x y v u Q I rx ry h
  obtain ⟨p, dx, fs, rfl, hp, q⟩ := h
  cases ry
  obtain ⟨od, J⟩ := inst_of I hp
  obtain ⟨m, hF⟩ := I.fr
  refine PySem.W.notIn_K hF I.ok.mod.kin J hs hf (thn (run_at F hr rfl hb hx I (.cons rr (.cons rx .nil)) q) fun r s' hh => ?_)
  obtain ⟨z, H', I', rz, b, ez, q'⟩ := hh
  subst ez
  cases rz
  exact wpAny_truthy_bool ⟨.bl (!b), H', I', rfl, q'⟩
/-- len(o) -/
def rOwnLen (C : Addr) (sp : Sp) (E : XK) : List V → Hp → VK → Prop := fun xs H Q => ∃ p dx fs, xs = [.ref p] ∧ H p = some (.ins C dx fs) ∧ sp [.ref p] H (fun v H' => ∃ n : Int, v = .int n ∧ 0 ≤ n ∧ n < 2 ^ 63 ∧ Q (.int n) H') E
theorem call_own_len (F : FnOk X.prog X.w X.K X.mg X.base CX k f fd ps sp) (hr : Room (k + 1) X.A) (hs : PySem.W.findIn X.K (.ref C) "__len__" = some (some (.ref f))) (hf : PySem.W.isFn X.K (.ref f) = true) (hb : Binds X.K fd ps []) (hx : Passes CX X E) :
    CallR X (.builtin "len") (rOwnLen C sp E) := by
  intro pins s σ H xs us Q I r h
  obtain ⟨p, dx, fs, rfl, hp, q⟩ := h
  obtain ⟨u, rfl, ru⟩ := vals1 r
  cases ru
  obtain ⟨od, J⟩ := inst_of I hp
  obtain ⟨m, hF⟩ := I.fr
  refine PySem.W.len_K hF I.ok.mod.kin J hs hf (thn (run_at F hr.in1 rfl hb hx I (.cons rr .nil) q) fun r s' hh => ?_)
  obtain ⟨z, H', I', rz, n, ez, h0, h1, q'⟩ := hh
  subst ez
  obtain ⟨t, rfl⟩ := rz
  exact ⟨⟨h0, h1⟩, ⟨.int n, H', I'.tok _, ⟨_, rfl⟩, q'⟩⟩
/-- o + p, both of the class -/
def rOwnAdd (C : Addr) (sp : Sp) (E : XK) : R2 := fun x y H Q => ∃ p dx fs q dy gs, x = .ref p ∧ H p = some (.ins C dx fs) ∧ y = .ref q ∧ H q = some (.ins C dy gs) ∧ sp [.ref p, .ref q] H (fun v H' => (∃ a, v = .ref a) ∧ Q v H') E
theorem op_own_add (F : FnOk X.prog X.w X.K X.mg X.base CX k f fd ps sp) (hr : Room k X.A) (hc : PySem.W.selfFirst X.K C = true) (hs : PySem.W.findIn X.K (.ref C) "__add__" = some (some (.ref f))) (hf : PySem.W.isFn X.K (.ref f) = true) (hb : Binds X.K fd ps []) (hx : Passes CX X E) :
    OpR X (binaryOp .Add) (rOwnAdd C sp E) := by
  intro pins s σ H x y v u Q I rx ry h
  obtain ⟨p, dx, fs, q, dy, gs, rfl, hp, rfl, hq, hh⟩ := h
  cases rx
  cases ry
  obtain ⟨od, J⟩ := inst_of I hp
  obtain ⟨od', J'⟩ := inst_of I hq
  obtain ⟨m, hF⟩ := I.fr
  refine PySem.W.binop_K hF I.ok.mod.kin J J'.type hc hs hf (thn (run_at F hr rfl hb hx I (.cons rr (.cons rr .nil)) hh) fun r s' hh => ?_)
  obtain ⟨z, H', I', rz, ⟨a, ez⟩, q'⟩ := hh
  subst ez
  cases rz
  exact ⟨.ref a, H', I', rfl, q'⟩
/-- o[i] -/
def rOwnIx (C : Addr) (sp : Sp) (E : XK) : R2 := fun x y H Q => ∃ p dx fs, x = .ref p ∧ H p = some (.ins C dx fs) ∧ sp [.ref p, y] H Q E
theorem pe_own_ix {a b : Expr} {ta tb : TE} {pos : Pos} (F : FnOk X.prog X.w X.K X.mg X.base CX k f fd ps sp) (hr : Room (k + 1) X.A) (hs : PySem.W.findIn X.K (.ref C) "__getitem__" = some (some (.ref f))) (hfn : PySem.W.fnIn X.K f = true) (hf : PySem.W.isFn X.K (.ref f) = true)
    (hb : Binds X.K fd ps []) (hx : Passes CX X E) (ha : PE X a ta) (hb' : PE X b tb) (hsl : ∀ o i, subscripted b true o i = runValue (.builtin "lifetime.subscript" ⟨[o, i], []⟩) := by exact fun _ _ => rfl) :
    PE X (.Subscript a b pos) (tOp (rOwnIx C sp E) ta tb) := by
  refine ⟨fun pins s σ H Q I h => ?_⟩
  refine Subscript_ (binT ha hb' I h fun v u s2 x y H2 I2 rx ry q => ?_)
  obtain ⟨p, dx, fs, rfl, hp, q⟩ := q
  cases rx
  obtain ⟨od, J⟩ := inst_of I2 hp
  obtain ⟨m, hF⟩ := I2.fr
  exact PySem.W.sub_K hF I2.ok.mod.kin J hs hfn hf (run_at F hr.in1 rfl hb hx I2 (.cons rr (.cons ry .nil)) q) (hsl _ _)

/-! ### own == and the != that comes with it -/
theorem sub_ty {K : PySem.W.Frag} {C : Addr} {T : String} {l : List String} (e : fastBuiltinMro T = some (l.map Value.type)) : PySem.W.subIn K (.type T) (.ref C) = some false := by
  show (fastBuiltinMro T).map (·.contains (.ref C)) = some false
  rw [e]
  have : ∀ l : List String, (l.map Value.type).contains (Value.ref C) = false := by
    intro l
    induction l with
    | nil => rfl
    | cons a r ih =>
      rw [List.map_cons, List.contains_cons, ih]
      rfl
  rw [Option.map_some, this]
/-- a value's type, not one below the class C -/
inductive TyN (H : Hp) (C : Addr) : V → Value → Prop where
  | non : TyN H C .non (.type "NoneType")
  | bl (x : Bool) : TyN H C (.bl x) (.type "bool")
  | int (i : Int) : TyN H C (.int i) (.type "int")
  | str (x : Str) : TyN H C (.str x) (.type "str")
  | lst {a : Addr} {xs : List V} (e : H a = some (.lst xs)) : TyN H C (.ref a) (.type "list")
  | tup {a : Addr} {xs : List V} (e : H a = some (.tup xs)) : TyN H C (.ref a) (.type "tuple")
  | ins {a dx : Addr} {fs : List (Str × V)} (e : H a = some (.ins C dx fs)) : TyN H C (.ref a) (.ref C)
theorem TyN.notFirst {K : PySem.W.Frag} {H : Hp} {x : V} {t : Value} (h : TyN H C x t) : PySem.W.notFirst K C t = true := by
  cases h with
  | non => exact Bool.or_eq_true_iff.mpr (.inr (beq_iff_eq.mpr (sub_ty (l := ["NoneType", "object"]) (by decide +kernel))))
  | bl _ => exact Bool.or_eq_true_iff.mpr (.inr (beq_iff_eq.mpr (sub_ty (l := ["bool", "int", "object"]) (by decide +kernel))))
  | int _ => exact Bool.or_eq_true_iff.mpr (.inr (beq_iff_eq.mpr (sub_ty (l := ["int", "object"]) (by decide +kernel))))
  | str _ => exact Bool.or_eq_true_iff.mpr (.inr (beq_iff_eq.mpr (sub_ty (l := ["str", "object"]) (by decide +kernel))))
  | lst _ => exact Bool.or_eq_true_iff.mpr (.inr (beq_iff_eq.mpr (sub_ty (l := ["list", "object"]) (by decide +kernel))))
  | tup _ => exact Bool.or_eq_true_iff.mpr (.inr (beq_iff_eq.mpr (sub_ty (l := ["tuple", "object"]) (by decide +kernel))))
  | ins _ => exact Bool.or_eq_true_iff.mpr (.inl (by simp))
theorem looks_obj {M : Model} {h : Heap} {a : Addr} {o : Obj} (e : h.get? a = some o) : PySem.W.Looks M h (typeOf (.ref a)) o.cls := fun A Q E s kp q => PySem.wpAny_typeOf_ref (kp _ _ e) q
theorem TyN.looks {M : Model} {pins : List (Addr × Obj)} {σ : L2.St} {H : Hp} {s : Shared} {x : V} {u t : Value} (I : Inv X pins σ H s) (r : RelV x u) (h : TyN H C x t) : PySem.W.Looks M s.heap (typeOf u) t := by
  cases h with
  | non => cases r; exact PySem.W.Looks.of_pure rfl
  | bl _ => cases r; exact PySem.W.Looks.of_pure rfl
  | int _ => obtain ⟨_, rfl⟩ := r; exact PySem.W.Looks.of_pure rfl
  | str _ => obtain ⟨_, rfl⟩ := r; exact PySem.W.Looks.of_pure rfl
  | @lst a xs e =>
    cases r
    obtain ⟨_, _, n, _, h1⟩ := (show ObjOk X.prog X.w H s.heap a (.lst xs) from I.hok a _ e)
    exact looks_obj h1
  | @tup a xs e =>
    cases r
    obtain ⟨_, _, _, o, h1, h2, _⟩ := (show ObjOk X.prog X.w H s.heap a (.tup xs) from I.hok a _ e)
    have := looks_obj (M := M) h1
    rw [h2] at this
    exact this
  | ins e =>
    cases r
    obtain ⟨od, J⟩ := inst_of I e
    exact J.type
def rOwnEq (C : Addr) (sp : Sp) (E : XK) (g : Bool → Bool) : R2 := fun x y H Q => ∃ p dx fs t, x = .ref p ∧ H p = some (.ins C dx fs) ∧ TyN H C y t ∧ sp [.ref p, y] H (BlQ Q g) E
theorem op_own_eq (F : FnOk X.prog X.w X.K X.mg X.base CX k f fd ps sp) (hr : Room k X.A) (hs : PySem.W.findIn X.K (.ref C) "__eq__" = some (some (.ref f))) (hf : PySem.W.isFn X.K (.ref f) = true) (hb : Binds X.K fd ps []) (hx : Passes CX X E) :
    OpR X (compareOp .Eq) (rOwnEq C sp E id) := by
  intro pins s σ H x y v u Q I rx ry h
  obtain ⟨p, dx, fs, t, rfl, hp, ty, q⟩ := h
  cases rx
  obtain ⟨od, J⟩ := inst_of I hp
  obtain ⟨m, hF⟩ := I.fr
  show wpAny (model X.prog X.w) X.A (richCompare .Eq (.ref p) u) (EP X pins σ Q) X.xe s
  refine PySem.W.cmp_K (op := .Eq) hr.units0 hF I.ok.mod.kin J (ty.looks I ry) ty.notFirst hs hf (thn (run_at F hr rfl hb hx I (.cons rr (.cons ry .nil)) q) fun r s' hh => ?_)
  obtain ⟨z, H', I', rz, b, ez, q'⟩ := hh
  subst ez
  cases rz
  exact ⟨.bl b, H', I', rfl, q'⟩
section
variable {prog : Program} {w : World} {A : Around} {E' : Value → Shared → Prop} {s : Shared} {K : PySem.W.Frag} {x : Addr} {ox : Obj} {od : Option Obj} {b : Value}
theorem objNe_entry (hX : K.In s.heap) (I : PySem.W.InstAt s.heap x ox C od) (hs : PySem.W.findIn K (.ref C) "__eq__" = some (some (.ref f))) (hf : PySem.W.isFn K (.ref f) = true) (hu : A.units < cLine) {Q : Fin → Shared → Prop}
    (hcall : wpAny (model prog w) A (call (.ref f) [.ref x, b]) (fun v s' => ∃ k, v = .bool k ∧ Q (.done (.ret (.bool (!k)))) s') E' s) :
    wpAny (model prog w) A (Builtin.«object.__ne__» ⟨[.ref x, b], []⟩) Q E' s := by
  unfold Builtin.«object.__ne__»
  repeat (first
    | with_reducible refine wpAny_cRoomFor hu ?_
    | (refine wpAny_bind (m := callSpecialIfBound? (.ref x) (Str.ofString "__eq__") [b])
        (PySem.W.ifBound_K hX I hs hf (wpAny_mono hcall (fun r s' hr => by
          obtain ⟨k, rfl, hq⟩ := hr
          repeat (first | exact hq | exact wpAny_pure hq | exact wpAny_truthy_bool hq | (refine wpAny_bind (m := truthy (.bool _)) (wpAny_truthy_bool ?_)) | wp_step)) fun _ _ e => e)))
    | wp_step)
theorem call_objNe (hX : K.In s.heap) (I : PySem.W.InstAt s.heap x ox C od) (hm : PySem.W.mroIn K C (.type "object") = some true) (hs : PySem.W.findIn K (.ref C) "__eq__" = some (some (.ref f))) (hf : PySem.W.isFn K (.ref f) = true) (hu : A.units + 1 < cLine) {Q : Value → Shared → Prop}
    (hcall : wpAny (model prog w) A.in1 (call (.ref f) [.ref x, b]) (fun v s' => ∃ k, v = .bool k ∧ Q (.bool (!k)) s') E' s) :
    wpAny (model prog w) A (call (.builtin "object.__ne__") [.ref x, b]) Q E' s :=
  wpAny_call (codeAny_call_builtin PySem.F.cmp_object.ne.plain PySem.F.cmpEntry_ne (PySem.W.check_slot PySem.F.cmpKind_ne PySem.F.cmpSplit_ne (I.type.andThen (PySem.W.looks_mroIn hX hm)) (PySem.F.cmpArgs_ne _ _)
    (objNe_entry (A := A.in1) hX I hs hf hu (wpAny_mono hcall (fun v s' hv => by
      obtain ⟨k, e, hq⟩ := hv
      exact ⟨k, e, hq⟩) fun _ _ e => e))))
theorem ifBound_objNe {M : Model} {args : List Value} {Q : Option Value → Shared → Prop} (hX : K.In s.heap) (I : PySem.W.InstAt s.heap x ox C od) (hs : PySem.W.findIn K (.ref C) "__ne__" = some (some (.builtin "object.__ne__")))
    (h : wpAny M A (call (.builtin "object.__ne__") (.ref x :: args)) (fun v => Q (some v)) E' s) : wpAny M A (callSpecialIfBound? (.ref x) "__ne__" args) Q E' s := by
  simp only [callSpecialIfBound?, bindSpecialIfBound?]
  refine wpAny_holding (wpAny_bind (wpAny_bind (wpAny_bind (I.type.here ((PySem.W.looks_findIn hX hs).here ?_)))))
  refine wpAny_bind (wpAny_askSetting (wpAny_ite ?_))
  have fin : wpAny M A (call (.builtin "object.__ne__") ([.ref x] ++ args) >>= fun v => pure (some v)) Q E' s := wpAny_bind (wpAny_mono h (fun v s' h' => wpAny_pure h') fun _ _ h' => h')
  split
  · exact wpAny_bind (wpAny_of_eq (PySem.F.cmp_object.ne.bind _) (wpAny_pure (by exact fin)))
  · exact wpAny_tryCatch (wpAny_bind (wpAny_of_eq (PySem.F.cmp_object.ne.bind _) (wpAny_pure (by exact fin))))
theorem rc_ne {tb : Value} {Q : Value → Shared → Prop} (hu : A.units + 1 < cLine) (hX : K.In s.heap) (I : PySem.W.InstAt s.heap x ox C od) (hb : PySem.W.Looks (model prog w) s.heap (typeOf b) tb) (hn : PySem.W.notFirst K C tb = true)
    (hm : PySem.W.mroIn K C (.type "object") = some true) (hne : PySem.W.findIn K (.ref C) "__ne__" = some (some (.builtin "object.__ne__"))) (hs : PySem.W.findIn K (.ref C) "__eq__" = some (some (.ref f))) (hf : PySem.W.isFn K (.ref f) = true)
    (hcall : wpAny (model prog w) A.in1 (call (.ref f) [.ref x, b]) (fun v s' => ∃ k, v = .bool k ∧ Q (.bool (!k)) s') E' s) : wpAny (model prog w) A (richCompare .NotEq (.ref x) b) Q E' s := by
  have one : wpAny (model prog w) A (tryCompare (.ref x) "__ne__" b) (fun r s' => ∃ v, r = some v ∧ Q v s') E' s := by
    unfold tryCompare
    refine wpAny_bind (ifBound_objNe hX I hne (call_objNe hX I hm hs hf hu (wpAny_mono hcall (fun v s' hv => ?_) fun _ _ e => e)))
    obtain ⟨k, rfl, hq⟩ := hv
    exact ⟨k, rfl, wpAny_pure ⟨_, rfl, hq⟩⟩
  unfold richCompare
  simp only [oneThing_ref, cmpInfo_NotEq]
  refine wpAny_holding (wpAny_bind (wpAny_cRoomFor (Nat.lt_of_succ_lt hu) ?_))
  refine wpAny_bind (I.type.here (wpAny_bind (hb.here ?_)))
  split
  · rename_i q
    have e : PySem.W.subIn K tb (.ref C) = some false := by
      rcases Bool.or_eq_true_iff.mp hn with e | e
      · rw [beq_iff_eq.mp e] at q; simp at q
      · exact beq_iff_eq.mp e
    refine wpAny_bind ((PySem.W.looks_subIn hX e).here ?_)
    simp only [Bool.false_eq_true, if_false]
    refine wpAny_bind (wpAny_mono one (fun r s' z => ?_) fun _ _ e => e)
    obtain ⟨v, rfl, hq⟩ := z
    exact wpAny_pure hq
  · refine wpAny_bind (wpAny_pure ?_)
    simp only [Bool.false_eq_true, if_false]
    refine wpAny_bind (wpAny_mono one (fun r s' z => ?_) fun _ _ e => e)
    obtain ⟨v, rfl, hq⟩ := z
    exact wpAny_pure hq
end
theorem op_own_ne (F : FnOk X.prog X.w X.K X.mg X.base CX k f fd ps sp) (hr : Room (k + 1) X.A) (hm : PySem.W.mroIn X.K C (.type "object") = some true) (hne : PySem.W.findIn X.K (.ref C) "__ne__" = some (some (.builtin "object.__ne__")))
    (hs : PySem.W.findIn X.K (.ref C) "__eq__" = some (some (.ref f))) (hf : PySem.W.isFn X.K (.ref f) = true) (hb : Binds X.K fd ps []) (hx : Passes CX X E) :
    OpR X (compareOp .NotEq) (rOwnEq C sp E not) := by
  intro pins s σ H x y v u Q I rx ry h
  obtain ⟨p, dx, fs, t, rfl, hp, ty, q⟩ := h
  cases rx
  obtain ⟨od, J⟩ := inst_of I hp
  show wpAny (model X.prog X.w) X.A (richCompare .NotEq (.ref p) u) (EP X pins σ Q) X.xe s
  refine rc_ne (hu_of hr) I.kIn J (ty.looks I ry) ty.notFirst hm hne hs hf (thn (run_at F hr.in1 rfl hb hx I (.cons rr (.cons ry .nil)) q) fun r s' hh => ?_)
  obtain ⟨z, H', I', rz, b, ez, q'⟩ := hh
  subst ez
  cases rz
  exact ⟨b, rfl, .bl (!b), H', I', rfl, q'⟩
end
end Own

namespace Toy
open PySem L2 Own
/-! ### the text by places -/
def top (i : Nat) : Stmt := PySem.Challenge.pw_breakerrow_k57_routes_request_by_request.main.body.getD i (.Pass ⟨0, 0, 0, 0⟩)
abbrev st_InvalidRow_init : Stmt := inClass (top 2) 0
abbrev st_InvalidOutages_init : Stmt := inClass (top 3) 0
abbrev st_InvalidBound_init : Stmt := inClass (top 4) 0
abbrev st_is_integer : Stmt := top 6
abbrev st_is_at_least : Stmt := top 7
abbrev st_is_within : Stmt := top 8
abbrev st_is_breaker : Stmt := top 13
abbrev st_check_breakers : Stmt := top 14
abbrev st_check_step : Stmt := top 15
abbrev st_closed_states : Stmt := top 20
abbrev st_passes : Stmt := top 21
abbrev st_state_behind : Stmt := top 22
abbrev st_sent : Stmt := top 23
abbrev st_check_outages : Stmt := top 26
abbrev st_is_outage : Stmt := top 27
abbrev st_Routes_init : Stmt := inClass (top 31) 0
abbrev st_Routes_parts : Stmt := inClass (top 31) 1
abbrev st_Routes_eq : Stmt := inClass (top 31) 2
abbrev st_is_service : Stmt := top 32
abbrev st_check_services : Stmt := top 33
abbrev st_check_pattern : Stmt := top 34
abbrev st_is_up : Stmt := top 35
abbrev st_sent_requests : Stmt := top 36
abbrev st_served : Stmt := top 37
abbrev st_common_openings : Stmt := top 38
abbrev st__law_source_of : Stmt := top 40
abbrev st__law_next : Stmt := top 41
abbrev st__law_one : Stmt := top 42
abbrev st__law_cell_at : Stmt := top 43
abbrev st__law_specs : Stmt := top 44
abbrev st__law_send : Stmt := top 45
abbrev st__law_note : Stmt := top 46
abbrev st__law_services : Stmt := top 47
abbrev st__law_run : Stmt := top 48
abbrev st__law_counts_right : Stmt := top 49
abbrev st_law : Stmt := top 50
/-- a def of the top -/
structure Dfn (K : PySem.W.Frag) (mg : Str → Option Value) (x : Str) (st : Stmt) (f : Addr) (ps : List Str) : Prop where
  ex : ∃ fd, Fun K x x st f fd ∧ Binds K fd ps []
  g : mg x = some (.ref f)
structure Mth (K : PySem.W.Frag) (C : Addr) (m q : Str) (st : Stmt) (f : Addr) (ps : List Str) : Prop where
  ex : ∃ fd, Fun K m q st f fd ∧ Binds K fd ps []
  at_ : PySem.W.findIn K (.ref C) m = some (some (.ref f))
  fn : PySem.W.isFn K (.ref f) = true
  fk : PySem.W.fnIn K f = true
/-- a def that is called by its name, with its promise -/
structure Cal (P : Program) (w : World) (K : PySem.W.Frag) (mg : Str → Option Value) (base : Heap) (x : Str) (k : Nat) (f : Addr) (ps : List Str) (sp : Sp) : Prop where
  ex : ∃ fd, FnOk P w K mg base CX0 k f fd ps sp ∧ Binds K fd ps []
  g : mg x = some (.ref f)
  kp : PySem.W.keepIn K (.ref f) = true
theorem Dfn.cal {P : Program} {w : World} {K : PySem.W.Frag} {mg : Str → Option Value} {base : Heap} {x : Str} {st : Stmt} {f : Addr} {ps : List Str} {k : Nat} {sp : Sp} (D : Dfn K mg x st f ps) (h : ∀ fd, Fun K x x st f fd → FnOk P w K mg base CX0 k f fd ps sp) : Cal P w K mg base x k f ps sp := by
  obtain ⟨fd, F, b⟩ := D.ex
  exact ⟨⟨fd, h fd F, b⟩, D.g, F.kp⟩
theorem pe_c {X : Cx} {x : Str} {k : Nat} {f : Addr} {ps : List Str} {sp : Sp} {t : TA} {e : Expr} {es : List Expr} {p pos : Pos} (c : Cal X.prog X.w X.K X.mg X.base x k f ps sp) (hr : Room k X.A) (hg : Gl X x)
    (ha : PA X (e :: es) t) (hdb : (x == ("__debug__" : Str)) = false := by decide) (he : starEach (e :: es) X.env = (false, eval e X.env) :: starEach es X.env := by rfl) (hpl : (backTo pos (starEach es X.env)).any (·.1) = false := by rfl) :
    PE X (.Call (.Name x p) (e :: es) [] pos) (tCall sp [] E0 t) := by
  obtain ⟨fd, F, b⟩ := c.ex
  exact pe_call F hr hg c.g c.kp b .nil pass0 ha hdb he hpl
/-- a method with its promise -/
structure Met (P : Program) (w : World) (K : PySem.W.Frag) (mg : Str → Option Value) (base : Heap) (C : Addr) (m : Str) (k : Nat) (f : Addr) (ps : List Str) (sp : Sp) : Prop where
  ex : ∃ fd, FnOk P w K mg base CX0 k f fd ps sp ∧ Binds K fd ps []
  me : Meth K C m f
  fk : PySem.W.fnIn K f = true
theorem Mth.met {P : Program} {w : World} {K : PySem.W.Frag} {mg : Str → Option Value} {base : Heap} {C : Addr} {m q : Str} {st : Stmt} {f : Addr} {ps : List Str} {k : Nat} {sp : Sp} (D : Mth K C m q st f ps) (h : ∀ fd, Fun K m q st f fd → FnOk P w K mg base CX0 k f fd ps sp) : Met P w K mg base C m k f ps sp := by
  obtain ⟨fd, F, b⟩ := D.ex
  exact ⟨⟨fd, h fd F, b⟩, ⟨D.at_, D.fn, F.kp⟩, D.fk⟩

/-! ### values of plain kinds -/
inductive Kd (H : Hp) : V → String → Prop where
  | non : Kd H .non "NoneType"
  | bl (b : Bool) : Kd H (.bl b) "bool"
  | int (i : Int) : Kd H (.int i) "int"
  | str (x : Str) : Kd H (.str x) "str"
  | lst {a : Addr} {xs : List V} (e : H a = some (.lst xs)) : Kd H (.ref a) "list"
  | tup {a : Addr} {xs : List V} (e : H a = some (.tup xs)) : Kd H (.ref a) "tuple"
  | dK {a : Addr} {xs : List (Key × V)} (e : H a = some (.dK xs)) : Kd H (.ref a) "dict"
theorem Kd.ty {K : PySem.W.Frag} {H : Hp} {v : V} {n : String} (h : Kd H v n) : TyX K H v (.type n) := by
  cases h with
  | non => exact .base .non
  | bl b => exact .base (.bl b)
  | int i => exact .base (.int i)
  | str x => exact .base (.str x)
  | lst e => exact .base (.lst e)
  | tup e => exact .base (.tup e)
  | dK e => exact .base (.dK e)
def isI : V → Bool
  | .int _ => true
  | _ => false
def toI : V → Int
  | .int i => i
  | _ => 0
theorem Kd.kit {K : PySem.W.Frag} {H : Hp} {v : V} {n : String} (h : Kd H v n) (c : String) (b : Bool) (hc : c = "int" ∧ b = (n == "int" || n == "bool") ∨ c ≠ "int" ∧ c ∈ ["bool", "list", "tuple"] ∧ b = (n == c)) : PySem.W.kitOne K (.type n) (.type c) = some b := by
  rcases hc with ⟨rfl, rfl⟩ | ⟨_, hc, rfl⟩
  · cases h <;> exact kit_ty (by decide +kernel)
  · simp only [List.mem_cons, List.mem_nil_iff, or_false] at hc
    rcases hc with rfl | rfl | rfl <;> cases h <;> exact kit_ty (by decide +kernel)
theorem Kd.same {H H' : Hp} {v : V} {n : String} (h : Kd H v n) (s : ∀ b o, v = .ref b → H b = some o → H' b = some o) : Kd H' v n := by
  cases h with
  | non => exact .non
  | bl b => exact .bl b
  | int i => exact .int i
  | str x => exact .str x
  | lst e => exact .lst (s _ _ rfl e)
  | tup e => exact .tup (s _ _ rfl e)
  | dK e => exact .dK (s _ _ rfl e)
/-- all but what stands at a is kept -/
def Kp (a : Addr) (H H' : Hp) : Prop := ∀ b o, b ≠ a → H b = some o → H' b = some o
theorem Kp.refl {a : Addr} {H : Hp} : Kp a H H := fun _ _ _ h => h
theorem Kp.trans {a : Addr} {H H1 H2 : Hp} (h : Kp a H H1) (h' : Kp a H1 H2) : Kp a H H2 := fun b o n e => h' b o n (h b o n e)
theorem Kp.of {a : Addr} {H H' : Hp} (s : Same H H') : Kp a H H' := fun b o _ e => s b o e
theorem Kp.upd {a : Addr} {H : Hp} {o : HO} : Kp a H (upd H a o) := fun b _ n e => by rw [upd_ne n]; exact e
theorem Same.upd {H : Hp} {p : Addr} {o : HO} (h : H p = none) : Same H (L2.upd H p o) := fun b u e => by rw [upd_ne (ne_of_none e h)]; exact e
theorem Kp.free {a b : Addr} {H H' : Hp} {o : HO} (k : Kp a H H') (ha : H a = some o) (h : H' b = none) (n : b ≠ a) : H b = none := by
  cases q : H b with
  | none => rfl
  | some u => rw [k b u n q] at h; cases h

/-! ### the promises of the small defs -/
def spIsInt : Sp := fun vs H Q _ => ∃ v n, vs = [v] ∧ Kd H v n ∧ Q (.bl (isI v)) H
def spAtL : Sp := fun vs H Q _ => ∃ v n l, vs = [v, .int l] ∧ Kd H v n ∧ Q (.bl (isI v && decide (l ≤ toI v))) H
def spWithin : Sp := fun vs H Q _ => ∃ v n l m, vs = [v, .int l, .int m] ∧ Kd H v n ∧ Q (.bl (isI v && (decide (l ≤ toI v) && decide (toI v ≤ m)))) H
/-- how many steps -/
def stepsUp (d s : Int) : Int := if -(-d / s) > 0 then -(-d / s) else 0
def spSteps : Sp := fun vs H Q _ => ∃ d s, vs = [.int d, .int s] ∧ 0 < s ∧ s.natAbs.log2 < 9000 ∧ Q (.int (stepsUp d s)) H

/-- what is no list is kept -/
def NL (H H' : Hp) : Prop := ∀ b o, H b = some o → (∀ xs, o ≠ .lst xs) → H' b = some o
theorem NL.refl {H : Hp} : NL H H := fun _ _ h _ => h
theorem NL.trans {H H1 H2 : Hp} (a : NL H H1) (b : NL H1 H2) : NL H H2 := fun c o h n => b c o (a c o h n) n
theorem NL.of {H H' : Hp} (s : Same H H') : NL H H' := fun b o e _ => s b o e
theorem Kp.nl {a : Addr} {H H' : Hp} {xs : List V} (k : Kp a H H') (h : H a = some (.lst xs)) : NL H H' := fun b o e n => k b o (fun z => by subst z; rw [h] at e; exact n xs (Option.some.inj e).symm) e
theorem NL.upd {H : Hp} {p : Addr} {xs : List V} {o : HO} (h : H p = some (.lst xs)) : NL H (L2.upd H p o) := Kp.nl Kp.upd h
theorem pe_gI {X : Cx} {x : Str} {i : Int} {t : Tok} {pos : Pos} (hm : X.mg x = some (.int i t)) (hg : Gl X x := by rfl) (hd : (x == ("__debug__" : Str)) = false := by decide) : PE X (.Name x pos) (tC (.int i)) := pe_glob hg hm ⟨t, rfl⟩ hd
@[irreducible] def PB (n : Nat) : Int := 2 ^ n
theorem PB_succ (n : Nat) : PB (n + 1) = PB n + PB n := by
  unfold PB
  rw [Int.pow_succ]
  omega
theorem PB_pos (n : Nat) : 1 ≤ PB n := by
  unfold PB
  have : (0 : Int) < 2 ^ n := Int.pow_pos (by decide)
  omega
theorem PB_le {n m : Nat} (h : n ≤ m) : PB n ≤ PB m := by
  induction m with
  | zero => rw [Nat.le_zero.mp h]; exact Int.le_refl _
  | succ m ih =>
    by_cases e : n = m + 1
    · rw [e]; exact Int.le_refl _
    · have h1 := ih (by omega)
      have h2 := PB_succ m
      have h3 := PB_pos m
      omega
theorem PB_abs {i : Int} {n : Nat} (h0 : 0 ≤ i) (h : i ≤ PB n) : i.natAbs < 2 ^ (n + 1) := by
  unfold PB at h
  have e : (2 : Nat) ^ (n + 1) = 2 ^ n * 2 := Nat.pow_succ 2 n
  have e2 : ((2 ^ n : Nat) : Int) = 2 ^ n := by rw [Int.natCast_pow]; rfl
  rw [← e2] at h
  have : 0 < 2 ^ n := Nat.pow_pos (by decide)
  rw [e]
  generalize 2 ^ n = w at *
  omega
theorem PB_of {i : Int} {n : Nat} (h : i.natAbs < 2 ^ n) : i ≤ PB n := by
  unfold PB
  have e2 : ((2 ^ n : Nat) : Int) = 2 ^ n := by rw [Int.natCast_pow]; rfl
  rw [← e2]
  generalize 2 ^ n = w at *
  omega
def BB : Int := PB 5000
theorem BB0 : 0 ≤ BB := by
  have := PB_pos 5000
  unfold BB
  omega
theorem bb_lt {i : Int} (h0 : 0 ≤ i) (h : i ≤ BB + BB) : i.natAbs < 2 ^ 5002 := PB_abs h0 (by rw [PB_succ]; exact h)
theorem mulBB {i j : Int} (i0 : 0 ≤ i) (i1 : i ≤ BB + BB) (j0 : 0 ≤ j) (j1 : j ≤ BB + BB) : CMulW i j := wide_mul (bb_lt i0 i1) (bb_lt j0 j1) (by decide) (by decide) (by decide)
theorem BB1 : 1 ≤ BB := PB_pos 5000
theorem divBB {j : Int} (j0 : 1 ≤ j) (j1 : j ≤ BB) : j.natAbs.log2 < 9000 := (wide_div (i := 0) (by omega : 0 < j) (bb_lt (by omega) (by have := BB0; omega)) (by decide) (by decide)).2
theorem small2 {n : Nat} (h : n ≤ 100000) : n ≤ sizeLine := Nat.le_trans h (by decide)
theorem small1 {n : Nat} (h : n ≤ 100000) : n < sizeLine := Nat.lt_of_le_of_lt h (by decide)
theorem tYes_of {σ : L2.St} {H : Hp} {A B : Hp → Prop} (h : A H) : tYes σ H (fun b H3 => if b = true then A H3 else B H3) := by
  show if true = true then A H else B H
  rw [if_pos rfl]
  exact h
theorem cut_init (xs : List V) : cutV xs none (some (-1)) = xs.take (xs.length - 1) := by
  show (xs.drop 0).take ((if (-1 : Int) < 0 then ((-1 : Int) + (xs.length : Int)).toNat else min (-1 : Int).toNat xs.length) - 0) = _
  rw [if_pos (by decide), List.drop_zero]
  congr 1
  omega
theorem cut_last (xs : List V) : cutV xs (some (-1)) none = xs.drop (xs.length - 1) := by
  show (xs.drop (if (-1 : Int) < 0 then ((-1 : Int) + (xs.length : Int)).toNat else min (-1 : Int).toNat xs.length)).take (xs.length - (if (-1 : Int) < 0 then ((-1 : Int) + (xs.length : Int)).toNat else min (-1 : Int).toNat xs.length)) = _
  rw [if_pos (by decide)]
  have e : ((-1 : Int) + (xs.length : Int)).toNat = xs.length - 1 := by omega
  rw [e]
  refine List.take_of_length_le ?_
  rw [List.length_drop]
  exact Nat.le_refl _
theorem none_of {H H' : Hp} {l : Addr} (s : Same H H') (h : H' l = none) : H l = none := by
  cases q : H l with
  | none => rfl
  | some o => rw [s _ _ q] at h; cases h
theorem for_enum {K : PySem.W.Frag} {a : Addr} {xs : List V} {g : TG} {tb : TS} {D : Ends} {σ : L2.St} {H : Hp} (Pv : Nat → L2.St → Hp → Prop) (h0 : Pv 0 σ H) (hl : ∀ i σ H, i ≤ xs.length → Pv i σ H → SqL K H a xs)
    (hs : ∀ i x T σ H, xs[i]? = some x → Pv i σ H → H T = none → g (.ref T) σ (upd H T (.tup [.int (i : Nat), x])) fun σ2 H2 => tb { D with nx := Pv (i + 1), ct := Pv (i + 1), bk := D.nx } σ2 H2) (hd : ∀ σ H, Pv xs.length σ H → D.nx σ H) :
    ∃ W : Nat → Nat → L2.St → Hp → Prop, (∃ m, W 0 m σ H) ∧ ∀ i m σ H, W i m σ H →
      ((Ite K a).stop i H ∧ D.nx σ H) ∨ ((Ite K a).go i H ∧ ∃ N : L2.St → Hp → Prop, (∀ σ' H', N σ' H' → ∃ m', m' < m ∧ W (i + 1) m' σ' H') ∧ ∀ x H', (Ite K a).yld i H x H' → g x σ H' fun σ2 H2 => tb { D with nx := N, ct := N, bk := D.nx } σ2 H2) := by
  refine ⟨fun i m σ H => m = xs.length - i ∧ i ≤ xs.length ∧ Pv i σ H, ⟨xs.length, by simp, Nat.zero_le _, h0⟩, ?_⟩
  rintro i m σ H ⟨rfl, hi, p⟩
  have q := hl i σ H hi p
  by_cases hlt : i < xs.length
  · refine .inr ⟨⟨xs, xs[i], q, by simp [hlt]⟩, Pv (i + 1), fun σ' H' p' => ⟨xs.length - (i + 1), by omega, rfl, hlt, p'⟩, fun x H' y => ?_⟩
    obtain ⟨T, x', rfl, hT, rfl, hx⟩ := y
    exact hs i x' T σ H (hx xs q) p hT
  · have e : i = xs.length := by omega
    subst e
    exact .inl ⟨⟨xs, q, Nat.le_refl _⟩, hd σ H p⟩
theorem pe_callN0 {X : Cx} {CX : CXT} {k : Nat} {f : Addr} {fd : FuncData} {ps ks : List Str} {sp : Sp} {E : XK} {x : Str} {p pos : Pos} {kws : List Keyword} {tk : TA} {g : List Value → List Value → List Value} {gV : List V → List V → List V}
    (F : FnOk X.prog X.w X.K X.mg X.base CX k f fd ps sp) (hr : Room k X.A) (hg : Gl X x) (hm : X.mg x = some (.ref f)) (hk : PySem.W.keepIn X.K (.ref f) = true) (hb : KBn X.K fd ps 0 ks g gV) (hx : Passes CX X E) (hkw : PK X kws tk)
    (hall : (backToKw pos (keywordEach kws X.env)).all (·.1.isSome) = true := by rfl) (hks : (backToKw pos (keywordEach kws X.env)).filterMap (·.1) = ks := by rfl) (hdb : (x == ("__debug__" : Str)) = false := by decide)
    (hpl : ((backTo pos (starEach [] X.env)).any (·.1) || (backToKw pos (keywordEach kws X.env)).any (·.1.isNone)) = false := by rfl) :
    PE X (.Call (.Name x p) [] kws pos) (tCallN 0 ks.length sp gV E tNil tk) := by
  refine ⟨fun pins s σ H Q I h => ?_⟩
  refine wpAny_Call_Name_kw (ld_glob I hg hm ?_ hdb)
  refine PySem.W.callWith_KW0 (h₀ := X.base) I.ok.mod.kin hk hall ?_ hpl
  refine thn (hkw.run pos pins s σ H _ I h) fun ws s2 ⟨zs, H2, I2, rz, l1, l2, q2⟩ => ⟨I2.kIn, ?_⟩
  rw [hks]
  exact run_fnN F hr hb hx I2 .nil rz rfl l2 q2
section
variable {X : Cx} {C : Addr} {k : Nat} {f : Addr} {ps : List Str} {sp : Sp}
theorem Met.op_in (c : Met X.prog X.w X.K X.mg X.base C "__contains__" k f ps sp) (hr : Room k X.A) : OpR X (compareOp .In) (rOwnIn C sp E0 _root_.id) := by
  obtain ⟨fd, F, b⟩ := c.ex
  exact op_own_in F hr c.me.at_ c.me.fn b pass0
theorem Met.op_notin (c : Met X.prog X.w X.K X.mg X.base C "__contains__" k f ps sp) (hr : Room k X.A) : OpR X (compareOp .NotIn) (rOwnIn C sp E0 Bool.not) := by
  obtain ⟨fd, F, b⟩ := c.ex
  exact op_own_notin F hr c.me.at_ c.me.fn b pass0
theorem Met.c_len (c : Met X.prog X.w X.K X.mg X.base C "__len__" k f ps sp) (hr : Room (k + 1) X.A) : CallR X (.builtin "len") (rOwnLen C sp E0) := by
  obtain ⟨fd, F, b⟩ := c.ex
  exact call_own_len F hr c.me.at_ c.me.fn b pass0
theorem Met.op_add (c : Met X.prog X.w X.K X.mg X.base C "__add__" k f ps sp) (hr : Room k X.A) (hc : PySem.W.selfFirst X.K C = true) : OpR X (binaryOp .Add) (rOwnAdd C sp E0) := by
  obtain ⟨fd, F, b⟩ := c.ex
  exact op_own_add F hr hc c.me.at_ c.me.fn b pass0
theorem Met.op_eq (c : Met X.prog X.w X.K X.mg X.base C "__eq__" k f ps sp) (hr : Room k X.A) : OpR X (compareOp .Eq) (rOwnEq C sp E0 _root_.id) := by
  obtain ⟨fd, F, b⟩ := c.ex
  exact op_own_eq F hr c.me.at_ c.me.fn b pass0
theorem Met.op_ne (c : Met X.prog X.w X.K X.mg X.base C "__eq__" k f ps sp) (hr : Room (k + 1) X.A) (hm : PySem.W.mroIn X.K C (.type "object") = some true) (hne : PySem.W.findIn X.K (.ref C) "__ne__" = some (some (.builtin "object.__ne__"))) : OpR X (compareOp .NotEq) (rOwnEq C sp E0 Bool.not) := by
  obtain ⟨fd, F, b⟩ := c.ex
  exact op_own_ne F hr hm hne c.me.at_ c.me.fn b pass0
theorem Met.p_ix {a b : Expr} {ta tb : TE} {pos : Pos} (c : Met X.prog X.w X.K X.mg X.base C "__getitem__" k f ps sp) (hr : Room (k + 1) X.A) (ha : PE X a ta) (hb' : PE X b tb) (hsl : ∀ o i, subscripted b true o i = runValue (.builtin "lifetime.subscript" ⟨[o, i], []⟩) := by exact fun _ _ => rfl) :
    PE X (.Subscript a b pos) (tOp (rOwnIx C sp E0) ta tb) := by
  obtain ⟨fd, F, bb⟩ := c.ex
  exact pe_own_ix F hr c.me.at_ c.fk c.me.fn bb pass0 ha hb' hsl
end
theorem Met.p_m0 {X : Cx} {C : Addr} {k : Nat} {f : Addr} {ps : List Str} {sp : Sp} {m : Str} {o : Expr} {ta : TE} {apos pos : Pos} {pl : Sem Bool} (c : Met X.prog X.w X.K X.mg X.base C m k f ps sp) (cl : Cls X.K C) (hr : Room k X.A) (he : PE X o ta)
    (ht : eval (.Call (.Attribute o m apos) [] [] pos) X.env = (do
      let ov ← eval o X.env
      standAt apos.atName
      let (f, first) ← holding [ov] (getMethod ov m pl)
      callWith pos f first (backTo pos (starEach [] X.env)) (backToKw pos (keywordEach [] X.env))) := by rfl) :
    PE X (.Call (.Attribute o m apos) [] [] pos) (tMeth C m sp [] E0 ta tNil) := by
  obtain ⟨fd, F, b⟩ := c.ex
  exact pe_meth0 he cl c.me F hr b .nil pass0 ht
/-! ### a class of the text -/
structure CF (K : PySem.W.Frag) (C : Addr) : Prop where
  cl : Cls K C
  cls : PySem.W.isClsIn K C = true
  ty : PySem.W.typeIn K (.ref C) = some (.type "type")
  oc : PySem.W.findIn K (.ref C) "__class__" = some (some (.builtin "object.__class__"))
  og : PySem.W.specialIn K (.builtin "object.__class__") "__get__" = some (some (.builtin "getset_descriptor.__get__"))
  ot : PySem.W.takesIn K (.builtin "object.__class__") = some true
  om : PySem.W.mroIn K C (.type "object") = some true
  sf : PySem.W.selfFirst K C = true
  ne : PySem.W.findIn K (.ref C) "__ne__" = some (some (.builtin "object.__ne__"))
theorem CF.kitT {K : PySem.W.Frag} {C : Addr} (M : CF K C) {H : Hp} {v : V} {n : String} (h : Kd H v n) : PySem.W.kitOne K (.type n) (.ref C) = some false := by
  have e1 : ((PySem.W.clsIn K C).isSome && PySem.W.typeIn K (.ref C) == some (.type "type")) = true := by
    have h2 : (PySem.W.clsIn K C).isSome = true := M.cls
    rw [h2, M.ty] <;> rfl
  have e2 : PySem.W.subIn K (.type n) (.ref C) = some false := by
    cases h with
    | non => exact sub_ty (l := ["NoneType", "object"]) (by decide +kernel)
    | bl _ => exact sub_ty (l := ["bool", "int", "object"]) (by decide +kernel)
    | int _ => exact sub_ty (l := ["int", "object"]) (by decide +kernel)
    | str _ => exact sub_ty (l := ["str", "object"]) (by decide +kernel)
    | lst _ => exact sub_ty (l := ["list", "object"]) (by decide +kernel)
    | tup _ => exact sub_ty (l := ["tuple", "object"]) (by decide +kernel)
    | dK _ => exact sub_ty (l := ["dict", "object"]) (by decide +kernel)
  show (if (Value.type n == Value.ref C) = true then some true else PySem.W.kitCls K (.type n) (.ref C)) = some false
  rw [if_neg (by intro z; cases z)]
  show (if ((PySem.W.clsIn K C).isSome && PySem.W.typeIn K (.ref C) == some (.type "type")) = true then PySem.W.subIn K (.type n) (.ref C) else none) = some false
  rw [if_pos e1, e2]
theorem CF.tyR {K : PySem.W.Frag} {C : Addr} (M : CF K C) {H : Hp} {p dx : Addr} {fs : List (Str × V)} (h : H p = some (.ins C dx fs)) : TyX K H (.ref p) (.ref C) := .base (.ins h M.cl M.oc M.og M.ot M.om)
theorem vals_rev {vs : List V} {us : List Value} (r : Vals vs us) : Vals vs.reverse us.reverse := by
  induction r with
  | nil => exact .nil
  | cons h t ih =>
    rw [List.reverse_cons, List.reverse_cons]
    exact ih.append (.cons h .nil)
/-- f(c = .., b = .., a = ..) of a def f(a, b, c) -/
theorem pe_kr {X : Cx} {k : Nat} {f : Addr} {sp : Sp} {x : Str} {ps : List Str} {st : Stmt} {kws : List Keyword} {tk : TA} {p pos : Pos} (D : Dfn X.K X.mg x st f ps) (h : ∀ fd, Fun X.K x x st f fd → FnOk X.prog X.w X.K X.mg X.base CX0 k f fd ps sp)
    (hbind : ∀ (kV doc pm : Value) (an : Option Addr) (cdv ct : Value) (us : List Value), us.length = ps.reverse.length → bindArgs (PySem.W.fnOf x x (defArgs st) (defBody st) (defScope st) .none kV doc pm an cdv ct) ⟨[], ps.reverse.zip us⟩ = pure (ps.zip us.reverse))
    (hr : Room k X.A) (hg : Gl X x) (hkw : PK X kws tk) (hall : (backToKw pos (keywordEach kws X.env)).all (·.1.isSome) = true := by rfl) (hks : (backToKw pos (keywordEach kws X.env)).filterMap (·.1) = ps.reverse := by rfl) (hdb : (x == ("__debug__" : Str)) = false := by decide)
    (hpl : ((backTo pos (starEach [] X.env)).any (·.1) || (backToKw pos (keywordEach kws X.env)).any (·.1.isNone)) = false := by rfl) :
    PE X (.Call (.Name x p) [] kws pos) (tCallN 0 ps.reverse.length sp (fun us ws => us ++ ws.reverse) E0 tNil tk) := by
  obtain ⟨fd, F, _⟩ := D.ex
  have hb : KBn X.K fd ps 0 ps.reverse (fun us ws => us ++ ws.reverse) (fun us ws => us ++ ws.reverse) := by
    refine ⟨fun s us ws hX h1 h2 => ?_, fun r1 r2 => r1.append (vals_rev r2)⟩
    obtain ⟨oc, od, kV, doc, pm, an, cdv, ct, osl, rfl, lk, hcd⟩ := F.ex
    match us, h1 with
    | [], _ => exact .of_eq (hbind kV doc pm an cdv ct ws h2)
  exact pe_callN0 (h fd F) hr hg D.g F.kp hb pass0 hkw hall hks hdb hpl
/-- where the defs and classes of the text stand -/
structure LA where
  f_is_integer : Addr
  f_is_at_least : Addr
  f_is_within : Addr
  f_is_breaker : Addr
  f_check_breakers : Addr
  f_check_step : Addr
  f_closed_states : Addr
  f_passes : Addr
  f_state_behind : Addr
  f_sent : Addr
  f_check_outages : Addr
  f_is_outage : Addr
  f_is_service : Addr
  f_check_services : Addr
  f_check_pattern : Addr
  f_is_up : Addr
  f_sent_requests : Addr
  f_served : Addr
  f_common_openings : Addr
  f__law_source_of : Addr
  f__law_next : Addr
  f__law_one : Addr
  f__law_cell_at : Addr
  f__law_specs : Addr
  f__law_send : Addr
  f__law_note : Addr
  f__law_services : Addr
  f__law_run : Addr
  f__law_counts_right : Addr
  c_Routes : Addr
  i_Routes : Addr
  m_Routes_parts : Addr
  m_Routes_eq : Addr
/-- what the text says of them -/
structure LX (K : PySem.W.Frag) (mg : Str → Option Value) (L : LA) : Prop where
  b_bool : mg "bool" = none
  b_enumerate : mg "enumerate" = none
  b_int : mg "int" = none
  b_isinstance : mg "isinstance" = none
  b_len : mg "len" = none
  b_list : mg "list" = none
  b_range : mg "range" = none
  b_tuple : mg "tuple" = none
  b_zip : mg "zip" = none
  n_MOST_BREAKERS : ∃ t, mg "MOST_BREAKERS" = some (.int 12 t)
  n_MOST_COUNT : ∃ t, mg "MOST_COUNT" = some (.int 1000000000000 t)
  n_MOST_TIME : ∃ t, mg "MOST_TIME" = some (.int 1000000000000000000000000000000 t)
  n_MOST_REQUESTS : ∃ t, mg "MOST_REQUESTS" = some (.int 10000 t)
  n_MOST_OUTAGES : ∃ t, mg "MOST_OUTAGES" = some (.int 50 t)
  n_MOST_SERVICES : ∃ t, mg "MOST_SERVICES" = some (.int 10 t)
  n_MOST_PLACES : ∃ t, mg "MOST_PLACES" = some (.int 20 t)
  n_SERVED : ∃ a, mg "SERVED" = some (.ref a) ∧ ∀ H : Hp, SqT K H a [.str "served"]
  n_FAILED : ∃ a, mg "FAILED" = some (.ref a) ∧ ∀ H : Hp, SqT K H a [.str "failed"]
  d_is_integer : Dfn K mg "is_integer" st_is_integer L.f_is_integer ["value"]
  d_is_at_least : Dfn K mg "is_at_least" st_is_at_least L.f_is_at_least ["value", "least"]
  d_is_within : Dfn K mg "is_within" st_is_within L.f_is_within ["value", "least", "most"]
  d_is_breaker : Dfn K mg "is_breaker" st_is_breaker L.f_is_breaker ["value"]
  d_check_breakers : Dfn K mg "check_breakers" st_check_breakers L.f_check_breakers ["breakers", "part"]
  d_check_step : Dfn K mg "check_step" st_check_step L.f_check_step ["step"]
  d_closed_states : Dfn K mg "closed_states" st_closed_states L.f_closed_states ["number"]
  d_passes : Dfn K mg "passes" st_passes L.f_passes ["breaker", "state", "time"]
  d_state_behind : Dfn K mg "state_behind" st_state_behind L.f_state_behind ["breaker", "state", "time", "succeeded"]
  d_sent : Dfn K mg "sent" st_sent L.f_sent ["breakers", "states", "time", "up"]
  d_check_outages : Dfn K mg "check_outages" st_check_outages L.f_check_outages ["outages"]
  d_is_outage : Dfn K mg "is_outage" st_is_outage L.f_is_outage ["value"]
  d_is_service : Dfn K mg "is_service" st_is_service L.f_is_service ["value"]
  d_check_services : Dfn K mg "check_services" st_check_services L.f_check_services ["services"]
  d_check_pattern : Dfn K mg "check_pattern" st_check_pattern L.f_check_pattern ["pattern", "number"]
  d_is_up : Dfn K mg "is_up" st_is_up L.f_is_up ["outages", "time"]
  d_sent_requests : Dfn K mg "sent_requests" st_sent_requests L.f_sent_requests ["routes", "count"]
  d_served : Dfn K mg "served" st_served L.f_served ["routes", "count"]
  d_common_openings : Dfn K mg "common_openings" st_common_openings L.f_common_openings ["routes", "count"]
  d__law_source_of : Dfn K mg "_law_source_of" st__law_source_of L.f__law_source_of ["_law_cell"]
  d__law_next : Dfn K mg "_law_next" st__law_next L.f__law_next ["_law_source", "_law_many"]
  d__law_one : Dfn K mg "_law_one" st__law_one L.f__law_one ["_law_source", "_law_options"]
  d__law_cell_at : Dfn K mg "_law_cell_at" st__law_cell_at L.f__law_cell_at ["_law_script", "_law_k"]
  d__law_specs : Dfn K mg "_law_specs" st__law_specs L.f__law_specs ["_law_source", "_law_most", "_law_wide", "_law_many"]
  d__law_send : Dfn K mg "_law_send" st__law_send L.f__law_send ["_law_specs_here", "_law_states", "_law_time", "_law_upright"]
  d__law_note : Dfn K mg "_law_note" st__law_note L.f__law_note ["_law_spec", "_law_state", "_law_time", "_law_good"]
  d__law_services : Dfn K mg "_law_services" st__law_services L.f__law_services ["_law_source"]
  d__law_run : Dfn K mg "_law_run" st__law_run L.f__law_run ["_law_front", "_law_backs", "_law_turns", "_law_pace", "_law_often"]
  d__law_counts_right : Dfn K mg "_law_counts_right" st__law_counts_right L.f__law_counts_right ["_law_source", "_law_ways", "_law_twin", "_law_parts"]
  gc_Routes : mg "Routes" = some (.ref L.c_Routes)
  cf_Routes : CF K L.c_Routes
  mk_Routes : Mk K L.c_Routes L.i_Routes
  nf_Routes_common : NoAttr K L.c_Routes "common"
  nf_Routes_services : NoAttr K L.c_Routes "services"
  nf_Routes_pattern : NoAttr K L.c_Routes "pattern"
  nf_Routes_step : NoAttr K L.c_Routes "step"
  in_Routes : ∃ fd, Fun K "__init__" "Routes.__init__" st_Routes_init L.i_Routes fd ∧ Binds K fd ["self", "common", "services", "pattern", "step"] []
  mm_Routes_parts : Mth K L.c_Routes "parts" "Routes.parts" st_Routes_parts L.m_Routes_parts ["self"]
  mm_Routes_eq : Mth K L.c_Routes "__eq__" "Routes.__eq__" st_Routes_eq L.m_Routes_eq ["self", "other"]

/-- a comprehension over zip of two lists -/
theorem lc_zip {K : PySem.W.Frag} {a b : Addr} {xs ys : List V} {g : TG} {tt : TT} {te : TE} {vs : List Nat} {σ : L2.St} {H1 : Hp} {D : Addr} {Qd : Hp → Prop} (hlen : ys.length ≤ xs.length) (Pv : Nat → Hp → Prop) (h0 : Pv 0 (upd H1 D (.lst []))) (hl : ∀ i H, Pv i H → SqL K H a xs ∧ SqL K H b ys)
    (hs : ∀ (i : Nat) (x y : V) (T : Addr) (H : Hp), xs[i]? = some x → ys[i]? = some y → Pv i H → H T = none → g (.ref T) (wipe σ vs) (upd H T (.tup [x, y])) fun σ2 H2 => wipe σ2 vs = wipe σ vs ∧ tt σ2 H2 fun b H3 =>
      if b = true then te σ2 H3 fun y H4 => ∃ acc, H4 D = some (.lst acc) ∧ acc.length < sizeLine ∧ Pv (i + 1) (upd H4 D (.lst (acc ++ [y]))) else Pv (i + 1) H3) (hd : ∀ H, Pv ys.length H → Qd H) :
    ∃ W : Nat → Nat → Hp → Prop, (∃ m, W 0 m (upd H1 D (.lst []))) ∧ ∀ i m H, W i m H → ((Itz K a b).stop i H ∧ Qd H) ∨ ((Itz K a b).go i H ∧ ∃ Nx : Hp → Prop, (∀ H', Nx H' → ∃ m', m' < m ∧ W (i + 1) m' H') ∧ ∀ x H', (Itz K a b).yld i H x H' → g x (wipe σ vs) H' fun σ2 H2 => wipe σ2 vs = wipe σ vs ∧ tt σ2 H2 fun b H3 =>
        if b = true then te σ2 H3 fun y H4 => ∃ acc, H4 D = some (.lst acc) ∧ acc.length < sizeLine ∧ Nx (upd H4 D (.lst (acc ++ [y]))) else Nx H3) := by
  refine ⟨fun i m H => m = ys.length - i ∧ i ≤ ys.length ∧ Pv i H, ⟨ys.length, by omega, Nat.zero_le _, h0⟩, ?_⟩
  rintro i m H ⟨rfl, hi, p⟩
  obtain ⟨qx, qy⟩ := hl i H p
  by_cases hlt : i < ys.length
  · have hx : xs[i]? = some xs[i] := List.getElem?_eq_getElem (by omega)
    have hy : ys[i]? = some ys[i] := List.getElem?_eq_getElem hlt
    refine .inr ⟨⟨xs, ys, _, _, qx, qy, hx, hy⟩, Pv (i + 1), fun H' p' => ⟨ys.length - (i + 1), by omega, rfl, hlt, p'⟩, fun v H' y => ?_⟩
    obtain ⟨T, x', y', rfl, hT, rfl, f1, f2⟩ := y
    exact hs i x' y' T H (f1 xs qx) (f2 ys qy) p hT
  · have e : i = ys.length := by omega
    subst e
    exact .inl ⟨⟨xs, ys, qx, qy, .inr (Nat.le_refl _)⟩, hd H p⟩
/-- an attribute inside a comprehension -/
theorem pe_fldK {X : Cx} {K : PySem.W.Frag} {e : Expr} {f : Str} {pos : Pos} {ta : TE} (hK : X.K = K) (he : PE X e ta) (hb : attributeBase e f X.env (eval e X.env) = eval e X.env) : PE X (.Attribute e f pos) (tFld K ta f) := by
  subst hK
  exact pe_fld he hb
theorem putF_len (f : Str) (v : V) (fs : List (Str × V)) {n : Nat} (h : fs.length ≤ n) : (putF f v fs).length ≤ n + 1 := Nat.le_trans (length_putF f v fs) (Nat.succ_le_succ h)
def spRup : Sp := fun vs H Q _ => ∃ v u : Int, vs = [.int v, .int u] ∧ 0 < u ∧ u.natAbs.log2 < 9000 ∧ CMulW (stepsUp v u) u ∧ Q (.int (stepsUp v u * u)) H
/-! ### the small defs -/
section
variable {P : Program} {w : World} {K : PySem.W.Frag} {mg : Str → Option Value} {base : Heap} {L : LA}
abbrev N_isinteger : List Str := ["value"]
theorem sc_isinteger : FnScope N_isinteger ["value"] (defScope st_is_integer) := ⟨rfl, rfl, rfl, by decide +kernel, rfl, by decide +kernel, by decide +kernel⟩
theorem fn_isinteger (T : LX K mg L) {fd : FuncData} (F : Fun K "is_integer" "is_integer" st_is_integer L.f_is_integer fd) : FnOk P w K mg base CX0 1 L.f_is_integer fd ["value"] (spIsInt) := by
  have nd := sc_isinteger.nd
  refine F.ok sc_isinteger (fun vs H Q E h => ?_) (fun cdv A outer S H vs Q E hr h => ?_)
  · obtain ⟨v, n, rfl, _⟩ := h
    rfl
  · obtain ⟨v, n, rfl, hv, k⟩ := h
    refine ⟨_, (pss_one (ps_ret (pe_and (pe_callB call_isi (by rfl) T.b_isinstance (by decide +kernel) (pa_cons (pv 0) (pa_cons (pe_bltn (by rfl) T.b_int (by decide +kernel : bootBuiltins "int" = some (.type "int")) (v := .ty "int") rfl) pa_nil))) (pe_one (pe_not (pe_callB call_isi (by rfl) T.b_isinstance (by decide +kernel) (pa_cons (pv 0) (pa_cons (pe_bltn (by rfl) T.b_bool (by decide +kernel : bootBuiltins "bool" = some (.type "bool")) (v := .ty "bool") rfl) pa_nil)))))))), ?_⟩
    refine ⟨_, rfl, v, .ty "int", _, _, _, rfl, .ty "int", hv.ty, hv.kit "int" _ (.inl ⟨rfl, rfl⟩), _, rfl, ?_⟩
    refine ite2 (fun c => ?_) (fun c => ?_)
    · refine ⟨_, rfl, v, .ty "bool", _, _, _, rfl, .ty "bool", hv.ty, hv.kit "bool" _ (.inr ⟨by decide, by decide, rfl⟩), _, rfl, ?_⟩
      cases hv <;> first | exact k | (exact absurd c (by decide))
    · cases hv <;> first | exact k | (exact absurd (by decide) c)
theorem ok_isinteger (T : LX K mg L) : Cal P w K mg base "is_integer" 1 L.f_is_integer ["value"] (spIsInt) := T.d_is_integer.cal fun fd F => fn_isinteger T F
abbrev N_isatleast : List Str := ["value", "least"]
theorem sc_isatleast : FnScope N_isatleast ["value", "least"] (defScope st_is_at_least) := ⟨rfl, rfl, rfl, by decide +kernel, rfl, by decide +kernel, by decide +kernel⟩
theorem fn_isatleast (T : LX K mg L) {fd : FuncData} (F : Fun K "is_at_least" "is_at_least" st_is_at_least L.f_is_at_least fd) : FnOk P w K mg base CX0 2 L.f_is_at_least fd ["value", "least"] (spAtL) := by
  have G_isinteger := ok_isinteger (P := P) (w := w) (base := base) T
  have nd := sc_isatleast.nd
  refine F.ok sc_isatleast (fun vs H Q E h => ?_) (fun cdv A outer S H vs Q E hr h => ?_)
  · obtain ⟨v, n, l, rfl, _⟩ := h
    rfl
  · obtain ⟨v, n, l, rfl, hv, k⟩ := h
    refine ⟨_, (pss_one (ps_ret (pe_and (pe_c G_isinteger (hr.mono (by decide)) rfl (pa_cons (pv 0) pa_nil)) (pe_one (pe_cmpR op_ge (pv 0) (pv 1) (nomark _)))))), ?_⟩
    refine ⟨_, rfl, v, n, rfl, hv, _, rfl, ?_⟩
    cases v with
    | int i => exact iteT ⟨_, rfl, _, rfl, _, _, rfl, rfl, k⟩
    | _ => exact iteF k
theorem ok_isatleast (T : LX K mg L) : Cal P w K mg base "is_at_least" 2 L.f_is_at_least ["value", "least"] (spAtL) := T.d_is_at_least.cal fun fd F => fn_isatleast T F
abbrev N_iswithin : List Str := ["value", "least", "most"]
theorem sc_iswithin : FnScope N_iswithin ["value", "least", "most"] (defScope st_is_within) := ⟨rfl, rfl, rfl, by decide +kernel, rfl, by decide +kernel, by decide +kernel⟩
theorem fn_iswithin (T : LX K mg L) {fd : FuncData} (F : Fun K "is_within" "is_within" st_is_within L.f_is_within fd) : FnOk P w K mg base CX0 2 L.f_is_within fd ["value", "least", "most"] (spWithin) := by
  have G_isinteger := ok_isinteger (P := P) (w := w) (base := base) T
  have nd := sc_iswithin.nd
  refine F.ok sc_iswithin (fun vs H Q E h => ?_) (fun cdv A outer S H vs Q E hr h => ?_)
  · obtain ⟨v, n, l, m, rfl, _⟩ := h
    rfl
  · obtain ⟨v, n, l, m, rfl, hv, k⟩ := h
    refine ⟨_, (pss_one (ps_ret (pe_and (pe_c G_isinteger (hr.mono (by decide)) rfl (pa_cons (pv 0) pa_nil)) (pe_one (pe_chain op_le op_le (pv 1) (pv 0) (pv 2)))))), ?_⟩
    refine ⟨_, rfl, v, n, rfl, hv, _, rfl, ?_⟩
    cases v with
    | int i =>
      refine iteT ⟨_, rfl, _, rfl, _, _, rfl, rfl, _, rfl, ?_⟩
      refine ite2 (fun c => ?_) (fun c => ?_)
      · refine ⟨_, rfl, _, _, rfl, rfl, ?_⟩
        have c' : decide (l ≤ i) = true := c
        have k' : Q (.bl (decide (l ≤ i) && decide (i ≤ m))) H := k
        rw [c', Bool.true_and] at k'
        exact k'
      · have c' : decide (l ≤ i) = false := by simpa using c
        have k' : Q (.bl (decide (l ≤ i) && decide (i ≤ m))) H := k
        rw [c', Bool.false_and] at k'
        exact k'
    | _ => exact iteF k
theorem ok_iswithin (T : LX K mg L) : Cal P w K mg base "is_within" 2 L.f_is_within ["value", "least", "most"] (spWithin) := T.d_is_within.cal fun fd F => fn_iswithin T F
end
/-! ### trains as data -/
abbrev Trn := Int × Int × Option Int
def OkTr (t : Trn) : Prop := 0 ≤ t.1 ∧ 1 ≤ t.2.1 ∧ ∀ c, t.2.2 = some c → 1 ≤ c
/-- all times of the first are before the second -/
def Lt (t u : Trn) : Prop := ∃ c, t.2.2 = some c ∧ t.1 + (c - 1) * t.2.1 < u.1
def Srt (ts : List Trn) : Prop := (∀ t ∈ ts, OkTr t) ∧ ts.Pairwise Lt
def minO (n : Int) : Option Int → Int
  | none => n
  | some c => if c < n then c else n
/-- how many times of a train are before x -/
def nbT (t : Trn) (x : Int) : Int := minO (stepsUp (x - t.1) t.2.1) t.2.2
def NB : List Trn → Int → Int
  | [], _ => 0
  | t :: ts, x => nbT t x + NB ts x
def At : List Trn → Int → Option Int
  | [], _ => none
  | t :: ts, i => match t.2.2 with
    | none => some (t.1 + i * t.2.1)
    | some c => if i < c then some (t.1 + i * t.2.1) else At ts (i - c)
def addO (c : Int) : Option Int → Option Int
  | none => none
  | some n => some (c + n)
def Tot : List Trn → Option Int
  | [] => some 0
  | t :: ts => match t.2.2 with
    | none => none
    | some c => addO c (Tot ts)
/-- d / s, rounded up -/
def cl (d s : Int) : Int := -(-d / s)
theorem stepsUp_cl (d s : Int) : stepsUp d s = if cl d s > 0 then cl d s else 0 := rfl
theorem cl_sub (d s c : Int) (hs : 0 < s) : cl (d - c * s) s = cl d s - c := by
  unfold cl
  have e : -(d - c * s) = -d + c * s := by omega
  rw [e, Int.add_mul_ediv_right _ _ (show s ≠ 0 by omega)]
  omega
theorem cl_le {d s n : Int} (hs : 0 < s) : cl d s ≤ n ↔ d ≤ n * s := by
  unfold cl
  have h : -n ≤ -d / s ↔ -n * s ≤ -d := Int.le_ediv_iff_mul_le hs
  rw [Int.neg_mul] at h
  omega
theorem cl_gt {d s n : Int} (hs : 0 < s) : n < cl d s ↔ n * s < d := by
  have h := cl_le (d := d) (s := s) (n := n) hs
  omega
def subO (k : Option Int) (c : Int) : Option Int := match k with
  | none => none
  | some n => some (n - c)
/-- a train is its first c times, and the others -/
theorem nbT_split {s p c : Int} {k : Option Int} (hp : 0 < p) (hc : 0 ≤ c) (hk : ∀ n, k = some n → c ≤ n) (x : Int) : nbT (s, p, k) x = nbT (s, p, some c) x + nbT (s + c * p, p, subO k c) x := by
  have e : x - (s + c * p) = x - s - c * p := by omega
  show minO (stepsUp (x - s) p) k = minO (stepsUp (x - s) p) (some c) + minO (stepsUp (x - (s + c * p)) p) (subO k c)
  rw [e, stepsUp_cl, stepsUp_cl, cl_sub _ _ _ hp]
  cases k with
  | none =>
    show (if cl (x - s) p > 0 then cl (x - s) p else 0) = (if c < (if cl (x - s) p > 0 then cl (x - s) p else 0) then c else (if cl (x - s) p > 0 then cl (x - s) p else 0)) + (if cl (x - s) p - c > 0 then cl (x - s) p - c else 0)
    split <;> split <;> split <;> omega
  | some n =>
    have := hk n rfl
    show (if n < (if cl (x - s) p > 0 then cl (x - s) p else 0) then n else (if cl (x - s) p > 0 then cl (x - s) p else 0)) = (if c < (if cl (x - s) p > 0 then cl (x - s) p else 0) then c else (if cl (x - s) p > 0 then cl (x - s) p else 0)) + (if n - c < (if cl (x - s) p - c > 0 then cl (x - s) p - c else 0) then n - c else (if cl (x - s) p - c > 0 then cl (x - s) p - c else 0))
    split <;> split <;> split <;> split <;> (try split) <;> omega
/-- the step of a single time is nothing -/
theorem nbT_one {s p q : Int} (hp : 0 < p) (hq : 0 < q) (x : Int) : nbT (s, p, some 1) x = nbT (s, q, some 1) x := by
  have one : ∀ p : Int, 0 < p → nbT (s, p, some 1) x = if s < x then 1 else 0 := fun p hp => by
    show (if (1 : Int) < (if cl (x - s) p > 0 then cl (x - s) p else 0) then (1 : Int) else (if cl (x - s) p > 0 then cl (x - s) p else 0)) = _
    have h0 : 0 < cl (x - s) p ↔ 0 * p < x - s := cl_gt hp
    rw [Int.zero_mul] at h0
    split <;> split <;> split <;> omega
  rw [one p hp, one q hq]
theorem NB_app : ∀ (ts us : List Trn) (x : Int), NB (ts ++ us) x = NB ts x + NB us x
  | [], us, x => by show NB us x = 0 + NB us x; omega
  | t :: ts, us, x => by
    show nbT t x + NB (ts ++ us) x = nbT t x + NB ts x + NB us x
    rw [NB_app ts us x]
    omega
theorem addO_addO (a b : Int) (k : Option Int) : addO a (addO b k) = addO (a + b) k := by
  cases k with
  | none => rfl
  | some n => show some (a + (b + n)) = some (a + b + n); rw [Int.add_assoc]
theorem nbT_nn {t : Trn} (h : OkTr t) (x : Int) : 0 ≤ nbT t x := by
  obtain ⟨s, p, k⟩ := t
  show 0 ≤ minO (stepsUp (x - s) p) k
  rw [stepsUp_cl]
  cases k with
  | none => show 0 ≤ if cl (x - s) p > 0 then cl (x - s) p else 0; split <;> omega
  | some c =>
    have := h.2.2 c rfl
    show 0 ≤ if c < (if cl (x - s) p > 0 then cl (x - s) p else 0) then c else (if cl (x - s) p > 0 then cl (x - s) p else 0)
    split <;> (try split) <;> omega
theorem nbT_zero {t : Trn} (h : OkTr t) {x : Int} (hx : x ≤ t.1) : nbT t x = 0 := by
  obtain ⟨s, p, k⟩ := t
  have hp : 0 < p := by
    have h2 : 1 ≤ p := h.2.1
    omega
  have h1 : cl (x - s) p ≤ 0 := (cl_le hp).mpr (by
    have h2 : x ≤ s := hx
    omega)
  show minO (stepsUp (x - s) p) k = 0
  rw [stepsUp_cl, if_neg (by omega)]
  cases k with
  | none => rfl
  | some c =>
    have := h.2.2 c rfl
    show (if c < 0 then c else 0) = 0
    rw [if_neg (by omega)]
theorem nbT_all {t : Trn} (h : OkTr t) {x c : Int} (hc : t.2.2 = some c) (hx : t.1 + (c - 1) * t.2.1 < x) : nbT t x = c := by
  obtain ⟨s, p, k⟩ := t
  have hp : 0 < p := by
    have h2 : 1 ≤ p := h.2.1
    omega
  have h0 : k = some c := hc
  subst h0
  have h1 : c - 1 < cl (x - s) p := (cl_gt hp).mpr (by
    have h2 : s + (c - 1) * p < x := hx
    omega)
  have := h.2.2 c rfl
  show (if c < stepsUp (x - s) p then c else stepsUp (x - s) p) = c
  rw [stepsUp_cl]
  split <;> (try split at *) <;> omega
theorem NB_nn {ts : List Trn} (h : ∀ t ∈ ts, OkTr t) (x : Int) : 0 ≤ NB ts x := by
  induction ts with
  | nil => exact Int.le_refl _
  | cons t ts ih =>
    have h1 := nbT_nn (h t (List.mem_cons_self ..)) x
    have h2 := ih fun u hu => h u (List.mem_cons_of_mem _ hu)
    show 0 ≤ nbT t x + NB ts x
    omega
theorem NB_zero {ts : List Trn} (h : ∀ t ∈ ts, OkTr t) {x : Int} (hx : ∀ t ∈ ts, x ≤ t.1) : NB ts x = 0 := by
  induction ts with
  | nil => rfl
  | cons t ts ih =>
    show nbT t x + NB ts x = 0
    rw [nbT_zero (h t (List.mem_cons_self ..)) (hx t (List.mem_cons_self ..)), ih (fun u hu => h u (List.mem_cons_of_mem _ hu)) fun u hu => hx u (List.mem_cons_of_mem _ hu)]
    rfl
theorem Srt.tail {t : Trn} {ts : List Trn} (h : Srt (t :: ts)) : Srt ts := ⟨fun u hu => h.1 u (List.mem_cons_of_mem _ hu), (List.pairwise_cons.mp h.2).2⟩
theorem Srt.head {t : Trn} {ts : List Trn} (h : Srt (t :: ts)) : OkTr t := h.1 t (List.mem_cons_self ..)
theorem Srt.lt {t : Trn} {ts : List Trn} (h : Srt (t :: ts)) : ∀ u ∈ ts, Lt t u := (List.pairwise_cons.mp h.2).1
theorem lt_start {t u : Trn} (h : OkTr t) (l : Lt t u) : t.1 < u.1 := by
  obtain ⟨c, e, q⟩ := l
  have hc := h.2.2 c e
  have : 0 ≤ (c - 1) * t.2.1 := Int.mul_nonneg (by omega) (by have := h.2.1; omega)
  omega
/-! what is before x, and which time is the i-th -/
theorem nbT_le {t : Trn} {x c : Int} (e : t.2.2 = some c) : nbT t x ≤ c := by
  unfold nbT
  rw [e]
  show (if c < stepsUp (x - t.1) t.2.1 then c else stepsUp (x - t.1) t.2.1) ≤ c
  split <;> omega
/-- the times before x are those with an index below nbT -/
theorem nbT_lt {t : Trn} (h : OkTr t) {x i : Int} (i0 : 0 ≤ i) (hi : ∀ c, t.2.2 = some c → i < c) : i < nbT t x ↔ t.1 + i * t.2.1 < x := by
  obtain ⟨s, p, k⟩ := t
  have hp : 0 < p := by
    have h2 : 1 ≤ p := h.2.1
    omega
  have h1 : i < cl (x - s) p ↔ i * p < x - s := cl_gt hp
  have e : (s + i * p < x) ↔ i * p < x - s := by omega
  show i < minO (stepsUp (x - s) p) k ↔ s + i * p < x
  rw [stepsUp_cl, e, ← h1]
  cases k with
  | none =>
    show i < (if cl (x - s) p > 0 then cl (x - s) p else 0) ↔ _
    split <;> omega
  | some c =>
    have := hi c rfl
    show i < (if c < (if cl (x - s) p > 0 then cl (x - s) p else 0) then c else (if cl (x - s) p > 0 then cl (x - s) p else 0)) ↔ _
    split <;> (try split) <;> (try split at *) <;> omega
theorem At_lt : ∀ {ts : List Trn}, Srt ts → ∀ {i y : Int}, 0 ≤ i → At ts i = some y → ∀ x, i < NB ts x ↔ y < x
  | [], _, i, y, _, e, _ => by cases e
  | t :: ts, h, i, y, i0, e, x => by
    have ht := h.head
    have hs := h.tail
    have nn := NB_nn hs.1 x
    cases hk : t.2.2 with
    | none =>
      have e' : At (t :: ts) i = some (t.1 + i * t.2.1) := by
        show (match t.2.2 with | none => some (t.1 + i * t.2.1) | some c => if i < c then some (t.1 + i * t.2.1) else At ts (i - c)) = _
        rw [hk]
      rw [e'] at e
      have ey := Option.some.inj e
      subst ey
      have nt : ts = [] := by
        cases ts with
        | nil => rfl
        | cons u us =>
          obtain ⟨c, hc, _⟩ := h.lt u (List.mem_cons_self ..)
          rw [hk] at hc
          cases hc
      subst nt
      have := nbT_lt ht (x := x) i0 (fun c hc => by rw [hk] at hc; cases hc)
      show i < nbT t x + 0 ↔ _
      rw [Int.add_zero]
      exact this
    | some c =>
      have e' : At (t :: ts) i = if i < c then some (t.1 + i * t.2.1) else At ts (i - c) := by
        show (match t.2.2 with | none => some (t.1 + i * t.2.1) | some c => if i < c then some (t.1 + i * t.2.1) else At ts (i - c)) = _
        rw [hk]
      rw [e'] at e
      show i < nbT t x + NB ts x ↔ y < x
      by_cases hi : i < c
      · rw [if_pos hi] at e
        have ey := Option.some.inj e
        have h1 := nbT_lt ht (x := x) i0 (fun c' hc => by rw [hk] at hc; cases hc; exact hi)
        by_cases hl : t.1 + (c - 1) * t.2.1 < x
        · have h2 := nbT_all ht hk hl
          omega
        · have h3 : NB ts x = 0 := NB_zero hs.1 fun u hu => by
            obtain ⟨c', hc, q⟩ := h.lt u hu
            rw [hk] at hc
            cases hc
            omega
          omega
      · rw [if_neg hi] at e
        have ih := At_lt hs (i := i - c) (by omega) e x
        have h2 := nbT_le (x := x) hk
        by_cases hl : t.1 + (c - 1) * t.2.1 < x
        · have h3 := nbT_all ht hk hl
          omega
        · have h3 : NB ts x = 0 := NB_zero hs.1 fun u hu => by
            obtain ⟨c', hc, q⟩ := h.lt u hu
            rw [hk] at hc
            cases hc
            omega
          omega
theorem tot_nn : ∀ {ts : List Trn}, (∀ t ∈ ts, OkTr t) → ∀ n, Tot ts = some n → 0 ≤ n
  | [], _, n, e => by cases e; exact Int.le_refl _
  | t :: ts, h, n, e => by
    cases hk : t.2.2 with
    | none =>
      have e2 : Tot (t :: ts) = none := by
        show (match t.2.2 with | none => none | some c => addO c (Tot ts)) = _
        rw [hk]
      rw [e2] at e
      cases e
    | some c =>
      have e2 : Tot (t :: ts) = addO c (Tot ts) := by
        show (match t.2.2 with | none => none | some c => addO c (Tot ts)) = _
        rw [hk]
      rw [e2] at e
      cases ht : Tot ts with
      | none => rw [ht] at e; cases e
      | some m =>
        rw [ht] at e
        have z' : c + m = n := Option.some.inj e
        have := tot_nn (fun u hu => h u (List.mem_cons_of_mem _ hu)) m ht
        have := (h t (List.mem_cons_self ..)).2.2 c hk
        omega
theorem At_none : ∀ {ts : List Trn}, (∀ t ∈ ts, OkTr t) → ∀ {i : Int}, 0 ≤ i → (At ts i = none ↔ ∃ n, Tot ts = some n ∧ n ≤ i)
  | [], _, i, i0 => ⟨fun _ => ⟨0, rfl, i0⟩, fun _ => rfl⟩
  | t :: ts, h, i, i0 => by
    cases hk : t.2.2 with
    | none =>
      have e' : At (t :: ts) i = some (t.1 + i * t.2.1) := by
        show (match t.2.2 with | none => some (t.1 + i * t.2.1) | some c => if i < c then some (t.1 + i * t.2.1) else At ts (i - c)) = _
        rw [hk]
      have e2 : Tot (t :: ts) = none := by
        show (match t.2.2 with | none => none | some c => addO c (Tot ts)) = _
        rw [hk]
      rw [e', e2]
      exact ⟨fun z => (by cases z), fun ⟨n, z, _⟩ => (by cases z)⟩
    | some c =>
      have e' : At (t :: ts) i = if i < c then some (t.1 + i * t.2.1) else At ts (i - c) := by
        show (match t.2.2 with | none => some (t.1 + i * t.2.1) | some c => if i < c then some (t.1 + i * t.2.1) else At ts (i - c)) = _
        rw [hk]
      have e2 : Tot (t :: ts) = addO c (Tot ts) := by
        show (match t.2.2 with | none => none | some c => addO c (Tot ts)) = _
        rw [hk]
      have tn : ∀ n, Tot ts = some n → 0 ≤ n := tot_nn fun u hu => h u (List.mem_cons_of_mem _ hu)
      rw [e', e2]
      by_cases hi : i < c
      · rw [if_pos hi]
        refine ⟨fun z => (by cases z), fun ⟨n, z, hn⟩ => ?_⟩
        cases ht : Tot ts with
        | none => rw [ht] at z; cases z
        | some m =>
          rw [ht] at z
          have := tn m ht
          have z' : c + m = n := Option.some.inj z
          omega
      · rw [if_neg hi]
        have ih := At_none (ts := ts) (fun u hu => h u (List.mem_cons_of_mem _ hu)) (i := i - c) (by omega)
        rw [ih]
        constructor
        · rintro ⟨n, e, hn⟩
          exact ⟨c + n, by rw [e]; rfl, by omega⟩
        · rintro ⟨n, e, hn⟩
          cases ht : Tot ts with
          | none => rw [ht] at e; cases e
          | some m =>
            rw [ht] at e
            have z' : c + m = n := Option.some.inj e
            exact ⟨m, rfl, by omega⟩
theorem NB_tot : ∀ {ts : List Trn}, (∀ t ∈ ts, OkTr t) → ∀ {n : Int}, Tot ts = some n → ∀ x, NB ts x ≤ n
  | [], _, n, e, x => by cases e; exact Int.le_refl _
  | t :: ts, h, n, e, x => by
    cases hk : t.2.2 with
    | none =>
      have e2 : Tot (t :: ts) = none := by
        show (match t.2.2 with | none => none | some c => addO c (Tot ts)) = _
        rw [hk]
      rw [e2] at e
      cases e
    | some c =>
      have e2 : Tot (t :: ts) = addO c (Tot ts) := by
        show (match t.2.2 with | none => none | some c => addO c (Tot ts)) = _
        rw [hk]
      rw [e2] at e
      cases ht : Tot ts with
      | none => rw [ht] at e; cases e
      | some m =>
        rw [ht] at e
        have z' : c + m = n := Option.some.inj e
        have h1 := nbT_le (x := x) hk
        have h2 := NB_tot (fun u hu => h u (List.mem_cons_of_mem _ hu)) ht x
        show nbT t x + NB ts x ≤ n
        omega
theorem nbT_step {t : Trn} (h : OkTr t) (x : Int) : nbT t (x + 1) ≤ nbT t x + 1 := by
  obtain ⟨s, p, k⟩ := t
  have hp : 1 ≤ p := h.2.1
  have h1 : cl (x + 1 - s) p ≤ cl (x - s) p + 1 := by
    refine (cl_le (by omega)).mpr ?_
    have h2 : x - s ≤ cl (x - s) p * p := (cl_le (by omega)).mp (Int.le_refl _)
    rw [Int.add_mul, Int.one_mul]
    omega
  show minO (stepsUp (x + 1 - s) p) k ≤ minO (stepsUp (x - s) p) k + 1
  rw [stepsUp_cl, stepsUp_cl]
  cases k with
  | none =>
    show (if cl (x + 1 - s) p > 0 then cl (x + 1 - s) p else 0) ≤ (if cl (x - s) p > 0 then cl (x - s) p else 0) + 1
    split <;> split <;> omega
  | some c =>
    show (if c < (if cl (x + 1 - s) p > 0 then cl (x + 1 - s) p else 0) then c else (if cl (x + 1 - s) p > 0 then cl (x + 1 - s) p else 0)) ≤ (if c < (if cl (x - s) p > 0 then cl (x - s) p else 0) then c else (if cl (x - s) p > 0 then cl (x - s) p else 0)) + 1
    repeat' split
    all_goals omega
theorem NB_step : ∀ {ts : List Trn}, Srt ts → ∀ x, NB ts (x + 1) ≤ NB ts x + 1
  | [], _, x => by show (0 : Int) ≤ 0 + 1; omega
  | t :: ts, h, x => by
    have ht := h.head
    have hs := h.tail
    have st := nbT_step ht x
    show nbT t (x + 1) + NB ts (x + 1) ≤ nbT t x + NB ts x + 1
    cases hk : t.2.2 with
    | none =>
      have nt : ts = [] := by
        cases ts with
        | nil => rfl
        | cons u us =>
          obtain ⟨c, hc, _⟩ := h.lt u (List.mem_cons_self ..)
          rw [hk] at hc
          cases hc
      subst nt
      show nbT t (x + 1) + 0 ≤ nbT t x + 0 + 1
      omega
    | some c =>
      by_cases hl : t.1 + (c - 1) * t.2.1 < x
      · have h1 := nbT_all ht hk hl
        have h2 := nbT_all ht hk (show t.1 + (c - 1) * t.2.1 < x + 1 by omega)
        have h3 := NB_step hs x
        omega
      · have z : ∀ y, y ≤ x + 1 → NB ts y = 0 := fun y hy => NB_zero hs.1 fun u hu => by
          obtain ⟨c', hc, q⟩ := h.lt u hu
          rw [hk] at hc
          cases hc
          omega
        have h1 := z x (by omega)
        have h2 := z (x + 1) (Int.le_refl _)
        omega
/-- the i-th time is told by what is before x -/
theorem At_iff {ts : List Trn} (h : Srt ts) {i y : Int} (i0 : 0 ≤ i) : At ts i = some y ↔ NB ts y = i ∧ NB ts (y + 1) = i + 1 := by
  have one : ∀ {z}, At ts i = some z → NB ts z = i ∧ NB ts (z + 1) = i + 1 := fun {z} e => by
    have h1 := At_lt h i0 e z
    have h2 := At_lt h i0 e (z + 1)
    have h3 := NB_step h z
    omega
  refine ⟨one, fun ⟨e1, e2⟩ => ?_⟩
  cases q : At ts i with
  | none =>
    obtain ⟨n, e3, e4⟩ := (At_none h.1 i0).mp q
    have := NB_tot h.1 e3 (y + 1)
    omega
  | some w =>
    have h3 := At_lt h i0 q y
    have h4 := At_lt h i0 q (y + 1)
    congr 1
    omega
/-- trains with the same counts have the same times -/
theorem At_same {ts us : List Trn} (h : Srt ts) (h' : Srt us) (e : ∀ x, NB ts x = NB us x) {i : Int} (i0 : 0 ≤ i) : At ts i = At us i := by
  cases q : At ts i with
  | some y =>
    obtain ⟨e1, e2⟩ := (At_iff h i0).mp q
    exact ((At_iff h' i0).mpr ⟨by rw [← e]; exact e1, by rw [← e]; exact e2⟩).symm
  | none =>
    cases q2 : At us i with
    | none => rfl
    | some y =>
      obtain ⟨e1, e2⟩ := (At_iff h' i0).mp q2
      rw [(At_iff h i0).mpr ⟨by rw [e]; exact e1, by rw [e]; exact e2⟩] at q
      cases q
/-! ### rows in the heap -/
/-! ### breakers and rows -/
abbrev Tri := Int × Int × Int
def TriV (t : Tri) : List V := [.int t.1, .int t.2.1, .int t.2.2]
def BrAt (H : Hp) (x : V) (t : Tri) : Prop := ∃ a, x = .ref a ∧ H a = some (.tup (TriV t))
def OkT (t : Tri) : Prop := 1 ≤ t.1 ∧ t.1 ≤ 1000000000000 ∧ 1 ≤ t.2.1 ∧ t.2.1 ≤ 1000000000000000000000000000000 ∧ 1 ≤ t.2.2 ∧ t.2.2 ≤ 1000000000000
abbrev Brs (H : Hp) (xs : List V) (ts : List Tri) : Prop := Paired (BrAt H) xs ts
theorem BrAt.nl {H H' : Hp} (k : NL H H') {x : V} {t : Tri} (h : BrAt H x t) : BrAt H' x t := by
  obtain ⟨a, e, h⟩ := h
  exact ⟨a, e, k _ _ h fun _ z => nomatch z⟩
theorem Brs.nl {H H' : Hp} (k : NL H H') {xs : List V} {ts : List Tri} (h : Brs H xs ts) : Brs H' xs ts := L2.Paired.mapP h fun _ _ z => z.nl k
theorem Brs.len {H : Hp} : ∀ {xs : List V} {ts : List Tri}, Brs H xs ts → xs.length = ts.length
  | _, _, .nil => rfl
  | _, _, .cons _ t => congrArg Nat.succ (Brs.len t)
theorem Brs.get {H : Hp} : ∀ {xs : List V} {ts : List Tri} {i : Nat} {x : V}, Brs H xs ts → xs[i]? = some x → ∃ t, ts[i]? = some t ∧ BrAt H x t
  | _, _, _, _, .nil, e => by simp at e
  | _, _, 0, _, .cons r _, e => by simp at e; subst e; exact ⟨_, rfl, r⟩
  | _, _, i + 1, x, .cons _ t, e => by
    obtain ⟨u, h1, h2⟩ := Brs.get (i := i) (x := x) t (by simpa using e)
    exact ⟨u, by simpa using h1, h2⟩
theorem Brs.app {H : Hp} : ∀ {xs ys : List V} {ts us : List Tri}, Brs H xs ts → Brs H ys us → Brs H (xs ++ ys) (ts ++ us)
  | _, _, _, _, .nil, s => s
  | _, _, _, _, .cons r t, s => .cons r (Brs.app t s)
theorem Brs.rev {H : Hp} : ∀ {xs : List V} {ts : List Tri}, Brs H xs ts → Brs H xs.reverse ts.reverse
  | _, _, .nil => .nil
  | _, _, .cons r t => by
    rw [List.reverse_cons, List.reverse_cons]
    exact Brs.app (Brs.rev t) (.cons r .nil)
theorem Brs.take {H : Hp} : ∀ {xs : List V} {ts : List Tri} (n : Nat), Brs H xs ts → Brs H (xs.take n) (ts.take n)
  | _, _, 0, _ => .nil
  | _, _, _ + 1, .nil => .nil
  | _, _, n + 1, .cons r t => .cons r (Brs.take n t)
theorem Brs.drop {H : Hp} : ∀ {xs : List V} {ts : List Tri} (n : Nat), Brs H xs ts → Brs H (xs.drop n) (ts.drop n)
  | _, _, 0, r => r
  | _, _, _ + 1, .nil => .nil
  | _, _, n + 1, .cons _ t => Brs.drop n t
/-! the attributes of a row, as __init__ stores them -/
theorem k1 : ¬ (("breakers" : Str) = "step") := by decide +kernel
theorem k2 : ¬ (("breakers" : Str) = "phase") := by decide +kernel
theorem k3 : ¬ (("step" : Str) = "phase") := by decide +kernel
def rowF (T : Addr) (st ph : Int) : List (Str × V) := putF "phase" (.int ph) (putF "step" (.int st) (putF "breakers" (.ref T) []))
theorem rowF_b (T : Addr) (st ph : Int) : (rowF T st ph).lookup ("breakers" : Str) = some (.ref T) := by
  unfold rowF
  rw [lookup_putF, if_neg k2, lookup_putF, if_neg k1, lookup_putF, if_pos rfl]
theorem rowF_s (T : Addr) (st ph : Int) : (rowF T st ph).lookup ("step" : Str) = some (.int st) := by
  unfold rowF
  rw [lookup_putF, if_neg k3, lookup_putF, if_pos rfl]
theorem rowF_p (T : Addr) (st ph : Int) : (rowF T st ph).lookup ("phase" : Str) = some (.int ph) := by
  unfold rowF
  rw [lookup_putF, if_pos rfl]
theorem rowF_no (T : Addr) (st ph : Int) {m : Str} (h1 : ¬ m = "phase") (h2 : ¬ m = "step") (h3 : ¬ m = "breakers") : (rowF T st ph).lookup m = none := by
  unfold rowF
  rw [lookup_putF, if_neg h1, lookup_putF, if_neg h2, lookup_putF, if_neg h3]
  all_goals rfl
/-- a Row stands at p -/
structure RowAt (C : Addr) (H : Hp) (p T : Addr) (xs : List V) (ts : List Tri) (st ph : Int) : Prop where
  ob : ∃ dx, H p = some (.ins C dx (rowF T st ph))
  tp : H T = some (.tup xs)
  br : Brs H xs ts
  ok : ∀ t ∈ ts, OkT t
  ln : ts.length ≤ 12
  s0 : 1 ≤ st
  s1 : st ≤ 1000000000000000000000000000000
  p0 : 0 ≤ ph
  p1 : ph ≤ 1000000000000000000000000000000
theorem RowAt.nl {C : Addr} {H H' : Hp} {p T : Addr} {xs : List V} {ts : List Tri} {st ph : Int} (R : RowAt C H p T xs ts st ph) (k : NL H H') : RowAt C H' p T xs ts st ph := by
  obtain ⟨dx, h⟩ := R.ob
  exact ⟨⟨dx, k _ _ h fun _ z => nomatch z⟩, k _ _ R.tp fun _ z => (nomatch z), R.br.nl k, R.ok, R.ln, R.s0, R.s1, R.p0, R.p1⟩
/-! ### promises -/
def spIsBr : Sp := fun vs H Q _ => ∃ x t, vs = [x] ∧ BrAt H x t ∧ OkT t ∧ Q (.bl true) H
def spRChk : Sp := fun vs H Q _ => ∃ a xs ts pt, vs = [.ref a, .str pt] ∧ H a = some (.lst xs) ∧ Brs H xs ts ∧ (∀ t ∈ ts, OkT t) ∧ ts.length ≤ 12 ∧ ∀ H', Same H H' → Q .non H'
def spRStep : Sp := fun vs H Q _ => ∃ st : Int, vs = [.int st] ∧ 1 ≤ st ∧ st ≤ 1000000000000000000000000000000 ∧ Q .non H
def spRInit (C : Addr) : Sp := fun vs H Q _ => ∃ p a st ph xs ts dx, vs = [.ref p, .ref a, .int st, .int ph] ∧ H p = some (.ins C dx []) ∧ H a = some (.lst xs) ∧ Brs H xs ts ∧ (∀ t ∈ ts, OkT t) ∧ ts.length ≤ 12 ∧
  (1 ≤ st ∧ st ≤ 1000000000000000000000000000000 ∧ 0 ≤ ph ∧ ph ≤ 1000000000000000000000000000000) ∧ ∀ T H', RowAt C H' p T xs ts st ph → Kp p H H' → Q .non H'
def spRBl (C : Addr) : Sp := fun vs H Q _ => ∃ p T xs ts st ph, vs = [.ref p] ∧ RowAt C H p T xs ts st ph ∧ ∀ l H', H l = none → H' = upd H l (.lst xs) → Q (.ref l) H'
def spRSt (C : Addr) : Sp := fun vs H Q _ => ∃ p T xs ts st ph, vs = [.ref p] ∧ RowAt C H p T xs ts st ph ∧ Q (.int st) H
def spRPh (C : Addr) : Sp := fun vs H Q _ => ∃ p T xs ts st ph, vs = [.ref p] ∧ RowAt C H p T xs ts st ph ∧ Q (.int ph) H
def spRLen (C : Addr) : Sp := fun vs H Q _ => ∃ p T xs ts st ph, vs = [.ref p] ∧ RowAt C H p T xs ts st ph ∧ Q (.int xs.length) H
def spRGet (C : Addr) : Sp := fun vs H Q _ => ∃ p T xs ts st ph i x, vs = [.ref p, .int i] ∧ RowAt C H p T xs ts st ph ∧ 0 ≤ i ∧ atI xs i = some x ∧ i < xs.length ∧ Q x H
def spRCon (C : Addr) : Sp := fun vs H Q _ => ∃ p T xs ts st ph x n, vs = [.ref p, x] ∧ RowAt C H p T xs ts st ph ∧ Kd H x n ∧ Q (.bl (isI x && (decide (ph ≤ toI x) && decide ((toI x - ph) % st = 0)))) H
def spRRt (C : Addr) : Sp := fun vs H Q _ => ∃ p T xs ts st ph i, vs = [.ref p, .int i] ∧ RowAt C H p T xs ts st ph ∧ 0 ≤ i ∧ i ≤ BB ∧ Q (.int (ph + i * st)) H
def spRFr (C : Addr) : Sp := fun vs H Q _ => ∃ p T xs ts st ph i, vs = [.ref p, .int i] ∧ RowAt C H p T xs ts st ph ∧ 0 ≤ i ∧ Q (.int (stepsUp (i - ph) st)) H
theorem row_made {C : Addr} {H : Hp} {Q : Addr → Hp → Prop} {a : Addr} {st ph : Int} {xs : List V} {ts : List Tri} (ha : H a = some (.lst xs)) (hb : Brs H xs ts) (ho : ∀ t ∈ ts, OkT t) (hl : ts.length ≤ 12)
    (bd : 1 ≤ st ∧ st ≤ 1000000000000000000000000000000 ∧ 0 ≤ ph ∧ ph ≤ 1000000000000000000000000000000) (k : ∀ p T H', RowAt C H' p T xs ts st ph → Same H H' → H p = none → Q p H') :
    ∀ x dx, H x = none → H dx = none → dx ≠ x → spRInit C [.ref x, .ref a, .int st, .int ph] (upd (upd H dx (.own x)) x (.ins C dx [])) (fun v H3 => v = .non ∧ Q x H3) E0 := by
  intro x dx hx hd hne
  have s0 : Same H (upd (upd H dx (.own x)) x (.ins C dx [])) := fun b o e => by
    rw [upd_ne (ne_of_none e hx), upd_ne (ne_of_none e hd)]
    exact e
  refine ⟨x, a, st, ph, xs, ts, dx, rfl, upd_same, s0 _ _ ha, hb.nl (NL.of s0), ho, hl, bd, fun T H' R kp => ⟨rfl, k x T H' R (fun b o e => kp b o (ne_of_none e hx) (s0 b o e)) hx⟩⟩
abbrev RDat := List Tri × Int × Int
/-- what == is asked of -/
inductive EqOf (C : Addr) (H : Hp) (d : RDat) : V → Bool → Prop where
  | row {q U : Addr} {ys : List V} {us : List Tri} {st ph : Int} (R : RowAt C H q U ys us st ph) : EqOf C H d (.ref q) (decide (d = (us, st, ph)))
  | non : EqOf C H d .non false
  | lst {a : Addr} {xs : List V} (e : H a = some (.lst xs)) : EqOf C H d (.ref a) false
  | tup {a : Addr} {xs : List V} (e : H a = some (.tup xs)) : EqOf C H d (.ref a) false
theorem EqOf.nl {C : Addr} {H H' : Hp} {d : RDat} {v : V} {b : Bool} (h : EqOf C H d v b) (k : Same H H') : EqOf C H' d v b := by
  cases h with
  | row R => exact .row (R.nl (NL.of k))
  | non => exact .non
  | lst e => exact .lst (k _ _ e)
  | tup e => exact .tup (k _ _ e)
/-- breakers as data -/
def triD (t : Tri) : PyData := .tuple [.int t.1, .int t.2.1, .int t.2.2]
theorem Brs.dp {K : PySem.W.Frag} {H : Hp} : ∀ {xs : List V} {ts : List Tri}, Brs H xs ts → DpAll K H xs (ts.map triD)
  | _, _, .nil => .nil
  | _, _, .cons ⟨a, e, h⟩ t => by
    subst e
    exact .cons (.tup (SqT.of h) (.cons (.int _) (.cons (.int _) (.cons (.int _) .nil)))) (Brs.dp t)
theorem triD_eq (t u : Tri) : PyData.eqv (triD t) (triD u) = decide (t = u) := by
  obtain ⟨a, b, c⟩ := t
  obtain ⟨a', b', c'⟩ := u
  simp only [triD, PyData.eqv, PyData.eqvAll, Bool.and_true]
  rw [Bool.eq_iff_iff]
  simp [Prod.ext_iff]
theorem triDs_eq : ∀ ts us : List Tri, PyData.eqvAll (ts.map triD) (us.map triD) = decide (ts = us)
  | [], [] => by simp [PyData.eqvAll]
  | [], _ :: _ => by simp [PyData.eqvAll]
  | _ :: _, [] => by simp [PyData.eqvAll]
  | t :: ts, u :: us => by
    rw [List.map_cons, List.map_cons, PyData.eqvAll, triD_eq, triDs_eq ts us, Bool.eq_iff_iff]
    simp
theorem canAll : ∀ ts : List Tri, PyData.canLayAll0 (ts.map triD) = true
  | [] => by simp [PyData.canLayAll0]
  | t :: ts => by
    rw [List.map_cons, PyData.canLayAll0, canAll ts]
    simp [triD, PyData.canLay0, PyData.canLayAll0]
theorem depAll : ∀ ts : List Tri, PyData.depthAll (ts.map triD) ≤ 10
  | [] => by simp [PyData.depthAll]
  | t :: ts => by
    have := depAll ts
    rw [List.map_cons, PyData.depthAll]
    have h2 : (triD t).depth ≤ 10 := by simp [triD, PyData.depth, PyData.depthAll]
    omega
theorem shT (ts : List Tri) : SeqAt.shaped (.tuple (ts.map triD)) = true := by
  refine Bool.and_eq_true_iff.mpr ⟨?_, decide_eq_true ?_⟩
  · rw [PyData.canLay0]
    exact canAll ts
  · have := depAll ts
    rw [PyData.depth]
    omega

theorem wide200 {i j : Int} (h1 : i.natAbs < 2 ^ 200) (h2 : j.natAbs < 2 ^ 200) : CMulW i j := wide_mul h1 h2 (by decide) (by decide) (by decide)
theorem lt200 {i : Int} (h0 : 0 ≤ i) (h : i ≤ 1000000000000000000000000000000) : i.natAbs < 2 ^ 200 := Nat.lt_of_le_of_lt (show i.natAbs ≤ 1000000000000000000000000000000 by omega) (by decide)
theorem log200 {i : Int} (h0 : 1 ≤ i) (h : i ≤ 1000000000000000000000000000000) : i.natAbs.log2 < 9000 := (wide_div (by omega : 0 < i) (lt200 (by omega) h) (by decide) (by decide) (i := 0)).2
theorem st_bb {s : Int} (h : s ≤ 1000000000000000000000000000000) : s ≤ BB := Int.le_trans h (Int.le_trans (PB_of (n := 100) (by decide +kernel)) (PB_le (by decide)))
theorem k6_pos {P : Prop} {q : Prop} [Decidable P] [Decidable q] (h : P) (h' : q) : (decide P && decide q) = true := by rw [decide_eq_true h, decide_eq_true h']; rfl
section
variable {P : Program} {w : World} {K : PySem.W.Frag} {mg : Str → Option Value} {base : Heap} {L : LA}
abbrev N_isbreaker : List Str := ["value", "failures", "wait", "successes"]
theorem sc_isbreaker : FnScope N_isbreaker ["value"] (defScope st_is_breaker) := ⟨rfl, rfl, rfl, by decide +kernel, rfl, by decide +kernel, by decide +kernel⟩
theorem fn_isbreaker (T : LX K mg L) {fd : FuncData} (F : Fun K "is_breaker" "is_breaker" st_is_breaker L.f_is_breaker fd) : FnOk P w K mg base CX0 3 L.f_is_breaker fd ["value"] (spIsBr) := by
  have G_iswithin := ok_iswithin (P := P) (w := w) (base := base) T
  obtain ⟨tk_MOST_COUNT, c_MOST_COUNT⟩ := T.n_MOST_COUNT
  obtain ⟨tk_MOST_TIME, c_MOST_TIME⟩ := T.n_MOST_TIME
  have nd := sc_isbreaker.nd
  refine F.ok sc_isbreaker (fun vs H Q E h => ?_) (fun cdv A outer S H vs Q E hr h => ?_)
  · obtain ⟨x, t, rfl, _⟩ := h
    rfl
  · obtain ⟨x, t, rfl, ⟨a, rfl, ha⟩, ⟨h1, h2, h3, h4, h5, h6⟩, k⟩ := h
    refine ⟨_, (pss_cons (ps_if (PW.pt (pw_or (pt_not (pt_val (pe_callB call_isi (by rfl) T.b_isinstance (by decide +kernel) (pa_cons (pv 0) (pa_cons (pe_bltn (by rfl) T.b_tuple (by decide +kernel : bootBuiltins "tuple" = some (.type "tuple")) (v := .ty "tuple") rfl) pa_nil))))) (pw_or1 (pt_cmpR op_ne (pe_callB call_len_seq (by rfl) T.b_len PySem.boot_len (pa_cons (pv 0) pa_nil)) pe_int (nomark _))))) (pss_one (ps_ret pe_bl)) pss_nil)
       (pss_cons (ps_asg (pv 0) (pg_tup rfl (pgs_cons (pg_name (i := 1) nd rfl (Or.inl rfl)) (pgs_cons (pg_name (i := 2) nd rfl (Or.inl rfl)) (pgs_cons (pg_name (i := 3) nd rfl (Or.inl rfl)) pgs_nil)))))
       (pss_one (ps_ret (pe_and (pe_c G_iswithin (hr.mono (by decide)) rfl (pa_cons (pv 1) (pa_cons pe_int (pa_cons (pe_gI c_MOST_COUNT) pa_nil)))) (pe_and (pe_c G_iswithin (hr.mono (by decide)) rfl (pa_cons (pv 2) (pa_cons pe_int (pa_cons (pe_gI c_MOST_TIME) pa_nil)))) (pe_one (pe_c G_iswithin (hr.mono (by decide)) rfl (pa_cons (pv 3) (pa_cons pe_int (pa_cons (pe_gI c_MOST_COUNT) pa_nil))))))))))), ?_⟩
    refine ⟨_, rfl, _, .ty "tuple", _, _, _, rfl, .ty "tuple", (Kd.tup ha).ty, (Kd.tup ha).kit "tuple" _ (.inr ⟨by decide, by decide, rfl⟩), _, rfl, iteF ?_⟩
    refine ⟨_, rfl, a, _, rfl, .inr (SqT.of ha), rfl, _, rfl, iteF ?_⟩
    refine ⟨_, rfl, a, _, rfl, SqT.of ha, rfl, _, _, rfl, _, _, rfl, _, _, rfl, rfl, ?_⟩
    refine ⟨_, rfl, _, _, _, _, rfl, .int _, _, rfl, ?_⟩
    have e1 : (decide ((1 : Int) ≤ t.1) && decide (t.1 ≤ 1000000000000)) = true := k6_pos h1 h2
    have e2 : (decide ((1 : Int) ≤ t.2.1) && decide (t.2.1 ≤ 1000000000000000000000000000000)) = true := k6_pos h3 h4
    have e3 : (decide ((1 : Int) ≤ t.2.2) && decide (t.2.2 ≤ 1000000000000)) = true := k6_pos h5 h6
    show if (decide ((1 : Int) ≤ t.1) && decide (t.1 ≤ 1000000000000)) = true then _ else _
    rw [e1]
    refine iteT ?_
    refine ⟨_, rfl, _, _, _, _, rfl, .int _, _, rfl, ?_⟩
    show if (decide ((1 : Int) ≤ t.2.1) && decide (t.2.1 ≤ 1000000000000000000000000000000)) = true then _ else _
    rw [e2]
    refine iteT ?_
    refine ⟨_, rfl, _, _, _, _, rfl, .int _, ?_⟩
    show Q (.bl (decide ((1 : Int) ≤ t.2.2) && decide (t.2.2 ≤ 1000000000000))) H
    rw [e3]
    exact k
theorem ok_isbreaker (T : LX K mg L) : Cal P w K mg base "is_breaker" 3 L.f_is_breaker ["value"] (spIsBr) := T.d_is_breaker.cal fun fd F => fn_isbreaker T F
abbrev N_checkbreakers : List Str := ["breakers", "part", "at", "breaker"]
theorem sc_checkbreakers : FnScope N_checkbreakers ["breakers", "part"] (defScope st_check_breakers) := ⟨rfl, rfl, rfl, by decide +kernel, rfl, by decide +kernel, by decide +kernel⟩
theorem fn_checkbreakers (T : LX K mg L) {fd : FuncData} (F : Fun K "check_breakers" "check_breakers" st_check_breakers L.f_check_breakers fd) : FnOk P w K mg base CX0 4 L.f_check_breakers fd ["breakers", "part"] (spRChk) := by
  obtain ⟨tk_MOST_BREAKERS, c_MOST_BREAKERS⟩ := T.n_MOST_BREAKERS
  have G_isbreaker := ok_isbreaker (P := P) (w := w) (base := base) T
  have nd := sc_checkbreakers.nd
  refine F.ok sc_checkbreakers (fun vs H Q E h => ?_) (fun cdv A outer S H vs Q E hr h => ?_)
  · obtain ⟨a, xs, ts, pt, rfl, _⟩ := h
    rfl
  · obtain ⟨a, xs, ts, pt, rfl, ha, hb, ho, hl, k⟩ := h
    refine ⟨_, (pss_cons (ps_if (PW.pt (pw_or (pt_not (pt_val (pe_callB call_isi (by rfl) T.b_isinstance (by decide +kernel) (pa_cons (pv 0) (pa_cons (pe_bltn (by rfl) T.b_list (by decide +kernel : bootBuiltins "list" = some (.type "list")) (v := .ty "list") rfl) pa_nil))))) (pw_or1 (pt_cmpR op_gt (pe_callB call_len_seq (by rfl) T.b_len PySem.boot_len (pa_cons (pv 0) pa_nil)) (pe_gI c_MOST_BREAKERS) (nomark _))))) (pss_one (ps_never)) pss_nil)
       (pss_one (ps_for PassesOwn.never rfl (pi_enum (by rfl) T.b_enumerate (pa_cons (pv 0) pa_nil)) (pg_tup rfl (pgs_cons (pg_name (i := 2) nd rfl (Or.inl rfl)) (pgs_cons (pg_name (i := 3) nd rfl (Or.inl rfl)) pgs_nil))) (pss_one (ps_if (pt_not (pt_val (pe_c G_isbreaker (hr.mono (by decide)) rfl (pa_cons (pv 3) pa_nil)))) (pss_one (ps_never)) pss_nil))))), ?_⟩
    refine ⟨_, rfl, _, .ty "list", _, _, _, rfl, .ty "list", (Kd.lst ha).ty, (Kd.lst ha).kit "list" _ (.inr ⟨by decide, by decide, rfl⟩), _, rfl, iteF ?_⟩
    refine ⟨_, rfl, a, _, rfl, .inl (SqL.of ha), _, _, rfl, rfl, _, rfl, ?_⟩
    have hn : ¬ ((12 : Int) < (xs.length : Nat)) := by rw [hb.len]; omega
    rw [decide_eq_false hn]
    refine iteF ?_
    refine ⟨_, rfl, a, xs, rfl, SqL.of ha, for_enum (K := K) (a := a) (xs := xs) (fun i σ H2 => ∃ u v : Option V, σ = [some (.ref a), some (.str pt), u, v] ∧ Same H H2) ⟨none, none, rfl, Same.refl H⟩ (fun i σ H2 _ ⟨_, _, _, s2⟩ => SqL.of (s2 _ _ ha)) ?_ ?_⟩
    · rintro i x T' σ H2 hx ⟨u, v, rfl, s2⟩ hT
      obtain ⟨t, ht, hbr⟩ := hb.get hx
      have s3 : Same H (upd H2 T' (.tup [.int (i : Nat), x])) := s2.trans (Same.upd hT)
      refine ⟨T', _, rfl, SqT.of upd_same, rfl, _, _, rfl, _, _, rfl, rfl, ?_⟩
      refine ⟨_, rfl, x, t, rfl, hbr.nl (NL.of s3), ho t (List.mem_of_getElem? ht), _, rfl, iteF ?_⟩
      exact ⟨_, _, rfl, s3⟩
    · rintro σ H2 ⟨u, v, rfl, s2⟩
      exact k H2 s2
theorem ok_checkbreakers (T : LX K mg L) : Cal P w K mg base "check_breakers" 4 L.f_check_breakers ["breakers", "part"] (spRChk) := T.d_check_breakers.cal fun fd F => fn_checkbreakers T F
abbrev N_checkstep : List Str := ["step"]
theorem sc_checkstep : FnScope N_checkstep ["step"] (defScope st_check_step) := ⟨rfl, rfl, rfl, by decide +kernel, rfl, by decide +kernel, by decide +kernel⟩
theorem fn_checkstep (T : LX K mg L) {fd : FuncData} (F : Fun K "check_step" "check_step" st_check_step L.f_check_step fd) : FnOk P w K mg base CX0 3 L.f_check_step fd ["step"] (spRStep) := by
  have G_iswithin := ok_iswithin (P := P) (w := w) (base := base) T
  obtain ⟨tk_MOST_TIME, c_MOST_TIME⟩ := T.n_MOST_TIME
  have nd := sc_checkstep.nd
  refine F.ok sc_checkstep (fun vs H Q E h => ?_) (fun cdv A outer S H vs Q E hr h => ?_)
  · obtain ⟨st, rfl, _⟩ := h
    rfl
  · obtain ⟨st, rfl, b1, b2, k⟩ := h
    refine ⟨_, (pss_one (ps_if (pt_not (pt_val (pe_c G_iswithin (hr.mono (by decide)) rfl (pa_cons (pv 0) (pa_cons pe_int (pa_cons (pe_gI c_MOST_TIME) pa_nil)))))) (pss_one (ps_never)) pss_nil)), ?_⟩
    have e1 : (decide ((1 : Int) ≤ st) && decide (st ≤ 1000000000000000000000000000000)) = true := k6_pos b1 b2
    refine ⟨_, rfl, _, _, _, _, rfl, .int _, _, rfl, ?_⟩
    show if (!(decide ((1 : Int) ≤ st) && decide (st ≤ 1000000000000000000000000000000))) = true then _ else _
    rw [e1]
    exact iteF k
theorem ok_checkstep (T : LX K mg L) : Cal P w K mg base "check_step" 3 L.f_check_step ["step"] (spRStep) := T.d_check_step.cal fun fd F => fn_checkstep T F
end
/-! ### states of breakers, and data of them -/
abbrev StD := Str × Int
def StAt (H : Hp) (x : V) (s : StD) : Prop := ∃ a, x = .ref a ∧ H a = some (.tup [.str s.1, .int s.2])
abbrev Sts (H : Hp) (xs : List V) (ss : List StD) : Prop := Paired (StAt H) xs ss
theorem StAt.nl {H H' : Hp} (k : NL H H') {x : V} {d : StD} (h : StAt H x d) : StAt H' x d := by
  obtain ⟨a, e, h⟩ := h
  exact ⟨a, e, k _ _ h fun _ z => nomatch z⟩
theorem Sts.nl {H H' : Hp} (k : NL H H') {xs : List V} {ss : List StD} (h : Sts H xs ss) : Sts H' xs ss := L2.Paired.mapP h fun _ _ z => z.nl k
theorem paired_len {α β : Type} {F : α → β → Prop} : ∀ {xs : List α} {ys : List β}, Paired F xs ys → xs.length = ys.length
  | _, _, .nil => rfl
  | _, _, .cons _ p => by rw [List.length_cons, List.length_cons, paired_len p]
theorem paired_get {α β : Type} {F : α → β → Prop} : ∀ {xs : List α} {ys : List β} {i : Nat} {x : α}, Paired F xs ys → xs[i]? = some x → ∃ y, ys[i]? = some y ∧ F x y
  | _, _, i, x, .nil, e => by cases e
  | _, _, 0, x, .cons h _, e => by cases e; exact ⟨_, rfl, h⟩
  | _, _, i + 1, x, .cons _ p, e => paired_get (i := i) p e
theorem paired_get2 {α β : Type} {F : α → β → Prop} : ∀ {xs : List α} {ys : List β} {i : Nat} {y : β}, Paired F xs ys → ys[i]? = some y → ∃ x, xs[i]? = some x ∧ F x y
  | _, _, i, x, .nil, e => by cases e
  | _, _, 0, x, .cons h _, e => by cases e; exact ⟨_, rfl, h⟩
  | _, _, i + 1, x, .cons _ p, e => paired_get2 (i := i) p e
theorem paired_app {α β : Type} {F : α → β → Prop} : ∀ {xs us : List α} {ys vs : List β}, Paired F xs ys → Paired F us vs → Paired F (xs ++ us) (ys ++ vs)
  | _, _, _, _, .nil, q => q
  | _, _, _, _, .cons h p, q => .cons h (paired_app p q)
theorem StAt.same {H H' : Hp} (s : Same H H') {x : V} {d : StD} (h : StAt H x d) : StAt H' x d := by
  obtain ⟨a, e, h⟩ := h
  exact ⟨a, e, s _ _ h⟩
theorem Sts.same {H H' : Hp} (s : Same H H') {xs : List V} {ss : List StD} (h : Sts H xs ss) : Sts H' xs ss := L2.Paired.mapP h fun _ _ z => z.same s
/-- the breaker passes a request at t -/
def psB (b : Tri) (s : StD) (t : Int) : Prop := s.1 = "open" → b.2.1 ≤ t - s.2
def hfS (s : StD) : StD := if s.1 = "open" then ("half", 0) else s
def okS (b : Tri) (s : StD) : StD := if (hfS s).1 = "half" ∧ (hfS s).2 + 1 < b.2.2 then ("half", (hfS s).2 + 1) else ("closed", 0)
def badS (b : Tri) (s : StD) (t : Int) : StD := if (hfS s).1 = "closed" ∧ (hfS s).2 + 1 < b.1 then ("closed", (hfS s).2 + 1) else ("open", t)
theorem sC_O : ¬ (("closed" : Str) = "open") := by decide +kernel
theorem sH_O : ¬ (("half" : Str) = "open") := by decide +kernel
theorem sO_C : ¬ (("open" : Str) = "closed") := by decide +kernel
theorem sH_C : ¬ (("half" : Str) = "closed") := by decide +kernel
theorem sC_H : ¬ (("closed" : Str) = "half") := by decide +kernel
theorem sO_H : ¬ (("open" : Str) = "half") := by decide +kernel
theorem hf_closed (n : Int) : hfS (("closed" : Str), n) = (("closed" : Str), n) := if_neg sC_O
theorem hf_half (n : Int) : hfS (("half" : Str), n) = (("half" : Str), n) := if_neg sH_O
theorem hf_open (n : Int) : hfS (("open" : Str), n) = (("half" : Str), 0) := if_pos rfl
/-- what is told of a request that k of n breakers pass -/
def outV (n k : Nat) (inS : Bool) : List V := if k < n then [.str "rejected", .int k] else if inS then [.str "failed"] else [.str "served"]
def okW (s : StD) : Prop := s.1 = "closed" ∨ s.1 = "open" ∨ s.1 = "half"
def stD (s : StD) : PyData := .tuple [.str s.1, .int s.2]
theorem Sts.dp {K : PySem.W.Frag} {H : Hp} : ∀ {xs : List V} {ss : List StD}, Sts H xs ss → DpAll K H xs (ss.map stD)
  | _, _, .nil => .nil
  | _, _, .cons ⟨a, e, h⟩ t => by
    subst e
    exact .cons (.tup (SqT.of h) (.cons (.str _) (.cons (.int _) .nil))) (Sts.dp t)
theorem stD_eq (s u : StD) : PyData.eqv (stD s) (stD u) = decide (s = u) := by
  obtain ⟨a, b⟩ := s
  obtain ⟨a', b'⟩ := u
  simp only [stD, PyData.eqv, PyData.eqvAll, Bool.and_true]
  rw [Bool.eq_iff_iff]
  simp [Prod.ext_iff]
theorem stDs_eq : ∀ ss us : List StD, PyData.eqvAll (ss.map stD) (us.map stD) = decide (ss = us)
  | [], [] => by simp [PyData.eqvAll]
  | [], _ :: _ => by simp [PyData.eqvAll]
  | _ :: _, [] => by simp [PyData.eqvAll]
  | t :: ts, u :: us => by
    rw [List.map_cons, List.map_cons, PyData.eqvAll, stD_eq, stDs_eq ts us, Bool.eq_iff_iff]
    simp
theorem sok_W {s : StD} (h : okW s) : PyData.strOk s.1 = true := by
  obtain ⟨a, b⟩ := s
  rcases h with h | h | h
  · have h : a = "closed" := h
    subst h
    show PyData.strOk "closed" = true
    decide +kernel
  · have h : a = "open" := h
    subst h
    show PyData.strOk "open" = true
    decide +kernel
  · have h : a = "half" := h
    subst h
    show PyData.strOk "half" = true
    decide +kernel
theorem canSts : ∀ {ss : List StD}, (∀ s ∈ ss, okW s) → PyData.canLayAll0 (ss.map stD) = true
  | [], _ => by simp [PyData.canLayAll0]
  | t :: ts, h => by
    rw [List.map_cons, PyData.canLayAll0, canSts fun s hs => h s (List.mem_cons_of_mem _ hs)]
    simp [stD, PyData.canLay0, PyData.canLayAll0, sok_W (h t (List.mem_cons_self ..))]
theorem depSts : ∀ ss : List StD, PyData.depthAll (ss.map stD) ≤ 10
  | [] => by simp [PyData.depthAll]
  | t :: ts => by
    have := depSts ts
    rw [List.map_cons, PyData.depthAll]
    have h2 : (stD t).depth ≤ 10 := by simp [stD, PyData.depth, PyData.depthAll]
    omega
theorem shSts {ss : List StD} (h : ∀ s ∈ ss, okW s) : SeqAt.shaped (.list (ss.map stD)) = true := by
  refine Bool.and_eq_true_iff.mpr ⟨?_, decide_eq_true ?_⟩
  · rw [PyData.canLay0]
    exact canSts h
  · have := depSts ss
    rw [PyData.depth]
    omega
theorem Sts.dpl {K : PySem.W.Frag} {H : Hp} {l : Addr} {ys : List V} {ss : List StD} (h : H l = some (.lst ys)) (s : Sts H ys ss) : Dp K H (.ref l) (.list (ss.map stD)) := .lst (SqL.of h) s.dp
theorem eqSts (ss us : List StD) : PyData.eqv (.list (ss.map stD)) (.list (us.map stD)) = decide (ss = us) := by
  rw [PyData.eqv]
  exact stDs_eq ss us
/-! ### the states before all requests -/
theorem sts_rep {H : Hp} {t : Addr} {d : StD} (h : H t = some (.tup [.str d.1, .int d.2])) : ∀ n : Nat, Sts H (List.replicate n (V.ref t)) (List.replicate n d)
  | 0 => .nil
  | n + 1 => .cons ⟨t, rfl, h⟩ (sts_rep h n)
def spClosed : Sp := fun vs H Q _ => ∃ n : Nat, vs = [.int n] ∧ n ≤ 100 ∧ ∀ l ys H', H' l = some (.lst ys) → Sts H' ys (List.replicate n ("closed", 0)) → Same H H' → H l = none → Q (.ref l) H'
section
variable {P : Program} {w : World} {K : PySem.W.Frag} {mg : Str → Option Value} {base : Heap} {L : LA}
abbrev N_closedstates : List Str := ["number"]
theorem sc_closedstates : FnScope N_closedstates ["number"] (defScope st_closed_states) := ⟨rfl, rfl, rfl, by decide +kernel, rfl, by decide +kernel, by decide +kernel⟩
theorem fn_closedstates (T : LX K mg L) {fd : FuncData} (F : Fun K "closed_states" "closed_states" st_closed_states L.f_closed_states fd) : FnOk P w K mg base CX0 3 L.f_closed_states fd ["number"] (spClosed) := by
  have nd := sc_closedstates.nd
  refine F.ok sc_closedstates (fun vs H Q E h => ?_) (fun cdv A outer S H vs Q E hr h => ?_)
  · obtain ⟨n, rfl, _⟩ := h
    rfl
  · obtain ⟨n, rfl, hn, k⟩ := h
    refine ⟨_, (pss_one (ps_ret (pe_op op_rep (pe_lst (pa_cons (pe_tup (pa_cons pe_str (pa_cons pe_int pa_nil))) pa_nil)) (pv 0)))), ?_⟩
    refine ⟨(by show 2 ≤ sizeLine; decide), fun t ht => ⟨(by show 1 ≤ sizeLine; decide), fun l hl => ?_⟩⟩
    have s1 := Same.upd (o := .tup [.str "closed", .int 0]) ht
    have s2 := s1.trans (Same.upd (o := .lst [.ref t]) hl)
    refine ⟨_, rfl, ?_⟩
    refine ⟨l, _, [.ref t], rfl, rfl, upd_same, by omega, by omega, small2 (by rw [Int.toNat_natCast]; show 1 * n ≤ 100000; omega), fun r hr => ?_⟩
    have s3 := s2.trans (Same.upd (o := .lst (List.replicate (n : Int).toNat [V.ref t]).flatten) hr)
    refine k r _ _ upd_same ?_ s3 (none_of s2 hr)
    rw [Int.toNat_natCast, List.flatten_replicate_singleton]
    have ht3 : (upd (upd (upd H t (.tup [.str "closed", .int 0])) l (.lst [.ref t])) r (.lst (List.replicate n (V.ref t)))) t = some (.tup [.str "closed", .int 0]) := by
      have h1 : (upd (upd H t (.tup [.str "closed", .int 0])) l (.lst [.ref t])) t = some (.tup [.str "closed", .int 0]) := (Same.upd hl) _ _ upd_same
      rw [upd_ne (ne_of_none h1 hr)]
      exact h1
    exact sts_rep ht3 n
theorem ok_closedstates (T : LX K mg L) : Cal P w K mg base "closed_states" 3 L.f_closed_states ["number"] (spClosed) := T.d_closed_states.cal fun fd F => fn_closedstates T F
end
/-! ### lists of ints as data; what the law asks of told times -/
def intsD (ns : List Int) : PyData := .list (ns.map PyData.int)
theorem ints_dp {K : PySem.W.Frag} {H : Hp} : ∀ ns : List Int, DpAll K H (ns.map V.int) (ns.map PyData.int)
  | [] => .nil
  | n :: ns => .cons (.int n) (ints_dp ns)
theorem canInts : ∀ ns : List Int, PyData.canLayAll0 (ns.map PyData.int) = true
  | [] => by simp [PyData.canLayAll0]
  | n :: ns => by rw [List.map_cons, PyData.canLayAll0, canInts ns]; simp [PyData.canLay0]
theorem depInts : ∀ ns : List Int, PyData.depthAll (ns.map PyData.int) ≤ 10
  | [] => by simp [PyData.depthAll]
  | n :: ns => by
    have := depInts ns
    rw [List.map_cons, PyData.depthAll]
    have h2 : (PyData.int n).depth ≤ 10 := by simp [PyData.depth]
    omega
theorem shInts (ns : List Int) : SeqAt.shaped (intsD ns) = true := by
  refine Bool.and_eq_true_iff.mpr ⟨?_, decide_eq_true ?_⟩
  · unfold intsD
    rw [PyData.canLay0]
    exact canInts ns
  · have := depInts ns
    unfold intsD
    rw [PyData.depth]
    omega
theorem eqInts1 : ∀ ns ms : List Int, PyData.eqvAll (ns.map PyData.int) (ms.map PyData.int) = decide (ns = ms)
  | [], [] => by simp [PyData.eqvAll]
  | [], _ :: _ => by simp [PyData.eqvAll]
  | _ :: _, [] => by simp [PyData.eqvAll]
  | n :: ns, m :: ms => by
    rw [List.map_cons, List.map_cons, PyData.eqvAll, eqInts1 ns ms, Bool.eq_iff_iff]
    simp [PyData.eqv]
theorem eqInts (ns ms : List Int) : PyData.eqv (intsD ns) (intsD ms) = decide (ns = ms) := by
  unfold intsD
  rw [PyData.eqv]
  exact eqInts1 ns ms
theorem Dp.ints {K : PySem.W.Frag} {H : Hp} {a : Addr} {ns : List Int} (h : H a = some (.lst (ns.map V.int))) : Dp K H (.ref a) (intsD ns) := .lst (SqL.of h) (ints_dp ns)
/-! ### rules inside comprehensions -/
theorem call_lenK {X : Cx} {K : PySem.W.Frag} (h : X.K = K) : CallR X (.builtin "len") (fun xs H Q => ∃ p ys, xs = [.ref p] ∧ (SqL K H p ys ∨ SqT K H p ys) ∧ Q (.int ys.length) H) := h ▸ call_len_seq
theorem call_listK {X : Cx} {K : PySem.W.Frag} (h : X.K = K) : CallR X (.type "list") (fun xs H Q => ∃ p ys, xs = [.ref p] ∧ (SqL K H p ys ∨ SqT K H p ys) ∧ ∀ l, H l = none → Q (.ref l) (upd H l (.lst ys))) := h ▸ call_list_of
theorem op_neDK {X : Cx} {K : PySem.W.Frag} (h : X.K = K) (hu : X.A.units + 64 < cLine) : OpR X (compareOp .NotEq) (rNeD K) := h ▸ op_neD hu
theorem op_eqDK {X : Cx} {K : PySem.W.Frag} (h : X.K = K) (hu : X.A.units + 64 < cLine) : OpR X (compareOp .Eq) (rEqD K) := h ▸ op_eqD hu
theorem op_inK {X : Cx} {K : PySem.W.Frag} (h : X.K = K) : OpR X (compareOp CmpOp.In) (rIn K false) := h ▸ op_in_seq
theorem op_notInK {X : Cx} {K : PySem.W.Frag} (h : X.K = K) : OpR X (compareOp CmpOp.NotIn) (rIn K true) := h ▸ op_notIn_seq
/-! ### list.count of strings -/
def eqs (k : Str) (v : Value) : Bool := match v with
  | .str n _ => n == k
  | _ => false
def rCntS (K : PySem.W.Frag) : V → List V → Hp → VK → Prop := fun x xs H Q => ∃ (p : Addr) (ss : List Str) (k : Str), x = .ref p ∧ xs = [.str k] ∧ SqL K H p (ss.map V.str) ∧ Q (.int (ss.countP (fun y => decide (y = k)) : Nat)) H
theorem eqs_at {k : Str} {t : Tok} {A : Around} {s : Shared} : ∀ {ss : List Str} {us : List Value}, Vals (ss.map V.str) us → ∀ y ∈ us, SeqAt.EqAt A s y (.str k t) (eqs k y)
  | [], us, r => by
    rw [List.map_nil] at r
    cases r
    exact fun y hy => nomatch hy
  | n :: ss, us, r => by
    rw [List.map_cons] at r
    cases r with
    | cons r1 r2 =>
      obtain ⟨t', rfl⟩ := r1
      intro y hy
      rcases List.mem_cons.mp hy with q | q
      · rw [q]
        exact SeqAt.EqAt.str_str n t' k t
      · exact eqs_at r2 y q
theorem eqs_count {k : Str} : ∀ {ss : List Str} {us : List Value}, Vals (ss.map V.str) us → us.countP (eqs k) = ss.countP fun y => decide (y = k)
  | [], us, r => by
    rw [List.map_nil] at r
    cases r
    rfl
  | n :: ss, us, r => by
    rw [List.map_cons] at r
    cases r with
    | cons r1 r2 =>
      obtain ⟨t', rfl⟩ := r1
      have ih := eqs_count (k := k) r2
      rw [List.countP_cons, List.countP_cons, ih]
      rfl
theorem mt_scount {X : Cx} : MtR X "list.count" (rCntS X.K) := by
  intro pins s σ H x xs v us Q I rx rxs h
  obtain ⟨p, ns, k, rfl, rfl, hs, q⟩ := h
  cases rx
  obtain ⟨u, rfl, ru⟩ := rxs.one
  obtain ⟨t, rfl⟩ := ru
  obtain ⟨its, rv, ⟨⟨cls, dd, data, sl⟩, n, ho, hc, hdn, hd⟩, hlen⟩ := I.list hs
  simp only at hc hd
  subst hc hd
  refine call_meets PySem.F.slot_list_count ⟨_, ho, rfl⟩ PySem.F.entry_list_count (PySem.F.args_list_count_2 _ _)
    (SeqAt.list_countAt p its.toArray n dd sl (.str k t) (eqs k)) ⟨ho, fun y hy => eqs_at rv y (by simpa using hy), ?_⟩
  have ec : its.toArray.toList.countP (eqs k) = ns.countP fun y => decide (y = k) := eqs_count rv
  refine ⟨.int (ns.countP (fun y => decide (y = k)) : Nat), H, I.tok _, ⟨s.toks, ?_⟩, q⟩
  show Value.int ((its.toArray.toList.countP (eqs k) : Nat) : Int) s.toks = Value.int ((ns.countP (fun y => decide (y = k)) : Nat) : Int) s.toks
  rw [ec]
/-- a comprehension over enumerate -/
theorem lc_enum {K : PySem.W.Frag} {a : Addr} {xs : List V} {g : TG} {tt : TT} {te : TE} {vs : List Nat} {σ : L2.St} {H1 : Hp} {D : Addr} {Qd : Hp → Prop} (Pv : Nat → Hp → Prop) (h0 : Pv 0 (upd H1 D (.lst []))) (hl : ∀ i H, Pv i H → SqL K H a xs)
    (hs : ∀ (i : Nat) (x : V) (T : Addr) (H : Hp), xs[i]? = some x → Pv i H → H T = none → g (.ref T) (wipe σ vs) (upd H T (.tup [.int (i : Nat), x])) fun σ2 H2 => wipe σ2 vs = wipe σ vs ∧ tt σ2 H2 fun b H3 =>
      if b = true then te σ2 H3 fun y H4 => ∃ acc, H4 D = some (.lst acc) ∧ acc.length < sizeLine ∧ Pv (i + 1) (upd H4 D (.lst (acc ++ [y]))) else Pv (i + 1) H3) (hd : ∀ H, Pv xs.length H → Qd H) :
    ∃ W : Nat → Nat → Hp → Prop, (∃ m, W 0 m (upd H1 D (.lst []))) ∧ ∀ i m H, W i m H → ((Ite K a).stop i H ∧ Qd H) ∨ ((Ite K a).go i H ∧ ∃ Nx : Hp → Prop, (∀ H', Nx H' → ∃ m', m' < m ∧ W (i + 1) m' H') ∧ ∀ x H', (Ite K a).yld i H x H' → g x (wipe σ vs) H' fun σ2 H2 => wipe σ2 vs = wipe σ vs ∧ tt σ2 H2 fun b H3 =>
        if b = true then te σ2 H3 fun y H4 => ∃ acc, H4 D = some (.lst acc) ∧ acc.length < sizeLine ∧ Nx (upd H4 D (.lst (acc ++ [y]))) else Nx H3) := by
  refine ⟨fun i m H => m = xs.length - i ∧ i ≤ xs.length ∧ Pv i H, ⟨xs.length, by omega, Nat.zero_le _, h0⟩, ?_⟩
  rintro i m H ⟨rfl, hi, p⟩
  have q := hl i H p
  by_cases hlt : i < xs.length
  · refine .inr ⟨⟨xs, xs[i], q, List.getElem?_eq_getElem hlt⟩, Pv (i + 1), fun H' p' => ⟨xs.length - (i + 1), by omega, rfl, hlt, p'⟩, fun v H' y => ?_⟩
    obtain ⟨T, x', rfl, hT, rfl, f⟩ := y
    exact hs i x' T H (f xs q) p hT
  · have e : i = xs.length := by omega
    subst e
    exact .inl ⟨⟨xs, q, Nat.le_refl _⟩, hd H p⟩
theorem op_powW {X : Cx} : OpR X (binaryOp .Pow) (rI (fun i j => 0 ≤ j ∧ (Builtin.Int.intBits i : Int) * j ≤ 2 ^ 27) fun i j => .int (i ^ j.toNat)) := opI fun _ _ _ _ _ _ _ hc q => PyProof.Rows.pow_int hc.1 hc.2 q
/-! ### list.count over data -/
def rCntD (K : PySem.W.Frag) : V → List V → Hp → VK → Prop := fun x xs H Q => ∃ (p : Addr) (ys : List V) (ds : List PyData) (y : V) (d : PyData), x = .ref p ∧ xs = [y] ∧ SqL K H p ys ∧ DpAll K H ys ds ∧ Dp K H y d ∧ PyData.plainAll ds = true ∧ d.plain = true ∧ d.depth ≤ 10 ∧ Q (.int (ds.countP (fun e => PyData.eqv e d) : Nat)) H
theorem mt_dcount {X : Cx} (hu : X.A.units + 64 < cLine) : MtR X "list.count" (rCntD X.K) := by
  intro pins s σ H x xs v us Q I rx rxs h
  obtain ⟨p, ys, ds, y, d, rfl, rfl, hs, hd, hy, p1, p2, dl, q⟩ := h
  cases rx
  obtain ⟨u, rfl, ru⟩ := rxs.one
  obtain ⟨its, rv, hl, hlen⟩ := I.list hs
  obtain ⟨as, r1⟩ := Dp.readsAll I ds _ its hd rv
  obtain ⟨bs, r2⟩ := Dp.reads I d y u hy ru
  refine SeqAt.count_list_data hl.isList r1 r2 p1 p2 (by omega) ?_
  exact ⟨.int _, H, I.tok _, ⟨s.toks, rfl⟩, q⟩
theorem call_tupK {X : Cx} {K : PySem.W.Frag} (h : X.K = K) : CallR X (.type "tuple") (fun xs H Q => ∃ p ys, xs = [V.ref p] ∧ ((SqL K H p ys ∧ ∀ l : Addr, H l = none → Q (.ref l) (upd H l (.tup ys))) ∨ SqT K H p ys ∧ Q (.ref p) H)) := h ▸ call_tuple_of
/-! ### outages as data (small chains) -/
def cV : Option Int → V
  | none => .non
  | some c => .int c
abbrev Out := Int × Option Int
def OtAt (H : Hp) (x : V) (o : Out) : Prop := ∃ a, x = .ref a ∧ H a = some (.tup [.int o.1, cV o.2])
abbrev Ots (H : Hp) (xs : List V) (os : List Out) : Prop := Paired (OtAt H) xs os
theorem OtAt.same {H H' : Hp} (s : Same H H') {x : V} {d : Out} (h : OtAt H x d) : OtAt H' x d := by
  obtain ⟨a, e, h⟩ := h
  exact ⟨a, e, s _ _ h⟩
theorem OtAt.nl {H H' : Hp} (s : NL H H') {x : V} {d : Out} (h : OtAt H x d) : OtAt H' x d := by
  obtain ⟨a, e, h⟩ := h
  exact ⟨a, e, s _ _ h fun _ z => nomatch z⟩
theorem Ots.same {H H' : Hp} (s : Same H H') {xs : List V} {os : List Out} (h : Ots H xs os) : Ots H' xs os := L2.Paired.mapP h fun _ _ z => z.same s
theorem Ots.nl {H H' : Hp} (s : NL H H') {xs : List V} {os : List Out} (h : Ots H xs os) : Ots H' xs os := L2.Paired.mapP h fun _ _ z => z.nl s
def VOut : Int → List (Int × Int) → Prop
  | _, [] => True
  | m, o :: r => m ≤ o.1 ∧ o.1 < o.2 ∧ o.2 ≤ 1000000000000000000000000000000 ∧ VOut (o.2 + 1) r
def outs (os : List (Int × Int)) : List Out := os.map fun o => (o.1, some o.2)
theorem outs_len (os : List (Int × Int)) : (outs os).length = os.length := by unfold outs; rw [List.length_map]
theorem vout_mem : ∀ {os : List (Int × Int)} {m : Int}, VOut m os → ∀ o ∈ os, m ≤ o.1 ∧ o.1 < o.2 ∧ o.2 ≤ 1000000000000000000000000000000
  | [], m, _, o, ho => by cases ho
  | z :: r, m, h, o, ho => by
    obtain ⟨h1, h2, h3, h4⟩ := h
    rcases List.mem_cons.mp ho with rfl | ho
    · exact ⟨h1, h2, h3⟩
    · have := vout_mem h4 o ho
      omega
def NI (H H' : Hp) : Prop := ∀ b o, H b = some o → (∀ C dx fs, o ≠ .ins C dx fs) → H' b = some o
theorem NI.of {p C dx : Addr} {fs : List (Str × V)} {H H' : Hp} (k : Kp p H H') (h : H p = some (.ins C dx fs)) : NI H H' := fun b o e n => k b o (fun z => by
  subst z
  rw [h] at e
  cases e
  exact n _ _ _ rfl) e
theorem NI.trans {H H1 H2 : Hp} (a : NI H H1) (b : NI H1 H2) : NI H H2 := fun c o h n => b c o (a c o h n) n
theorem NI.same {H H' : Hp} (s : Same H H') : NI H H' := fun b o e _ => s b o e
theorem Ots.ni {H H' : Hp} (k : NI H H') {xs : List V} {ts : List Out} (h : Ots H xs ts) : Ots H' xs ts := L2.Paired.mapP h fun _ _ ⟨a, e, h⟩ => ⟨a, e, k _ _ h fun _ _ _ z => nomatch z⟩
def dn (os : List (Int × Int)) (x : Int) : Prop := ∃ o ∈ os, o.1 ≤ x ∧ x < o.2
theorem dn_app {a : List (Int × Int)} {o : Int × Int} {x : Int} : dn (a ++ [o]) x ↔ dn a x ∨ (o.1 ≤ x ∧ x < o.2) := by
  constructor
  · rintro ⟨u, hu, h⟩
    rcases List.mem_append.mp hu with hu | hu
    · exact .inl ⟨u, hu, h⟩
    · rw [List.mem_singleton.mp hu] at h
      exact .inr h
  · rintro (⟨u, hu, h⟩ | h)
    · exact ⟨u, List.mem_append_left _ hu, h⟩
    · exact ⟨o, List.mem_append_right _ (List.mem_cons_self ..), h⟩

def spIsOut : Sp := fun vs H Q _ => ∃ x, ∃ o : Int × Int, vs = [x] ∧ OtAt H x (o.1, some o.2) ∧ 0 ≤ o.1 ∧ o.1 < o.2 ∧ o.2 ≤ 1000000000000000000000000000000 ∧ Q (.bl true) H
def spChkO : Sp := fun vs H Q _ => ∃ a xs, ∃ os : List (Int × Int), vs = [.ref a] ∧ H a = some (.lst xs) ∧ Ots H xs (outs os) ∧ VOut 0 os ∧ os.length ≤ 50 ∧ ∀ H', Same H H' → Q .non H'
section
variable {P : Program} {w : World} {K : PySem.W.Frag} {mg : Str → Option Value} {base : Heap} {L : LA}
abbrev N_isoutage : List Str := ["value", "begin", "end"]
theorem sc_isoutage : FnScope N_isoutage ["value"] (defScope st_is_outage) := ⟨rfl, rfl, rfl, by decide +kernel, rfl, by decide +kernel, by decide +kernel⟩
theorem fn_isoutage (T : LX K mg L) {fd : FuncData} (F : Fun K "is_outage" "is_outage" st_is_outage L.f_is_outage fd) : FnOk P w K mg base CX0 3 L.f_is_outage fd ["value"] (spIsOut) := by
  have G_isatleast := ok_isatleast (P := P) (w := w) (base := base) T
  have G_iswithin := ok_iswithin (P := P) (w := w) (base := base) T
  obtain ⟨tk_MOST_TIME, c_MOST_TIME⟩ := T.n_MOST_TIME
  have nd := sc_isoutage.nd
  refine F.ok sc_isoutage (fun vs H Q E h => ?_) (fun cdv A outer S H vs Q E hr h => ?_)
  · obtain ⟨x, o, rfl, _⟩ := h
    rfl
  · obtain ⟨x, o, rfl, ⟨a, rfl, ha⟩, h1, h2, h3, k⟩ := h
    refine ⟨_, (pss_cons (ps_if (PW.pt (pw_or (pt_not (pt_val (pe_callB call_isi (by rfl) T.b_isinstance (by decide +kernel) (pa_cons (pv 0) (pa_cons (pe_bltn (by rfl) T.b_tuple (by decide +kernel : bootBuiltins "tuple" = some (.type "tuple")) (v := .ty "tuple") rfl) pa_nil))))) (pw_or1 (pt_cmpR op_ne (pe_callB call_len_seq (by rfl) T.b_len PySem.boot_len (pa_cons (pv 0) pa_nil)) pe_int (nomark _))))) (pss_one (ps_ret pe_bl)) pss_nil)
       (pss_cons (ps_asg (pv 0) (pg_tup rfl (pgs_cons (pg_name (i := 1) nd rfl (Or.inl rfl)) (pgs_cons (pg_name (i := 2) nd rfl (Or.inl rfl)) pgs_nil))))
       (pss_one (ps_ret (pe_and (pe_c G_isatleast (hr.mono (by decide)) rfl (pa_cons (pv 1) (pa_cons pe_int pa_nil))) (pe_one (pe_c G_iswithin (hr.mono (by decide)) rfl (pa_cons (pv 2) (pa_cons (pe_op op_add (pv 1) pe_int) (pa_cons (pe_gI c_MOST_TIME) pa_nil)))))))))), ?_⟩
    refine ⟨_, rfl, _, .ty "tuple", _, _, _, rfl, .ty "tuple", (Kd.tup ha).ty, (Kd.tup ha).kit "tuple" _ (.inr ⟨by decide, by decide, rfl⟩), _, rfl, iteF ?_⟩
    refine ⟨_, rfl, a, _, rfl, .inr (SqT.of ha), rfl, _, rfl, iteF ?_⟩
    refine ⟨_, rfl, a, _, rfl, SqT.of ha, rfl, _, _, rfl, _, _, rfl, rfl, ?_⟩
    refine ⟨_, rfl, _, _, _, rfl, .int _, _, rfl, ?_⟩
    show if (decide ((0 : Int) ≤ o.1)) = true then _ else _
    rw [decide_eq_true h1]
    refine iteT ⟨_, rfl, _, rfl, _, _, rfl, rfl, _, _, _, _, rfl, .int _, ?_⟩
    show Q (.bl (decide (o.1 + 1 ≤ o.2) && decide (o.2 ≤ 1000000000000000000000000000000))) H
    rw [k6_pos (show o.1 + 1 ≤ o.2 by omega) h3]
    exact k
theorem ok_isoutage (T : LX K mg L) : Cal P w K mg base "is_outage" 3 L.f_is_outage ["value"] (spIsOut) := T.d_is_outage.cal fun fd F => fn_isoutage T F
abbrev N_checkoutages : List Str := ["outages", "least", "at", "outage"]
theorem sc_checkoutages : FnScope N_checkoutages ["outages"] (defScope st_check_outages) := ⟨rfl, rfl, rfl, by decide +kernel, rfl, by decide +kernel, by decide +kernel⟩
theorem fn_checkoutages (T : LX K mg L) {fd : FuncData} (F : Fun K "check_outages" "check_outages" st_check_outages L.f_check_outages fd) : FnOk P w K mg base CX0 4 L.f_check_outages fd ["outages"] (spChkO) := by
  obtain ⟨tk_MOST_OUTAGES, c_MOST_OUTAGES⟩ := T.n_MOST_OUTAGES
  have G_isoutage := ok_isoutage (P := P) (w := w) (base := base) T
  have nd := sc_checkoutages.nd
  refine F.ok sc_checkoutages (fun vs H Q E h => ?_) (fun cdv A outer S H vs Q E hr h => ?_)
  · obtain ⟨a, xs, os, rfl, _⟩ := h
    rfl
  · obtain ⟨a, xs, os, rfl, ha, hx, hv, hl, k⟩ := h
    refine ⟨_, (pss_cons (ps_if (PW.pt (pw_or (pt_not (pt_val (pe_callB call_isi (by rfl) T.b_isinstance (by decide +kernel) (pa_cons (pv 0) (pa_cons (pe_bltn (by rfl) T.b_list (by decide +kernel : bootBuiltins "list" = some (.type "list")) (v := .ty "list") rfl) pa_nil))))) (pw_or1 (pt_cmpR op_gt (pe_callB call_len_seq (by rfl) T.b_len PySem.boot_len (pa_cons (pv 0) pa_nil)) (pe_gI c_MOST_OUTAGES) (nomark _))))) (pss_one (ps_never)) pss_nil)
       (pss_cons (ps_set (i := 1) nd rfl (Or.inl rfl) pe_int)
       (pss_one (ps_for PassesOwn.never rfl (pi_enum (by rfl) T.b_enumerate (pa_cons (pv 0) pa_nil)) (pg_tup rfl (pgs_cons (pg_name (i := 2) nd rfl (Or.inl rfl)) (pgs_cons (pg_name (i := 3) nd rfl (Or.inl rfl)) pgs_nil))) (pss_cons (ps_if (PW.pt (pw_or (pt_not (pt_val (pe_c G_isoutage (hr.mono (by decide)) rfl (pa_cons (pv 3) pa_nil)))) (pw_or1 (pt_cmpR op_lt (pe_ix (r := rIxT K) ix_tup (pv 3) pe_int (fun _ _ => rfl)) (pv 1) (nomark _))))) (pss_one (ps_never)) pss_nil)
       (pss_one (ps_set (i := 1) nd rfl (Or.inl rfl) (pe_op op_add (pe_ix (r := rIxT K) ix_tup (pv 3) pe_int (fun _ _ => rfl)) pe_int)))))))), ?_⟩
    have xl := paired_len hx
    have ol : (outs os).length = os.length := by unfold outs; rw [List.length_map]
    refine ⟨_, rfl, _, .ty "list", _, _, _, rfl, .ty "list", (Kd.lst ha).ty, (Kd.lst ha).kit "list" _ (.inr ⟨by decide, by decide, rfl⟩), _, rfl, iteF ?_⟩
    refine ⟨_, rfl, a, _, rfl, .inl (SqL.of ha), _, _, rfl, rfl, _, rfl, ?_⟩
    have hn : ¬ ((50 : Int) < (xs.length : Nat)) := by omega
    rw [decide_eq_false hn]
    refine iteF ?_
    refine ⟨_, rfl, a, xs, rfl, SqL.of ha, for_enum (K := K) (a := a) (xs := xs) (fun i σ H2 => ∃ m, ∃ u v : Option V, σ = [some (.ref a), some (.int m), u, v] ∧ Same H H2 ∧ VOut m (os.drop i) ∧ 0 ≤ m) ⟨0, none, none, rfl, Same.refl H, hv, Int.le_refl _⟩ (fun i σ H2 _ ⟨_, _, _, _, s2, _⟩ => SqL.of (s2 _ _ ha)) ?_ ?_⟩
    · rintro i x T' σ H2 hxi ⟨m, u, v, rfl, s2, vo, mm⟩ hT
      obtain ⟨o', ho', hox⟩ := paired_get hx hxi
      obtain ⟨o, ho, rfl⟩ : ∃ o, os[i]? = some o ∧ o' = (o.1, some o.2) := by
        unfold outs at ho'
        rw [List.getElem?_map] at ho'
        cases q : os[i]? with
        | none => rw [q] at ho'; cases ho'
        | some o => rw [q] at ho'; cases ho'; exact ⟨o, rfl, rfl⟩
      have hi := (List.getElem?_eq_some_iff.mp ho).1
      have dr : os.drop i = o :: os.drop (i + 1) := by
        rw [List.drop_eq_getElem_cons hi]
        congr 1
        exact (List.getElem?_eq_some_iff.mp ho).2
      rw [dr] at vo
      obtain ⟨v1, v2, v3, v4⟩ := vo
      have m0 : 0 ≤ o.1 := by omega
      have s3 : Same H (upd H2 T' (.tup [.int (i : Nat), x])) := s2.trans (Same.upd hT)
      have hox3 := hox.same s3
      refine ⟨T', _, rfl, SqT.of upd_same, rfl, _, _, rfl, _, _, rfl, rfl, ?_⟩
      refine ⟨_, rfl, x, o, rfl, hox3, m0, v2, v3, _, rfl, iteF ?_⟩
      obtain ⟨c, rfl, hc⟩ := hox3
      refine ⟨_, rfl, c, _, 0, .int o.1, rfl, rfl, SqT.of hc, rfl, _, rfl, _, _, rfl, rfl, _, rfl, ?_⟩
      rw [decide_eq_false (show ¬ o.1 < m by omega)]
      refine iteF ⟨_, rfl, c, _, 1, .int o.2, rfl, rfl, SqT.of hc, rfl, _, _, rfl, rfl, ?_⟩
      exact ⟨_, _, _, rfl, s3, v4, by omega⟩
    · rintro σ H2 ⟨m, u, v, rfl, s2, _⟩
      exact k H2 s2
theorem ok_checkoutages (T : LX K mg L) : Cal P w K mg base "check_outages" 4 L.f_check_outages ["outages"] (spChkO) := T.d_check_outages.cal fun fd F => fn_checkoutages T F
end
def upB (os : List (Int × Int)) (t : Int) : Bool := !(os.any fun o => decide (o.1 ≤ t) && decide (t < o.2))
theorem upB_iff {os : List (Int × Int)} {t : Int} : upB os t = true ↔ ¬ dn os t := by
  unfold upB dn
  simp
/-! ### zip of a tuple and a list -/
section
open PySem.Builtin.SmallTypes
/-- what next() walks: an iterator over a sequence -/
structure Wk (prog : Program) (w : World) where
  it : Heap → Addr → Addr → Nat → Prop
  sq : Heap → Addr → Array Value → Prop
  itx : ∀ {g g' : Heap} {a b l : Addr} {n : Nat}, it g a l n → Heap.ExtBut b g g' → a ≠ b → it g' a l n
  sqx : ∀ {g g' : Heap} {a b : Addr} {xs : Array Value}, sq g a xs → Heap.ExtBut b g g' → a ≠ b → sq g' a xs
  ita : ∀ {g g' : Heap} {a l : Addr} {n : Nat}, it g a l n → (∀ o, g.get? a = some o → g'.get? a = some o) → it g' a l n
  ito : ∀ {g : Heap} {a l : Addr} {n : Nat}, it g a l n → ∃ o, g.get? a = some o ∧ ∃ f, o.data = .fields f
  nxt : ∀ {A : Around} {E : Value → Shared → Prop} {s : Shared} {a l : Addr} {n : Nat} {xs : Array Value} {x : Value} {Q : Value → Shared → Prop}, it s.heap a l n → sq s.heap l xs → xs[n]? = some x →
    (∀ g, it g a l (n + 1) → Heap.SameBut a s.heap g → Q x { s with heap := g }) → wpAny (model prog w) A (nextOf (.ref a)) Q E s
  fin : ∀ {A : Around} {E : Value → Shared → Prop} {s : Shared} {a l : Addr} {n : Nat} {xs : Array Value} {Q : Value → Shared → Prop}, A.handled = none → it s.heap a l n → sq s.heap l xs → xs[n]? = none →
    (∀ g e, Heap.ExtBut a s.heap g → (∃ o, g.get? e = some o ∧ o.cls = .type "StopIteration") → E (.ref e) { s with heap := g }) → wpAny (model prog w) A (nextOf (.ref a)) Q E s
def wkL (prog : Program) (w : World) : Wk prog w where
  it := Heap.IsListIter
  sq := Heap.IsList
  itx := fun x h n => x.extBut h n
  sqx := fun x h n => x.extBut h n
  ita := fun x e => x.at e
  ito := fun x => by obtain ⟨o, e, _, d⟩ := x; exact ⟨o, e, _, d⟩
  nxt := fun a b c d => wpAny_nextOf_list_item a b c d
  fin := fun a b c d e => wpAny_nextOf_list_end a b c d e
def wkT (prog : Program) (w : World) : Wk prog w where
  it := Heap.IsTupleIter
  sq := Heap.IsTuple
  itx := fun x h n => x.extBut h n
  sqx := fun x h n => x.extBut h n
  ita := fun x e => x.at e
  ito := fun x => by obtain ⟨o, e, _, d⟩ := x; exact ⟨o, e, _, d⟩
  nxt := fun a b c d => RZ.nextOf_tuple_item a b c d
  fin := fun a b c d e => RZ.nextOf_tuple_end a b c d e
section
variable {prog : Program} {w : World} {A : Around} {E : Value → Shared → Prop} {s : Shared} (U V : Wk prog w)
/-- the kept of a step -/
def Kz (z T i j : Addr) (g g' : Heap) : Prop := ∀ c o, c ≠ z → c ≠ T → c ≠ i → c ≠ j → g.get? c = some o → g'.get? c = some o
theorem zw_item {z T R i j a b : Addr} {m n : Nat} {xs ys : Array Value} {x y p q : Value} {Q : Value → Shared → Prop} (D : ZipApart z T R i j a b) (hz : IsZip s.heap z T R .none) (hT : IsPair s.heap T (.ref i) (.ref j)) (hR : IsPair s.heap R p q)
    (hi : U.it s.heap i a m) (hj : V.it s.heap j b n) (ha : U.sq s.heap a xs) (hb : V.sq s.heap b ys) (ex : xs[m]? = some x) (ey : ys[n]? = some y)
    (k : ∀ g, IsZip g z T R (rawInt s.heap.objs.size) → IsPair g R x y → U.it g i a (m + 1) → V.it g j b (n + 1) → IsPair g s.heap.objs.size x y → g.objs.size = s.heap.objs.size + 1 → Kz z R i j s.heap g → Q (.ref s.heap.objs.size) { s with heap := g }) :
    wpAny (model prog w) A (Builtin.«zip.__next__» ⟨[.ref z], []⟩) (fun r s' => ∃ v, r = .done (.ret v) ∧ Q v s') E s := by
  show wpAny _ _ (field (.ref z) 2 >>= fun _ => _) _ _ _
  refine wpAny_bind (wpAny_field hz rfl (x := .bool false) rfl (show wpAny _ _ (field (.ref z) 3 >>= fun _ => _) _ _ _ from ?_))
  refine wpAny_bind (wpAny_field hz rfl (x := .ref T) rfl (wpAny_bind (wpAny_seqItems hT rfl (show wpAny _ _ (ownedTupleIsFree (.ref z) >>= fun _ => _) _ _ _ from wpAny_bind ?_))))
  unfold Builtin.SmallTypes.ownedTupleIsFree
  refine wpAny_bind (wpAny_field hz rfl (x := .none) rfl (wpAny_pure ?_)); simp only [if_true]
  refine wpAny_bind (wpAny_rule (wpAny_bind (wpAny_field hz rfl (x := .ref R) rfl (wpAny_bind (wpAny_setField_rec hz (by simp) fun g1 z1 s1 => ?_)))))
  replace z1 : IsZip g1 z T R .ellipsis := z1
  refine wpAny_bind ?_; simp only [List.zipIdx_cons, List.zipIdx_nil, List.forIn_cons, List.forIn_nil]
  refine wpAny_bind (wpAny_bind (wpAny_onRaise (show wpAny _ _ (nextOf (.ref i) >>= fun _ => _) _ _ _ from ?_)))
  refine wpAny_bind (U.nxt (U.itx hi s1.extBut D.i1z) (U.sqx ha s1.extBut D.l1z) ex fun g2 i2 s2 => wpAny_pure ?_)
  have R2 : IsPair g2 R p q := s2.extBut _ _ D.TOi1 (s1.extBut _ _ D.TOz hR)
  refine wpAny_bind (wpAny_seqItems R2 rfl (wpAny_bind (wpAny_updateSeq_pair R2 fun g3 R3 s3 => wpAny_bind (wpAny_letGo (wpAny_pure ?_)))))
  replace R3 : IsPair g3 R x q := R3
  refine wpAny_bind (wpAny_bind (wpAny_onRaise (show wpAny _ _ (nextOf (.ref j) >>= fun _ => _) _ _ _ from ?_)))
  refine wpAny_bind (V.nxt (V.itx (V.itx (V.itx hj s1.extBut D.i2z) s2.extBut D.i12.symm) s3.extBut D.TOi2.symm) (V.sqx (V.sqx (V.sqx hb s1.extBut D.l2z) s2.extBut D.l2i1) s3.extBut D.l2TO) ey fun g4 j4 s4 => wpAny_pure ?_)
  have R4 : IsPair g4 R x q := s4.extBut _ _ D.TOi2 R3
  refine wpAny_bind (wpAny_seqItems R4 rfl (wpAny_bind (wpAny_updateSeq_pair R4 fun g5 R5 s5 => wpAny_bind (wpAny_letGo (wpAny_pure (wpAny_pure ?_))))))
  replace R5 : IsPair g5 R x y := R5
  refine wpAny_bind (wpAny_seqItems R5 rfl (wpAny_bind (wpAny_newTuple ?_)))
  have e5 : g5.objs.size = s.heap.objs.size := by rw [s5.1, s4.1, s3.1, s2.1, s1.1]
  have z5 : IsZip g5 z T R .ellipsis := s5.extBut _ _ D.TOz.symm (s4.extBut _ _ D.i2z.symm (s3.extBut _ _ D.TOz.symm (s2.extBut _ _ D.i1z.symm z1)))
  have k5 : Kz z R i j s.heap g5 := fun c o c1 c2 c3 c4 e => s5.extBut _ _ c2 (s4.extBut _ _ c4 (s3.extBut _ _ c2 (s2.extBut _ _ c3 (s1.extBut _ _ c1 e))))
  have i5 : U.it g5 i a (m + 1) := U.itx (U.itx (U.itx i2 s3.extBut D.TOi1.symm) s4.extBut D.i12) s5.extBut D.TOi1.symm
  have j5 : V.it g5 j b (n + 1) := V.itx j4 s5.extBut D.TOi2.symm
  show wpAny _ _ (ownedTupleHandOut (.ref z) (.ref g5.objs.size) >>= fun _ => _) _ _ _
  refine wpAny_bind ?_; unfold Builtin.SmallTypes.ownedTupleHandOut
  have z6 : IsZip (g5.push { cls := .type "tuple", data := .seq #[x, y] }) z T R .ellipsis := Heap.get?_push_of_some _ z5
  refine wpAny_bind (wpAny_setField_rec z6 (by simp) fun g7 z7 s7 => ?_)
  replace z7 : IsZip g7 z T R (rawInt g5.objs.size) := z7
  refine wpAny_setField_rec z7 (by simp) fun g8 z8 s8 => ?_
  replace z8 : IsZip g8 z T R (rawInt g5.objs.size) := z8
  have up : ∀ c o, c ≠ z → g5.get? c = some o → g8.get? c = some o := fun c o c1 e => s8.extBut _ _ c1 (s7.extBut _ _ c1 (Heap.get?_push_of_some _ e))
  have T8 : IsPair g8 g5.objs.size x y := s8.extBut _ _ (Nat.ne_of_gt (Heap.lt_size z5)) (s7.extBut _ _ (Nat.ne_of_gt (Heap.lt_size z5)) (Heap.get?_push_size _ rfl))
  have e8 : g8.objs.size = g5.objs.size + 1 := by rw [s8.1, s7.1, Heap.size_push]
  rw [e5] at z8 T8 e8
  refine wpAny_pure ⟨_, rfl, (show Q (.ref g5.objs.size) _ from ?_)⟩
  rw [e5]
  exact k g8 z8 (up _ _ D.TOz R5) (U.ita i5 fun o e => up _ o D.i1z e) (V.ita j5 fun o e => up _ o D.i2z e) T8 e8 fun c o c1 c2 c3 c4 e => up c o c1 (k5 c o c1 c2 c3 c4 e)
theorem zw_fin {z T R i j a b : Addr} {m n : Nat} {xs ys : Array Value} {p q : Value} {Q : Fin → Shared → Prop} (hh : A.handled = none) (D : ZipApart z T R i j a b) (hz : IsZip s.heap z T R .none) (hT : IsPair s.heap T (.ref i) (.ref j)) (hR : IsPair s.heap R p q)
    (hi : U.it s.heap i a m) (hj : V.it s.heap j b n) (ha : U.sq s.heap a xs) (hb : V.sq s.heap b ys) (en : xs[m]? = none ∨ ys[n]? = none)
    (k : ∀ g e, Kz z R i j s.heap g → (∃ o, g.get? e = some o ∧ o.cls = .type "StopIteration") → E (.ref e) { s with heap := g }) :
    wpAny (model prog w) A (Builtin.«zip.__next__» ⟨[.ref z], []⟩) Q E s := by
  show wpAny _ _ (field (.ref z) 2 >>= fun _ => _) _ _ _
  refine wpAny_bind (wpAny_field hz rfl (x := .bool false) rfl (show wpAny _ _ (field (.ref z) 3 >>= fun _ => _) _ _ _ from ?_))
  refine wpAny_bind (wpAny_field hz rfl (x := .ref T) rfl (wpAny_bind (wpAny_seqItems hT rfl (show wpAny _ _ (ownedTupleIsFree (.ref z) >>= fun _ => _) _ _ _ from wpAny_bind ?_))))
  unfold Builtin.SmallTypes.ownedTupleIsFree
  refine wpAny_bind (wpAny_field hz rfl (x := .none) rfl (wpAny_pure ?_)); simp only [if_true]
  refine wpAny_bind (wpAny_rule (wpAny_bind (wpAny_field hz rfl (x := .ref R) rfl (wpAny_bind (wpAny_setField_rec hz (by simp) fun g1 z1 s1 => ?_)))))
  replace z1 : IsZip g1 z T R .ellipsis := z1
  refine wpAny_bind ?_; simp only [List.zipIdx_cons, List.zipIdx_nil, List.forIn_cons, List.forIn_nil]
  refine wpAny_bind (wpAny_bind (wpAny_onRaise (show wpAny _ _ (nextOf (.ref i) >>= fun _ => _) _ _ _ from ?_)))
  cases ex : xs[m]? with
  | none =>
    refine wpAny_bind (U.fin hh (U.itx hi s1.extBut D.i1z) (U.sqx ha s1.extBut D.l1z) ex fun g2 e s2 he => ?_)
    obtain ⟨oe, h1, h2⟩ := he
    have z2 : IsZip g2 z T R .ellipsis := s2 _ _ D.i1z.symm z1
    have ne : e ≠ z := fun c => by subst c; rw [z2] at h1; cases h1; simp at h2
    exact wpAny_setField_rec z2 (by simp) fun g3 _ s3 => k g3 e (fun c o c1 _ c3 _ r => s3.extBut _ _ c1 (s2 _ _ c3 (s1.extBut _ _ c1 r))) ⟨oe, s3.extBut _ _ ne h1, h2⟩
  | some x =>
    have ey : ys[n]? = none := by rcases en with h | h; (rw [ex] at h; cases h); exact h
    refine wpAny_bind (U.nxt (U.itx hi s1.extBut D.i1z) (U.sqx ha s1.extBut D.l1z) ex fun g2 i2 s2 => wpAny_pure ?_)
    have R2 : IsPair g2 R p q := s2.extBut _ _ D.TOi1 (s1.extBut _ _ D.TOz hR)
    refine wpAny_bind (wpAny_seqItems R2 rfl (wpAny_bind (wpAny_updateSeq_pair R2 fun g3 R3 s3 => wpAny_bind (wpAny_letGo (wpAny_pure ?_)))))
    refine wpAny_bind (wpAny_bind (wpAny_onRaise (show wpAny _ _ (nextOf (.ref j) >>= fun _ => _) _ _ _ from ?_)))
    refine wpAny_bind (V.fin hh (V.itx (V.itx (V.itx hj s1.extBut D.i2z) s2.extBut D.i12.symm) s3.extBut D.TOi2.symm) (V.sqx (V.sqx (V.sqx hb s1.extBut D.l2z) s2.extBut D.l2i1) s3.extBut D.l2TO) ey fun g4 e s4 he => ?_)
    obtain ⟨oe, h1, h2⟩ := he
    have z4 : IsZip g4 z T R .ellipsis := s4 _ _ D.i2z.symm (s3.extBut _ _ D.TOz.symm (s2.extBut _ _ D.i1z.symm z1))
    have ne : e ≠ z := fun c => by subst c; rw [z4] at h1; cases h1; simp at h2
    exact wpAny_setField_rec z4 (by simp) fun g5 _ s5 => k g5 e (fun c o c1 c2 c3 c4 r => s5.extBut _ _ c1 (s4 _ _ c4 (s3.extBut _ _ c2 (s2.extBut _ _ c3 (s1.extBut _ _ c1 r))))) ⟨oe, s5.extBut _ _ ne h1, h2⟩
theorem zw_next {z T R i j a b : Addr} {m n : Nat} {xs ys : Array Value} {x y p q : Value} {Q : Option Value → Shared → Prop} (D : ZipApart z T R i j a b) (hz : IsZip s.heap z T R .none) (hT : IsPair s.heap T (.ref i) (.ref j)) (hR : IsPair s.heap R p q)
    (hi : U.it s.heap i a m) (hj : V.it s.heap j b n) (ha : U.sq s.heap a xs) (hb : V.sq s.heap b ys) (ex : xs[m]? = some x) (ey : ys[n]? = some y)
    (k : ∀ g, IsZip g z T R (rawInt s.heap.objs.size) → IsPair g R x y → U.it g i a (m + 1) → V.it g j b (n + 1) → IsPair g s.heap.objs.size x y → g.objs.size = s.heap.objs.size + 1 → Kz z R i j s.heap g → Q (some (.ref s.heap.objs.size)) { s with heap := g }) :
    wpAny (model prog w) A (pyNext (.ref z)) Q E s := by
  have hT' : s.TypeIs (.ref z) "zip" := ⟨_, hz, rfl⟩
  unfold pyNext
  exact wpAny_bind (wpAny_attempt (wpAny_callSpecial?_slot (name := Str.ofString "__next__") hT' F.slot_zip_next (wpAny_call_entry F.slot_zip_next hT' F.entry_zip_next
    (zw_item U V D hz hT hR hi hj ha hb ex ey fun g a1 a2 a3 a4 a5 a6 a7 => wpAny_pure (k g a1 a2 a3 a4 a5 a6 a7)) (F.args_zip_next_1 _))))
theorem zw_done {z T R i j a b : Addr} {m n : Nat} {xs ys : Array Value} {p q : Value} {Q : Option Value → Shared → Prop} (hh : A.handled = none) (D : ZipApart z T R i j a b) (hz : IsZip s.heap z T R .none) (hT : IsPair s.heap T (.ref i) (.ref j)) (hR : IsPair s.heap R p q)
    (hi : U.it s.heap i a m) (hj : V.it s.heap j b n) (ha : U.sq s.heap a xs) (hb : V.sq s.heap b ys) (en : xs[m]? = none ∨ ys[n]? = none) (k : ∀ g, Kz z R i j s.heap g → Q none { s with heap := g }) : wpAny (model prog w) A (pyNext (.ref z)) Q E s := by
  have hT' : s.TypeIs (.ref z) "zip" := ⟨_, hz, rfl⟩
  unfold pyNext
  refine wpAny_bind (wpAny_attempt (wpAny_callSpecial?_slot (name := Str.ofString "__next__") hT' F.slot_zip_next (wpAny_call_entry F.slot_zip_next hT' F.entry_zip_next (zw_fin U V hh D hz hT hR hi hj ha hb en fun g e hk he => ?_) (F.args_zip_next_1 _))))
  obtain ⟨o, ho, hc⟩ := he
  exact wpAny_bind (wpAny_isInstance (T := "StopIteration") (b := true) ⟨o, ho, hc⟩ isSubtype_stop (wpAny_pure (k _ hk)))
end
abbrev zmA (h : Heap) (a : Addr) : Heap := h.push { cls := .type "tuple_iterator", data := .fields #[.ref a, .int 0 0] }
abbrev zmB (h : Heap) (a b : Addr) : Heap := (zmA h a).push { cls := .type "list_iterator", data := .fields #[.ref b, .int 0 0] }
abbrev zmC (h : Heap) (a b : Addr) : Heap := (zmB h a b).push { cls := .type "tuple", data := .seq #[.ref h.objs.size, .ref (zmA h a).objs.size] }
abbrev zmD (h : Heap) (a b : Addr) : Heap := (zmC h a b).push { cls := .type "tuple", data := .seq #[.none, .none] }
abbrev zmE (h : Heap) (a b : Addr) : Heap := (zmD h a b).push { cls := .type "zip", data := .fields #[.none, .bool false, .bool false, .ref (zmB h a b).objs.size, .ref (zmC h a b).objs.size] }
theorem zm_new (a b : Addr) (xs ys : Array Value) :
    Meets (Builtin.«zip.__new__» ⟨[.type "zip", .ref a, .ref b], []⟩) (fun _ R s => s.heap.IsTuple a xs ∧ s.heap.IsList b ys ∧ R (.ok (.ret (.ref (zmD s.heap a b).objs.size))) { s with heap := zmE s.heap a b }) :=
  .of_wp fun prog w A R s h => by
    obtain ⟨hp, g, d, tk, os⟩ := s; obtain ⟨h1, h2, h⟩ := h
    have hsub := sub_zip
    have h3 : Heap.IsTuple (Shared.heap ⟨hp, g, d, tk, os⟩) a xs := h1
    have h4 : Heap.IsList (Shared.heap ⟨hp.push { cls := .type "tuple_iterator", data := .fields #[.ref a, .int 0 0] }, g, d, tk, os⟩) b ys := Heap.IsList.push h2 _
    wp_walk using wpAny_pyIter_tuple h3, wpAny_pyIter_list h4
    exact ⟨_, rfl, h⟩
theorem call_zipM {prog : Program} {w : World} {A : Around} {E : Value → Shared → Prop} {s : Shared} {a b : Addr} {xs ys : Array Value} {Q : Value → Shared → Prop} (h1 : s.heap.IsTuple a xs) (h2 : s.heap.IsList b ys)
    (k : ∀ g, IsZip g (s.heap.objs.size + 4) (s.heap.objs.size + 2) (s.heap.objs.size + 3) .none → IsPair g (s.heap.objs.size + 2) (.ref s.heap.objs.size) (.ref (s.heap.objs.size + 1)) → IsPair g (s.heap.objs.size + 3) .none .none →
      g.IsTupleIter s.heap.objs.size a 0 → g.IsListIter (s.heap.objs.size + 1) b 0 → (∀ c o, s.heap.get? c = some o → g.get? c = some o) → Q (.ref (s.heap.objs.size + 4)) { s with heap := g }) :
    wpAny (model prog w) A (call (.type "zip") [.ref a, .ref b]) Q E s := by
  refine callType_new F.called_zip (by decide) (F.typeCall_zip_2 _ _) (F.newCall_zip_2 _ _) (fun o => F.args_object_init_3 o _ _) F.entry_zip_new (zm_new a b xs ys) ⟨h1, h2, ?_⟩
  have z1 : (zmA s.heap a).objs.size = s.heap.objs.size + 1 := Heap.size_push ..
  have z2 : (zmB s.heap a b).objs.size = s.heap.objs.size + 2 := by rw [Heap.size_push, z1]
  have z3 : (zmC s.heap a b).objs.size = s.heap.objs.size + 3 := by rw [Heap.size_push, z2]
  have z4 : (zmD s.heap a b).objs.size = s.heap.objs.size + 4 := by rw [Heap.size_push, z3]
  have g5 : (zmE s.heap a b).get? (zmD s.heap a b).objs.size = some _ := Heap.get?_push_size _ rfl
  have g4 : (zmE s.heap a b).get? (zmC s.heap a b).objs.size = some _ := Heap.get?_push_of_some _ (Heap.get?_push_size _ rfl)
  have g3 : (zmE s.heap a b).get? (zmB s.heap a b).objs.size = some _ := Heap.get?_push_of_some _ (Heap.get?_push_of_some _ (Heap.get?_push_size _ rfl))
  have g2 : (zmE s.heap a b).get? (zmA s.heap a).objs.size = some _ := Heap.get?_push_of_some _ (Heap.get?_push_of_some _ (Heap.get?_push_of_some _ (Heap.get?_push_size _ rfl)))
  have g1 : (zmE s.heap a b).get? s.heap.objs.size = some _ := Heap.get?_push_of_some _ (Heap.get?_push_of_some _ (Heap.get?_push_of_some _ (Heap.get?_push_of_some _ (Heap.get?_push_size _ rfl))))
  show _ ∧ _
  rw [z2, z3, z4] at g5
  rw [z1, z2] at g3
  rw [z3] at g4
  rw [z1] at g2
  rw [z4]
  exact ⟨⟨_, g5, rfl⟩, k _ g5 g3 g4 ⟨_, g1, rfl, rfl⟩ ⟨_, g2, rfl, rfl⟩ fun c o x => Heap.get?_push_of_some _ (Heap.get?_push_of_some _ (Heap.get?_push_of_some _ (Heap.get?_push_of_some _ (Heap.get?_push_of_some _ x))))⟩
end
section
open PyProof.Rows
/-- the tuple at a and the list at b, item by item in new pairs -/
def ItzM (K : PySem.W.Frag) (a b : Addr) : It :=
  ⟨fun i H => ∃ (xs ys : List V) (x y : V), SqT K H a xs ∧ SqL K H b ys ∧ xs[i]? = some x ∧ ys[i]? = some y,
    fun i H v H' => ∃ T x y, v = .ref T ∧ H T = none ∧ H' = upd H T (.tup [x, y]) ∧ (∀ xs, SqT K H a xs → xs[i]? = some x) ∧ ∀ ys, SqL K H b ys → ys[i]? = some y,
    fun i H => ∃ xs ys : List V, SqT K H a xs ∧ SqL K H b ys ∧ (xs.length ≤ i ∨ ys.length ≤ i)⟩
theorem turn_zipM {P : Program} {w : World} {K : PySem.W.Frag} {elts : List Expr} {kk : Nat} {tpos : Pos} {a b z T R i j : Addr} (D : ZipApart z T R i j a b) :
    Turn P w K (.Tuple elts kk tpos) (ItzM K a b) [z, T, R, i, j] z (fun n h => IsZip h z T R .none ∧ IsPair h T (.ref i) (.ref j) ∧ (∃ x y, IsPair h R x y) ∧ h.IsTupleIter i a n ∧ h.IsListIter j b n) where
  mem := List.mem_cons_self ..
  obj := fun n h st c hc => by
    obtain ⟨hz, hT, ⟨x, y, hR⟩, ⟨o1, e1, _, d1⟩, ⟨o2, e2, _, d2⟩⟩ := st
    simp only [List.mem_cons, List.mem_nil_iff, or_false] at hc
    rcases hc with rfl | rfl | rfl | rfl | rfl
    · exact ⟨_, hz, fun v q => nomatch q⟩
    · exact ⟨_, hT, fun v q => nomatch q⟩
    · exact ⟨_, hR, fun v q => nomatch q⟩
    · exact ⟨o1, e1, fun v q => by rw [d1] at q; cases q⟩
    · exact ⟨o2, e2, fun v q => by rw [d2] at q; cases q⟩
  keep := fun n h h' st k => by
    obtain ⟨hz, hT, ⟨x, y, hR⟩, h1, h2⟩ := st
    exact ⟨k z (by simp) _ hz, k T (by simp) _ hT, ⟨x, y, k R (by simp) _ hR⟩, h1.at fun o q => k i (by simp) o q, h2.at fun o q => k j (by simp) o q⟩
  item := by
    intro X eP ew eK hc n pins s σ H E I hf st hg
    subst eP ew eK
    obtain ⟨hz, hT, ⟨x0, y0, hR⟩, h1, h2⟩ := st
    obtain ⟨xs, ys, x, y, qx, qy, hx, hy⟩ := hg
    obtain ⟨its, rv, p, _⟩ := I.tuple qx
    obtain ⟨its2, rv2, p2, _⟩ := I.list qy
    obtain ⟨u, hu, ru⟩ := rv.get hx
    obtain ⟨u2, hu2, ru2⟩ := rv2.get hy
    have lz : z < s.heap.objs.size := Heap.lt_size hz
    refine zw_next (wkT X.prog X.w) (wkL X.prog X.w) D hz hT hR h1 h2 p p2.isList (x := u) (y := u2) (by simpa using hu) (by simpa using hu2) fun h' z' R' h1' h2' hN hsz hk => ?_
    refine ⟨_, rfl, wpAny_letOwnedTupleGo_zip (s := { s with heap := h' }) z' fun h'' z'' sb => ?_⟩
    have hN2 : h''.get? s.heap.objs.size = some { cls := .type "tuple", data := .seq #[u, u2] } := (sb.2 _ (Nat.ne_of_gt lz)).trans hN
    have new : ObjOk X.prog X.w (upd H s.heap.objs.size (.tup [x, y])) h'' s.heap.objs.size (.tup [x, y]) := ⟨by show 2 ≤ sizeLine; decide, [u, u2], .cons ru (.cons ru2 .nil), ⟨_, hN2, rfl, _, rfl⟩⟩
    have I1 : Inv X pins σ (upd H s.heap.objs.size (.tup [x, y])) { s with heap := h'' } := I.turnedNew (t' := s.toks) (ch := [z, T, R, i, j])
      (fun c o hb q => (sb.2 c (fun r => hb (by simp [r]))).trans (hk c o (fun r => hb (by simp [r])) (fun r => hb (by simp [r])) (fun r => hb (by simp [r])) (fun r => hb (by simp [r])) q)) hf (Nat.le_refl _) new
    refine ⟨.ref s.heap.objs.size, _, I1, rfl, ⟨_, x, y, rfl, I.hok.fresh (Nat.le_refl _), rfl, fun l hl => by rw [I.tuple_inj hl qx]; exact hx, fun l hl => by rw [I.list_inj hl qy]; exact hy⟩, ⟨z'', ?_, ⟨u, u2, ?_⟩, ?_, ?_⟩, fun c hcm => ?_⟩
    · exact (sb.2 _ D.TIz).trans (hk _ _ D.TIz D.TITO D.TIi1 D.TIi2 hT)
    · exact (sb.2 _ D.TOz).trans R'
    · exact (wkT X.prog X.w).ita h1' fun o q => (sb.2 _ D.i1z).trans q
    · exact (wkL X.prog X.w).ita h2' fun o q => (sb.2 _ D.i2z).trans q
    · have lt : c < s.heap.objs.size := by
        have hc2 := hcm
        simp only [List.mem_cons, List.mem_nil_iff, or_false] at hc2
        rcases hc2 with rfl | rfl | rfl | rfl | rfl
        · exact lz
        · exact Heap.lt_size hT
        · exact Heap.lt_size hR
        · obtain ⟨_, e1, _⟩ := h1; exact Heap.lt_size e1
        · obtain ⟨_, e2, _⟩ := h2; exact Heap.lt_size e2
      rw [upd_ne (Nat.ne_of_lt lt)]
      exact (hf c hcm).1
  done := by
    intro X eP ew eK hc n pins s σ H E I hf st hg
    subst eP ew eK
    obtain ⟨hz, hT, ⟨x0, y0, hR⟩, h1, h2⟩ := st
    obtain ⟨xs, ys, qx, qy, hend⟩ := hg
    obtain ⟨its, rv, p, _⟩ := I.tuple qx
    obtain ⟨its2, rv2, p2, _⟩ := I.list qy
    have l1 := rv.length
    have l2 := rv2.length
    have he : its.toArray[n]? = none ∨ its2.toArray[n]? = none := by
      rcases hend with q | q
      · left; simp; omega
      · right; simp; omega
    exact zw_done (wkT X.prog X.w) (wkL X.prog X.w) (I.ok.hd hc) D hz hT hR h1 h2 p p2.isList he fun h' hk => ⟨rfl, I.turnedL (t' := s.toks) (ch := [z, T, R, i, j])
      (fun c o hb q => hk c o (fun r => hb (by simp [r])) (fun r => hb (by simp [r])) (fun r => hb (by simp [r])) (fun r => hb (by simp [r])) q) hf⟩
  self := fun A n s Q E st h => wpAny_pyIter_zip st.1 h
def iZipM (K : PySem.W.Frag) (ta : TA) : TI := fun σ H R => ta σ H fun vs H1 => ∃ a b xs ys, vs = [.ref a, .ref b] ∧ SqT K H1 a xs ∧ SqL K H1 b ys ∧ R (ItzM K a b) H1
theorem pi_zipM {X : Cx} {e e2 : Expr} {ta : TA} {p pos tpos : Pos} {elts : List Expr} {kk : Nat} (hg : Gl X "zip") (hm : X.mg "zip" = none) (ha : PA X [e, e2] ta)
    (hs : starEach [e, e2] X.env = (false, eval e X.env) :: starEach [e2] X.env := by rfl) (hpl : (backTo pos (starEach [e2] X.env)).any (·.1) = false := by rfl) : PI X (.Tuple elts kk tpos) (.Call (.Name "zip" p) [e, e2] [] pos) (iZipM X.K ta) := by
  refine ⟨fun pins s σ H R I w0 => ?_⟩
  refine Call_ (ld_blt I hg hm PyProof.Rows.boot_zip (PyProof.Rows.callWith_type1 (thn (ha.run pos pins s σ H _ I w0) fun us s1 ⟨vs, H1, I1, r1, q1⟩ => ?_) hs hpl))
  obtain ⟨a, b, xs, ys, ex, qx, qy, q⟩ := q1
  subst ex
  cases r1 with
  | cons r rr =>
    cases rr with
    | cons r' rr =>
      cases rr; cases r; cases r'
      obtain ⟨its, rv, p1, _⟩ := I1.tuple qx
      obtain ⟨its2, rv2, p2, _⟩ := I1.list qy
      obtain ⟨o1, ho1, _⟩ := id p1
      have fr : ∀ c, c ∈ [s1.heap.objs.size + 4, s1.heap.objs.size + 2, s1.heap.objs.size + 3, s1.heap.objs.size, s1.heap.objs.size + 1] → FpOk X pins H1 c := fun c hcm => by
        have e' : c = s1.heap.objs.size + 4 ∨ c = s1.heap.objs.size + 2 ∨ c = s1.heap.objs.size + 3 ∨ c = s1.heap.objs.size ∨ c = s1.heap.objs.size + 1 := by simpa using hcm
        have le : s1.heap.objs.size ≤ c := by
          rcases e' with c | c | c | c | c
          · rw [c]; exact Nat.le_add_right _ _
          · rw [c]; exact Nat.le_add_right _ _
          · rw [c]; exact Nat.le_add_right _ _
          · rw [c]; exact Nat.le_refl _
          · rw [c]; exact Nat.le_add_right _ _
        exact I1.fpOk le (I1.hok.fresh le)
      refine call_zipM (show s1.heap.IsTuple a its.toArray from p1) p2.isList fun h' hz hT hR h1 h2 hk => wpAny_pyIter_zip hz ?_
      have I2 : Inv X pins σ H1 { s1 with heap := h' } := I1.kept (t' := s1.toks) hk
      exact ⟨s1.heap.objs.size + 4, [s1.heap.objs.size + 4, s1.heap.objs.size + 2, s1.heap.objs.size + 3, s1.heap.objs.size, s1.heap.objs.size + 1], _, _, H1, rfl, I2, turn_zipM (PySem.W.ktu_apart s1.heap.objs.size a b (Heap.lt_size ho1) p2.lt), ⟨hz, hT, ⟨_, _, hR⟩, h1, h2⟩, fr, q⟩
/-- a comprehension over zip of a tuple and a list -/
theorem lc_zipM {K : PySem.W.Frag} {a b : Addr} {xs ys : List V} {g : TG} {tt : TT} {te : TE} {vs : List Nat} {σ : L2.St} {H1 : Hp} {D : Addr} {Qd : Hp → Prop} (hlen : xs.length ≤ ys.length) (Pv : Nat → Hp → Prop) (h0 : Pv 0 (upd H1 D (.lst []))) (hl : ∀ i H, Pv i H → SqT K H a xs ∧ SqL K H b ys)
    (hs : ∀ (i : Nat) (x y : V) (T : Addr) (H : Hp), xs[i]? = some x → ys[i]? = some y → Pv i H → H T = none → g (.ref T) (wipe σ vs) (upd H T (.tup [x, y])) fun σ2 H2 => wipe σ2 vs = wipe σ vs ∧ tt σ2 H2 fun b H3 =>
      if b = true then te σ2 H3 fun y H4 => ∃ acc, H4 D = some (.lst acc) ∧ acc.length < sizeLine ∧ Pv (i + 1) (upd H4 D (.lst (acc ++ [y]))) else Pv (i + 1) H3) (hd : ∀ H, Pv xs.length H → Qd H) :
    ∃ W : Nat → Nat → Hp → Prop, (∃ m, W 0 m (upd H1 D (.lst []))) ∧ ∀ i m H, W i m H → ((ItzM K a b).stop i H ∧ Qd H) ∨ ((ItzM K a b).go i H ∧ ∃ Nx : Hp → Prop, (∀ H', Nx H' → ∃ m', m' < m ∧ W (i + 1) m' H') ∧ ∀ x H', (ItzM K a b).yld i H x H' → g x (wipe σ vs) H' fun σ2 H2 => wipe σ2 vs = wipe σ vs ∧ tt σ2 H2 fun b H3 =>
        if b = true then te σ2 H3 fun y H4 => ∃ acc, H4 D = some (.lst acc) ∧ acc.length < sizeLine ∧ Nx (upd H4 D (.lst (acc ++ [y]))) else Nx H3) := by
  refine ⟨fun i m H => m = xs.length - i ∧ i ≤ xs.length ∧ Pv i H, ⟨xs.length, by omega, Nat.zero_le _, h0⟩, ?_⟩
  rintro i m H ⟨rfl, hi, p⟩
  obtain ⟨qx, qy⟩ := hl i H p
  by_cases c : i < xs.length
  · have hx : xs[i]? = some xs[i] := List.getElem?_eq_getElem c
    have hy : ys[i]? = some ys[i] := List.getElem?_eq_getElem (by omega)
    refine .inr ⟨⟨xs, ys, _, _, qx, qy, hx, hy⟩, Pv (i + 1), fun H' p' => ⟨xs.length - (i + 1), by omega, rfl, c, p'⟩, fun v H' yl => ?_⟩
    obtain ⟨T, x', y', rfl, hT, rfl, f1, f2⟩ := yl
    exact hs i x' y' T H (f1 xs qx) (f2 ys qy) p hT
  · have e : i = xs.length := by omega
    subst e
    exact .inl ⟨⟨xs, ys, qx, qy, .inl (Nat.le_refl _)⟩, hd H p⟩
end
/-! ### one request, by the law -/
def mixE (bs : List Tri) (ss : List StD) (t : Int) (f : Bool) (j k i : Nat) : StD := match bs[i]?, ss[i]? with
  | some b, some s => if i < j then (if f = true then okS b s else badS b s t) else if i < k then hfS s else s
  | _, _ => ("closed", 0)
def mixS (bs : List Tri) (ss : List StD) (t : Int) (f : Bool) (j k : Nat) : List StD := (List.range bs.length).map (mixE bs ss t f j k)
theorem mixE_is {bs : List Tri} {ss : List StD} {t : Int} {f : Bool} {j k i : Nat} {b : Tri} {s : StD} (hb : bs[i]? = some b) (hs : ss[i]? = some s) : mixE bs ss t f j k i = if i < j then (if f = true then okS b s else badS b s t) else if i < k then hfS s else s := by
  unfold mixE
  rw [hb, hs]
theorem mixS_get {bs : List Tri} {ss : List StD} {t : Int} {f : Bool} {j k i : Nat} (h : i < bs.length) : (mixS bs ss t f j k)[i]? = some (mixE bs ss t f j k i) := by
  unfold mixS
  rw [List.getElem?_map, List.getElem?_range h]
  rfl
theorem mixS_len {bs : List Tri} {ss : List StD} {t : Int} {f : Bool} {j k : Nat} : (mixS bs ss t f j k).length = bs.length := by
  unfold mixS
  rw [List.length_map, List.length_range]
theorem map_set {α : Type} {n : Nat} {f g : Nat → α} {i : Nat} {v : α} (hi : i < n) (h1 : v = g i) (h2 : ∀ j, j ≠ i → j < n → f j = g j) : ((List.range n).map f).set i v = (List.range n).map g := by
  refine List.ext_getElem? fun j => ?_
  rw [List.getElem?_set, List.length_map, List.length_range, List.getElem?_map, List.getElem?_map]
  by_cases c : i = j
  · subst c
    rw [if_pos rfl, if_pos hi, List.getElem?_range hi, h1]
    rfl
  · rw [if_neg c]
    by_cases d : j < n
    · rw [List.getElem?_range d]
      exact congrArg some (h2 j (fun e => c e.symm) d)
    · rw [List.getElem?_eq_none (by rw [List.length_range]; omega)]
      rfl
theorem mixS_0 {bs : List Tri} {ss : List StD} {t : Int} {f : Bool} (h : ss.length = bs.length) : mixS bs ss t f 0 0 = ss := by
  refine List.ext_getElem? fun j => ?_
  by_cases c : j < bs.length
  · have hb : bs[j]? = some bs[j] := List.getElem?_eq_getElem c
    have hs : ss[j]? = some (ss[j]'(by omega)) := List.getElem?_eq_getElem (by omega)
    rw [mixS_get c, mixE_is hb hs, hs, if_neg (Nat.not_lt_zero j), if_neg (Nat.not_lt_zero j)]
  · rw [List.getElem?_eq_none (by rw [mixS_len]; omega), List.getElem?_eq_none (by omega)]
theorem mixS_half {bs : List Tri} {ss : List StD} {t : Int} {f : Bool} {i : Nat} {b : Tri} {s : StD} (hb : bs[i]? = some b) (hs : ss[i]? = some s) : (mixS bs ss t f 0 i).set i (hfS s) = mixS bs ss t f 0 (i + 1) := by
  refine map_set (List.getElem?_eq_some_iff.mp hb).1 ?_ fun j ne hj => ?_
  · rw [mixE_is hb hs, if_neg (Nat.not_lt_zero i), if_pos (Nat.lt_succ_self i)]
  · unfold mixE
    cases bs[j]? with
    | none => rfl
    | some b' =>
      cases ss[j]? with
      | none => rfl
      | some s' =>
        show (if j < 0 then _ else if j < i then _ else _) = (if j < 0 then _ else if j < i + 1 then _ else _)
        rw [if_neg (Nat.not_lt_zero j), if_neg (Nat.not_lt_zero j)]
        by_cases c : j < i
        · rw [if_pos c, if_pos (show j < i + 1 by omega)]
        · rw [if_neg c, if_neg (show ¬ j < i + 1 by omega)]
theorem mixS_fin {bs : List Tri} {ss : List StD} {t : Int} {f : Bool} {j k : Nat} {b : Tri} {s : StD} (hb : bs[j]? = some b) (hs : ss[j]? = some s) : (mixS bs ss t f j k).set j (if f = true then okS b s else badS b s t) = mixS bs ss t f (j + 1) k := by
  refine map_set (List.getElem?_eq_some_iff.mp hb).1 ?_ fun i ne hi => ?_
  · rw [mixE_is hb hs, if_pos (Nat.lt_succ_self j)]
  · unfold mixE
    cases bs[i]? with
    | none => rfl
    | some b' =>
      cases ss[i]? with
      | none => rfl
      | some s' =>
        show (if i < j then _ else _) = (if i < j + 1 then _ else _)
        by_cases c : i < j
        · rw [if_pos c, if_pos (show i < j + 1 by omega)]
        · rw [if_neg c, if_neg (show ¬ i < j + 1 by omega)]
theorem mixS_same {bs : List Tri} {ss : List StD} {t : Int} {f g : Bool} {k : Nat} : mixS bs ss t f 0 k = mixS bs ss t g 0 k := by
  refine List.map_congr_left fun i _ => ?_
  unfold mixE
  cases bs[i]? with
  | none => rfl
  | some b' =>
    cases ss[i]? with
    | none => rfl
    | some s' => rfl
theorem mixS_keep {bs : List Tri} {ss : List StD} {t : Int} {f : Bool} {i : Nat} {b : Tri} {s : StD} (hb : bs[i]? = some b) (hs : ss[i]? = some s) (h : hfS s = s) : mixS bs ss t f 0 i = mixS bs ss t f 0 (i + 1) := by
  have hi := (List.getElem?_eq_some_iff.mp hb).1
  rw [← mixS_half hb hs, h]
  refine (List.ext_getElem? fun j => ?_)
  rw [List.getElem?_set, mixS_len]
  by_cases c : i = j
  · subst c
    rw [if_pos rfl, if_pos hi, mixS_get hi, mixE_is hb hs, if_neg (Nat.not_lt_zero i), if_neg (Nat.lt_irrefl i)]
  · rw [if_neg c]
theorem paired_set {α β : Type} {F : α → β → Prop} : ∀ {xs : List α} {ys : List β} (i : Nat) {x : α} {y : β}, Paired F xs ys → F x y → Paired F (xs.set i x) (ys.set i y)
  | _, _, _, _, _, .nil, _ => .nil
  | _, _, 0, _, _, .cons _ t, h => .cons h t
  | _, _, i + 1, _, _, .cons r t, h => .cons r (paired_set i t h)
theorem sts_kp {H H' : Hp} (k : ∀ b xs, H b = some (.tup xs) → H' b = some (.tup xs)) {xs : List V} {ss : List StD} (h : Sts H xs ss) : Sts H' xs ss := L2.Paired.mapP h fun _ _ ⟨a, e, h⟩ => ⟨a, e, k _ _ h⟩
theorem ixN_of {n j : Nat} (h : j < n) : ixN n (j : Int) = some j := by
  unfold ixN
  rw [if_pos (show (0 : Int) ≤ j by omega), if_pos (show (j : Int) < n by omega)]
  congr 1
theorem outV_n (n : Nat) (b : Bool) : outV n n b = if b = true then [.str "failed"] else [.str "served"] := by
  unfold outV
  rw [if_neg (Nat.lt_irrefl n)]
theorem outV_k {n k : Nat} (h : k < n) (b : Bool) : outV n k b = [.str "rejected", .int k] := if_pos h
def outD (n k : Nat) (inS : Bool) : PyData := if k < n then .tuple [.str "rejected", .int k] else if inS then .tuple [.str "failed"] else .tuple [.str "served"]
theorem outV_dp {K : PySem.W.Frag} {H : Hp} {p : Addr} {n k : Nat} {b : Bool} (h : H p = some (.tup (outV n k b))) : Dp K H (.ref p) (outD n k b) := by
  unfold outV at h
  unfold outD
  split
  · rename_i c
    rw [if_pos c] at h
    exact .tup (SqT.of h) (.cons (.str _) (.cons (.int _) .nil))
  · rename_i c
    rw [if_neg c] at h
    cases b with
    | true => exact .tup (SqT.of h) (.cons (.str _) .nil)
    | false => exact .tup (SqT.of h) (.cons (.str _) .nil)
theorem tup_sh {ds : List PyData} (h1 : PyData.canLayAll0 ds = true) (h2 : PyData.depthAll ds ≤ 10) : SeqAt.shaped (.tuple ds) = true := by
  refine Bool.and_eq_true_iff.mpr ⟨?_, decide_eq_true ?_⟩
  · rw [PyData.canLay0]
    exact h1
  · rw [PyData.depth]
    omega
theorem sok_R : PyData.strOk "rejected" = true := by decide +kernel
theorem sok_S : PyData.strOk "served" = true := by decide +kernel
theorem sok_F : PyData.strOk "failed" = true := by decide +kernel
theorem outD_sh (n k : Nat) (b : Bool) : SeqAt.shaped (outD n k b) = true := by
  unfold outD
  split
  · exact tup_sh (by simp [PyData.canLayAll0, PyData.canLay0, sok_R]) (by simp [PyData.depthAll, PyData.depth])
  · cases b <;> exact tup_sh (by simp [PyData.canLayAll0, PyData.canLay0, sok_S, sok_F]) (by simp [PyData.depthAll, PyData.depth])
theorem served_sh : SeqAt.shaped (.tuple [.str "served"]) = true := tup_sh (by simp [PyData.canLayAll0, PyData.canLay0, sok_S]) (by simp [PyData.depthAll, PyData.depth])
theorem outD_served (n k : Nat) (b : Bool) (h : k ≤ n) : PyData.eqv (outD n k b) (.tuple [.str "served"]) = (decide (k = n) && !b) := by
  unfold outD
  split
  · rename_i c
    rw [decide_eq_false (show ¬ k = n by omega)]
    rfl
  · rw [decide_eq_true (show k = n by omega)]
    cases b <;> rfl
theorem outD_eq (n k : Nat) (b : Bool) : PyData.eqv (outD n k b) (outD n k b) = true := by
  unfold outD
  split
  · simp [PyData.eqv, PyData.eqvAll]
  · cases b <;> simp [PyData.eqv, PyData.eqvAll]
def spOne1 : Sp := fun vs H Q _ => ∃ a l xs ys bs ss t good, vs = [.ref a, .ref l, .int t, .bl good] ∧ H a = some (.lst xs) ∧ Brs H xs bs ∧ H l = some (.lst ys) ∧ Sts H ys ss ∧ a ≠ l ∧ ss.length = bs.length ∧ bs.length ≤ 12 ∧ ∀ (k : Nat) td H' ys', k ≤ bs.length → (∀ (i : Nat) (b : Tri) (s : StD), i < k → bs[i]? = some b → ss[i]? = some s → psB b s t) → (∀ (b : Tri) (s : StD), bs[k]? = some b → ss[k]? = some s → ¬ psB b s t) →
  H' td = some (.tup (outV bs.length k (!good))) → H' l = some (.lst ys') → Sts H' ys' (mixS bs ss t (decide (k = bs.length) && good) k k) → Kp l H H' → H td = none → Q (.ref td) H'
/-! ### a request at one breaker -/
instance psDec (b : Tri) (s : StD) (t : Int) : Decidable (psB b s t) := by
  unfold psB
  infer_instance
def stpS (b : Tri) (s : StD) (t : Int) (g : Bool) : StD := if g = true then okS b s else badS b s t
theorem okS_closed {b : Tri} {s : StD} (h : s.1 = "closed") : okS b s = (("closed", 0) : StD) := by
  have e : hfS s = s := if_neg (by rw [h]; exact sC_O)
  unfold okS
  rw [e]
  exact if_neg fun q => sC_H (h.symm.trans q.1)
theorem okS_half {b : Tri} {s : StD} (h : s.1 = "half") : okS b s = if s.2 + 1 < b.2.2 then (("half", s.2 + 1) : StD) else ("closed", 0) := by
  have e : hfS s = s := if_neg (by rw [h]; exact sH_O)
  unfold okS
  rw [e]
  by_cases c : s.2 + 1 < b.2.2
  · rw [if_pos c, if_pos ⟨h, c⟩]
  · rw [if_neg c, if_neg fun q => c q.2]
theorem okS_open {b : Tri} {s : StD} (h : s.1 = "open") : okS b s = if 1 < b.2.2 then (("half", 1) : StD) else ("closed", 0) := by
  have e : hfS s = (("half", 0) : StD) := if_pos h
  unfold okS
  rw [e]
  by_cases c : (1 : Int) < b.2.2
  · rw [if_pos c, if_pos ⟨rfl, by show (0 : Int) + 1 < b.2.2; omega⟩]
    rfl
  · rw [if_neg c, if_neg fun q => c (by have q2 : (0 : Int) + 1 < b.2.2 := q.2; omega)]
theorem badS_closed {b : Tri} {s : StD} {t : Int} (h : s.1 = "closed") : badS b s t = if s.2 + 1 < b.1 then (("closed", s.2 + 1) : StD) else ("open", t) := by
  have e : hfS s = s := if_neg (by rw [h]; exact sC_O)
  unfold badS
  rw [e]
  by_cases c : s.2 + 1 < b.1
  · rw [if_pos c, if_pos ⟨h, c⟩]
  · rw [if_neg c, if_neg fun q => c q.2]
theorem badS_other {b : Tri} {s : StD} {t : Int} (h : ¬ s.1 = "closed") : badS b s t = (("open", t) : StD) := by
  unfold badS
  refine if_neg fun q => ?_
  have q1 := q.1
  unfold hfS at q1
  split at q1
  · exact sH_C q1
  · exact h q1
def spPasses : Sp := fun vs H Q _ => ∃ x y b s t, vs = [x, y, .int t] ∧ BrAt H x b ∧ StAt H y s ∧ Q (.bl (decide (psB b s t))) H
def spBehind : Sp := fun vs H Q _ => ∃ x y b s t g, vs = [x, y, .int t, .bl g] ∧ BrAt H x b ∧ StAt H y s ∧ okW s ∧ ∀ c H', H' c = some (.tup [.str (stpS b s t g).1, .int (stpS b s t g).2]) → Same H H' → H c = none → Q (.ref c) H'
section
variable {P : Program} {w : World} {K : PySem.W.Frag} {mg : Str → Option Value} {base : Heap} {L : LA}
abbrev N_passes : List Str := ["breaker", "state", "time"]
theorem sc_passes : FnScope N_passes ["breaker", "state", "time"] (defScope st_passes) := ⟨rfl, rfl, rfl, by decide +kernel, rfl, by decide +kernel, by decide +kernel⟩
theorem fn_passes (T : LX K mg L) {fd : FuncData} (F : Fun K "passes" "passes" st_passes L.f_passes fd) : FnOk P w K mg base CX0 1 L.f_passes fd ["breaker", "state", "time"] (spPasses) := by
  have nd := sc_passes.nd
  refine F.ok sc_passes (fun vs H Q E h => ?_) (fun cdv A outer S H vs Q E hr h => ?_)
  · obtain ⟨x, y, b, s, t, rfl, _⟩ := h
    rfl
  · obtain ⟨x, y, b, s, t, rfl, ⟨ab, rfl, hb⟩, ⟨as, rfl, hs⟩, k⟩ := h
    refine ⟨_, (pss_one (ps_ret (pe_or (pe_cmpR op_ne (pe_ix (r := rIxT K) ix_tup (pv 1) pe_int (fun _ _ => rfl)) pe_str (nomark _)) (pe_one (pe_cmpR op_ge (pe_op op_sub (pv 2) (pe_ix (r := rIxT K) ix_tup (pv 1) pe_int (fun _ _ => rfl))) (pe_ix (r := rIxT K) ix_tup (pv 0) pe_int (fun _ _ => rfl)) (nomark _)))))), ?_⟩
    refine ⟨_, rfl, as, _, 0, .str s.1, rfl, rfl, SqT.of hs, rfl, rfl, _, rfl, ite2 (fun c => ?_) (fun c => ?_)⟩
    · have c' : ¬ s.1 = "open" := fun e => by simp [e] at c
      rw [decide_eq_true (show psB b s t from fun e => absurd e c')] at k
      exact k
    · have c' : s.1 = "open" := by simpa using c
      have e : decide (psB b s t) = decide (b.2.1 ≤ t - s.2) := by
        rw [Bool.eq_iff_iff, decide_eq_true_iff, decide_eq_true_iff]
        exact ⟨fun h => h c', fun h _ => h⟩
      rw [e] at k
      exact ⟨_, rfl, _, rfl, as, _, 1, .int s.2, rfl, rfl, SqT.of hs, rfl, _, _, rfl, rfl, _, rfl, ab, _, 1, .int b.2.1, rfl, rfl, SqT.of hb, rfl, _, _, rfl, rfl, k⟩
theorem ok_passes (T : LX K mg L) : Cal P w K mg base "passes" 1 L.f_passes ["breaker", "state", "time"] (spPasses) := T.d_passes.cal fun fd F => fn_passes T F
abbrev N_statebehind : List Str := ["breaker", "state", "time", "succeeded", "failures", "wait", "successes", "kind", "number", "reached"]
theorem sc_statebehind : FnScope N_statebehind ["breaker", "state", "time", "succeeded"] (defScope st_state_behind) := ⟨rfl, rfl, rfl, by decide +kernel, rfl, by decide +kernel, by decide +kernel⟩
theorem fn_statebehind (T : LX K mg L) {fd : FuncData} (F : Fun K "state_behind" "state_behind" st_state_behind L.f_state_behind fd) : FnOk P w K mg base CX0 1 L.f_state_behind fd ["breaker", "state", "time", "succeeded"] (spBehind) := by
  have nd := sc_statebehind.nd
  refine F.ok sc_statebehind (fun vs H Q E h => ?_) (fun cdv A outer S H vs Q E hr h => ?_)
  · obtain ⟨x, y, b, s, t, g, rfl, _⟩ := h
    rfl
  · obtain ⟨x, y, b, s, t, g, rfl, ⟨ab, rfl, hb⟩, ⟨as, rfl, hs⟩, ok, k⟩ := h
    refine ⟨_, (pss_cons (ps_asg (pv 0) (pg_tup rfl (pgs_cons (pg_name (i := 4) nd rfl (Or.inl rfl)) (pgs_cons (pg_name (i := 5) nd rfl (Or.inl rfl)) (pgs_cons (pg_name (i := 6) nd rfl (Or.inl rfl)) pgs_nil)))))
       (pss_cons (ps_asg (pv 1) (pg_tup rfl (pgs_cons (pg_name (i := 7) nd rfl (Or.inl rfl)) (pgs_cons (pg_name (i := 8) nd rfl (Or.inl rfl)) pgs_nil))))
       (pss_cons (ps_if (PW.pt (pw_and (pt_val (pv 3)) (pw_and1 (pt_cmpR op_ne (pv 7) pe_str (nomark _))))) (pss_cons (ps_set (i := 9) nd rfl (Or.inl rfl) (pe_ifExp (pt_cmpR op_eq (pv 7) pe_str (nomark _)) (pe_op op_add (pv 8) pe_int) pe_int))
       (pss_one (ps_ret (pe_ifExp (pt_cmpR op_lt (pv 9) (pv 6) (nomark _)) (pe_tup (pa_cons pe_str (pa_cons (pv 9) pa_nil))) (pe_tup (pa_cons pe_str (pa_cons pe_int pa_nil))))))) pss_nil)
       (pss_cons (ps_if (pt_val (pv 3)) (pss_one (ps_ret (pe_tup (pa_cons pe_str (pa_cons pe_int pa_nil))))) pss_nil)
       (pss_cons (ps_if (PW.pt (pw_and (pt_cmpR op_eq (pv 7) pe_str (nomark _)) (pw_and1 (pt_cmpR op_lt (pe_op op_add (pv 8) pe_int) (pv 4) (nomark _))))) (pss_one (ps_ret (pe_tup (pa_cons pe_str (pa_cons (pe_op op_add (pv 8) pe_int) pa_nil))))) pss_nil)
       (pss_one (ps_ret (pe_tup (pa_cons pe_str (pa_cons (pv 2) pa_nil)))))))))), ?_⟩
    refine ⟨_, rfl, ab, _, rfl, SqT.of hb, rfl, _, _, rfl, _, _, rfl, _, _, rfl, rfl, ?_⟩
    refine ⟨_, rfl, as, _, rfl, SqT.of hs, rfl, _, _, rfl, _, _, rfl, rfl, ?_⟩
    have fin : ∀ (d : StD), stpS b s t g = d → ∀ p, H p = none → Q (.ref p) (upd H p (.tup [.str d.1, .int d.2])) := fun d e p hp => by
      subst e
      exact k p _ upd_same (Same.upd hp) hp
    clear k
    cases g with
    | true =>
      refine ⟨_, rfl, _, rfl, iteT ⟨_, rfl, rfl, _, rfl, ite2 (fun c => ?_) (fun c => ?_)⟩⟩
      · have c' : ¬ s.1 = "closed" := fun e => by simp [e] at c
        refine ⟨_, rfl, rfl, _, rfl, ite2 (fun h => ?_) (fun h => ?_)⟩
        · have h' : s.1 = "half" := V.str.inj (of_decide_eq_true h)
          refine ⟨_, rfl, _, _, rfl, rfl, _, rfl, _, rfl, _, _, rfl, rfl, _, rfl, ite2 (fun l => ?_) (fun l => ?_)⟩
          · exact ⟨_, rfl, (by show 2 ≤ sizeLine; decide), fin ("half", s.2 + 1) ((okS_half h').trans (if_pos (of_decide_eq_true l)))⟩
          · exact ⟨(by show 2 ≤ sizeLine; decide), fin ("closed", 0) ((okS_half h').trans (if_neg fun q => l (decide_eq_true q)))⟩
        · have h' : ¬ s.1 = "half" := fun e => h (decide_eq_true (congrArg V.str e))
          have o : s.1 = "open" := by
            rcases ok with e | e | e
            · exact absurd e c'
            · exact e
            · exact absurd e h'
          refine ⟨_, rfl, _, rfl, _, _, rfl, rfl, _, rfl, ite2 (fun l => ?_) (fun l => ?_)⟩
          · exact ⟨_, rfl, (by show 2 ≤ sizeLine; decide), fin ("half", 1) ((okS_open o).trans (if_pos (of_decide_eq_true l)))⟩
          · exact ⟨(by show 2 ≤ sizeLine; decide), fin ("closed", 0) ((okS_open o).trans (if_neg fun q => l (decide_eq_true q)))⟩
      · have c' : s.1 = "closed" := by simpa using c
        exact ⟨_, rfl, _, rfl, iteT ⟨(by show 2 ≤ sizeLine; decide), fin ("closed", 0) (okS_closed c')⟩⟩
    | false =>
      refine ⟨_, rfl, _, rfl, iteF ⟨_, rfl, _, rfl, iteF ⟨_, rfl, rfl, _, rfl, ite2 (fun c => ?_) (fun c => ?_)⟩⟩⟩
      · have c' : s.1 = "closed" := V.str.inj (of_decide_eq_true c)
        refine ⟨_, rfl, _, _, rfl, rfl, _, rfl, _, _, rfl, rfl, _, rfl, ite2 (fun l => ?_) (fun l => ?_)⟩
        · exact ⟨_, rfl, _, _, rfl, rfl, (by show 2 ≤ sizeLine; decide), fin ("closed", s.2 + 1) ((badS_closed c').trans (if_pos (of_decide_eq_true l)))⟩
        · exact ⟨_, rfl, (by show 2 ≤ sizeLine; decide), fin ("open", t) ((badS_closed c').trans (if_neg fun q => l (decide_eq_true q)))⟩
      · have c' : ¬ s.1 = "closed" := fun e => c (decide_eq_true (congrArg V.str e))
        refine iteF ⟨_, rfl, (by show 2 ≤ sizeLine; decide), fin ("open", t) (badS_other c')⟩
theorem ok_statebehind (T : LX K mg L) : Cal P w K mg base "state_behind" 1 L.f_state_behind ["breaker", "state", "time", "succeeded"] (spBehind) := T.d_state_behind.cal fun fd F => fn_statebehind T F
end
/-! ### one request sent by the program -/
/-- how many breakers a request reaches and is passed by -/
def kOf : List Tri → List StD → Int → Nat
  | b :: bs, s :: ss, t => if psB b s t then kOf bs ss t + 1 else 0
  | [], _, _ => 0
  | _ :: _, [], _ => 0
theorem kOf_le : ∀ (bs : List Tri) (ss : List StD) (t : Int), kOf bs ss t ≤ bs.length
  | [], _, _ => Nat.le_refl _
  | _ :: _, [], _ => Nat.zero_le _
  | b :: bs, s :: ss, t => by
    unfold kOf
    split
    · exact Nat.succ_le_succ (kOf_le bs ss t)
    · exact Nat.zero_le _
theorem kOf_ps : ∀ {bs : List Tri} {ss : List StD} {t : Int} {i : Nat} {b : Tri} {s : StD}, i < kOf bs ss t → bs[i]? = some b → ss[i]? = some s → psB b s t
  | [], _, _, _, _, _, h, _, _ => absurd h (Nat.not_lt_zero _)
  | _ :: _, [], _, _, _, _, h, _, _ => absurd h (Nat.not_lt_zero _)
  | b :: bs, s :: ss, t, i, b', s', h, e1, e2 => by
    unfold kOf at h
    split at h
    · rename_i c
      cases i with
      | zero => cases e1; cases e2; exact c
      | succ i => exact kOf_ps (i := i) (Nat.lt_of_succ_lt_succ h) e1 e2
    · exact absurd h (Nat.not_lt_zero _)
theorem kOf_rj : ∀ {bs : List Tri} {ss : List StD} {t : Int} {b : Tri} {s : StD}, bs[kOf bs ss t]? = some b → ss[kOf bs ss t]? = some s → ¬ psB b s t
  | [], _, _, _, _, e1, _ => by cases e1
  | _ :: _, [], _, _, _, _, e2 => by cases e2
  | b :: bs, s :: ss, t, b', s', e1, e2 => by
    unfold kOf at e1 e2
    by_cases c : psB b s t
    · rw [if_pos c] at e1 e2
      exact kOf_rj (bs := bs) (ss := ss) e1 e2
    · rw [if_neg c] at e1 e2
      cases e1
      cases e2
      exact c
theorem kOf_is {bs : List Tri} {ss : List StD} {t : Int} (sl : ss.length = bs.length) {k : Nat} (hk : k ≤ bs.length) (h1 : ∀ (i : Nat) (b : Tri) (s : StD), i < k → bs[i]? = some b → ss[i]? = some s → psB b s t) (h2 : ∀ (b : Tri) (s : StD), bs[k]? = some b → ss[k]? = some s → ¬ psB b s t) : k = kOf bs ss t := by
  have kl := kOf_le bs ss t
  have get : ∀ {j : Nat}, j < bs.length → ∃ b s, bs[j]? = some b ∧ ss[j]? = some s := fun {j} l => ⟨_, _, List.getElem?_eq_getElem l, List.getElem?_eq_getElem (by omega)⟩
  rcases Nat.lt_trichotomy k (kOf bs ss t) with c | c | c
  · obtain ⟨b, s, e1, e2⟩ := get (j := k) (by omega)
    exact absurd (kOf_ps c e1 e2) (h2 b s e1 e2)
  · exact c
  · obtain ⟨b, s, e1, e2⟩ := get (j := kOf bs ss t) (by omega)
    exact absurd (h1 _ b s c e1 e2) (kOf_rj e1 e2)
/-- the states behind a request -/
def sntS (bs : List Tri) (ss : List StD) (t : Int) (up : Bool) : List StD := mixS bs ss t (decide (kOf bs ss t = bs.length) && up) (kOf bs ss t) (kOf bs ss t)
theorem okS_W (b : Tri) (s : StD) : okW (okS b s) := by
  unfold okS
  split
  · exact .inr (.inr rfl)
  · exact .inl rfl
theorem badS_W (b : Tri) (s : StD) (t : Int) : okW (badS b s t) := by
  unfold badS
  split
  · exact .inl rfl
  · exact .inr (.inl rfl)
theorem stpS_W (b : Tri) (s : StD) (t : Int) (g : Bool) : okW (stpS b s t g) := by
  unfold stpS
  split
  · exact okS_W b s
  · exact badS_W b s t
theorem sntS_len {bs : List Tri} {ss : List StD} {t : Int} {up : Bool} : (sntS bs ss t up).length = bs.length := mixS_len
theorem sntS_get {bs : List Tri} {ss : List StD} {t : Int} {up : Bool} {i : Nat} {b : Tri} {s : StD} (hb : bs[i]? = some b) (hs : ss[i]? = some s) :
    (sntS bs ss t up)[i]? = some (if i < kOf bs ss t then stpS b s t (decide (kOf bs ss t = bs.length) && up) else s) := by
  have hi := (List.getElem?_eq_some_iff.mp hb).1
  unfold sntS
  rw [mixS_get hi, mixE_is hb hs]
  congr 1
  by_cases c : i < kOf bs ss t
  · rw [if_pos c, if_pos c]
    rfl
  · rw [if_neg c, if_neg c, if_neg c]
theorem sntS_W {bs : List Tri} {ss : List StD} {t : Int} {up : Bool} (sl : ss.length = bs.length) (h : ∀ s ∈ ss, okW s) : ∀ s ∈ sntS bs ss t up, okW s := by
  intro s hs
  obtain ⟨i, hi⟩ := List.mem_iff_getElem?.mp hs
  have l := (List.getElem?_eq_some_iff.mp hi).1
  rw [sntS_len] at l
  have e1 : bs[i]? = some bs[i] := List.getElem?_eq_getElem l
  have e2 : ss[i]? = some ss[i] := List.getElem?_eq_getElem (by omega)
  rw [sntS_get e1 e2] at hi
  cases hi
  split
  · exact stpS_W _ _ _ _
  · exact h _ (List.getElem_mem _)
theorem sntS_cut {bs : List Tri} {ss : List StD} {t : Int} {up : Bool} (sl : ss.length = bs.length) : sntS bs ss t up = (List.zipWith (fun b s => stpS b s t (decide (kOf bs ss t = bs.length) && up)) (bs.take (kOf bs ss t)) ss) ++ ss.drop (kOf bs ss t) := by
  have kl := kOf_le bs ss t
  apply List.ext_getElem?
  intro i
  by_cases c : i < bs.length
  · have e1 : bs[i]? = some bs[i] := List.getElem?_eq_getElem c
    have e2 : ss[i]? = some ss[i] := List.getElem?_eq_getElem (by omega)
    rw [sntS_get e1 e2]
    by_cases q : i < kOf bs ss t
    · rw [if_pos q, List.getElem?_append_left (by rw [List.length_zipWith, List.length_take]; omega), List.getElem?_zipWith, List.getElem?_take, if_pos q, e1, e2]
    · rw [if_neg q, List.getElem?_append_right (by rw [List.length_zipWith, List.length_take]; omega), List.length_zipWith, List.length_take, List.getElem?_drop, show kOf bs ss t + (i - min (min (kOf bs ss t) bs.length) ss.length) = i by omega, e2]
  · rw [List.getElem?_eq_none (by rw [sntS_len]; omega), List.getElem?_eq_none (by rw [List.length_append, List.length_zipWith, List.length_take, List.length_drop]; omega)]
/-- what is told of a request -/
def TldAt (K : PySem.W.Frag) (H : Hp) (x : V) (n k : Nat) (up : Bool) : Prop := ∃ a, x = .ref a ∧ SqT K H a (outV n k (!up))
theorem TldAt.same {K : PySem.W.Frag} {H H' : Hp} {x : V} {n k : Nat} {up : Bool} (h : TldAt K H x n k up) (s : Same H H') : TldAt K H' x n k up := by
  obtain ⟨a, e, q⟩ := h
  exact ⟨a, e, q.ext fun b o e => s b o e⟩
theorem TldAt.dp {K : PySem.W.Frag} {H : Hp} {x : V} {n k : Nat} {up : Bool} (h : TldAt K H x n k up) : Dp K H x (outD n k (!up)) := by
  obtain ⟨a, rfl, h⟩ := h
  unfold outV at h
  unfold outD
  split
  · rename_i c
    rw [if_pos c] at h
    exact .tup h (.cons (.str _) (.cons (.int _) .nil))
  · rename_i c
    rw [if_neg c] at h
    cases up with
    | true => exact .tup h (.cons (.str _) .nil)
    | false => exact .tup h (.cons (.str _) .nil)
theorem cut_take0 (xs : List V) (k : Nat) (h : k ≤ xs.length) : cutV xs none (some (k : Int)) = xs.take k := by
  unfold cutV
  rw [HT.sIx_nat, HT.sIx_none, List.drop_zero, Nat.sub_zero, Nat.min_eq_left h]
theorem cut_drop0 (xs : List V) (k : Nat) (h : k ≤ xs.length) : cutV xs (some (k : Int)) none = xs.drop k := by
  unfold cutV
  rw [HT.sIx_nat, HT.sIx_none, Nat.min_eq_left h, List.take_of_length_le (by rw [List.length_drop]; exact Nat.le_refl _)]
theorem slA_by {K : PySem.W.Frag} {a : Addr} {xs : List V} {lo hi : Option Int} {H : Hp} {Q : VK} (h : SqT K H a xs) (k : ∀ p H', SqT K H' p (cutV xs lo hi) → Same H H' → Q (.ref p) H') : rSlA K (.ref a) lo hi H Q := by
  refine ⟨a, xs, rfl, h, fun c => k a H ?_ (Same.refl H), fun _ p np => k p _ (SqT.of upd_same) (Same.upd np)⟩
  have e : cutV xs lo hi = xs := by
    unfold cutV
    rw [c.1, c.2, List.drop_zero, Nat.sub_zero, List.take_length]
  rw [e]
  exact h
theorem paired_drop {α β : Type} {F : α → β → Prop} : ∀ {xs : List α} {ys : List β} (n : Nat), Paired F xs ys → Paired F (xs.drop n) (ys.drop n)
  | _, _, 0, h => h
  | _, _, n + 1, .nil => .nil
  | _, _, n + 1, .cons _ p => paired_drop n p
def spSent (K : PySem.W.Frag) : Sp := fun vs H Q _ => ∃ B l xs ys bs ss t up, vs = [.ref B, .ref l, .int t, .bl up] ∧ SqT K H B xs ∧ Brs H xs bs ∧ H l = some (.lst ys) ∧ Sts H ys ss ∧ ss.length = bs.length ∧ bs.length ≤ 100 ∧ (∀ s ∈ ss, okW s) ∧
  ∀ q x l2 ys2 H', H' q = some (.tup [x, .ref l2]) → TldAt K H' x bs.length (kOf bs ss t) up → H' l2 = some (.lst ys2) → Sts H' ys2 (sntS bs ss t up) → Same H H' → H q = none → H l2 = none → Q (.ref q) H'
section
variable {P : Program} {w : World} {K : PySem.W.Frag} {mg : Str → Option Value} {base : Heap} {L : LA}
abbrev N_sent : List Str := ["breakers", "states", "time", "up", "reached", "told", "behind", "breaker", "state"]
theorem sc_sent : FnScope N_sent ["breakers", "states", "time", "up"] (defScope st_sent) := ⟨rfl, rfl, rfl, by decide +kernel, rfl, by decide +kernel, by decide +kernel⟩
theorem fn_sent (T : LX K mg L) {fd : FuncData} (F : Fun K "sent" "sent" st_sent L.f_sent fd) : FnOk P w K mg base CX0 3 L.f_sent fd ["breakers", "states", "time", "up"] (spSent K) := by
  obtain ⟨a_SERVED, c_SERVED, t_SERVED⟩ := T.n_SERVED
  obtain ⟨a_FAILED, c_FAILED, t_FAILED⟩ := T.n_FAILED
  have G_passes := ok_passes (P := P) (w := w) (base := base) T
  have G_statebehind := ok_statebehind (P := P) (w := w) (base := base) T
  have nd := sc_sent.nd
  refine F.ok sc_sent (fun vs H Q E h => ?_) (fun cdv A outer S H vs Q E hr h => ?_)
  · obtain ⟨B, l, xs, ys, bs, ss, t, up, rfl, _⟩ := h
    rfl
  · obtain ⟨B, l, xs, ys, bs, ss, t, up, rfl, hB, hb, hl, hs, sl, bl, ok, k⟩ := h
    refine ⟨_, (pss_cons (ps_set (i := 4) nd rfl (Or.inl rfl) pe_int)
       (C8.pss_cut (ps_while PassesOwn.never (PW.pt (pw_and (pt_cmpR op_lt (pv 4) (pe_callB call_len_seq (by rfl) T.b_len PySem.boot_len (pa_cons (pv 0) pa_nil)) (nomark _)) (pw_and1 (pt_val (pe_c G_passes (hr.mono (by decide)) rfl (pa_cons (pe_ix (r := rIxT K) ix_tup (pv 0) (pv 4) (fun _ _ => rfl)) (pa_cons (pe_ix (r := rIxL K) ix_list (pv 1) (pv 4) (fun _ _ => rfl)) (pa_cons (pv 2) pa_nil)))))))) (pss_one (ps_aug (i := 4) nd rfl (Or.inl rfl) pe_int ip_add)))
       (C8.pss_cut (ps_set (i := 5) nd rfl (Or.inr rfl) (pe_ifExp (pt_val (pv 3)) (pe_glob (by rfl) c_SERVED rr) (pe_glob (by rfl) c_FAILED rr)))
       (C8.pss_cut (ps_if (pt_cmpR op_lt (pv 4) (pe_callB call_len_seq (by rfl) T.b_len PySem.boot_len (pa_cons (pv 0) pa_nil)) (nomark _)) (pss_one (ps_set (i := 5) nd rfl (Or.inr rfl) (pe_tup (pa_cons pe_str (pa_cons (pv 4) pa_nil))))) pss_nil)
       (pss_cons (ps_setLc (i := 6) (own := [("breaker", 7), ("state", 8)]) (g := gTup K 2 (gCons (gName 7) (gCons (gName 8) (gNil)))) (tt := tYes) rfl nd rfl rfl (sw_true rfl rfl rfl (by decide +kernel)) (pi_zipM (by rfl) T.b_zip (pa_cons (pe_slice (r := rSlA K) sl_tupA (pv 0) po_none (po_some (pv 4))) (pa_cons (pv 1) pa_nil))) (blkOk_by (own := [("breaker", 7), ("state", 8)]) (N := N_sent) (sc := defScope st_sent) (by decide +kernel)) (fun _ _ _ _ _ => pg_tup rfl (pgs_cons (pg_name (i := 7) nd rfl (Or.inl rfl)) (pgs_cons (pg_name (i := 8) nd rfl (Or.inl rfl)) pgs_nil))) (fun _ _ _ _ _ => pts_nil) (fun _ _ _ _ _ => (pe_c G_statebehind (hr.mono (by decide)) rfl (pa_cons (pv 7) (pa_cons (pv 8) (pa_cons (pv 2) (pa_cons (pe_cmpR (op_eqDK (K := K) rfl hr.units) (pv 5) (pe_glob (by rfl) c_SERVED rr) (nomark _)) pa_nil)))))))
       (pss_one (ps_ret (pe_tup (pa_cons (pv 5) (pa_cons (pe_op op_cat (pv 6) (pe_slice (r := rSlL K) sl_list (pv 1) (po_some (pv 4)) po_none)) pa_nil)))))))))), ?_⟩
    have xl := hb.len
    have yl := paired_len hs
    refine ⟨fun σ' H' => σ' = [some (.ref B), some (.ref l), some (.int t), some (.bl up), some (.int (kOf bs ss t : Nat)), none, none, none, none] ∧ H' = H, ?_, ?_⟩
    · refine while_by (fun σ H2 => ∃ j : Nat, σ = [some (.ref B), some (.ref l), some (.int t), some (.bl up), some (.int (j : Nat)), none, none, none, none] ∧ j ≤ bs.length ∧ (∀ (i : Nat) (b : Tri) (s : StD), i < j → bs[i]? = some b → ss[i]? = some s → psB b s t) ∧ H2 = H)
        (fun σ _ => match σ with | [_, _, _, _, some (.int r), _, _, _, _] => ((bs.length : Int) - r).toNat | _ => 0)
        ⟨0, rfl, Nat.zero_le _, fun i b s h => absurd h (Nat.not_lt_zero _), rfl⟩ ?_ ?_
      · rintro σ H2 ⟨j, rfl, jl, hj, rfl⟩
        refine ⟨_, rfl, _, rfl, B, _, rfl, .inr hB, _, _, rfl, rfl, _, rfl, ite2 (fun c => ?_) (fun c => ?_)⟩
        · have c' : (j : Int) < xs.length := of_decide_eq_true c
          have jb : j < bs.length := by omega
          obtain ⟨x, hx⟩ : ∃ x, xs[j]? = some x := ⟨_, List.getElem?_eq_getElem (by omega)⟩
          obtain ⟨y, hy⟩ : ∃ y, ys[j]? = some y := ⟨_, List.getElem?_eq_getElem (by omega)⟩
          obtain ⟨b, eb, hbx⟩ := hb.get hx
          obtain ⟨s, es, hsy⟩ := paired_get hs hy
          refine ⟨_, rfl, _, rfl, B, xs, (j : Int), x, rfl, rfl, hB, atI_nat hx, _, rfl, _, rfl, l, ys, (j : Int), y, rfl, rfl, SqL.of hl, atI_nat hy, _, rfl, x, y, b, s, t, rfl, hbx, hsy, _, rfl, ite2 (fun p => ?_) (fun p => ?_)⟩
          · have p' : psB b s t := of_decide_eq_true p
            refine ⟨_, rfl, _, _, rfl, rfl, ⟨j + 1, rfl, jb, fun i b' s' hi e1 e2 => ?_, rfl⟩, ?_⟩
            · by_cases q : i < j
              · exact hj i b' s' q e1 e2
              · have : i = j := by omega
                subst this
                rw [eb] at e1
                rw [es] at e2
                cases e1
                cases e2
                exact p'
            · show ((bs.length : Int) - ((j : Int) + 1)).toNat < ((bs.length : Int) - (j : Int)).toNat
              omega
          · have e := kOf_is sl jl hj fun b' s' e1 e2 => by
              rw [eb] at e1
              rw [es] at e2
              cases e1
              cases e2
              exact fun h => p (decide_eq_true h)
            rw [← e]
            exact ⟨rfl, rfl⟩
        · have c' : ¬ (j : Int) < xs.length := fun h => c (decide_eq_true h)
          have e := kOf_is sl jl hj fun b' s' e1 e2 => absurd (List.getElem?_eq_some_iff.mp e1).1 (by omega)
          rw [← e]
          exact ⟨rfl, rfl⟩
      · rintro σ H Q Q' m ⟨a1, a2, a3, a4, a5, a6, a7, a8, a9, a10, a11, a12, bb, a13, q⟩
        refine ⟨a1, a2, a3, a4, a5, a6, a7, a8, a9, a10, a11, a12, bb, a13, ?_⟩
        cases bb with
        | false => exact iteF (m _ _ (by rwa [if_neg Bool.false_ne_true] at q))
        | true =>
          rw [if_pos rfl] at q
          obtain ⟨b1, b2, b3, b4, b5, b6, b7, b8, b9, b10, b11, b12, b13, b14, b15, b16, b17, b18, b19, b20, b21, b22, b23, b24, b25, b26, b27, b28, b29, b30, b31, b32, b33, b34, b35, b36, q⟩ := q
          exact iteT ⟨b1, b2, b3, b4, b5, b6, b7, b8, b9, b10, b11, b12, b13, b14, b15, b16, b17, b18, b19, b20, b21, b22, b23, b24, b25, b26, b27, b28, b29, b30, b31, b32, b33, b34, b35, b36, m _ _ q⟩
    rintro σ' H' ⟨rfl, rfl⟩
    have kl := kOf_le bs ss t
    obtain ⟨n, hn⟩ : ∃ n, n = kOf bs ss t := ⟨_, rfl⟩
    refine ⟨fun σ2 H2 => ∃ a, σ2 = [some (.ref B), some (.ref l), some (.int t), some (.bl up), some (.int (kOf bs ss t : Nat)), some (.ref a), none, none, none] ∧ SqT K H2 a (outV bs.length bs.length (!up)) ∧ H2 = H', ?_, ?_⟩
    · rw [outV_n]
      cases up with
      | true => exact ⟨_, rfl, _, rfl, iteT ⟨a_SERVED, rfl, t_SERVED _, rfl⟩⟩
      | false => exact ⟨_, rfl, _, rfl, iteF ⟨a_FAILED, rfl, t_FAILED _, rfl⟩⟩
    rintro σ2 H2 ⟨a, rfl, ha, rfl⟩
    refine ⟨fun σ3 H3 => ∃ a, σ3 = [some (.ref B), some (.ref l), some (.int t), some (.bl up), some (.int (kOf bs ss t : Nat)), some (.ref a), none, none, none] ∧ SqT K H3 a (outV bs.length (kOf bs ss t) (!up)) ∧ Same H2 H3, ?_, ?_⟩
    · refine ⟨_, rfl, _, rfl, B, _, rfl, .inr hB, _, _, rfl, rfl, _, rfl, ite2 (fun c => ?_) (fun c => ?_)⟩
      · have c' : (kOf bs ss t : Int) < xs.length := of_decide_eq_true c
        refine ⟨_, rfl, (by show 2 ≤ sizeLine; decide), fun p np => ⟨p, rfl, ?_, Same.upd np⟩⟩
        rw [outV_k (show kOf bs ss t < bs.length by omega)]
        exact SqT.of upd_same
      · have c' : ¬ (kOf bs ss t : Int) < xs.length := fun h => c (decide_eq_true h)
        have e : kOf bs ss t = bs.length := by omega
        rw [e]
        exact ⟨a, rfl, ha, Same.refl _⟩
    rintro σ3 H3 ⟨a, rfl, ha, s3⟩
    -- the comprehension
    refine ⟨_, rfl, _, rfl, (kOf bs ss t : Int), rfl, slA_by (hB.ext fun b o e => s3 b o e) fun Bq H4 hBq s4 => ?_⟩
    rw [cut_take0 xs (kOf bs ss t) (by omega)] at hBq
    have s34 := s3.trans s4
    refine ⟨_, rfl, Bq, l, xs.take (kOf bs ss t), ys, rfl, hBq, SqL.of (s34 _ _ hl), fun D nD => ?_⟩
    have hxn : (xs.take (kOf bs ss t)).length = kOf bs ss t := by rw [List.length_take]; omega
    refine lc_zipM (K := K) (a := Bq) (b := l) (xs := xs.take (kOf bs ss t)) (ys := ys) (by omega) (fun j Hy => ∃ ws, Hy D = some (.lst ws) ∧ Sts Hy ws ((List.zipWith (fun b s => stpS b s t (decide (kOf bs ss t = bs.length) && up)) (bs.take (kOf bs ss t)) ss).take j) ∧ Same H4 Hy)
      ⟨[], upd_same, .nil, Same.upd nD⟩ (fun j Hy ⟨_, _, _, sy⟩ => ⟨hBq.ext fun b o e => sy b o e, SqL.of (sy _ _ (s34 _ _ hl))⟩) ?_ ?_
    · rintro j x y T' Hy hxj hyj ⟨ws, hws, hz, sy⟩ hT
      have jn : j < kOf bs ss t := by have := (List.getElem?_eq_some_iff.mp hxj).1; omega
      rw [List.getElem?_take, if_pos jn] at hxj
      obtain ⟨b, eb, hbx⟩ := hb.get hxj
      obtain ⟨s, es, hsy⟩ := paired_get hs hyj
      have wl := paired_len hz
      rw [List.length_take, List.length_zipWith, List.length_take] at wl
      have sT := Same.upd (o := .tup [x, y]) hT
      have s5 := (s34.trans sy).trans sT
      refine ⟨T', _, rfl, SqT.of upd_same, rfl, _, _, rfl, _, _, rfl, rfl, rfl, tYes_of ?_⟩
      have hd : Dp K (upd Hy T' (.tup [x, y])) (.ref a) (outD bs.length (kOf bs ss t) (!up)) := TldAt.dp ⟨a, rfl, ha.ext fun b o e => ((s4.trans sy).trans sT) b o e⟩
      refine ⟨_, rfl, _, rfl, _, rfl, _, rfl, _, _, hd, .tup (t_SERVED _) (.cons (.str _) .nil), outD_sh _ _ _, served_sh, ?_⟩
      rw [outD_served _ _ _ kl, Bool.not_not]
      refine ⟨x, y, b, s, t, _, rfl, hbx.nl (NL.of s5), hsy.same s5, ok s (List.mem_of_getElem? es), fun c H6 hc s6 nc => ?_⟩
      have hw6 := s6 _ _ (sT _ _ hws)
      have n7 := NL.upd (o := .lst (ws ++ [.ref c])) hw6
      refine ⟨ws, hw6, small1 (by omega), ws ++ [.ref c], upd_same, ?_, fun u o e => ?_⟩
      · have ez : (List.zipWith (fun b s => stpS b s t (decide (kOf bs ss t = bs.length) && up)) (bs.take (kOf bs ss t)) ss)[j]? = some (stpS b s t (decide (kOf bs ss t = bs.length) && up)) := by
          rw [List.getElem?_zipWith, List.getElem?_take, if_pos jn, eb, es]
        rw [List.take_add_one, ez]
        exact paired_app (((hz.same sT).same s6).nl n7) (.cons ⟨c, rfl, n7 _ _ hc fun _ z => nomatch z⟩ .nil)
      · rw [upd_ne (ne_of_none e nD)]
        exact s6 _ _ (sT _ _ (sy _ _ e))
    rintro Hy ⟨ws, hws, hz, sy⟩
    rw [List.take_of_length_le (by rw [List.length_zipWith, List.length_take]; omega)] at hz
    have s4y := s34.trans sy
    refine ⟨_, rfl, _, rfl, _, rfl, _, rfl, (kOf bs ss t : Int), rfl, l, ys, rfl, SqL.of (s4y _ _ hl), fun lt nlt => ?_⟩
    rw [cut_drop0 ys (kOf bs ss t) (by omega)]
    have s6 := Same.upd (o := .lst (ys.drop (kOf bs ss t))) nlt
    have wl := paired_len hz
    rw [List.length_zipWith, List.length_take] at wl
    refine ⟨D, lt, ws, ys.drop (kOf bs ss t), rfl, rfl, s6 _ _ hws, upd_same, small2 (by rw [List.length_drop]; omega), fun l2 nl2 => ?_⟩
    have s7 := Same.upd (o := .lst (ws ++ ys.drop (kOf bs ss t))) nl2
    refine ⟨(by show 2 ≤ sizeLine; decide), fun q nq => ?_⟩
    have s8 := Same.upd (o := .tup [.ref a, .ref l2]) nq
    have s48 := (((s4y.trans s6).trans s7).trans s8)
    have sA : Same H3 _ := (((s4.trans sy).trans s6).trans s7).trans s8
    refine k q (.ref a) l2 (ws ++ ys.drop (kOf bs ss t)) _ upd_same ⟨a, rfl, ha.ext fun b o e => sA b o e⟩ (s8 _ _ upd_same) ?_ s48 (none_of ((s4y.trans s6).trans s7) nq) (none_of (s4y.trans s6) nl2)
    rw [sntS_cut sl]
    exact paired_app ((((hz.same s6).same s7).same s8)) (paired_drop _ (hs.same s48))
theorem ok_sent (T : LX K mg L) : Cal P w K mg base "sent" 3 L.f_sent ["breakers", "states", "time", "up"] (spSent K) := T.d_sent.cal fun fd F => fn_sent T F
end
/-! ### the law's own draws -/
/-- a source of draws at a: at most n were drawn -/
def Src (H : Hp) (a : Addr) (n : Nat) : Prop := ∃ x y z : Int, H a = some (.lst [.int x, .int y, .int z]) ∧ 0 ≤ x ∧ 0 ≤ y ∧ y < 2147483647 ∧ 0 ≤ z ∧ z ≤ n
theorem Src.mono {H : Hp} {a : Addr} {n m : Nat} (h : Src H a n) (l : n ≤ m) : Src H a m := by
  obtain ⟨x, y, z, e, h1, h2, h3, h4, h5⟩ := h
  exact ⟨x, y, z, e, h1, h2, h3, h4, by omega⟩
theorem Src.same {H H' : Hp} {a : Addr} {n : Nat} (h : Src H a n) (s : Same H H') : Src H' a n := by
  obtain ⟨x, y, z, e, r⟩ := h
  exact ⟨x, y, z, s _ _ e, r⟩
theorem Src.has {H : Hp} {a : Addr} {n : Nat} (h : Src H a n) : ∃ xs, H a = some (.lst xs) := by
  obtain ⟨x, y, z, e, r⟩ := h
  exact ⟨_, e⟩
def spSrcOf : Sp := fun vs H Q _ => ∃ c, vs = [.int c] ∧ ∀ a H', H a = none → Same H H' → Src H' a 0 → Q (.ref a) H'
def spNext : Sp := fun vs H Q _ => ∃ (a : Addr) (m : Int) (n : Nat), vs = [.ref a, .int m] ∧ 0 < m ∧ m.natAbs < 2 ^ 1100 ∧ Src H a n ∧ n ≤ 900000 ∧ ∀ (r : Int) H', 0 ≤ r → r < m → Src H' a (n + 1101) → Kp a H H' → Q (.int r) H'
def spOne : Sp := fun vs H Q _ => ∃ (a l : Addr) (xs : List V) (n : Nat), vs = [.ref a, .ref l] ∧ a ≠ l ∧ H l = some (.lst xs) ∧ 0 < xs.length ∧ xs.length ≤ 100000 ∧ Src H a n ∧ n ≤ 900000 ∧ ∀ v H', v ∈ xs → Src H' a (n + 1101) → Kp a H H' → Q v H'
def spCell (K : PySem.W.Frag) : Sp := fun vs H Q _ => ∃ (a : Addr) (ns : List Int) (k : Int), vs = [.ref a, .int k] ∧ SqL K H a (ns.map V.int) ∧ 0 ≤ k ∧ ∀ z, Q (.int z) H
def primes : List V := [.int 2147483647, .int 2147483629, .int 2147483587, .int 2147483579, .int 2147483563, .int 2147483549, .int 2147483543]
theorem prime_at (i : Int) (h0 : 0 ≤ i) (h7 : i < 7) : ∃ p : Int, atI primes i = some (.int p) ∧ 0 < p ∧ p ≤ 2147483647 := by
  have : i = 0 ∨ i = 1 ∨ i = 2 ∨ i = 3 ∨ i = 4 ∨ i = 5 ∨ i = 6 := by omega
  rcases this with rfl | rfl | rfl | rfl | rfl | rfl | rfl <;> exact ⟨_, rfl, by decide, by decide⟩
theorem atI_of {α : Type} {xs : List α} {i : Int} (h0 : 0 ≤ i) (h1 : i < xs.length) : ∃ v, atI xs i = some v ∧ v ∈ xs := by
  have hj : i.toNat < xs.length := by omega
  refine ⟨xs[i.toNat], ?_, List.getElem_mem _⟩
  have e : ((i.toNat : Nat) : Int) = i := by omega
  have := atI_nat (xs := xs) (j := i.toNat) (v := xs[i.toNat]) (List.getElem?_eq_getElem hj)
  rwa [e] at this
section
variable {P : Program} {w : World} {K : PySem.W.Frag} {mg : Str → Option Value} {base : Heap} {L : LA}
theorem sc_srcof : FnScope ["_law_cell"] ["_law_cell"] (defScope st__law_source_of) := ⟨rfl, rfl, rfl, by decide +kernel, rfl, by decide +kernel, by decide +kernel⟩
theorem ok_wsourceof (T : LX K mg L) : Cal P w K mg base "_law_source_of" 1 L.f__law_source_of ["_law_cell"] spSrcOf := T.d__law_source_of.cal fun fd F => by
  refine F.ok sc_srcof (fun vs H Q E h => ?_) (fun cdv A outer s H vs Q E hr h => ?_)
  · obtain ⟨c, rfl, _⟩ := h
    rfl
  · obtain ⟨c, rfl, k⟩ := h
    refine ⟨_, pss_one (ps_ret (pe_lst (pa_cons (pe_op op_mul (pv 0) (pe_callTy call_int1 (by rfl) T.b_int (by decide +kernel) (pa_cons (pe_cmpR op_ge (pv 0) (pe_op op_pow pe_int pe_int) (nomark _)) pa_nil)))
      (pa_cons (pe_op op_mod (pe_callTy call_int1 (by rfl) T.b_int (by decide +kernel) (pa_cons (pv 0) pa_nil)) pe_int) (pa_cons pe_int pa_nil))))), ?_⟩
    refine ⟨_, rfl, _, rfl, _, _, rfl, rfl, ⟨by decide, by decide, by decide⟩, _, _, rfl, rfl, .inr ⟨_, rfl, _, _, rfl, rfl, ?_, ?_⟩⟩
    · refine .inr ?_
      split <;> decide
    · refine ⟨_, rfl, .inl ⟨_, rfl, _, _, rfl, rfl, (by show (0 : Int) < 2147483647; decide), ?_⟩⟩
      refine ⟨(by show 3 ≤ sizeLine; decide), fun l hl => ?_⟩
      refine k l _ hl (Same.upd hl) ⟨_, _, _, upd_same, ?_, Int.emod_nonneg _ (by decide), Int.emod_lt_of_pos _ (by decide), Int.le_refl _, Int.le_refl _⟩
      by_cases hc : (10 : Int) ^ (18 : Int).toNat ≤ c
      · rw [decide_eq_true hc, if_pos rfl, Int.mul_one]
        exact Int.le_trans (by decide) hc
      · rw [decide_eq_false hc, if_neg Bool.false_ne_true, Int.mul_zero]
        exact Int.le_refl _
abbrev N_wnext : List Str := ["_law_source", "_law_many", "_law_found", "_law_prime", "_law_figure"]
theorem sc_wnext : FnScope N_wnext ["_law_source", "_law_many"] (defScope st__law_next) := ⟨rfl, rfl, rfl, by decide +kernel, rfl, by decide +kernel, by decide +kernel⟩
theorem fn_wnext (T : LX K mg L) {fd : FuncData} (F : Fun K "_law_next" "_law_next" st__law_next L.f__law_next fd) : FnOk P w K mg base CX0 1 L.f__law_next fd ["_law_source", "_law_many"] (spNext) := by
  have nd := sc_wnext.nd
  refine F.ok sc_wnext (fun vs H Q E h => ?_) (fun cdv A outer S H vs Q E hr h => ?_)
  · obtain ⟨a, m, n, rfl, _⟩ := h
    rfl
  · obtain ⟨a, m, n, rfl, m0, m1, ⟨x, y, z, ha, x0, y0, y1, z0, z1⟩, hn, k⟩ := h
    refine ⟨_, (pss_cons (ps_if (pt_cmpR op_gt (pe_ix (r := rIxL K) ix_list (pv 0) pe_int (fun _ _ => rfl)) pe_int (nomark _)) (pss_cons (ps_set (i := 2) nd rfl (Or.inl rfl) (pe_op op_mod (pe_callTy call_int1 (by rfl) T.b_int (by decide +kernel) (pa_cons (pe_ix (r := rIxL K) ix_list (pv 0) pe_int (fun _ _ => rfl)) pa_nil)) (pv 1)))
       (pss_cons (ps_asg (pe_op op_fdivW (pe_ix (r := rIxL K) ix_list (pv 0) pe_int (fun _ _ => rfl)) (pv 1)) (pg_sub (pv 0) pe_int set_list))
       (pss_one (ps_ret (pv 2))))) pss_nil)
       (pss_cons (ps_asg (pe_op op_add (pe_ix (r := rIxL K) ix_list (pv 0) pe_int (fun _ _ => rfl)) pe_int) (pg_sub (pv 0) pe_int set_list))
       (pss_cons (ps_set (i := 3) nd rfl (Or.inl rfl) (pe_ix (r := rIxL K) ix_list (pe_lst (pa_cons pe_int (pa_cons pe_int (pa_cons pe_int (pa_cons pe_int (pa_cons pe_int (pa_cons pe_int (pa_cons pe_int pa_nil)))))))) (pe_op op_mod (pe_callTy call_int1 (by rfl) T.b_int (by decide +kernel) (pa_cons (pe_ix (r := rIxL K) ix_list (pv 0) pe_int (fun _ _ => rfl)) pa_nil)) pe_int) (fun _ _ => rfl)))
       (pss_cons (ps_set (i := 4) nd rfl (Or.inl rfl) (pe_op op_mod (pe_callTy call_int1 (by rfl) T.b_int (by decide +kernel) (pa_cons (pe_op op_pow (pe_op op_add (pe_op op_add (pe_ix (r := rIxL K) ix_list (pv 0) pe_int (fun _ _ => rfl)) (pe_op op_mulW pe_int (pe_ix (r := rIxL K) ix_list (pv 0) pe_int (fun _ _ => rfl)))) pe_int) pe_int) pa_nil)) (pv 3)))
       (pss_cons (ps_set (i := 4) nd rfl (Or.inl rfl) (pe_op op_mod (pe_callTy call_int1 (by rfl) T.b_int (by decide +kernel) (pa_cons (pe_op op_mulW (pe_op op_add (pv 4) (pe_ix (r := rIxL K) ix_list (pv 0) pe_int (fun _ _ => rfl))) (pe_op op_add (pe_op op_fdivW (pv 4) pe_int) pe_int)) pa_nil)) (pv 3)))
       (pss_one (ps_ret (pe_op op_mod (pe_callTy call_int1 (by rfl) T.b_int (by decide +kernel) (pa_cons (pe_op op_fdivW (pv 4) pe_int) pa_nil)) (pv 1))))))))), ?_⟩
    refine ⟨_, rfl, _, _, _, _, rfl, rfl, SqL.of ha, rfl, _, _, rfl, rfl, _, rfl, ?_⟩
    refine ite2 (fun c => ?_) (fun c => ?_)
    · refine ⟨_, rfl, _, _, _, _, rfl, rfl, SqL.of ha, rfl, .inl ⟨_, rfl, _, rfl, _, _, rfl, rfl, m0, ?_⟩⟩
      refine ⟨_, rfl, _, _, _, _, rfl, rfl, SqL.of ha, rfl, _, rfl, _, _, rfl, rfl, wide_div m0 m1 (by decide) (by decide), ?_⟩
      refine ⟨_, rfl, _, _, _, 0, rfl, rfl, ha, rfl, ?_⟩
      refine ⟨_, rfl, ?_⟩
      refine k _ _ (Int.emod_nonneg _ (by omega)) (Int.emod_lt_of_pos _ m0) ⟨_, _, _, upd_same, Int.ediv_nonneg x0 (by omega), y0, y1, z0, by omega⟩ Kp.upd
    · have zb1 : z ≤ 902000 := by omega
      refine ⟨_, rfl, _, _, _, _, rfl, rfl, SqL.of ha, rfl, _, _, rfl, rfl, ?_⟩
      refine ⟨_, rfl, _, _, _, 2, rfl, rfl, ha, rfl, ?_⟩
      have ha3 : ∀ b o, b ≠ a → (upd (upd H a (.lst [.int x, .int y, .int (z + 1)])) b o) a = some (.lst [.int x, .int y, .int (z + 1)]) := fun b o n => by rw [upd_ne n.symm, upd_same]
      refine ⟨(by show 7 ≤ sizeLine; decide), fun l hl => ?_⟩
      have hla : l ≠ a := fun e => by
        subst e
        have : (upd H l (.lst [.int x, .int y, .int (z + 1)])) l = none := hl
        rw [upd_same] at this
        cases this
      have hA := ha3 l (.lst primes) hla
      refine ⟨_, rfl, _, _, _, _, rfl, rfl, SqL.of hA, rfl, .inl ⟨_, rfl, _, _, rfl, rfl, (by show (0 : Int) < 7; decide), ?_⟩⟩
      obtain ⟨p, hp, p0, p1⟩ := prime_at ((z + 1) % 7) (Int.emod_nonneg _ (by decide)) (Int.emod_lt_of_pos _ (by decide))
      refine ⟨l, primes, _, _, rfl, rfl, SqL.of upd_same, hp, ?_⟩
      have wz : CMulW 7919 (z + 1) := wide_mul (a := 20) (b := 30) (by decide) (Nat.lt_of_le_of_lt (show (z + 1).natAbs ≤ 902001 by omega) (by decide)) (by decide) (by decide) (by decide)
      refine ⟨_, rfl, _, _, _, _, rfl, rfl, SqL.of hA, rfl, _, rfl, _, _, _, _, rfl, rfl, SqL.of hA, rfl, _, _, rfl, rfl, wz, _, _, rfl, rfl, _, _, rfl, rfl, _, _, rfl, rfl, ⟨by decide, by decide, ?_⟩, .inl ⟨_, rfl, _, rfl, _, _, rfl, rfl, p0, ?_⟩⟩
      · omega
      have f0 : 0 ≤ (y + 7919 * (z + 1) + 1) ^ (5 : Int).toNat % p := Int.emod_nonneg _ (by omega)
      have f1 : (y + 7919 * (z + 1) + 1) ^ (5 : Int).toNat % p < p := Int.emod_lt_of_pos _ p0
      have wf : CMulW ((y + 7919 * (z + 1) + 1) ^ (5 : Int).toNat % p + (z + 1)) ((y + 7919 * (z + 1) + 1) ^ (5 : Int).toNat % p / 1009 + 69621) := by
        generalize (y + 7919 * (z + 1) + 1) ^ (5 : Int).toNat % p = fg at f0 f1 ⊢
        have d0 : 0 ≤ fg / 1009 := Int.ediv_nonneg f0 (by decide)
        have d1 : fg / 1009 ≤ fg := Int.ediv_le_self _ f0
        exact wide_mul (a := 40) (b := 40) (Nat.lt_of_le_of_lt (show (fg + (z + 1)).natAbs ≤ 3000000000 by omega) (by decide)) (Nat.lt_of_le_of_lt (show (fg / 1009 + 69621).natAbs ≤ 3000000000 by omega) (by decide)) (by decide) (by decide) (by decide)
      refine ⟨_, rfl, _, rfl, _, _, _, _, rfl, rfl, SqL.of hA, rfl, _, _, rfl, rfl, _, rfl, _, _, rfl, rfl, wide_div (b := 20) (by decide) (by decide) (by decide) (by decide), _, _, rfl, rfl, _, _, rfl, rfl, wf, .inl ⟨_, rfl, _, rfl, _, _, rfl, rfl, p0, ?_⟩⟩
      refine ⟨_, rfl, _, _, rfl, rfl, wide_div (b := 20) (by decide) (by decide) (by decide) (by decide), .inl ⟨_, rfl, _, rfl, _, _, rfl, rfl, m0, ?_⟩⟩
      exact k _ _ (Int.emod_nonneg _ (by omega)) (Int.emod_lt_of_pos _ m0) ⟨_, _, _, hA, x0, y0, y1, by omega, by omega⟩ (Kp.upd.trans (Kp.of (Same.upd hl)))
theorem ok_wnext (T : LX K mg L) : Cal P w K mg base "_law_next" 1 L.f__law_next ["_law_source", "_law_many"] (spNext) := T.d__law_next.cal fun fd F => fn_wnext T F
abbrev N_wone : List Str := ["_law_source", "_law_options"]
theorem sc_wone : FnScope N_wone ["_law_source", "_law_options"] (defScope st__law_one) := ⟨rfl, rfl, rfl, by decide +kernel, rfl, by decide +kernel, by decide +kernel⟩
theorem fn_wone (T : LX K mg L) {fd : FuncData} (F : Fun K "_law_one" "_law_one" st__law_one L.f__law_one fd) : FnOk P w K mg base CX0 2 L.f__law_one fd ["_law_source", "_law_options"] (spOne) := by
  have G_wnext := ok_wnext (P := P) (w := w) (base := base) T
  have nd := sc_wone.nd
  refine F.ok sc_wone (fun vs H Q E h => ?_) (fun cdv A outer S H vs Q E hr h => ?_)
  · obtain ⟨a, l, xs, n, rfl, _⟩ := h
    rfl
  · obtain ⟨a, l, xs, n, rfl, hal, hl, x0, x1, hs, hn, k⟩ := h
    refine ⟨_, (pss_one (ps_ret (pe_ix (r := rIxL K) ix_list (pv 1) (pe_c G_wnext (hr.mono (by decide)) rfl (pa_cons (pv 0) (pa_cons (pe_callB call_len_seq (by rfl) T.b_len PySem.boot_len (pa_cons (pv 1) pa_nil)) pa_nil))) (fun _ _ => rfl)))), ?_⟩
    refine ⟨_, rfl, _, rfl, _, rfl, l, xs, rfl, .inl (SqL.of hl), a, _, n, rfl, by omega, ?_, hs, hn, fun r H' r0 r1 hs' hk => ?_⟩
    · exact Nat.lt_of_le_of_lt (show ((xs.length : Int)).natAbs ≤ 100000 by omega) (by decide)
    · obtain ⟨v, hv, hm⟩ := atI_of (xs := xs) r0 r1
      exact ⟨l, xs, r, v, rfl, rfl, SqL.of (hk _ _ hal.symm hl), hv, k v H' hm hs' hk⟩
theorem ok_wone (T : LX K mg L) : Cal P w K mg base "_law_one" 2 L.f__law_one ["_law_source", "_law_options"] (spOne) := T.d__law_one.cal fun fd F => fn_wone T F
abbrev N_wcellat : List Str := ["_law_script", "_law_k"]
theorem sc_wcellat : FnScope N_wcellat ["_law_script", "_law_k"] (defScope st__law_cell_at) := ⟨rfl, rfl, rfl, by decide +kernel, rfl, by decide +kernel, by decide +kernel⟩
theorem fn_wcellat (T : LX K mg L) {fd : FuncData} (F : Fun K "_law_cell_at" "_law_cell_at" st__law_cell_at L.f__law_cell_at fd) : FnOk P w K mg base CX0 1 L.f__law_cell_at fd ["_law_script", "_law_k"] (spCell K) := by
  have nd := sc_wcellat.nd
  refine F.ok sc_wcellat (fun vs H Q E h => ?_) (fun cdv A outer S H vs Q E hr h => ?_)
  · obtain ⟨a, ns, i, rfl, _⟩ := h
    rfl
  · obtain ⟨a, ns, i, rfl, hS, i0, k⟩ := h
    refine ⟨_, (pss_cons (ps_if (pt_cmpR op_lt (pv 1) (pe_callB call_len_seq (by rfl) T.b_len PySem.boot_len (pa_cons (pv 0) pa_nil)) (nomark _)) (pss_one (ps_ret (pe_ix (r := rIxL K) ix_list (pv 0) (pv 1) (fun _ _ => rfl)))) pss_nil)
       (pss_one (ps_ret pe_int))), ?_⟩
    refine ⟨_, rfl, _, rfl, a, _, rfl, .inl hS, _, _, rfl, rfl, _, rfl, ?_⟩
    refine ite2 (fun c => ?_) (fun c => ?_)
    · have c' : i < ((ns.map V.int).length : Nat) := of_decide_eq_true c
      obtain ⟨v, hv, hm⟩ := atI_of (xs := ns.map V.int) i0 c'
      obtain ⟨z, _, rfl⟩ := List.mem_map.mp hm
      exact ⟨_, rfl, _, rfl, a, _, _, _, rfl, rfl, hS, hv, k z⟩
    · exact k 0
theorem ok_wcellat (T : LX K mg L) : Cal P w K mg base "_law_cell_at" 1 L.f__law_cell_at ["_law_script", "_law_k"] (spCell K) := T.d__law_cell_at.cal fun fd F => fn_wcellat T F
end
theorem draw_gen {P : Program} {w : World} {mg : Str → Option Value} {t : TA} {σ : L2.St} {H : Hp} {Q : VK} {a : Addr} {n : Nat} {ns : List Int} {hi : Int} {j : Nat} (σ0 : σ[j]? = some (some (.ref a))) (hs : Src H a n) (hn : n ≤ 898000) (ht : ∀ R : List V → Hp → Prop, R (ns.map V.int) H → t σ H R)
    (h0 : 0 < ns.length) (h1 : ns.length ≤ 1000) (hb : ∀ m ∈ ns, 0 < m ∧ m ≤ hi) (hh : hi.natAbs < 2 ^ 1100) (k : ∀ (r : Int) H', 0 ≤ r → r < hi → (∃ m ∈ ns, r < m) → Src H' a (n + 2202) → Kp a H H' → Q (.int r) H') :
    tCall spNext [] E0 (tCons (tVar j) (tCons (tCall spOne [] E0 (tCons (tVar j) (tCons (tLst t) tNil))) tNil)) σ H Q := by
  obtain ⟨ys, hy⟩ := hs.has
  refine ⟨_, σ0, _, σ0, ht _ ⟨(by rw [List.length_map]; exact Nat.le_trans h1 (by decide)), fun l hl => ?_⟩⟩
  have hal : a ≠ l := ne_of_none hy hl
  refine ⟨a, l, ns.map V.int, n, rfl, hal, upd_same, (by rw [List.length_map]; exact h0), (by rw [List.length_map]; omega), hs.same (Same.upd hl), by omega, fun v H1 hv hs1 k1 => ?_⟩
  obtain ⟨m, hm, rfl⟩ := List.mem_map.mp hv
  obtain ⟨m0, m1⟩ := hb m hm
  refine ⟨a, m, n + 1101, rfl, m0, Nat.lt_of_le_of_lt (show m.natAbs ≤ hi.natAbs by omega) hh, hs1, by omega, fun r H2 r0 r1 hs2 k2 => ?_⟩
  exact k r H2 r0 (by omega) ⟨m, hm, r1⟩ hs2 ((Kp.of (Same.upd hl)).trans (k1.trans k2))
theorem choice_gen {P : Program} {w : World} {mg : Str → Option Value} {t : TA} {σ : L2.St} {H : Hp} {Q : VK} {a : Addr} {n : Nat} {ns : List Int} {j : Nat} (σ0 : σ[j]? = some (some (.ref a))) (hs : Src H a n) (hn : n ≤ 898000) (ht : ∀ R : List V → Hp → Prop, R (ns.map V.int) H → t σ H R)
    (h0 : 0 < ns.length) (h1 : ns.length ≤ 1000) (k : ∀ (m : Int) H', m ∈ ns → Src H' a (n + 1101) → Kp a H H' → Q (.int m) H') :
    tCall spOne [] E0 (tCons (tVar j) (tCons (tLst t) tNil)) σ H Q := by
  obtain ⟨ys, hy⟩ := hs.has
  refine ⟨_, σ0, ht _ ⟨(by rw [List.length_map]; exact Nat.le_trans h1 (by decide)), fun l hl => ?_⟩⟩
  have hal : a ≠ l := ne_of_none hy hl
  refine ⟨a, l, ns.map V.int, n, rfl, hal, upd_same, (by rw [List.length_map]; exact h0), (by rw [List.length_map]; omega), hs.same (Same.upd hl), by omega, fun v H1 hv hs1 k1 => ?_⟩
  obtain ⟨m, hm, rfl⟩ := List.mem_map.mp hv
  exact k m H1 hm hs1 ((Kp.of (Same.upd hl)).trans k1)

/-! ### sources kept -/
theorem src_kp {H H' : Hp} {s l : Addr} {n : Nat} (k : Kp l H H') (h : s ≠ l) (S : Src H s n) : Src H' s n := by
  obtain ⟨x, y, z, e, r⟩ := S
  exact ⟨x, y, z, k _ _ h e, r⟩
/-! ### one outage more -/
theorem vout_app : ∀ {os : List (Int × Int)} {m b e : Int}, VOut m os → (∀ o ∈ os, o.2 + 1 ≤ b) → m ≤ b → b < e → e ≤ 1000000000000000000000000000000 → VOut m (os ++ [(b, e)])
  | [], m, b, e, _, _, h1, h2, h3 => ⟨h1, h2, h3, True.intro⟩
  | o :: r, m, b, e, ⟨a1, a2, a3, a4⟩, h, h1, h2, h3 => ⟨a1, a2, a3, vout_app a4 (fun u hu => h u (List.mem_cons_of_mem _ hu)) (h o (List.mem_cons_self ..)) h2 h3⟩
/-! ### rows drawn -/
def spSpecs : Sp := fun vs H Q _ => ∃ (s : Addr) (n : Nat) (m f g : Int), vs = [.ref s, .int m, .int f, .int g] ∧ Src H s n ∧ n ≤ 500000 ∧ 0 ≤ m ∧ m ≤ 12 ∧ 3 ≤ f ∧ f ≤ 100000000000000000000 ∧ 2 ≤ g ∧ g ≤ 1000000000000 ∧
  ∀ l xs ts H', H' l = some (.lst xs) → Brs H' xs ts → (∀ t ∈ ts, OkT t) → (∀ t ∈ ts, t.2.1 ≤ f ∧ t.1 ≤ g) → (ts.length : Int) ≤ m → Src H' s (n + 90000) → Kp s H H' → H l = none → Q (.ref l) H'
section
variable {P : Program} {w : World} {K : PySem.W.Frag} {mg : Str → Option Value} {base : Heap} {L : LA}
abbrev N_wspecs : List Str := ["_law_source", "_law_most", "_law_wide", "_law_many", "_law_found", "_law_k", "_law_wait", "_law_fails"]
theorem sc_wspecs : FnScope N_wspecs ["_law_source", "_law_most", "_law_wide", "_law_many"] (defScope st__law_specs) := ⟨rfl, rfl, rfl, by decide +kernel, rfl, by decide +kernel, by decide +kernel⟩
theorem fn_wspecs (T : LX K mg L) {fd : FuncData} (F : Fun K "_law_specs" "_law_specs" st__law_specs L.f__law_specs fd) : FnOk P w K mg base CX0 3 L.f__law_specs fd ["_law_source", "_law_most", "_law_wide", "_law_many"] (spSpecs) := by
  have G_wnext := ok_wnext (P := P) (w := w) (base := base) T
  have G_wone := ok_wone (P := P) (w := w) (base := base) T
  have nd := sc_wspecs.nd
  refine F.ok sc_wspecs (fun vs H Q E h => ?_) (fun cdv A outer S H vs Q E hr h => ?_)
  · obtain ⟨s, n, m, f, g, rfl, _⟩ := h
    rfl
  · obtain ⟨s, n, m, f, g, rfl, src, hn, m0, m1, f0, f1, g0, g1, k⟩ := h
    refine ⟨_, (pss_cons (ps_set (i := 4) nd rfl (Or.inl rfl) (pe_lst pa_nil))
       (pss_cons (ps_for PassesOwn.never rfl (pi_range1 rfl T.b_range (pa_cons (pe_c G_wnext (hr.mono (by decide)) rfl (pa_cons (pv 0) (pa_cons (pe_op op_add (pv 1) pe_int) pa_nil))) pa_nil)) (pg_name (i := 5) nd rfl (Or.inl rfl)) (pss_cons (ps_set (i := 6) nd rfl (Or.inl rfl) (pe_op op_add pe_int (pe_c G_wnext (hr.mono (by decide)) rfl (pa_cons (pv 0) (pa_cons (pe_c G_wone (hr.mono (by decide)) rfl (pa_cons (pv 0) (pa_cons (pe_lst (pa_cons pe_int (pa_cons (pv 2) pa_nil))) pa_nil))) pa_nil)))))
       (pss_cons (ps_set (i := 7) nd rfl (Or.inl rfl) (pe_op op_add pe_int (pe_c G_wnext (hr.mono (by decide)) rfl (pa_cons (pv 0) (pa_cons (pe_c G_wone (hr.mono (by decide)) rfl (pa_cons (pv 0) (pa_cons (pe_lst (pa_cons pe_int (pa_cons (pv 3) pa_nil))) pa_nil))) pa_nil)))))
       (pss_one (ps_expr (pe_bm PySem.F.plainAttrs_list PySem.F.slot_list_append PySem.F.type_list_append mt_append (pv 4) (pa_cons (pe_tup (pa_cons (pv 7) (pa_cons (pv 6) (pa_cons (pe_op op_add pe_int (pe_c G_wnext (hr.mono (by decide)) rfl (pa_cons (pv 0) (pa_cons (pe_c G_wone (hr.mono (by decide)) rfl (pa_cons (pv 0) (pa_cons (pe_lst (pa_cons pe_int (pa_cons (pv 3) pa_nil))) pa_nil))) pa_nil)))) pa_nil)))) pa_nil)))))))
       (pss_one (ps_ret (pv 4))))), ?_⟩
    obtain ⟨ys, hys⟩ := src.has
    refine ⟨(by show 0 ≤ sizeLine; decide), fun l1 hl1 => ?_⟩
    have s1 := Same.upd (o := .lst []) hl1
    have nls : s ≠ l1 := ne_of_none hys hl1
    refine ⟨_, rfl, _, rfl, _, _, rfl, rfl, s, m + 1, n, rfl, by omega, Nat.lt_of_le_of_lt (show (m + 1).natAbs ≤ 13 by omega) (by decide +kernel), src.same s1, by omega, fun q H1 q0 q1 src1 k1 => ?_⟩
    refine ⟨q, rfl, by omega, by omega, ?_⟩
    refine for_range (lo := 0) (n := q.toNat) (fun j σ H2 => ∃ v5 v6 v7 : Option V, ∃ zs ts, σ = [some (.ref s), some (.int m), some (.int f), some (.int g), some (.ref l1), v5, v6, v7] ∧ H2 l1 = some (.lst zs) ∧ Brs H2 zs ts ∧ (∀ t ∈ ts, OkT t) ∧ (∀ t ∈ ts, t.2.1 ≤ f ∧ t.1 ≤ g) ∧ zs.length ≤ j ∧ Kp s H H2 ∧ Src H2 s (n + 1101 + 6606 * j))
      ⟨none, none, none, [], [], rfl, k1 _ _ nls.symm upd_same, .nil, fun t ht => (nomatch ht), fun t ht => (nomatch ht), Nat.le_refl _, (Kp.of s1).trans k1, src1⟩ ?_ ?_
    · rintro j σ H2 hj ⟨v5, v6, v7, zs, ts, rfl, h2, hb, ok, okf, zl, k2, src2⟩
      have gb : g.natAbs < 2 ^ 1100 := Nat.lt_of_le_of_lt (show g.natAbs ≤ 1000000000000 by omega) (by decide +kernel)
      refine draw_gen (P := P) (w := w) (mg := mg) (a := s) (n := n + 1101 + 6606 * j) (ns := [3, f]) (hi := f) rfl src2 (by omega) (fun R h => ⟨_, rfl, h⟩) (by simp) (by simp) (fun m hm => ?_) (Nat.lt_of_le_of_lt (show f.natAbs ≤ 100000000000000000000 by omega) (by decide +kernel)) fun wt H3 wt0 wt1 _ src3 k3 => ⟨_, _, rfl, rfl, ?_⟩
      · simp only [List.mem_cons, List.mem_nil_iff, or_false] at hm
        rcases hm with rfl | rfl <;> exact ⟨by omega, by omega⟩
      refine draw_gen (P := P) (w := w) (mg := mg) (a := s) (n := n + 1101 + 6606 * j + 2202) (ns := [2, g]) (hi := g) rfl src3 (by omega) (fun R h => ⟨_, rfl, h⟩) (by simp) (by simp) (fun m hm => ?_) gb fun fa H4 fa0 fa1 _ src4 k4 => ⟨_, _, rfl, rfl, ?_⟩
      · simp only [List.mem_cons, List.mem_nil_iff, or_false] at hm
        rcases hm with rfl | rfl <;> exact ⟨by omega, by omega⟩
      have h24 := k4 _ _ nls.symm (k3 _ _ nls.symm h2)
      refine ⟨_, rfl, .inl ⟨rfl, _, SqL.of h24⟩, _, rfl, _, rfl, ?_⟩
      refine draw_gen (P := P) (w := w) (mg := mg) (a := s) (n := n + 1101 + 6606 * j + 4404) (ns := [2, g]) (hi := g) rfl src4 (by omega) (fun R h => ⟨_, rfl, h⟩) (by simp) (by simp) (fun m hm => ?_) gb fun su H5 su0 su1 _ src5 k5 => ⟨_, _, rfl, rfl, (by show 3 ≤ sizeLine; decide), fun tp htp => ?_⟩
      · simp only [List.mem_cons, List.mem_nil_iff, or_false] at hm
        rcases hm with rfl | rfl <;> exact ⟨by omega, by omega⟩
      have h25 := k5 _ _ nls.symm h24
      have s6 := Same.upd (o := .tup [.int (1 + fa), .int (1 + wt), .int (1 + su)]) htp
      have h26 := s6 _ _ h25
      refine ⟨l1, _, _, rfl, rfl, h26, small1 (by omega), ?_⟩
      have n7 := NL.upd (o := .lst (zs ++ [.ref tp])) h26
      obtain ⟨y2, hy2⟩ := src2.has
      obtain ⟨y3, hy3⟩ := src3.has
      obtain ⟨y4, hy4⟩ := src4.has
      have nl25 : NL H2 H5 := ((Kp.nl k3 hy2).trans (Kp.nl k4 hy3)).trans (Kp.nl k5 hy4)
      refine ⟨_, _, _, zs ++ [.ref tp], ts ++ [(1 + fa, 1 + wt, 1 + su)], rfl, upd_same, ?_, fun t ht => ?_, fun t ht => ?_, by rw [List.length_append]; show zs.length + 1 ≤ j + 1; omega, fun u w nu e => ?_, ?_⟩
      · exact Brs.app (((hb.nl nl25).nl (NL.of s6)).nl n7) (.cons ⟨tp, rfl, n7 _ _ upd_same fun _ z => nomatch z⟩ .nil)
      · rcases List.mem_append.mp ht with ht | ht
        · exact ok t ht
        · rw [List.mem_singleton.mp ht]
          show 1 ≤ 1 + fa ∧ 1 + fa ≤ 1000000000000 ∧ 1 ≤ 1 + wt ∧ 1 + wt ≤ 1000000000000000000000000000000 ∧ 1 ≤ 1 + su ∧ 1 + su ≤ 1000000000000
          exact ⟨by omega, by omega, by omega, by omega, by omega, by omega⟩
      · rcases List.mem_append.mp ht with ht | ht
        · exact okf t ht
        · rw [List.mem_singleton.mp ht]
          show 1 + wt ≤ f ∧ 1 + fa ≤ g
          omega
      · rw [upd_ne (ne_of_none e hl1)]
        exact s6 _ _ (k5 _ _ nu (k4 _ _ nu (k3 _ _ nu (k2 _ _ nu e))))
      · refine src_kp ?_ nls (src5.same s6 |>.mono (by omega))
        exact Kp.upd
    · rintro σ H2 ⟨v5, v6, v7, zs, ts, rfl, h2, hb, ok, okf, zl, k2, src2⟩
      have bl := Brs.len hb
      exact ⟨_, rfl, k l1 zs ts H2 h2 hb ok okf (by omega) (src2.mono (by omega)) k2 hl1⟩
theorem ok_wspecs (T : LX K mg L) : Cal P w K mg base "_law_specs" 3 L.f__law_specs ["_law_source", "_law_most", "_law_wide", "_law_many"] (spSpecs) := T.d__law_specs.cal fun fd F => fn_wspecs T F
end
/-! ### try: a body that raises nothing -/
theorem ps_try_none {X : Cx} {body : List Stmt} {tb : TS} {h₀ : ExceptHandler} {hs : List ExceptHandler} {pos : Pos} (hb : ∀ pn : List (Addr × Obj), PSs (X.tr pn fun _ _ => False) body tb) :
    PS X (.Try body (h₀ :: hs) [] [] pos) tb := by
  refine ⟨fun pins s σ H D I h => ?_⟩
  have ok := I.ok
  refine wpAny_Try_except ?_
  refine wpAny_mono ((hb (X.pn ++ pins)).run [] s σ H D (I.toTry _) h) (fun f s1 hsp => ?_) (fun e s1 he => he.elim)
  cases f with
  | next =>
    obtain ⟨σ', H', J', q⟩ := hsp
    exact wpAny_execs_nil ⟨σ', H', J'.ofTry ok, q⟩
  | brk =>
    obtain ⟨σ', H', J', q⟩ := hsp
    exact ⟨σ', H', J'.ofTry ok, q⟩
  | cont =>
    obtain ⟨σ', H', J', q⟩ := hsp
    exact ⟨σ', H', J'.ofTry ok, q⟩
  | ret u =>
    obtain ⟨v, σ', H', J', r, q⟩ := hsp
    exact ⟨v, σ', H', J'.ofTry ok, r, q⟩
/-! ### routes as data -/
abbrev Svc := List Tri × List (Int × Int)
theorem rq1 : ¬ (("step" : Str) = "pattern") := by decide +kernel
theorem rq2 : ¬ (("step" : Str) = "services") := by decide +kernel
theorem rq3 : ¬ (("step" : Str) = "common") := by decide +kernel
theorem rq4 : ¬ (("pattern" : Str) = "services") := by decide +kernel
theorem rq5 : ¬ (("pattern" : Str) = "common") := by decide +kernel
theorem rq6 : ¬ (("services" : Str) = "common") := by decide +kernel
def rtF (aC aS aP : Addr) (st : Int) : List (Str × V) := putF "step" (.int st) (putF "pattern" (.ref aP) (putF "services" (.ref aS) (putF "common" (.ref aC) [])))
theorem rtF_c (aC aS aP : Addr) (st : Int) : (rtF aC aS aP st).lookup ("common" : Str) = some (.ref aC) := by
  unfold rtF
  rw [lookup_putF, if_neg (fun e => rq3 e.symm), lookup_putF, if_neg (fun e => rq5 e.symm), lookup_putF, if_neg (fun e => rq6 e.symm), lookup_putF, if_pos rfl]
theorem rtF_s (aC aS aP : Addr) (st : Int) : (rtF aC aS aP st).lookup ("services" : Str) = some (.ref aS) := by
  unfold rtF
  rw [lookup_putF, if_neg (fun e => rq2 e.symm), lookup_putF, if_neg (fun e => rq4 e.symm), lookup_putF, if_pos rfl]
theorem rtF_p (aC aS aP : Addr) (st : Int) : (rtF aC aS aP st).lookup ("pattern" : Str) = some (.ref aP) := by
  unfold rtF
  rw [lookup_putF, if_neg (fun e => rq1 e.symm), lookup_putF, if_pos rfl]
theorem rtF_st (aC aS aP : Addr) (st : Int) : (rtF aC aS aP st).lookup ("step" : Str) = some (.int st) := by
  unfold rtF
  rw [lookup_putF, if_pos rfl]
theorem rtF_no (aC aS aP : Addr) (st : Int) {m : Str} (h1 : ¬ m = "step") (h2 : ¬ m = "pattern") (h3 : ¬ m = "services") (h4 : ¬ m = "common") : (rtF aC aS aP st).lookup m = none := by
  unfold rtF
  rw [lookup_putF, if_neg h1, lookup_putF, if_neg h2, lookup_putF, if_neg h3, lookup_putF, if_neg h4]
  all_goals rfl
/-- a service as it is held -/
def SvAt (H : Hp) (v : V) (sv : Svc) : Prop := ∃ a ab ao xb xo, v = .ref a ∧ H a = some (.tup [.ref ab, .ref ao]) ∧ H ab = some (.tup xb) ∧ Brs H xb sv.1 ∧ H ao = some (.tup xo) ∧ Ots H xo (outs sv.2)
/-- .. as it is given -/
def SlAt (H : Hp) (v : V) (sv : Svc) : Prop := ∃ a ab ao xb xo, v = .ref a ∧ H a = some (.tup [.ref ab, .ref ao]) ∧ H ab = some (.lst xb) ∧ Brs H xb sv.1 ∧ H ao = some (.lst xo) ∧ Ots H xo (outs sv.2)
def OkSv (sv : Svc) : Prop := (∀ t ∈ sv.1, OkT t) ∧ sv.1.length ≤ 12 ∧ VOut 0 sv.2 ∧ sv.2.length ≤ 50
theorem SvAt.nl {H H' : Hp} (k : NL H H') {v : V} {sv : Svc} (h : SvAt H v sv) : SvAt H' v sv := by
  obtain ⟨a, ab, ao, xb, xo, e, h1, h2, h3, h4, h5⟩ := h
  exact ⟨a, ab, ao, xb, xo, e, k _ _ h1 (fun _ z => nomatch z), k _ _ h2 (fun _ z => nomatch z), h3.nl k, k _ _ h4 (fun _ z => nomatch z), h5.nl k⟩
theorem SlAt.same {H H' : Hp} (k : Same H H') {v : V} {sv : Svc} (h : SlAt H v sv) : SlAt H' v sv := by
  obtain ⟨a, ab, ao, xb, xo, e, h1, h2, h3, h4, h5⟩ := h
  exact ⟨a, ab, ao, xb, xo, e, k _ _ h1, k _ _ h2, h3.nl (NL.of k), k _ _ h4, h5.same k⟩
theorem Brs.ni' {H H' : Hp} (k : NI H H') {xs : List V} {ts : List Tri} (h : Brs H xs ts) : Brs H' xs ts := L2.Paired.mapP h fun _ _ ⟨b, e, h⟩ => ⟨b, e, k _ _ h fun _ _ _ z => nomatch z⟩
theorem SvAt.ni {H H' : Hp} (k : NI H H') {v : V} {sv : Svc} (h : SvAt H v sv) : SvAt H' v sv := by
  obtain ⟨a, ab, ao, xb, xo, e, h1, h2, h3, h4, h5⟩ := h
  exact ⟨a, ab, ao, xb, xo, e, k _ _ h1 (fun _ _ _ z => nomatch z), k _ _ h2 (fun _ _ _ z => nomatch z), h3.ni' k, k _ _ h4 (fun _ _ _ z => nomatch z), h5.ni k⟩
theorem SlAt.ni {H H' : Hp} (k : NI H H') {v : V} {sv : Svc} (h : SlAt H v sv) : SlAt H' v sv := by
  obtain ⟨a, ab, ao, xb, xo, e, h1, h2, h3, h4, h5⟩ := h
  exact ⟨a, ab, ao, xb, xo, e, k _ _ h1 (fun _ _ _ z => nomatch z), k _ _ h2 (fun _ _ _ z => nomatch z), h3.ni' k, k _ _ h4 (fun _ _ _ z => nomatch z), h5.ni k⟩
def pnV (n : Nat) : V := .int (n : Int)
/-- routes stand at p -/
structure RtAt (C : Addr) (H : Hp) (p aC aS aP : Addr) (xC xS : List V) (fr : List Tri) (svs : List Svc) (pat : List Nat) (st : Int) : Prop where
  ob : ∃ dx, H p = some (.ins C dx (rtF aC aS aP st))
  hC : H aC = some (.tup xC)
  bC : Brs H xC fr
  hS : H aS = some (.tup xS)
  sv : Paired (SvAt H) xS svs
  hP : H aP = some (.tup (pat.map pnV))
  okC : ∀ t ∈ fr, OkT t
  lnC : fr.length ≤ 12
  okS : ∀ s ∈ svs, OkSv s
  s0 : 1 ≤ svs.length
  s1 : svs.length ≤ 10
  p0 : 1 ≤ pat.length
  p1 : pat.length ≤ 20
  pb : ∀ n ∈ pat, n < svs.length
  st0 : 1 ≤ st
  st1 : st ≤ 1000000000000000000000000000000
theorem RtAt.nl {C : Addr} {H H' : Hp} {p aC aS aP : Addr} {xC xS : List V} {fr : List Tri} {svs : List Svc} {pat : List Nat} {st : Int} (R : RtAt C H p aC aS aP xC xS fr svs pat st) (k : NL H H') : RtAt C H' p aC aS aP xC xS fr svs pat st := by
  obtain ⟨dx, h⟩ := R.ob
  exact ⟨⟨dx, k _ _ h fun _ z => nomatch z⟩, k _ _ R.hC fun _ z => (nomatch z), R.bC.nl k, k _ _ R.hS fun _ z => (nomatch z), L2.Paired.mapP R.sv fun _ _ z => z.nl k, k _ _ R.hP fun _ z => (nomatch z), R.okC, R.lnC, R.okS, R.s0, R.s1, R.p0, R.p1, R.pb, R.st0, R.st1⟩
def RtV (C : Addr) (H : Hp) (p : Addr) (fr : List Tri) (svs : List Svc) (pat : List Nat) (st : Int) : Prop := ∃ aC aS aP xC xS, RtAt C H p aC aS aP xC xS fr svs pat st
theorem RtV.nl {C : Addr} {H H' : Hp} {p : Addr} {fr : List Tri} {svs : List Svc} {pat : List Nat} {st : Int} (R : RtV C H p fr svs pat st) (k : NL H H') : RtV C H' p fr svs pat st := by
  obtain ⟨aC, aS, aP, xC, xS, R⟩ := R
  exact ⟨aC, aS, aP, xC, xS, R.nl k⟩
/-- what is given for routes is good -/
structure RtOk (fr : List Tri) (svs : List Svc) (pat : List Nat) (st : Int) : Prop where
  okC : ∀ t ∈ fr, OkT t
  lnC : fr.length ≤ 12
  okS : ∀ s ∈ svs, OkSv s
  s0 : 1 ≤ svs.length
  s1 : svs.length ≤ 10
  p0 : 1 ≤ pat.length
  p1 : pat.length ≤ 20
  pb : ∀ n ∈ pat, n < svs.length
  st0 : 1 ≤ st
  st1 : st ≤ 1000000000000000000000000000000
def spIsSv : Sp := fun vs H Q _ => ∃ v sv, vs = [v] ∧ SlAt H v sv ∧ OkSv sv ∧ ∀ H', Same H H' → Q (.bl true) H'
def spCkSv : Sp := fun vs H Q _ => ∃ l xs svs, vs = [.ref l] ∧ H l = some (.lst xs) ∧ Paired (SlAt H) xs svs ∧ (∀ s ∈ svs, OkSv s) ∧ 1 ≤ svs.length ∧ svs.length ≤ 10 ∧ ∀ H', Same H H' → Q .non H'
def spCkPat : Sp := fun vs H Q _ => ∃ (l : Addr) (pat : List Nat) (n : Nat), vs = [.ref l, .int (n : Int)] ∧ H l = some (.lst (pat.map pnV)) ∧ 1 ≤ pat.length ∧ pat.length ≤ 20 ∧ (∀ k ∈ pat, k < n) ∧ ∀ H', Same H H' → Q .non H'
def spRtInit (C : Addr) : Sp := fun vs H Q _ => ∃ p lc ls lp st xc xs fr svs pat dx, vs = [.ref p, .ref lc, .ref ls, .ref lp, .int st] ∧ H p = some (.ins C dx []) ∧ H lc = some (.lst xc) ∧ Brs H xc fr ∧ H ls = some (.lst xs) ∧ Paired (SlAt H) xs svs ∧ H lp = some (.lst (pat.map pnV)) ∧ RtOk fr svs pat st ∧
  ∀ H', RtV C H' p fr svs pat st → Kp p H H' → Q .non H'
def spIsUp : Sp := fun vs H Q _ => ∃ (a : Addr) (xo : List V) (os : List (Int × Int)) (t : Int), vs = [.ref a, .int t] ∧ H a = some (.tup xo) ∧ Ots H xo (outs os) ∧ Q (.bl (upB os t)) H
section
variable {P : Program} {w : World} {K : PySem.W.Frag} {mg : Str → Option Value} {base : Heap} {L : LA}
abbrev N_isservice : List Str := ["value", "breakers", "outages"]
theorem sc_isservice : FnScope N_isservice ["value"] (defScope st_is_service) := ⟨rfl, rfl, rfl, by decide +kernel, rfl, by decide +kernel, by decide +kernel⟩
theorem fn_isservice (T : LX K mg L) {fd : FuncData} (F : Fun K "is_service" "is_service" st_is_service L.f_is_service fd) : FnOk P w K mg base CX0 5 L.f_is_service fd ["value"] (spIsSv) := by
  have G_checkbreakers := ok_checkbreakers (P := P) (w := w) (base := base) T
  have G_checkoutages := ok_checkoutages (P := P) (w := w) (base := base) T
  have nd := sc_isservice.nd
  refine F.ok sc_isservice (fun vs H Q E h => ?_) (fun cdv A outer S H vs Q E hr h => ?_)
  · obtain ⟨v, sv, rfl, _⟩ := h
    rfl
  · obtain ⟨v, sv, rfl, ⟨a, ab, ao, xb, xo, rfl, ha, hab, hb, hao, ho⟩, ⟨o1, o2, o3, o4⟩, k⟩ := h
    refine ⟨_, (pss_cons (ps_if (PW.pt (pw_or (pt_not (pt_val (pe_callB call_isi (by rfl) T.b_isinstance (by decide +kernel) (pa_cons (pv 0) (pa_cons (pe_bltn (by rfl) T.b_tuple (by decide +kernel : bootBuiltins "tuple" = some (.type "tuple")) (v := .ty "tuple") rfl) pa_nil))))) (pw_or1 (pt_cmpR op_ne (pe_callB call_len_seq (by rfl) T.b_len PySem.boot_len (pa_cons (pv 0) pa_nil)) pe_int (nomark _))))) (pss_one (ps_ret pe_bl)) pss_nil)
       (pss_cons (ps_asg (pv 0) (pg_tup rfl (pgs_cons (pg_name (i := 1) nd rfl (Or.inl rfl)) (pgs_cons (pg_name (i := 2) nd rfl (Or.inl rfl)) pgs_nil))))
       (pss_cons (ps_try_none (fun pn => (pss_cons (ps_expr (pe_c G_checkbreakers (hr.mono (by decide)) rfl (pa_cons (pv 1) (pa_cons pe_str pa_nil))))
       (pss_one (ps_expr (pe_c G_checkoutages (hr.mono (by decide)) rfl (pa_cons (pv 2) pa_nil)))))))
       (pss_one (ps_ret pe_bl))))), ?_⟩
    refine ⟨_, rfl, _, .ty "tuple", _, _, _, rfl, .ty "tuple", (Kd.tup ha).ty, (Kd.tup ha).kit "tuple" _ (.inr ⟨by decide, by decide, rfl⟩), _, rfl, iteF ?_⟩
    refine ⟨_, rfl, a, _, rfl, .inr (SqT.of ha), rfl, _, rfl, iteF ?_⟩
    refine ⟨_, rfl, a, _, rfl, SqT.of ha, rfl, _, _, rfl, _, _, rfl, rfl, ?_⟩
    refine ⟨_, rfl, ab, xb, sv.1, _, rfl, hab, hb, o1, o2, fun H1 s1 => ?_⟩
    refine ⟨_, rfl, ao, xo, sv.2, rfl, s1 _ _ hao, ho.same s1, o3, o4, fun H2 s2 => ?_⟩
    exact k H2 (s1.trans s2)
theorem ok_isservice (T : LX K mg L) : Cal P w K mg base "is_service" 5 L.f_is_service ["value"] (spIsSv) := T.d_is_service.cal fun fd F => fn_isservice T F
abbrev N_checkservices : List Str := ["services", "at", "service"]
theorem sc_checkservices : FnScope N_checkservices ["services"] (defScope st_check_services) := ⟨rfl, rfl, rfl, by decide +kernel, rfl, by decide +kernel, by decide +kernel⟩
theorem fn_checkservices (T : LX K mg L) {fd : FuncData} (F : Fun K "check_services" "check_services" st_check_services L.f_check_services fd) : FnOk P w K mg base CX0 6 L.f_check_services fd ["services"] (spCkSv) := by
  obtain ⟨tk_MOST_SERVICES, c_MOST_SERVICES⟩ := T.n_MOST_SERVICES
  have G_isservice := ok_isservice (P := P) (w := w) (base := base) T
  have nd := sc_checkservices.nd
  refine F.ok sc_checkservices (fun vs H Q E h => ?_) (fun cdv A outer S H vs Q E hr h => ?_)
  · obtain ⟨l, xs, svs, rfl, _⟩ := h
    rfl
  · obtain ⟨l, xs, svs, rfl, hl, hp, ok, l0, l1, k⟩ := h
    refine ⟨_, (pss_cons (ps_if (PW.pt (pw_or (pt_not (pt_val (pe_callB call_isi (by rfl) T.b_isinstance (by decide +kernel) (pa_cons (pv 0) (pa_cons (pe_bltn (by rfl) T.b_list (by decide +kernel : bootBuiltins "list" = some (.type "list")) (v := .ty "list") rfl) pa_nil))))) (pw_or1 (pt_not (pt_chain op_le op_le pe_int (pe_callB call_len_seq (by rfl) T.b_len PySem.boot_len (pa_cons (pv 0) pa_nil)) (pe_gI c_MOST_SERVICES)))))) (pss_one (ps_never)) pss_nil)
       (pss_one (ps_for PassesOwn.never rfl (pi_enum (by rfl) T.b_enumerate (pa_cons (pv 0) pa_nil)) (pg_tup rfl (pgs_cons (pg_name (i := 1) nd rfl (Or.inl rfl)) (pgs_cons (pg_name (i := 2) nd rfl (Or.inl rfl)) pgs_nil))) (pss_one (ps_if (pt_not (pt_val (pe_c G_isservice (hr.mono (by decide)) rfl (pa_cons (pv 2) pa_nil)))) (pss_one (ps_never)) pss_nil))))), ?_⟩
    have xl := paired_len hp
    refine ⟨_, rfl, _, .ty "list", _, _, _, rfl, .ty "list", (Kd.lst hl).ty, (Kd.lst hl).kit "list" _ (.inr ⟨by decide, by decide, rfl⟩), _, rfl, iteF ?_⟩
    refine ⟨_, rfl, l, _, rfl, .inl (SqL.of hl), _, _, rfl, rfl, ?_⟩
    refine ⟨_, rfl, ?_⟩
    rw [decide_eq_true (show (1 : Int) ≤ (xs.length : Nat) by omega)]
    refine iteT ⟨_, _, rfl, rfl, _, rfl, ?_⟩
    show if (!(decide (((xs.length : Nat) : Int) ≤ 10))) = true then _ else _
    rw [decide_eq_true (show ((xs.length : Nat) : Int) ≤ 10 by omega)]
    refine iteF ⟨_, rfl, l, xs, rfl, SqL.of hl, for_enum (K := K) (a := l) (xs := xs) (fun i σ H2 => ∃ u v : Option V, σ = [some (.ref l), u, v] ∧ Same H H2) ⟨none, none, rfl, Same.refl H⟩ (fun i σ H2 _ ⟨_, _, _, s2⟩ => SqL.of (s2 _ _ hl)) ?_ ?_⟩
    · rintro i x T' σ H2 hx ⟨u, v, rfl, s2⟩ hT
      obtain ⟨sv, hsv, hat⟩ := paired_get hp hx
      have s3 : Same H (upd H2 T' (.tup [.int (i : Nat), x])) := s2.trans (Same.upd hT)
      refine ⟨T', _, rfl, SqT.of upd_same, rfl, _, _, rfl, _, _, rfl, rfl, ?_⟩
      exact ⟨_, rfl, x, sv, rfl, hat.same s3, ok sv (List.mem_of_getElem? hsv), fun H4 s4 => ⟨_, rfl, iteF ⟨_, _, rfl, s3.trans s4⟩⟩⟩
    · rintro σ H2 ⟨u, v, rfl, s2⟩
      exact k H2 s2
theorem ok_checkservices (T : LX K mg L) : Cal P w K mg base "check_services" 6 L.f_check_services ["services"] (spCkSv) := T.d_check_services.cal fun fd F => fn_checkservices T F
abbrev N_checkpattern : List Str := ["pattern", "number", "at", "service"]
theorem sc_checkpattern : FnScope N_checkpattern ["pattern", "number"] (defScope st_check_pattern) := ⟨rfl, rfl, rfl, by decide +kernel, rfl, by decide +kernel, by decide +kernel⟩
theorem fn_checkpattern (T : LX K mg L) {fd : FuncData} (F : Fun K "check_pattern" "check_pattern" st_check_pattern L.f_check_pattern fd) : FnOk P w K mg base CX0 3 L.f_check_pattern fd ["pattern", "number"] (spCkPat) := by
  obtain ⟨tk_MOST_PLACES, c_MOST_PLACES⟩ := T.n_MOST_PLACES
  have G_iswithin := ok_iswithin (P := P) (w := w) (base := base) T
  have nd := sc_checkpattern.nd
  refine F.ok sc_checkpattern (fun vs H Q E h => ?_) (fun cdv A outer S H vs Q E hr h => ?_)
  · obtain ⟨l, pat, n, rfl, _⟩ := h
    rfl
  · obtain ⟨l, pat, n, rfl, hl, p0, p1, pb, k⟩ := h
    refine ⟨_, (pss_cons (ps_if (PW.pt (pw_or (pt_not (pt_val (pe_callB call_isi (by rfl) T.b_isinstance (by decide +kernel) (pa_cons (pv 0) (pa_cons (pe_bltn (by rfl) T.b_list (by decide +kernel : bootBuiltins "list" = some (.type "list")) (v := .ty "list") rfl) pa_nil))))) (pw_or1 (pt_not (pt_chain op_le op_le pe_int (pe_callB call_len_seq (by rfl) T.b_len PySem.boot_len (pa_cons (pv 0) pa_nil)) (pe_gI c_MOST_PLACES)))))) (pss_one (ps_never)) pss_nil)
       (pss_one (ps_for PassesOwn.never rfl (pi_enum (by rfl) T.b_enumerate (pa_cons (pv 0) pa_nil)) (pg_tup rfl (pgs_cons (pg_name (i := 2) nd rfl (Or.inl rfl)) (pgs_cons (pg_name (i := 3) nd rfl (Or.inl rfl)) pgs_nil))) (pss_one (ps_if (pt_not (pt_val (pe_c G_iswithin (hr.mono (by decide)) rfl (pa_cons (pv 3) (pa_cons pe_int (pa_cons (pe_op op_sub (pv 1) pe_int) pa_nil)))))) (pss_one (ps_never)) pss_nil))))), ?_⟩
    refine ⟨_, rfl, _, .ty "list", _, _, _, rfl, .ty "list", (Kd.lst hl).ty, (Kd.lst hl).kit "list" _ (.inr ⟨by decide, by decide, rfl⟩), _, rfl, iteF ?_⟩
    refine ⟨_, rfl, l, _, rfl, .inl (SqL.of hl), _, _, rfl, rfl, ?_⟩
    have xl : (pat.map pnV).length = pat.length := List.length_map ..
    refine ⟨_, rfl, ?_⟩
    rw [decide_eq_true (show (1 : Int) ≤ ((pat.map pnV).length : Nat) by omega)]
    refine iteT ⟨_, _, rfl, rfl, _, rfl, ?_⟩
    show if (!(decide ((((pat.map pnV).length : Nat) : Int) ≤ 20))) = true then _ else _
    rw [decide_eq_true (show (((pat.map pnV).length : Nat) : Int) ≤ 20 by omega)]
    refine iteF ⟨_, rfl, l, _, rfl, SqL.of hl, for_enum (K := K) (a := l) (xs := pat.map pnV) (fun i σ H2 => ∃ u v : Option V, σ = [some (.ref l), some (.int (n : Int)), u, v] ∧ Same H H2) ⟨none, none, rfl, Same.refl H⟩ (fun i σ H2 _ ⟨_, _, _, s2⟩ => SqL.of (s2 _ _ hl)) ?_ ?_⟩
    · rintro i x T' σ H2 hx ⟨u, v, rfl, s2⟩ hT
      obtain ⟨m, hm, rfl⟩ : ∃ m, pat[i]? = some m ∧ x = pnV m := by
        rw [List.getElem?_map] at hx
        obtain ⟨m, hm, e⟩ := Option.map_eq_some_iff.mp hx
        exact ⟨m, hm, e.symm⟩
      have mb := pb m (List.mem_of_getElem? hm)
      have s3 : Same H (upd H2 T' (.tup [.int (i : Nat), pnV m])) := s2.trans (Same.upd hT)
      refine ⟨T', _, rfl, SqT.of upd_same, rfl, _, _, rfl, _, _, rfl, rfl, ?_⟩
      refine ⟨_, rfl, _, rfl, _, _, rfl, rfl, _, _, _, _, rfl, .int _, _, rfl, ?_⟩
      show if (!(isI (V.int (m : Int)) && (decide ((0 : Int) ≤ (m : Int)) && decide ((m : Int) ≤ (n : Int) - 1)))) = true then _ else _
      rw [k6_pos (show (0 : Int) ≤ (m : Int) by omega) (show (m : Int) ≤ (n : Int) - 1 by omega)]
      exact iteF ⟨_, _, rfl, s3⟩
    · rintro σ H2 ⟨u, v, rfl, s2⟩
      exact k H2 s2
theorem ok_checkpattern (T : LX K mg L) : Cal P w K mg base "check_pattern" 3 L.f_check_pattern ["pattern", "number"] (spCkPat) := T.d_check_pattern.cal fun fd F => fn_checkpattern T F
abbrev N_isup : List Str := ["outages", "time", "begin", "end"]
theorem sc_isup : FnScope N_isup ["outages", "time"] (defScope st_is_up) := ⟨rfl, rfl, rfl, by decide +kernel, rfl, by decide +kernel, by decide +kernel⟩
theorem fn_isup (T : LX K mg L) {fd : FuncData} (F : Fun K "is_up" "is_up" st_is_up L.f_is_up fd) : FnOk P w K mg base CX0 1 L.f_is_up fd ["outages", "time"] (spIsUp) := by
  have nd := sc_isup.nd
  refine F.ok sc_isup (fun vs H Q E h => ?_) (fun cdv A outer S H vs Q E hr h => ?_)
  · obtain ⟨a, xo, os, t, rfl, _⟩ := h
    rfl
  · obtain ⟨a, xo, os, t, rfl, ha, ho, k⟩ := h
    refine ⟨_, (pss_cons (ps_for PassesOwn.never rfl (pi_tup (pv 0)) (pg_tup rfl (pgs_cons (pg_name (i := 2) nd rfl (Or.inl rfl)) (pgs_cons (pg_name (i := 3) nd rfl (Or.inl rfl)) pgs_nil))) (pss_one (ps_if (pt_chain op_le op_lt (pv 2) (pv 1) (pv 3)) (pss_one (ps_ret pe_bl)) pss_nil)))
       (pss_one (ps_ret pe_bl))), ?_⟩
    have xl := paired_len ho
    rw [outs_len] at xl
    refine ⟨_, rfl, a, rfl, ⟨_, SqT.of ha⟩, ?_⟩
    refine for_tup (K := K) (a := a) (xs := xo) (fun i σ Hc => ∃ u v : Option V, σ = [some (.ref a), some (.int t), u, v] ∧ ¬ dn (os.take i) t ∧ Hc = H) ⟨none, none, rfl, fun ⟨o, ho, _⟩ => (nomatch ho), rfl⟩ (fun i σ Hc _ ⟨_, _, _, _, e⟩ => by rw [e]; exact SqT.of ha) ?_ ?_
    · rintro i x σ Hc hxi ⟨u, v, rfl, nd', rfl⟩
      obtain ⟨o', ho', hox⟩ := paired_get ho hxi
      obtain ⟨o, hoi, rfl⟩ : ∃ o, os[i]? = some o ∧ o' = (o.1, some o.2) := by
        unfold outs at ho'
        rw [List.getElem?_map] at ho'
        cases q : os[i]? with
        | none => rw [q] at ho'; cases ho'
        | some o => rw [q] at ho'; cases ho'; exact ⟨o, rfl, rfl⟩
      obtain ⟨c0, rfl, hc0⟩ := hox
      have etk : os.take (i + 1) = os.take i ++ [o] := by rw [List.take_add_one, hoi]; rfl
      have om := List.mem_of_getElem? hoi
      refine ⟨c0, _, rfl, SqT.of hc0, rfl, _, _, rfl, _, _, rfl, rfl, ?_⟩
      have go : ¬ (o.1 ≤ t ∧ t < o.2) → ∃ u v : Option V, [some (V.ref a), some (.int t), some (.int o.1), some (.int o.2)] = [some (.ref a), some (.int t), u, v] ∧ ¬ dn (os.take (i + 1)) t ∧ Hc = Hc := fun q => ⟨_, _, rfl, by rw [etk, dn_app]; exact fun z => z.elim nd' q, rfl⟩
      refine ⟨_, rfl, _, rfl, _, _, rfl, rfl, _, rfl, ite2 (fun c1 => ⟨_, rfl, _, _, rfl, rfl, _, rfl, ite2 (fun c2 => ?_) (fun c2 => go fun z => c2 (decide_eq_true z.2))⟩) (fun c1 => ⟨_, rfl, iteF (go fun z => c1 (decide_eq_true z.1))⟩)⟩
      have : upB os t = false := by
        cases q : upB os t with
        | false => rfl
        | true => exact absurd ⟨o, om, of_decide_eq_true c1, of_decide_eq_true c2⟩ (upB_iff.mp q)
      rw [this] at k
      exact k
    · rintro σ Hc ⟨u, v, rfl, nd', rfl⟩
      rw [xl, List.take_length] at nd'
      rw [upB_iff.mpr nd'] at k
      exact k
theorem ok_isup (T : LX K mg L) : Cal P w K mg base "is_up" 1 L.f_is_up ["outages", "time"] (spIsUp) := T.d_is_up.cal fun fd F => fn_isup T F
abbrev N_Routesinit : List Str := ["self", "common", "services", "pattern", "step", "breakers", "outages"]
theorem sc_Routesinit : FnScope N_Routesinit ["self", "common", "services", "pattern", "step"] (defScope st_Routes_init) := ⟨rfl, rfl, rfl, by decide +kernel, rfl, by decide +kernel, by decide +kernel⟩
theorem fn_Routesinit (T : LX K mg L) {fd : FuncData} (F : Fun K "__init__" "Routes.__init__" st_Routes_init L.i_Routes fd) : FnOk P w K mg base CX0 8 L.i_Routes fd ["self", "common", "services", "pattern", "step"] (spRtInit L.c_Routes) := by
  have G_checkbreakers := ok_checkbreakers (P := P) (w := w) (base := base) T
  have G_checkservices := ok_checkservices (P := P) (w := w) (base := base) T
  have G_checkpattern := ok_checkpattern (P := P) (w := w) (base := base) T
  have G_checkstep := ok_checkstep (P := P) (w := w) (base := base) T
  have nd := sc_Routesinit.nd
  refine F.ok sc_Routesinit (fun vs H Q E h => ?_) (fun cdv A outer S H vs Q E hr h => ?_)
  · obtain ⟨p, lc, ls, lp, st, xc, xs, fr, svs, pat, dx, rfl, _⟩ := h
    rfl
  · obtain ⟨p, lc, ls, lp, st, xc, xs, fr, svs, pat, dx, rfl, hp, hlc, hc, hls, hs, hlp, W, k⟩ := h
    refine ⟨_, (pss_cons (ps_expr (pe_c G_checkbreakers (hr.mono (by decide)) rfl (pa_cons (pv 1) (pa_cons pe_str pa_nil))))
       (pss_cons (ps_expr (pe_c G_checkservices (hr.mono (by decide)) rfl (pa_cons (pv 2) pa_nil)))
       (pss_cons (ps_expr (pe_c G_checkpattern (hr.mono (by decide)) rfl (pa_cons (pv 3) (pa_cons (pe_callB call_len_seq (by rfl) T.b_len PySem.boot_len (pa_cons (pv 2) pa_nil)) pa_nil))))
       (pss_cons (ps_expr (pe_c G_checkstep (hr.mono (by decide)) rfl (pa_cons (pv 4) pa_nil)))
       (pss_cons (ps_fld (pv 0) (pe_callTy call_tuple_of (by rfl) T.b_tuple (by decide +kernel) (pa_cons (pv 1) pa_nil)) rfl)
       (pss_cons (ps_fld (pv 0) (pe_callTy call_tuple_of (by rfl) T.b_tuple (by decide +kernel) (pa_cons (pe_lc (own := [("breakers", 5), ("outages", 6)]) (g := gTup K 2 (gCons (gName 5) (gCons (gName 6) (gNil)))) (tt := tYes) rfl nd (pi_list (pv 2)) (blkOk_by (own := [("breakers", 5), ("outages", 6)]) (N := N_Routesinit) (sc := defScope st_Routes_init) (by decide +kernel)) (fun _ _ _ _ _ => pg_tup rfl (pgs_cons (pg_name (i := 5) nd rfl (Or.inl rfl)) (pgs_cons (pg_name (i := 6) nd rfl (Or.inl rfl)) pgs_nil))) (fun _ _ _ _ _ => pts_nil) (fun _ _ _ _ _ => (pe_tup (pa_cons (pe_callTy (call_tupK (K := K) rfl) (by rfl) T.b_tuple (by decide +kernel) (pa_cons (pv 5) pa_nil)) (pa_cons (pe_callTy (call_tupK (K := K) rfl) (by rfl) T.b_tuple (by decide +kernel) (pa_cons (pv 6) pa_nil)) pa_nil))))) pa_nil)) rfl)
       (pss_cons (ps_fld (pv 0) (pe_callTy call_tuple_of (by rfl) T.b_tuple (by decide +kernel) (pa_cons (pv 3) pa_nil)) rfl)
       (pss_one (ps_fld (pv 0) (pv 4) rfl))))))))), ?_⟩
    have xl := paired_len hs
    refine ⟨_, rfl, lc, xc, fr, _, rfl, hlc, hc, W.okC, W.lnC, fun H1 s1 => ?_⟩
    refine ⟨_, rfl, ls, xs, svs, rfl, s1 _ _ hls, L2.Paired.mapP hs (fun _ _ z => z.same s1), W.okS, W.s0, W.s1, fun H2 s2 => ?_⟩
    have s12 := s1.trans s2
    refine ⟨_, rfl, _, rfl, ls, _, rfl, .inl (SqL.of (s12 _ _ hls)), lp, pat, xs.length, rfl, s12 _ _ hlp, W.p0, W.p1, fun n hn => by rw [xl]; exact W.pb n hn, fun H3 s3 => ?_⟩
    have s13 := s12.trans s3
    refine ⟨_, rfl, _, rfl, W.st0, W.st1, ?_⟩
    have hp3 := s13 _ _ hp
    -- self.common
    refine ⟨_, rfl, lc, xc, rfl, .inl ⟨SqL.of (s13 _ _ hlc), fun aC hC => ?_⟩⟩
    have npC : p ≠ aC := ne_of_none hp3 hC
    have sC := Same.upd (o := .tup xc) hC
    have z1 := putF_len "common" (.ref aC) [] (Nat.le_refl 0)
    refine ⟨_, rfl, p, L.c_Routes, dx, [], rfl, sC _ _ hp3, T.cf_Routes.cl, T.nf_Routes_common, (by show 0 < 1000; decide), ?_⟩
    obtain ⟨H4, hH4⟩ : ∃ H4 : Hp, H4 = upd (upd H3 aC (.tup xc)) p (.ins L.c_Routes dx (putF "common" (.ref aC) [])) := ⟨_, rfl⟩
    rw [← hH4]
    have k4 : Kp p H3 H4 := by rw [hH4]; exact (Kp.of sC).trans Kp.upd
    have hp4 : H4 p = some (.ins L.c_Routes dx (putF "common" (.ref aC) [])) := by rw [hH4]; exact upd_same
    have hC4 : H4 aC = some (.tup xc) := by rw [hH4, upd_ne npC.symm]; exact upd_same
    have kH4 : Kp p H H4 := (Kp.of s13).trans k4
    have n4 : NI H H4 := fun b o e n => kH4 _ _ (fun z => by rw [z, hp] at e; cases e; exact n _ _ _ rfl) e
    have hls4 := n4 _ _ hls fun _ _ _ z => nomatch z
    have hlp4 := n4 _ _ hlp fun _ _ _ z => nomatch z
    have hs4 : Paired (SlAt H4) xs svs := L2.Paired.mapP hs fun _ _ z => z.ni n4
    -- self.services
    refine ⟨_, rfl, ls, rfl, ⟨_, SqL.of hls4⟩, fun D hD => ?_⟩
    refine lc_list (K := K) (a := ls) (xs := xs) (fun j Hx => ∃ ys, Hx D = some (.lst ys) ∧ Paired (SvAt Hx) ys (svs.take j) ∧ ys.length = j ∧ Same H4 Hx) ⟨[], upd_same, .nil, rfl, Same.upd hD⟩ (fun j Hx _ ⟨_, _, _, _, s⟩ => SqL.of (s _ _ hls4)) ?_ ?_
    · rintro j x Hx hxj ⟨ys, hDx, py, yl, sx⟩
      obtain ⟨sv, hsv, hat⟩ := paired_get hs4 hxj
      obtain ⟨a, ab, ao, xb, xo, rfl, h1, h2, h3, h4, h5⟩ := hat.same sx
      have jl := (List.getElem?_eq_some_iff.mp hsv).1
      have l10 := W.s1
      refine ⟨a, _, rfl, SqT.of h1, rfl, _, _, rfl, _, _, rfl, rfl, rfl, tYes_of ⟨_, rfl, ab, xb, rfl, .inl ⟨SqL.of h2, fun t1 ht1 => ⟨_, rfl, ao, xo, rfl, .inl ⟨SqL.of ((Same.upd ht1) _ _ h4), fun t2 ht2 => ⟨(by show 2 ≤ sizeLine; decide), fun tq htq => ?_⟩⟩⟩⟩⟩⟩
      have e1 := Same.upd (o := .tup xb) ht1
      have e2 := Same.upd (o := .tup xo) ht2
      have e3 := Same.upd (o := .tup [.ref t1, .ref t2]) htq
      have e13 := (e1.trans e2).trans e3
      have g1 := e3 _ _ (e2 _ _ (upd_same (H := Hx) (a := t1) (o := .tup xb)))
      have g2 := e3 _ _ (upd_same (H := upd Hx t1 (.tup xb)) (a := t2) (o := .tup xo))
      have g3 : (upd (upd (upd Hx t1 (.tup xb)) t2 (.tup xo)) tq (.tup [.ref t1, .ref t2])) tq = some (.tup [.ref t1, .ref t2]) := upd_same
      have hDq := e13 _ _ hDx
      generalize upd (upd (upd Hx t1 (.tup xb)) t2 (.tup xo)) tq (.tup [.ref t1, .ref t2]) = Hq at e13 g1 g2 g3 hDq ⊢
      refine ⟨ys, hDq, small1 (by omega), ys ++ [.ref tq], upd_same, ?_, by rw [List.length_append, yl]; rfl, fun b u e => by rw [upd_ne (ne_of_none e hD)]; exact e13 _ _ (sx _ _ e)⟩
      have nD := NL.upd (o := .lst (ys ++ [.ref tq])) hDq
      rw [List.take_add_one, hsv]
      refine paired_app (L2.Paired.mapP py fun _ _ z => (z.nl (NL.of e13)).nl nD) (.cons ⟨tq, t1, t2, xb, xo, rfl, nD _ _ g3 (fun _ z => nomatch z), nD _ _ g1 (fun _ z => nomatch z), (h3.nl (NL.of e13)).nl nD, nD _ _ g2 (fun _ z => nomatch z), (h5.nl (NL.of e13)).nl nD⟩ .nil)
    rintro H5 ⟨ys, hD5, py, yl, s45⟩
    rw [xl, List.take_length] at py
    have hp5 := s45 _ _ hp4
    refine ⟨D, ys, rfl, .inl ⟨SqL.of hD5, fun aS hS => ?_⟩⟩
    have npS : p ≠ aS := ne_of_none hp5 hS
    have sS := Same.upd (o := .tup ys) hS
    have z2 := putF_len "services" (.ref aS) _ z1
    refine ⟨_, rfl, p, L.c_Routes, dx, _, rfl, sS _ _ hp5, T.cf_Routes.cl, T.nf_Routes_services, Nat.lt_of_le_of_lt z1 (by decide), ?_⟩
    obtain ⟨H6, hH6⟩ : ∃ H6 : Hp, H6 = upd (upd H5 aS (.tup ys)) p (.ins L.c_Routes dx (putF "services" (.ref aS) (putF "common" (.ref aC) []))) := ⟨_, rfl⟩
    rw [← hH6]
    have k6 : Kp p H5 H6 := by rw [hH6]; exact (Kp.of sS).trans Kp.upd
    have hp6 : H6 p = some (.ins L.c_Routes dx (putF "services" (.ref aS) (putF "common" (.ref aC) []))) := by rw [hH6]; exact upd_same
    have hS6 : H6 aS = some (.tup ys) := by rw [hH6, upd_ne npS.symm]; exact upd_same
    have n6 : NI H5 H6 := fun b o e n => k6 _ _ (fun z => by rw [z, hp5] at e; cases e; exact n _ _ _ rfl) e
    have hlp6 := n6 _ _ (s45 _ _ hlp4) fun _ _ _ z => nomatch z
    -- self.pattern
    refine ⟨_, rfl, lp, _, rfl, .inl ⟨SqL.of hlp6, fun aP hP => ?_⟩⟩
    have npP : p ≠ aP := ne_of_none hp6 hP
    have sP := Same.upd (o := .tup (pat.map pnV)) hP
    have z3 := putF_len "pattern" (.ref aP) _ z2
    refine ⟨_, rfl, p, L.c_Routes, dx, _, rfl, sP _ _ hp6, T.cf_Routes.cl, T.nf_Routes_pattern, Nat.lt_of_le_of_lt z2 (by decide), ?_⟩
    -- self.step
    refine ⟨_, rfl, _, rfl, p, L.c_Routes, dx, _, rfl, upd_same, T.cf_Routes.cl, T.nf_Routes_step, Nat.lt_of_le_of_lt z3 (by decide), ?_⟩
    obtain ⟨H8, hH8⟩ : ∃ H8 : Hp, H8 = upd (upd (upd H6 aP (.tup (pat.map pnV))) p (.ins L.c_Routes dx (putF "pattern" (.ref aP) (putF "services" (.ref aS) (putF "common" (.ref aC) []))))) p (.ins L.c_Routes dx (putF "step" (.int st) (putF "pattern" (.ref aP) (putF "services" (.ref aS) (putF "common" (.ref aC) []))))) := ⟨_, rfl⟩
    rw [← hH8]
    have k8 : Kp p H6 H8 := by rw [hH8]; exact ((Kp.of sP).trans Kp.upd).trans Kp.upd
    have hp8 : H8 p = some (.ins L.c_Routes dx (rtF aC aS aP st)) := by rw [hH8, upd_same]; rfl
    have n8 : NI H6 H8 := fun b o e n => k8 _ _ (fun z => by rw [z, hp6] at e; cases e; exact n _ _ _ rfl) e
    have hP8 : H8 aP = some (.tup (pat.map pnV)) := by rw [hH8, upd_ne npP.symm, upd_ne npP.symm]; exact upd_same
    have n58 := n6.trans n8
    have n48 := (NI.same s45).trans n58
    refine k H8 ⟨aC, aS, aP, xc, ys, ⟨⟨dx, hp8⟩, n48 _ _ hC4 (fun _ _ _ z => nomatch z), (hc.ni' n4).ni' n48, n8 _ _ hS6 (fun _ _ _ z => nomatch z), L2.Paired.mapP py (fun _ _ z => z.ni n58), hP8, W.okC, W.lnC, W.okS, W.s0, W.s1, W.p0, W.p1, W.pb, W.st0, W.st1⟩⟩ ?_
    exact ((kH4.trans (Kp.of s45)).trans k6).trans k8
end
/-! ### rows played -/
theorem Met.p_m1 {X : Cx} {C : Addr} {k : Nat} {f : Addr} {ps : List Str} {sp : Sp} {m : Str} {o e : Expr} {es : List Expr} {ta : TE} {t : TA} {apos pos : Pos} {pl : Sem Bool} (c : Met X.prog X.w X.K X.mg X.base C m k f ps sp) (cl : Cls X.K C) (hr : Room k X.A) (he : PE X o ta) (ha : PA X (e :: es) t)
    (hst : starEach (e :: es) X.env = (false, eval e X.env) :: starEach es X.env := by rfl) (hpl : (backTo pos (starEach es X.env)).any (·.1) = false := by rfl)
    (ht : eval (.Call (.Attribute o m apos) (e :: es) [] pos) X.env = (do let ov ← eval o X.env; standAt apos.atName; let (f, first) ← holding [ov] (getMethod ov m pl); callWith pos f first (backTo pos (starEach (e :: es) X.env)) (backToKw pos (keywordEach [] X.env))) := by rfl) :
    PE X (.Call (.Attribute o m apos) (e :: es) [] pos) (tMeth C m sp [] E0 ta t) := by
  obtain ⟨fd, F, b⟩ := c.ex
  exact pe_meth he cl c.me F hr b .nil pass0 ha hst hpl ht
theorem TldAt.nl {K : PySem.W.Frag} {H H' : Hp} {x : V} {n k : Nat} {up : Bool} (h : TldAt K H x n k up) (s : NL H H') : TldAt K H' x n k up := by
  obtain ⟨a, e, hq⟩ := h
  refine ⟨a, e, ?_⟩
  rcases hq with hq | hq
  · rcases hq with hq | hq
    · exact SqT.of (s _ _ hq fun _ z => nomatch z)
    · exact .inl (.inr (by obtain ⟨u, hq⟩ := hq; exact ⟨u, s _ _ hq fun _ z => nomatch z⟩))
  · exact .inr hq
def wS (up : Bool) : Str := if up = true then "up" else "down"
def wV (up : Bool) : V := .str (wS up)
theorem wS_up : wS true = "up" := rfl
theorem wS_down : wS false = "down" := rfl
theorem up_ne : ¬ (("down" : Str) = "up") := by decide +kernel
/-- the states behind words, from so many requests on -/
def plS (ts : List Tri) (st ph : Int) : Nat → List StD → List Bool → List StD
  | _, ss, [] => ss
  | n, ss, w :: r => plS ts st ph (n + 1) (sntS ts ss (ph + (n : Int) * st) w) r
theorem plS_app (ts : List Tri) (st ph : Int) : ∀ (ws : List Bool) (n : Nat) (ss : List StD) (w : Bool), plS ts st ph n ss (ws ++ [w]) = sntS ts (plS ts st ph n ss ws) (ph + ((n + ws.length : Nat) : Int) * st) w
  | [], _, _, _ => rfl
  | v :: r, n, ss, w => by
    show plS ts st ph (n + 1) (sntS ts ss (ph + (n : Int) * st) v) (r ++ [w]) = _
    rw [plS_app ts st ph r]
    show _ = sntS ts (plS ts st ph (n + 1) (sntS ts ss (ph + (n : Int) * st) v) r) (ph + ((n + (r.length + 1) : Nat) : Int) * st) w
    rw [show n + 1 + r.length = n + (r.length + 1) by omega]
def plA (ts : List Tri) (st ph : Int) (ws : List Bool) : List StD := plS ts st ph 0 (List.replicate ts.length ("closed", 0)) ws
theorem plA_nil (ts : List Tri) (st ph : Int) : plA ts st ph [] = List.replicate ts.length (("closed", 0) : StD) := rfl
theorem plA_app (ts : List Tri) (st ph : Int) (ws : List Bool) (w : Bool) : plA ts st ph (ws ++ [w]) = sntS ts (plA ts st ph ws) (ph + (ws.length : Int) * st) w := by
  unfold plA
  rw [plS_app, Nat.zero_add]
theorem plS_ok (ts : List Tri) (st ph : Int) : ∀ (ws : List Bool) (n : Nat) (ss : List StD), ss.length = ts.length → (∀ s ∈ ss, okW s) → (plS ts st ph n ss ws).length = ts.length ∧ ∀ s ∈ plS ts st ph n ss ws, okW s
  | [], _, _, h1, h2 => ⟨h1, h2⟩
  | _ :: r, n, _, h1, h2 => plS_ok ts st ph r (n + 1) _ sntS_len (sntS_W h1 h2)
theorem plA_ok (ts : List Tri) (st ph : Int) (ws : List Bool) : (plA ts st ph ws).length = ts.length ∧ ∀ s ∈ plA ts st ph ws, okW s :=
  plS_ok ts st ph ws 0 _ List.length_replicate fun s hs => by rw [List.eq_of_mem_replicate hs]; exact .inl rfl
/-! ### requests through routes -/
def svOf (svs : List Svc) (w : Nat) : Svc := svs.getD w ([], [])
def rtW (pat : List Nat) (j : Nat) : Nat := pat.getD (j % pat.length) 0
abbrev RS := List StD × List (List StD)
section
variable (fr : List Tri) (svs : List Svc) (pat : List Nat) (st : Int)
def rtRow (j : Nat) : List Tri := fr ++ (svOf svs (rtW pat j)).1
def rtSt (s : RS) (j : Nat) : List StD := s.1 ++ s.2.getD (rtW pat j) []
def rtUp (j : Nat) : Bool := upB (svOf svs (rtW pat j)).2 ((j : Int) * st)
def rtNew (s : RS) (j : Nat) : List StD := sntS (rtRow fr svs pat j) (rtSt pat s j) ((j : Int) * st) (rtUp svs pat st j)
def rtS : Nat → RS
  | 0 => (List.replicate fr.length ("closed", 0), svs.map fun sv => List.replicate sv.1.length ("closed", 0))
  | n + 1 => ((rtNew fr svs pat st (rtS n) n).take fr.length, (rtS n).2.set (rtW pat n) ((rtNew fr svs pat st (rtS n) n).drop fr.length))
def rtK (j : Nat) : Nat := kOf (rtRow fr svs pat j) (rtSt pat (rtS fr svs pat st j) j) ((j : Int) * st)
def rtGood (j : Nat) : Bool := decide (rtK fr svs pat st j = (rtRow fr svs pat j).length) && rtUp svs pat st j
def rtOp (j : Nat) : List Nat := (List.range fr.length).filter fun k => decide ((rtS fr svs pat st (j + 1)).1[k]? = some (("open", (j : Int) * st) : StD))
end
theorem rtW_lt {pat : List Nat} {n : Nat} (p0 : 1 ≤ pat.length) (pb : ∀ k ∈ pat, k < n) (j : Nat) : pat[j % pat.length]? = some (rtW pat j) ∧ rtW pat j < n := by
  have l : j % pat.length < pat.length := Nat.mod_lt _ (by omega)
  have e : pat[j % pat.length]? = some pat[j % pat.length] := List.getElem?_eq_getElem l
  have e2 : rtW pat j = pat[j % pat.length] := by
    unfold rtW
    rw [List.getD_eq_getElem?_getD, e]
    rfl
  rw [e2]
  exact ⟨e, pb _ (List.getElem_mem _)⟩
theorem svOf_get {svs : List Svc} {w : Nat} (h : w < svs.length) : svs[w]? = some (svOf svs w) := by
  unfold svOf
  rw [List.getD_eq_getElem?_getD, List.getElem?_eq_getElem h]
  rfl
/-- the states are as many as the breakers -/
theorem rtS_ok {fr : List Tri} {svs : List Svc} {pat : List Nat} {st : Int} (p0 : 1 ≤ pat.length) (pb : ∀ k ∈ pat, k < svs.length) : ∀ n : Nat,
    (rtS fr svs pat st n).1.length = fr.length ∧ (∀ s ∈ (rtS fr svs pat st n).1, okW s) ∧ (rtS fr svs pat st n).2.length = svs.length ∧ ∀ (w : Nat) (o : List StD), (rtS fr svs pat st n).2[w]? = some o → o.length = (svOf svs w).1.length ∧ ∀ s ∈ o, okW s
  | 0 => by
    refine ⟨List.length_replicate, fun s hs => by rw [List.eq_of_mem_replicate hs]; exact .inl rfl, List.length_map .., fun w o e => ?_⟩
    have e' : (svs.map fun sv => List.replicate sv.1.length (("closed", 0) : StD))[w]? = some o := e
    rw [List.getElem?_map] at e'
    obtain ⟨sv, h1, h2⟩ := Option.map_eq_some_iff.mp e'
    rw [svOf_get (List.getElem?_eq_some_iff.mp h1).1] at h1
    cases h1
    rw [← h2]
    exact ⟨List.length_replicate, fun s hs => by rw [List.eq_of_mem_replicate hs]; exact .inl rfl⟩
  | n + 1 => by
    obtain ⟨h1, h2, h3, h4⟩ := rtS_ok (fr := fr) (st := st) p0 pb n
    obtain ⟨w1, w2⟩ := rtW_lt p0 pb n
    obtain ⟨o, ho⟩ : ∃ o, (rtS fr svs pat st n).2[rtW pat n]? = some o := ⟨_, List.getElem?_eq_getElem (by omega)⟩
    obtain ⟨o1, o2⟩ := h4 _ _ ho
    have eo : (rtS fr svs pat st n).2.getD (rtW pat n) [] = o := by rw [List.getD_eq_getElem?_getD, ho]; rfl
    have nl : (rtNew fr svs pat st (rtS fr svs pat st n) n).length = fr.length + (svOf svs (rtW pat n)).1.length := by
      unfold rtNew rtRow
      rw [sntS_len, List.length_append]
    have sl : (rtSt pat (rtS fr svs pat st n) n).length = (rtRow fr svs pat n).length := by
      unfold rtSt rtRow
      rw [List.length_append, List.length_append, h1, eo, o1]
    have nw : ∀ s ∈ rtNew fr svs pat st (rtS fr svs pat st n) n, okW s := sntS_W sl fun s hs => by
      rcases List.mem_append.mp hs with hs | hs
      · exact h2 s hs
      · rw [eo] at hs
        exact o2 s hs
    refine ⟨?_, fun s hs => nw s (List.mem_of_mem_take hs), ?_, fun w o' e => ?_⟩
    · show ((rtNew fr svs pat st (rtS fr svs pat st n) n).take fr.length).length = _
      rw [List.length_take]
      omega
    · show ((rtS fr svs pat st n).2.set _ _).length = _
      rw [List.length_set, h3]
    · have e : ((rtS fr svs pat st n).2.set (rtW pat n) ((rtNew fr svs pat st (rtS fr svs pat st n) n).drop fr.length))[w]? = some o' := e
      rw [List.getElem?_set] at e
      by_cases c : rtW pat n = w
      · rw [if_pos c] at e
        split at e
        · cases e
          rw [← c]
          exact ⟨by rw [List.length_drop]; omega, fun s hs => nw s (List.mem_of_mem_drop hs)⟩
        · cases e
      · rw [if_neg c] at e
        exact h4 w o' e
/-- what is found of a request -/
def FdAt (H : Hp) (x : V) (w : Nat) (g : Bool) (op : List Nat) : Prop := ∃ q lo, x = .ref q ∧ H q = some (.tup [.int (w : Int), .bl g, .ref lo]) ∧ H lo = some (.lst (op.map pnV))
theorem FdAt.same {H H' : Hp} (s : Same H H') {x : V} {w : Nat} {g : Bool} {op : List Nat} (h : FdAt H x w g op) : FdAt H' x w g op := by
  obtain ⟨q, lo, e, h1, h2⟩ := h
  exact ⟨q, lo, e, s _ _ h1, s _ _ h2⟩
def Fds (H : Hp) (xs : List V) (fr : List Tri) (svs : List Svc) (pat : List Nat) (st : Int) (n : Nat) : Prop := xs.length = n ∧ ∀ j x, xs[j]? = some x → FdAt H x (rtW pat j) (rtGood fr svs pat st j) (rtOp fr svs pat st j)
theorem Fds.same {H H' : Hp} (s : Same H H') {xs : List V} {fr : List Tri} {svs : List Svc} {pat : List Nat} {st : Int} {n : Nat} (h : Fds H xs fr svs pat st n) : Fds H' xs fr svs pat st n := ⟨h.1, fun j x e => (h.2 j x e).same s⟩
theorem shStD {s : StD} (h : okW s) : SeqAt.shaped (stD s) = true := tup_sh (by simp [PyData.canLayAll0, PyData.canLay0, sok_W h]) (by simp [PyData.depthAll, PyData.depth])
def spSentR (C : Addr) : Sp := fun vs H Q _ => ∃ p fr svs pat st, ∃ n : Nat, vs = [.ref p, .int (n : Int)] ∧ RtV C H p fr svs pat st ∧ n ≤ 10000 ∧ ∀ l xs H', H' l = some (.lst xs) → Fds H' xs fr svs pat st n → Same H H' → H l = none → Q (.ref l) H'
theorem catA_of {K : PySem.W.Frag} {H : Hp} {Q : VK} {a b : Addr} {xs ys : List V} (ha : SqT K H a xs) (hb : SqT K H b ys) (l : xs.length + ys.length ≤ sizeLine) (k : ∀ c H', Same H H' → SqT K H' c (xs ++ ys) → Q (.ref c) H') : rCatA K (.ref a) (.ref b) H Q := by
  refine ⟨a, b, xs, ys, rfl, rfl, ha, hb, l, fun e => ?_, fun _ e => ?_, fun _ _ p hp => k p _ (Same.upd hp) (SqT.of upd_same)⟩
  · subst e
    exact k b H (Same.refl H) hb
  · subst e
    refine k a H (Same.refl H) ?_
    rw [List.append_nil]
    exact ha
/-- lists of states at other places than two -/
def OwAt (H : Hp) (l1 l2 : Addr) (v : V) (o : List StD) : Prop := ∃ a zs, v = .ref a ∧ a ≠ l1 ∧ a ≠ l2 ∧ H a = some (.lst zs) ∧ Sts H zs o
theorem OwAt.ke {H H' : Hp} {l1 l2 : Addr} (k : ∀ b o, b ≠ l1 → b ≠ l2 → H b = some o → H' b = some o) (n1 : ∃ z, H l1 = some (.lst z)) (n2 : ∃ z, H l2 = some (.lst z)) {v : V} {o : List StD} (h : OwAt H l1 l2 v o) : OwAt H' l1 l2 v o := by
  obtain ⟨a, zs, e, a1, a2, h1, h2⟩ := h
  obtain ⟨z1, n1⟩ := n1
  obtain ⟨z2, n2⟩ := n2
  refine ⟨a, zs, e, a1, a2, k _ _ a1 a2 h1, L2.Paired.mapP h2 fun _ _ ⟨b, e, h⟩ => ⟨b, e, k _ _ (fun z => ?_) (fun z => ?_) h⟩⟩
  · rw [z, n1] at h; cases h
  · rw [z, n2] at h; cases h
theorem paired_take {α β : Type} {F : α → β → Prop} : ∀ {xs : List α} {ys : List β} (n : Nat), Paired F xs ys → Paired F (xs.take n) (ys.take n)
  | _, _, 0, _ => .nil
  | _, _, n + 1, .nil => .nil
  | _, _, n + 1, .cons r t => .cons r (paired_take n t)
theorem paired_setP {α β : Type} {F : α → β → Prop} : ∀ {xs : List α} {ys : List β} (i : Nat) {x : α} {y : β}, Paired F xs ys → F x y → Paired F (xs.set i x) (ys.set i y)
  | _, _, _, _, _, .nil, _ => .nil
  | _, _, 0, _, _, .cons _ t, h => .cons h t
  | _, _, i + 1, _, _, .cons r t, h => .cons r (paired_setP i t h)
section
variable {P : Program} {w : World} {K : PySem.W.Frag} {mg : Str → Option Value} {base : Heap} {L : LA}
abbrev N_sentrequests : List Str := ["routes", "count", "border", "common", "breakers", "outages", "own", "found", "number", "service", "time", "told", "states", "opened", "breaker", "state"]
theorem sc_sentrequests : FnScope N_sentrequests ["routes", "count"] (defScope st_sent_requests) := ⟨rfl, rfl, rfl, by decide +kernel, rfl, by decide +kernel, by decide +kernel⟩
theorem fn_sentrequests (T : LX K mg L) {fd : FuncData} (F : Fun K "sent_requests" "sent_requests" st_sent_requests L.f_sent_requests fd) : FnOk P w K mg base CX0 6 L.f_sent_requests fd ["routes", "count"] (spSentR L.c_Routes) := by
  have G_closedstates := ok_closedstates (P := P) (w := w) (base := base) T
  have G_iswithin := ok_iswithin (P := P) (w := w) (base := base) T
  obtain ⟨tk_MOST_REQUESTS, c_MOST_REQUESTS⟩ := T.n_MOST_REQUESTS
  have G_sent := ok_sent (P := P) (w := w) (base := base) T
  have G_isup := ok_isup (P := P) (w := w) (base := base) T
  obtain ⟨a_SERVED, c_SERVED, t_SERVED⟩ := T.n_SERVED
  have nd := sc_sentrequests.nd
  refine F.ok sc_sentrequests (fun vs H Q E h => ?_) (fun cdv A outer S H vs Q E hr h => ?_)
  · obtain ⟨p, fr, svs, pat, st, n, rfl, _⟩ := h
    rfl
  · obtain ⟨p, fr, svs, pat, st, n, rfl, RV, hn, k⟩ := h
    refine ⟨_, (pss_cons (ps_if (pt_not (pt_val (pe_c G_iswithin (hr.mono (by decide)) rfl (pa_cons (pv 1) (pa_cons pe_int (pa_cons (pe_gI c_MOST_REQUESTS) pa_nil)))))) (pss_one (ps_never)) pss_nil)
       (pss_cons (ps_set (i := 2) nd rfl (Or.inl rfl) (pe_callB call_len_seq (by rfl) T.b_len PySem.boot_len (pa_cons (pe_fld (pv 0) rfl) pa_nil)))
       (pss_cons (ps_set (i := 3) nd rfl (Or.inl rfl) (pe_c G_closedstates (hr.mono (by decide)) rfl (pa_cons (pv 2) pa_nil)))
       (pss_cons (ps_setLc (i := 6) (own := [("breakers", 4), ("outages", 5)]) (g := gTup K 2 (gCons (gName 4) (gCons (gName 5) (gNil)))) (tt := tYes) rfl nd rfl rfl (sw_true rfl rfl rfl (by decide +kernel)) (pi_tup (pe_fld (pv 0) rfl)) (blkOk_by (own := [("breakers", 4), ("outages", 5)]) (N := N_sentrequests) (sc := defScope st_sent_requests) (by decide +kernel)) (fun _ _ _ _ _ => pg_tup rfl (pgs_cons (pg_name (i := 4) nd rfl (Or.inl rfl)) (pgs_cons (pg_name (i := 5) nd rfl (Or.inl rfl)) pgs_nil))) (fun _ _ _ _ _ => pts_nil) (fun _ _ _ _ _ => (pe_c G_closedstates (hr.mono (by decide)) rfl (pa_cons (pe_callB (call_lenK (K := K) rfl) (by rfl) T.b_len PySem.boot_len (pa_cons (pv 4) pa_nil)) pa_nil))))
       (pss_cons (ps_set (i := 7) nd rfl (Or.inl rfl) (pe_lst pa_nil))
       (pss_cons (ps_for PassesOwn.never rfl (pi_range1 rfl T.b_range (pa_cons (pv 1) pa_nil)) (pg_name (i := 8) nd rfl (Or.inl rfl)) (pss_cons (ps_set (i := 9) nd rfl (Or.inl rfl) (pe_ix (r := rIxT K) ix_tup (pe_fld (pv 0) rfl) (pe_op op_mod (pv 8) (pe_callB call_len_seq (by rfl) T.b_len PySem.boot_len (pa_cons (pe_fld (pv 0) rfl) pa_nil))) (fun _ _ => rfl)))
       (pss_cons (ps_asg (pe_ix (r := rIxT K) ix_tup (pe_fld (pv 0) rfl) (pv 9) (fun _ _ => rfl)) (pg_tup rfl (pgs_cons (pg_name (i := 4) nd rfl (Or.inl rfl)) (pgs_cons (pg_name (i := 5) nd rfl (Or.inl rfl)) pgs_nil))))
       (pss_cons (ps_set (i := 10) nd rfl (Or.inr rfl) (pe_op op_mulW (pv 8) (pe_fld (pv 0) rfl)))
       (pss_cons (ps_asg (pe_c G_sent (hr.mono (by decide)) rfl (pa_cons (pe_op (r := rCatA K) op_catA (pe_fld (pv 0) rfl) (pv 4)) (pa_cons (pe_op op_cat (pv 3) (pe_ix (r := rIxL K) ix_list (pv 6) (pv 9) (fun _ _ => rfl))) (pa_cons (pv 10) (pa_cons (pe_c G_isup (hr.mono (by decide)) rfl (pa_cons (pv 5) (pa_cons (pv 10) pa_nil))) pa_nil))))) (pg_tup rfl (pgs_cons (pg_name (i := 11) nd rfl (Or.inl rfl)) (pgs_cons (pg_name (i := 12) nd rfl (Or.inl rfl)) pgs_nil))))
       (pss_cons (ps_asg (pe_tup (pa_cons (pe_slice (r := rSlL K) sl_list (pv 12) po_none (po_some (pv 2))) (pa_cons (pe_slice (r := rSlL K) sl_list (pv 12) (po_some (pv 2)) po_none) pa_nil))) (pg_tup rfl (pgs_cons (pg_name (i := 3) nd rfl (Or.inl rfl)) (pgs_cons (pg_sub (pv 6) (pv 9) set_list) pgs_nil))))
       (pss_cons (ps_setLc (i := 13) (own := [("breaker", 14), ("state", 15)]) (g := gTup K 2 (gCons (gName 14) (gCons (gName 15) (gNil)))) rfl nd rfl rfl (sw_true rfl rfl rfl (by decide +kernel)) (pi_enum (by rfl) T.b_enumerate (pa_cons (pv 3) pa_nil)) (blkOk_by (own := [("breaker", 14), ("state", 15)]) (N := N_sentrequests) (sc := defScope st_sent_requests) (by decide +kernel)) (fun _ _ _ _ _ => pg_tup rfl (pgs_cons (pg_name (i := 14) nd rfl (Or.inl rfl)) (pgs_cons (pg_name (i := 15) nd rfl (Or.inl rfl)) pgs_nil))) (fun _ _ _ _ _ => pts_one (pt_cmpR (op_eqDK (K := K) rfl hr.units) (pv 15) (pe_tup (pa_cons pe_str (pa_cons (pv 10) pa_nil))) (nomark _))) (fun _ _ _ _ _ => (pv 14)))
       (pss_one (ps_expr (pe_bm PySem.F.plainAttrs_list PySem.F.slot_list_append PySem.F.type_list_append mt_append (pv 7) (pa_cons (pe_tup (pa_cons (pv 9) (pa_cons (pe_cmpR (op_eqD hr.units) (pv 11) (pe_glob (by rfl) c_SERVED rr) (nomark _)) (pa_cons (pv 13) pa_nil)))) pa_nil)))))))))))
       (pss_one (ps_ret (pv 7))))))))), ?_⟩
    obtain ⟨aC, aS, aP, xC, xS, R⟩ := RV
    obtain ⟨dx, hp⟩ := R.ob
    have xl := R.bC.len
    have l12 := R.lnC
    have sl := paired_len R.sv
    have sl10 := R.s1
    refine ⟨_, rfl, _, _, _, _, rfl, .int _, _, rfl, ?_⟩
    show if (!(isI (V.int (n : Int)) && (decide ((0 : Int) ≤ (n : Int)) && decide ((n : Int) ≤ 10000)))) = true then _ else _
    rw [k6_pos (show (0 : Int) ≤ (n : Int) by omega) (show (n : Int) ≤ 10000 by omega)]
    refine iteF ⟨_, rfl, p, L.c_Routes, dx, _, _, rfl, hp, T.cf_Routes.cl, T.nf_Routes_common, rtF_c _ _ _ _, aC, xC, rfl, .inr (SqT.of R.hC), ?_⟩
    refine ⟨_, rfl, xC.length, rfl, by omega, fun lc yc H1 hlc hyc s1 n1 => ?_⟩
    have R1 := R.nl (NL.of s1)
    refine ⟨_, rfl, p, L.c_Routes, dx, _, _, rfl, s1 _ _ hp, T.cf_Routes.cl, T.nf_Routes_services, rtF_s _ _ _ _, aS, rfl, ⟨_, SqT.of R1.hS⟩, fun lo hlo => ?_⟩
    refine lc_tup (K := K) (a := aS) (xs := xS) (fun j Hx => ∃ ys, Hx lo = some (.lst ys) ∧ Paired (fun v o => ∃ a zs, v = .ref a ∧ a ≠ lo ∧ Hx a = some (.lst zs) ∧ Sts Hx zs o) ys ((svs.take j).map fun sv => List.replicate sv.1.length (("closed", 0) : StD)) ∧ ys.length = j ∧ Same H1 Hx) ⟨[], upd_same, .nil, rfl, Same.upd hlo⟩ (fun j Hx _ ⟨_, _, _, _, s⟩ => SqT.of (s _ _ R1.hS)) ?_ ?_
    · rintro j x Hx hxj ⟨ys, hDx, py, yl, sx⟩
      obtain ⟨sv, hsv, hat⟩ := paired_get R1.sv hxj
      obtain ⟨a, ab, ao, xb, xo, rfl, h1, h2, h3, h4, h5⟩ := hat.nl (NL.of sx)
      have jl := (List.getElem?_eq_some_iff.mp hsv).1
      have bl := h3.len
      have ok := (R.okS sv (List.mem_of_getElem? hsv)).2.1
      refine ⟨a, _, rfl, SqT.of h1, rfl, _, _, rfl, _, _, rfl, rfl, rfl, tYes_of ⟨_, rfl, ab, xb, rfl, .inr (SqT.of h2), xb.length, rfl, by omega, fun l1 ys1 H2 hl1 hy1 s2 n2 => ?_⟩⟩
      have hD2 := s2 _ _ hDx
      have nlo : l1 ≠ lo := (ne_of_none hDx n2).symm
      refine ⟨ys, hD2, small1 (by omega), ys ++ [.ref l1], upd_same, ?_, by rw [List.length_append, yl]; rfl, fun b u e => by rw [upd_ne (ne_of_none e hlo)]; exact s2 _ _ (sx _ _ e)⟩
      have kD : Kp lo H2 (upd H2 lo (.lst (ys ++ [.ref l1]))) := Kp.upd
      have nD := Kp.nl kD hD2
      rw [List.take_add_one, hsv, List.map_append]
      refine paired_app (L2.Paired.mapP py fun v o ⟨a, zs, e, na, h6, h7⟩ => ⟨a, zs, e, na, kD _ _ na (s2 _ _ h6), (h7.same s2).nl nD⟩) (.cons ⟨l1, ys1, rfl, nlo, kD _ _ nlo hl1, ?_⟩ .nil)
      rw [bl] at hy1
      exact hy1.nl nD
    rintro H2 ⟨yo, hlo2, py, yl, s12⟩
    rw [sl, List.take_length] at py
    refine ⟨(by show 0 ≤ sizeLine; decide), fun lf hlf => ?_⟩
    have sF := Same.upd (o := .lst []) hlf
    have nof : lo ≠ lf := ne_of_none hlo2 hlf
    have n1o : H1 lo = none := hlo
    have nHo : H lo = none := none_of s1 hlo
    have n2f : H2 lf = none := hlf
    have nHf : H lf = none := none_of s1 (none_of s12 hlf)
    have s0F : Same H (upd H2 lf (.lst [])) := (s1.trans s12).trans sF
    have hlcF := sF _ _ (s12 _ _ hlc)
    have nco : lc ≠ lo := ne_of_none hlc hlo
    have ncf : lc ≠ lf := ne_of_none (s12 _ _ hlc) hlf
    have hloF := sF _ _ hlo2
    have hlfF : (upd H2 lf (.lst [])) lf = some (.lst []) := upd_same
    have own0 : Paired (OwAt (upd H2 lf (.lst [])) lo lf) yo (rtS fr svs pat st 0).2 := L2.Paired.mapP py fun v o ⟨a, zs, e, na, h6, h7⟩ => ⟨a, zs, e, na, ne_of_none h6 hlf, sF _ _ h6, h7.same sF⟩
    have hyF := (hyc.same s12).same sF
    rw [xl] at hyF
    generalize upd H2 lf (.lst []) = HF at s0F hlcF hloF hlfF own0 hyF ⊢
    refine ⟨_, rfl, _, rfl, by omega, by omega, ?_⟩
    refine for_range (lo := 0) (n := ((n : Int)).toNat) (fun i σ Hc => ∃ (v4 v5 v8 v9 v10 v11 v12 v13 v14 v15 : Option V) (cc : Addr) (ys yo rows : List V), σ = [some (.ref p), some (.int (n : Int)), some (.int (xC.length : Nat)), some (.ref cc), v4, v5, some (.ref lo), some (.ref lf), v8, v9, v10, v11, v12, v13, v14, v15] ∧
        Hc cc = some (.lst ys) ∧ cc ≠ lo ∧ cc ≠ lf ∧ Sts Hc ys (rtS fr svs pat st i).1 ∧ Hc lo = some (.lst yo) ∧ Paired (OwAt Hc lo lf) yo (rtS fr svs pat st i).2 ∧ Hc lf = some (.lst rows) ∧ rows.length = i ∧ (∀ (j : Nat) (x : V), rows[j]? = some x → ∃ q l, x = .ref q ∧ l ≠ lo ∧ l ≠ lf ∧ Hc q = some (.tup [.int (rtW pat j : Int), .bl (rtGood fr svs pat st j), .ref l]) ∧ Hc l = some (.lst ((rtOp fr svs pat st j).map pnV))) ∧ Same H Hc)
      ⟨_, _, _, _, _, _, _, _, _, _, lc, yc, yo, [], rfl, hlcF, nco, ncf, hyF, hloF, own0, hlfF, rfl, fun (j : Nat) (x : V) e => (by cases e), s0F⟩ ?_ ?_
    · rintro i σ Hc hi ⟨v4, v5, v8, v9, v10, v11, v12, v13, v14, v15, cc, ys, yo, rows, rfl, hcc, cco, ccf, hys, hlo', own, hlf', rl, hrows, sc⟩
      have in' : i < n := by omega
      have Rc := R.nl (NL.of sc)
      have hpc := sc _ _ hp
      have e0 : (0 : Int) + (i : Int) = i := by omega
      rw [e0]
      obtain ⟨w1, w2⟩ := rtW_lt R.p0 R.pb i
      have pl0 := R.p0
      have emod : ((i : Int) % ((pat.map pnV).length : Nat)) = ((i % pat.length : Nat) : Int) := by rw [List.length_map]; rfl
      have hatP : atI (pat.map pnV) ((i : Int) % ((pat.map pnV).length : Nat)) = some (pnV (rtW pat i)) := by
        rw [emod]
        exact atI_nat (by rw [List.getElem?_map, w1]; rfl)
      refine ⟨_, rfl, p, L.c_Routes, dx, _, _, rfl, hpc, T.cf_Routes.cl, T.nf_Routes_pattern, rtF_p _ _ _ _, _, rfl, _, rfl, p, L.c_Routes, dx, _, _, rfl, hpc, T.cf_Routes.cl, T.nf_Routes_pattern, rtF_p _ _ _ _, aP, _, rfl, .inr (SqT.of Rc.hP), _, _, rfl, rfl, by rw [List.length_map]; omega, aP, _, _, _, rfl, rfl, SqT.of Rc.hP, hatP, ?_⟩
      obtain ⟨x, hxS, a, ab, ao, xb, xo, rfl, h1, h2, h3, h4, h5⟩ := paired_get2 Rc.sv (svOf_get w2)
      obtain ⟨sv1, sv2, sv3, sv4⟩ := R.okS _ (List.mem_of_getElem? (svOf_get w2))
      obtain ⟨wi, hwi⟩ : ∃ wi, wi = rtW pat i := ⟨_, rfl⟩
      rw [← hwi] at w1 w2 hxS h3 h5 sv1 sv2 sv3 sv4 hatP
      refine ⟨_, rfl, p, L.c_Routes, dx, _, _, rfl, hpc, T.cf_Routes.cl, T.nf_Routes_services, rtF_s _ _ _ _, _, rfl, aS, xS, _, .ref a, rfl, rfl, SqT.of Rc.hS, by rw [← hwi]; exact atI_nat hxS, a, _, rfl, SqT.of h1, rfl, _, _, rfl, _, _, rfl, rfl, ?_⟩
      have st0 := R.st0
      have st1 := R.st1
      refine ⟨_, rfl, _, rfl, p, L.c_Routes, dx, _, _, rfl, hpc, T.cf_Routes.cl, T.nf_Routes_step, rtF_st _ _ _ _, _, _, rfl, rfl, wide_mul (a := 20) (b := 120) (Nat.lt_of_le_of_lt (show (i : Int).natAbs ≤ 10000 by omega) (by decide)) (Nat.lt_of_le_of_lt (show st.natAbs ≤ 1000000000000000000000000000000 by omega) (by decide +kernel)) (by decide) (by decide) (by decide), ?_⟩
      obtain ⟨t, ht⟩ : ∃ t, t = (i : Int) * st := ⟨_, rfl⟩
      show gName 10 (.int ((i : Int) * st)) _ _ _
      rw [← ht]
      obtain ⟨q1, q2, q3, q4⟩ := rtS_ok (fr := fr) (st := st) R.p0 R.pb i
      obtain ⟨ow, how⟩ : ∃ ow, (rtS fr svs pat st i).2[wi]? = some ow := ⟨_, List.getElem?_eq_getElem (by omega)⟩
      obtain ⟨ol1, ol2⟩ := q4 _ _ how
      obtain ⟨xo', hxo, ai, zs, rfl, ai1, ai2, hai, hzs⟩ := paired_get2 own how
      have bl := h3.len
      have yl := paired_len hys
      have zl := paired_len hzs
      refine ⟨_, rfl, p, L.c_Routes, dx, _, _, rfl, hpc, T.cf_Routes.cl, T.nf_Routes_common, rtF_c _ _ _ _, _, rfl, catA_of (SqT.of Rc.hC) (SqT.of h2) (by show xC.length + xb.length ≤ sizeLine; exact Nat.le_trans (show _ ≤ 100 by omega) (by decide)) fun c H1 s1 hc => ?_⟩
      refine ⟨_, rfl, _, rfl, _, rfl, lo, yo, _, .ref ai, rfl, rfl, SqL.of (s1 _ _ hlo'), by rw [← hwi]; exact atI_nat hxo, cc, ai, ys, zs, rfl, rfl, s1 _ _ hcc, s1 _ _ hai, Nat.le_trans (show _ ≤ 100 by omega) (by decide), fun c2 hc2 => ?_⟩
      have s2 := s1.trans (Same.upd (o := .lst (ys ++ zs)) hc2)
      refine ⟨_, rfl, _, rfl, _, rfl, ao, xo, (svOf svs wi).2, t, rfl, s2 _ _ h4, h5.same s2, ?_⟩
      refine ⟨c, c2, xC ++ xb, ys ++ zs, fr ++ (svOf svs wi).1, (rtS fr svs pat st i).1 ++ ow, t, upB (svOf svs wi).2 t, rfl, hc.ext fun b o e => (Same.upd hc2) _ _ e, Brs.app (Rc.bC.nl (NL.of s2)) (h3.nl (NL.of s2)), upd_same, paired_app (hys.same s2) (hzs.same s2), by rw [List.length_append, List.length_append]; omega, by rw [List.length_append]; omega, fun s hs => (List.mem_append.mp hs).elim (fun h => q2 s h) fun h => ol2 s h, fun q x l2 ys2 H3 hq tx hl2 hs2 s3 nq nl2 => ?_⟩
      have s13 := s2.trans s3
      refine ⟨q, _, rfl, SqT.of hq, rfl, _, _, rfl, _, _, rfl, rfl, ?_⟩
      have yl2 := paired_len hs2
      rw [sntS_len, List.length_append] at yl2
      refine ⟨_, rfl, _, rfl, _, rfl, l2, ys2, rfl, SqL.of hl2, fun m1 hm1 => ?_⟩
      refine ⟨_, rfl, _, rfl, _, rfl, l2, ys2, rfl, SqL.of ((Same.upd hm1) _ _ hl2), fun m2 hm2 => ⟨(by show 2 ≤ sizeLine; decide), fun tp htp => ⟨tp, _, rfl, SqT.of upd_same, rfl, _, _, rfl, ?_⟩⟩⟩
      rw [cut_take0 ys2 xC.length (by omega)] at hm2 htp ⊢
      rw [cut_drop0 ys2 xC.length (by omega)] at htp ⊢
      have f1 := Same.upd (o := .lst (ys2.take xC.length)) hm1
      have f2 := Same.upd (o := .lst (ys2.drop xC.length)) hm2
      have f3 := Same.upd (o := .tup [.ref m1, .ref m2]) htp
      have f13 := (f1.trans f2).trans f3
      have gm1 := f3 _ _ (f2 _ _ (upd_same (H := H3) (a := m1) (o := .lst (ys2.take xC.length))))
      have gm2 := f3 _ _ (upd_same (H := upd H3 m1 (.lst (ys2.take xC.length))) (a := m2) (o := .lst (ys2.drop xC.length)))
      have sc3 := s13.trans f13
      have m1lo : m1 ≠ lo := (ne_of_none (s13 _ _ hlo') hm1).symm
      have m1lf : m1 ≠ lf := (ne_of_none (s13 _ _ hlf') hm1).symm
      have m2lo : m2 ≠ lo := (ne_of_none (f1 _ _ (s13 _ _ hlo')) hm2).symm
      have m2lf : m2 ≠ lf := (ne_of_none (f1 _ _ (s13 _ _ hlf')) hm2).symm
      have hsM := hs2.same f13
      have txM := tx.same f13
      generalize upd (upd (upd H3 m1 (.lst (ys2.take xC.length))) m2 (.lst (ys2.drop xC.length))) tp (.tup [.ref m1, .ref m2]) = HM at gm1 gm2 sc3 hsM txM ⊢
      have hloM := sc3 _ _ hlo'
      have yol := paired_len own
      refine ⟨_, _, rfl, _, rfl, _, rfl, lo, yo, _, wi, rfl, by rw [hwi]; rfl, hloM, ixN_of (by omega), ?_⟩
      have kM : Kp lo HM (upd HM lo (.lst (yo.set wi (.ref m2)))) := Kp.upd
      have nM := Kp.nl kM hloM
      have hloN : (upd HM lo (.lst (yo.set wi (.ref m2)))) lo = some (.lst (yo.set wi (.ref m2))) := upd_same
      have gm1N := kM _ _ m1lo gm1
      have gm2N := kM _ _ m2lo gm2
      have hlfN := kM _ _ nof.symm (sc3 _ _ hlf')
      have hsN := hsM.nl nM
      have txN := txM.nl nM
      have kcN : ∀ b o, b ≠ lo → b ≠ lf → Hc b = some o → (upd HM lo (.lst (yo.set wi (.ref m2)))) b = some o := fun b o n1 _ e => kM _ _ n1 (sc3 _ _ e)
      have sHN : Same H (upd HM lo (.lst (yo.set wi (.ref m2)))) := fun b o e => kM _ _ (ne_of_none e nHo) (sc3 _ _ (sc _ _ e))
      have frN : ∀ b, (upd HM lo (.lst (yo.set wi (.ref m2)))) b = none → Hc b = none := fun b e => by
        cases q : Hc b with
        | none => rfl
        | some o =>
          by_cases z : b = lo
          · rw [z, upd_same] at e; cases e
          · rw [kM _ _ z (sc3 _ _ q)] at e; cases e
      generalize upd HM lo (.lst (yo.set wi (.ref m2))) = HN at hloN gm1N gm2N hlfN hsN txN kcN sHN frN ⊢
      have eo : (rtS fr svs pat st i).2.getD wi [] = ow := by rw [List.getD_eq_getElem?_getD, how]; rfl
      have eN : rtNew fr svs pat st (rtS fr svs pat st i) i = sntS (fr ++ (svOf svs wi).1) ((rtS fr svs pat st i).1 ++ ow) t (upB (svOf svs wi).2 t) := by
        unfold rtNew rtRow rtSt rtUp
        rw [← hwi, ← ht, eo]
      have eS1 : (rtS fr svs pat st (i + 1)).1 = (sntS (fr ++ (svOf svs wi).1) ((rtS fr svs pat st i).1 ++ ow) t (upB (svOf svs wi).2 t)).take fr.length := by
        show (rtNew fr svs pat st (rtS fr svs pat st i) i).take fr.length = _
        rw [eN]
      have eS2 : (rtS fr svs pat st (i + 1)).2 = (rtS fr svs pat st i).2.set wi ((sntS (fr ++ (svOf svs wi).1) ((rtS fr svs pat st i).1 ++ ow) t (upB (svOf svs wi).2 t)).drop fr.length) := by
        show (rtS fr svs pat st i).2.set (rtW pat i) ((rtNew fr svs pat st (rtS fr svs pat st i) i).drop fr.length) = _
        rw [eN, ← hwi]
      obtain ⟨p1, p2, _, _⟩ := rtS_ok (fr := fr) (st := st) R.p0 R.pb (i + 1)
      have hsC : Sts HN (ys2.take xC.length) (rtS fr svs pat st (i + 1)).1 := by rw [eS1, ← xl]; exact paired_take _ hsN
      have ownN : Paired (OwAt HN lo lf) (yo.set wi (.ref m2)) (rtS fr svs pat st (i + 1)).2 := by
        rw [eS2]
        refine paired_setP wi (L2.Paired.mapP own fun _ _ z => z.ke kcN ⟨_, hlo'⟩ ⟨_, hlf'⟩) ⟨m2, _, rfl, m2lo, m2lf, gm2N, ?_⟩
        rw [← xl]
        exact paired_drop _ hsN
      have csl := paired_len hsC
      -- which open
      refine ⟨rfl, _, rfl, m1, _, rfl, SqL.of gm1N, fun D hD => ?_⟩
      refine lc_enum (K := K) (a := m1) (xs := ys2.take xC.length) (fun j Hx => Hx D = some (.lst (((List.range j).filter fun k => decide ((rtS fr svs pat st (i + 1)).1[k]? = some (("open", (i : Int) * st) : StD))).map pnV)) ∧ Same HN Hx) ⟨upd_same, Same.upd hD⟩ (fun j Hx ⟨_, s⟩ => SqL.of (s _ _ gm1N)) ?_ ?_
      · rintro j x T' Hx hxj ⟨hDx, sx⟩ hT
        obtain ⟨d, hd, u, rfl, hu⟩ := paired_get hsC hxj
        have jl := (List.getElem?_eq_some_iff.mp hd).1
        have sT := Same.upd (o := .tup [.int (j : Nat), .ref u]) hT
        have uT := sT _ _ (sx _ _ hu)
        refine ⟨T', _, rfl, SqT.of upd_same, rfl, _, _, rfl, _, _, rfl, rfl, rfl, ?_⟩
        refine ⟨_, rfl, _, rfl, (by show 2 ≤ sizeLine; decide), fun q5 hq5 => ?_⟩
        have s5 := Same.upd (o := .tup [.str "open", .int t]) hq5
        have okd : okW d := p2 d (List.mem_of_getElem? hd)
        refine ⟨stD d, stD ("open", t), .tup (SqT.of (s5 _ _ uT)) (.cons (.str _) (.cons (.int _) .nil)), .tup (SqT.of upd_same) (.cons (.str _) (.cons (.int _) .nil)), shStD okd, shStD (.inr (.inl rfl)), _, rfl, ?_⟩
        rw [stD_eq]
        have hD5 := s5 _ _ (sT _ _ hDx)
        have sx5 := (sx.trans sT).trans s5
        have erg : ((List.range (j + 1)).filter fun k => decide ((rtS fr svs pat st (i + 1)).1[k]? = some (("open", (i : Int) * st) : StD))) = ((List.range j).filter fun k => decide ((rtS fr svs pat st (i + 1)).1[k]? = some (("open", (i : Int) * st) : StD))) ++ if d = (("open", t) : StD) then [j] else [] := by
          rw [List.range_succ, List.filter_append, List.filter_cons, hd, ← ht]
          by_cases z : d = (("open", t) : StD)
          · rw [if_pos z, if_pos (decide_eq_true (congrArg some z))]
            rfl
          · rw [if_neg z, if_neg (fun y => z (Option.some.inj (of_decide_eq_true y)))]
            rfl
        rw [erg]
        refine ite2 (fun z => ?_) (fun z => ?_)
        · rw [if_pos (of_decide_eq_true z), List.map_append]
          refine ⟨_, rfl, _, hD5, small1 (by rw [List.length_map]; have := List.length_filter_le (fun k => decide ((rtS fr svs pat st (i + 1)).1[k]? = some (("open", (i : Int) * st) : StD))) (List.range j); rw [List.length_range] at this; omega), upd_same, fun b v e => by rw [upd_ne (ne_of_none e hD)]; exact sx5 _ _ e⟩
        · rw [if_neg (fun y => z (decide_eq_true y)), List.append_nil]
          exact ⟨hD5, sx5⟩
      rintro HP ⟨hDP, sP⟩
      have eop : ((List.range (ys2.take xC.length).length).filter fun k => decide ((rtS fr svs pat st (i + 1)).1[k]? = some (("open", (i : Int) * st) : StD))) = rtOp fr svs pat st i := by
        unfold rtOp
        rw [csl, p1]
      rw [eop] at hDP
      have Dlo : D ≠ lo := (ne_of_none hloN hD).symm
      have Dlf : D ≠ lf := (ne_of_none hlfN hD).symm
      have hlfP := sP _ _ hlfN
      refine ⟨_, rfl, .inl ⟨rfl, _, SqL.of hlfP⟩, _, rfl, _, rfl, ?_⟩
      refine ⟨_, .tuple [.str "served"], (txN.same sP).dp, .tup (t_SERVED _) (.cons (.str _) .nil), outD_sh _ _ _, served_sh, _, rfl, (by show 3 ≤ sizeLine; decide), fun tq htq => ?_⟩
      have kn : kOf (fr ++ (svOf svs wi).1) ((rtS fr svs pat st i).1 ++ ow) t ≤ (fr ++ (svOf svs wi).1).length := kOf_le _ _ _
      have eg : PyData.eqv (outD (fr ++ (svOf svs wi).1).length (kOf (fr ++ (svOf svs wi).1) ((rtS fr svs pat st i).1 ++ ow) t) (!(upB (svOf svs wi).2 t))) (.tuple [.str "served"]) = rtGood fr svs pat st i := by
        rw [outD_served _ _ _ kn, Bool.not_not]
        unfold rtGood rtK rtRow rtSt rtUp
        rw [← hwi, ← ht, eo]
      have htq0 := htq
      rw [eg]
      have sQ := Same.upd (o := .tup [pnV (rtW pat i), .bl (rtGood fr svs pat st i), .ref D]) htq
      have hlfQ := sQ _ _ hlfP
      have gtq : (upd HP tq (.tup [pnV (rtW pat i), .bl (rtGood fr svs pat st i), .ref D])) tq = some (.tup [pnV (rtW pat i), .bl (rtGood fr svs pat st i), .ref D]) := upd_same
      have sNQ := sP.trans sQ
      have hDQ := sQ _ _ hDP
      generalize upd HP tq (.tup [pnV (rtW pat i), .bl (rtGood fr svs pat st i), .ref D]) = HQ at sQ hlfQ gtq sNQ hDQ ⊢
      refine ⟨lf, rows, _, rfl, rfl, hlfQ, small1 (by omega), ?_⟩
      have kF : Kp lf HQ (upd HQ lf (.lst (rows ++ [.ref tq]))) := Kp.upd
      have nF := Kp.nl kF hlfQ
      have kce : ∀ b o, b ≠ lo → b ≠ lf → Hc b = some o → (upd HQ lf (.lst (rows ++ [.ref tq]))) b = some o := fun b o n1 n2 e => kF _ _ n2 (sNQ _ _ (kcN b o n1 n2 e))
      have tpl : ∀ b us, Hc b = some (.tup us) → b ≠ lo ∧ b ≠ lf := fun b us e => ⟨fun z => (by rw [z, hlo'] at e; cases e), fun z => (by rw [z, hlf'] at e; cases e)⟩
      refine ⟨_, _, _, _, _, _, _, _, _, _, m1, ys2.take xC.length, yo.set wi (.ref m2), rows ++ [.ref tq], rfl, kF _ _ m1lf (sNQ _ _ gm1N), m1lo, m1lf, (hsC.same sNQ).nl nF, kF _ _ nof (sNQ _ _ hloN), L2.Paired.mapP ownN (fun _ _ z => z.ke (fun b o _ n2 e => kF _ _ n2 (sNQ _ _ e)) ⟨_, hloN⟩ ⟨_, hlfN⟩), upd_same, by rw [List.length_append, rl]; rfl, fun (j : Nat) (x : V) hj => ?_, fun b o e => kF _ _ (ne_of_none e nHf) (sNQ _ _ (sHN _ _ e))⟩
      by_cases c : j < i
      · rw [List.getElem?_append_left (by omega)] at hj
        obtain ⟨q6, l6, e6, b1, b2, b3, b4⟩ := hrows j x hj
        exact ⟨q6, l6, e6, b1, b2, kce _ _ (tpl _ _ b3).1 (tpl _ _ b3).2 b3, kce _ _ b1 b2 b4⟩
      · rw [List.getElem?_append_right (by omega), rl] at hj
        have : j = i := by
          have := (List.getElem?_eq_some_iff.mp hj).1
          simp at this
          omega
        subst this
        rw [Nat.sub_self] at hj
        cases hj
        exact ⟨tq, D, rfl, Dlo, Dlf, nF _ _ gtq fun _ z => (nomatch z), kF _ _ Dlf hDQ⟩
    · rintro σ Hc ⟨v4, v5, v8, v9, v10, v11, v12, v13, v14, v15, cc, ys, yo, rows, rfl, hcc, cco, ccf, hys, hlo', own, hlf', rl, hrows, sc⟩
      have en : ((n : Int)).toNat = n := Int.toNat_natCast n
      rw [en] at rl
      refine ⟨_, rfl, k lf rows Hc hlf' ⟨rl, fun j x e => ?_⟩ sc nHf⟩
      obtain ⟨q, l, h1, _, _, h2, h3⟩ := hrows j x e
      exact ⟨q, l, h1, h2, h3⟩
theorem ok_sentrequests (T : LX K mg L) : Cal P w K mg base "sent_requests" 6 L.f_sent_requests ["routes", "count"] (spSentR L.c_Routes) := T.d_sent_requests.cal fun fd F => fn_sentrequests T F
end
/-! ### what is told of requests through routes -/
def rtG (fr : List Tri) (svs : List Svc) (pat : List Nat) (st : Int) (n w : Nat) : List Bool := ((List.range n).filter fun j => decide (rtW pat j = w)).map (rtGood fr svs pat st)
def opsL (fr : List Tri) (svs : List Svc) (pat : List Nat) (st : Int) (n : Nat) : List (Nat × Nat) := (List.range n).flatMap fun j => (rtOp fr svs pat st j).map fun k => (j, k)
def PrAt (H : Hp) (v : V) (p : Nat × Nat) : Prop := ∃ a, v = .ref a ∧ H a = some (.tup [.int (p.1 : Int), .int (p.2 : Int)])
theorem PrAt.nl {H H' : Hp} (k : NL H H') {v : V} {p : Nat × Nat} (h : PrAt H v p) : PrAt H' v p := by
  obtain ⟨a, e, h⟩ := h
  exact ⟨a, e, k _ _ h fun _ z => nomatch z⟩
/-- counts of a service, as they stand -/
def CtAt (H : Hp) (v : V) (a b : Nat) : Prop := ∃ q, v = .ref q ∧ H q = some (.tup [.int (a : Int), .int (b : Int)])
def spServed (C : Addr) : Sp := fun vs H Q _ => ∃ p fr svs pat st, ∃ n : Nat, vs = [.ref p, .int (n : Int)] ∧ RtV C H p fr svs pat st ∧ n ≤ 10000 ∧ ∀ l xs H', H' l = some (.lst xs) → xs.length = svs.length → (∀ (w : Nat) (x : V), xs[w]? = some x → CtAt H' x ((rtG fr svs pat st n w).count true) ((rtG fr svs pat st n w).count false)) → Same H H' → H l = none → Q (.ref l) H'
def spOpens (C : Addr) : Sp := fun vs H Q _ => ∃ p fr svs pat st, ∃ n : Nat, vs = [.ref p, .int (n : Int)] ∧ RtV C H p fr svs pat st ∧ n ≤ 10000 ∧ ∀ l xs H', H' l = some (.lst xs) → Paired (PrAt H') xs (opsL fr svs pat st n) → Same H H' → H l = none → Q (.ref l) H'
theorem bools_dp {K : PySem.W.Frag} {H : Hp} : ∀ bs : List Bool, DpAll K H (bs.map V.bl) (bs.map PyData.bool)
  | [] => .nil
  | b :: r => .cons (.bl b) (bools_dp r)
theorem bools_plain : ∀ bs : List Bool, PyData.plainAll (bs.map PyData.bool) = true
  | [] => by simp [PyData.plainAll]
  | b :: r => by rw [List.map_cons, PyData.plainAll, bools_plain r]; simp [PyData.plain]
theorem bools_count (c : Bool) : ∀ bs : List Bool, (bs.map PyData.bool).countP (fun e => PyData.eqv e (.bool c)) = bs.count c
  | [] => rfl
  | b :: r => by
    rw [List.map_cons, List.countP_cons, List.count_cons, bools_count c r]
    cases b <;> cases c <;> rfl
theorem rtOp_len (fr : List Tri) (svs : List Svc) (pat : List Nat) (st : Int) (j : Nat) : (rtOp fr svs pat st j).length ≤ fr.length := by
  unfold rtOp
  have := List.length_filter_le (fun k => decide ((rtS fr svs pat st (j + 1)).1[k]? = some (("open", (j : Int) * st) : StD))) (List.range fr.length)
  rw [List.length_range] at this
  exact this
theorem opsL_succ (fr : List Tri) (svs : List Svc) (pat : List Nat) (st : Int) (n : Nat) : opsL fr svs pat st (n + 1) = opsL fr svs pat st n ++ (rtOp fr svs pat st n).map fun k => (n, k) := by
  unfold opsL
  rw [List.range_succ, List.flatMap_append]
  simp
theorem opsL_len (fr : List Tri) (svs : List Svc) (pat : List Nat) (st : Int) : ∀ n : Nat, (opsL fr svs pat st n).length ≤ fr.length * n
  | 0 => by simp [opsL]
  | n + 1 => by
    rw [opsL_succ, List.length_append, List.length_map, Nat.mul_succ]
    have := opsL_len fr svs pat st n
    have := rtOp_len fr svs pat st n
    omega
/-- a comprehension over enumerate, and then over a list -/
theorem lc2e_outer {K : PySem.W.Frag} {a : Addr} {xs : List V} {g : TG} {tt : TT} {wi1 : TI} {g1 : TG} {tt1 : TT} {te : TE} {vs vs1 : List Nat} {σ : L2.St} {H1 : Hp} {D : Addr} {Qd : Hp → Prop} (Pv : Nat → Hp → Prop) (h0 : Pv 0 (upd H1 D (.lst []))) (hl : ∀ i H, Pv i H → SqL K H a xs)
    (hs : ∀ (i : Nat) (x : V) (T : Addr) (H : Hp), xs[i]? = some x → Pv i H → H T = none → g (.ref T) (wipe σ vs) (upd H T (.tup [.int (i : Nat), x])) fun σ2 H2 => wipe σ2 vs = wipe σ vs ∧ tt σ2 H2 fun b H3 =>
      if b = true then wi1 σ2 H3 fun J1 H4 => ∃ W1 : Nat → Nat → Hp → Prop, (∃ m, W1 0 m H4) ∧ ∀ j k H, W1 j k H →
        (J1.stop j H ∧ Pv (i + 1) H) ∨ (J1.go j H ∧ ∃ Nx1 : Hp → Prop, (∀ H', Nx1 H' → ∃ k', k' < k ∧ W1 (j + 1) k' H') ∧ ∀ x H', J1.yld j H x H' → g1 x (wipe σ2 vs1) H' fun σ3 H5 => wipe σ3 vs1 = wipe σ2 vs1 ∧ tt1 σ3 H5 fun b H6 =>
          if b = true then te σ3 H6 fun y H7 => ∃ acc, H7 D = some (.lst acc) ∧ acc.length < sizeLine ∧ Nx1 (upd H7 D (.lst (acc ++ [y]))) else Nx1 H6)
      else Pv (i + 1) H3) (hd : ∀ H, Pv xs.length H → Qd H) :
    ∃ W : Nat → Nat → Hp → Prop, (∃ m, W 0 m (upd H1 D (.lst []))) ∧ ∀ i m H, W i m H →
      ((Ite K a).stop i H ∧ Qd H) ∨ ((Ite K a).go i H ∧ ∃ Nx : Hp → Prop, (∀ H', Nx H' → ∃ m', m' < m ∧ W (i + 1) m' H') ∧ ∀ x H', (Ite K a).yld i H x H' → g x (wipe σ vs) H' fun σ2 H2 => wipe σ2 vs = wipe σ vs ∧ tt σ2 H2 fun b H3 =>
        if b = true then wi1 σ2 H3 fun J1 H4 => ∃ W1 : Nat → Nat → Hp → Prop, (∃ m, W1 0 m H4) ∧ ∀ j k H, W1 j k H →
          (J1.stop j H ∧ Nx H) ∨ (J1.go j H ∧ ∃ Nx1 : Hp → Prop, (∀ H', Nx1 H' → ∃ k', k' < k ∧ W1 (j + 1) k' H') ∧ ∀ x H', J1.yld j H x H' → g1 x (wipe σ2 vs1) H' fun σ3 H5 => wipe σ3 vs1 = wipe σ2 vs1 ∧ tt1 σ3 H5 fun b H6 =>
            if b = true then te σ3 H6 fun y H7 => ∃ acc, H7 D = some (.lst acc) ∧ acc.length < sizeLine ∧ Nx1 (upd H7 D (.lst (acc ++ [y]))) else Nx1 H6)
        else Nx H3) := by
  refine ⟨fun i m H => m = xs.length - i ∧ i ≤ xs.length ∧ Pv i H, ⟨xs.length, by omega, Nat.zero_le _, h0⟩, ?_⟩
  rintro i m H ⟨rfl, hi, p⟩
  have q := hl i H p
  by_cases hlt : i < xs.length
  · refine .inr ⟨⟨xs, xs[i], q, List.getElem?_eq_getElem hlt⟩, Pv (i + 1), fun H' p' => ⟨xs.length - (i + 1), by omega, rfl, hlt, p'⟩, fun v H' y => ?_⟩
    obtain ⟨T, x', rfl, hT, rfl, f⟩ := y
    exact hs i x' T H (f xs q) p hT
  · have e : i = xs.length := by omega
    subst e
    exact .inl ⟨⟨xs, q, Nat.le_refl _⟩, hd H p⟩
theorem lc2e_inner {K : PySem.W.Frag} {a : Addr} {xs : List V} {g1 : TG} {tt1 : TT} {te : TE} {vs1 : List Nat} {σ2 : L2.St} {H4 : Hp} {D : Addr} {Nx : Hp → Prop} (Pv : Nat → Hp → Prop) (h0 : Pv 0 H4) (hl : ∀ i H, i ≤ xs.length → Pv i H → SqL K H a xs)
    (hs : ∀ j x H, xs[j]? = some x → Pv j H → g1 x (wipe σ2 vs1) H fun σ3 H5 => wipe σ3 vs1 = wipe σ2 vs1 ∧ tt1 σ3 H5 fun b H6 =>
      if b = true then te σ3 H6 fun y H7 => ∃ acc, H7 D = some (.lst acc) ∧ acc.length < sizeLine ∧ Pv (j + 1) (upd H7 D (.lst (acc ++ [y]))) else Pv (j + 1) H6) (hd : ∀ H, Pv xs.length H → Nx H) :
    ∃ W1 : Nat → Nat → Hp → Prop, (∃ m, W1 0 m H4) ∧ ∀ j k H, W1 j k H →
      ((Itl K a).stop j H ∧ Nx H) ∨ ((Itl K a).go j H ∧ ∃ Nx1 : Hp → Prop, (∀ H', Nx1 H' → ∃ k', k' < k ∧ W1 (j + 1) k' H') ∧ ∀ x H', (Itl K a).yld j H x H' → g1 x (wipe σ2 vs1) H' fun σ3 H5 => wipe σ3 vs1 = wipe σ2 vs1 ∧ tt1 σ3 H5 fun b H6 =>
        if b = true then te σ3 H6 fun y H7 => ∃ acc, H7 D = some (.lst acc) ∧ acc.length < sizeLine ∧ Nx1 (upd H7 D (.lst (acc ++ [y]))) else Nx1 H6) := by
  refine ⟨fun i m H => m = xs.length - i ∧ i ≤ xs.length ∧ Pv i H, ⟨xs.length, by simp, Nat.zero_le _, h0⟩, ?_⟩
  rintro i m H ⟨rfl, hi, p⟩
  have q := hl i H hi p
  by_cases hlt : i < xs.length
  · refine .inr ⟨⟨xs, xs[i], q, by simp [hlt]⟩, Pv (i + 1), fun H' p' => ⟨xs.length - (i + 1), by omega, rfl, hlt, p'⟩, fun x H' y => ?_⟩
    obtain ⟨e, y⟩ := y
    subst e
    exact hs i x _ (y xs q) p
  · have e : i = xs.length := by omega
    subst e
    exact .inl ⟨⟨xs, q, Nat.le_refl _⟩, hd H p⟩
section
variable {P : Program} {w : World} {K : PySem.W.Frag} {mg : Str → Option Value} {base : Heap} {L : LA}
abbrev N_served : List Str := ["routes", "count", "requests", "totals", "place", "succeeded", "service", "success", "opened"]
theorem sc_served : FnScope N_served ["routes", "count"] (defScope st_served) := ⟨rfl, rfl, rfl, by decide +kernel, rfl, by decide +kernel, by decide +kernel⟩
theorem fn_served (T : LX K mg L) {fd : FuncData} (F : Fun K "served" "served" st_served L.f_served fd) : FnOk P w K mg base CX0 7 L.f_served fd ["routes", "count"] (spServed L.c_Routes) := by
  have G_sentrequests := ok_sentrequests (P := P) (w := w) (base := base) T
  have nd := sc_served.nd
  refine F.ok sc_served (fun vs H Q E h => ?_) (fun cdv A outer S H vs Q E hr h => ?_)
  · obtain ⟨p, fr, svs, pat, st, n, rfl, _⟩ := h
    rfl
  · obtain ⟨p, fr, svs, pat, st, n, rfl, RV, hn, k⟩ := h
    refine ⟨_, (pss_cons (ps_set (i := 2) nd rfl (Or.inl rfl) (pe_c G_sentrequests (hr.mono (by decide)) rfl (pa_cons (pv 0) (pa_cons (pv 1) pa_nil))))
       (pss_cons (ps_set (i := 3) nd rfl (Or.inl rfl) (pe_lst pa_nil))
       (pss_cons (ps_for PassesOwn.never rfl (pi_range1 rfl T.b_range (pa_cons (pe_callB call_len_seq (by rfl) T.b_len PySem.boot_len (pa_cons (pe_fld (pv 0) rfl) pa_nil)) pa_nil)) (pg_name (i := 4) nd rfl (Or.inr rfl)) (pss_cons (ps_setLc (i := 5) (own := [("service", 6), ("success", 7), ("opened", 8)]) (g := gTup K 3 (gCons (gName 6) (gCons (gName 7) (gCons (gName 8) (gNil))))) rfl nd rfl rfl (sw_true rfl rfl rfl (by decide +kernel)) (pi_list (pv 2)) (blkOk_by (own := [("service", 6), ("success", 7), ("opened", 8)]) (N := N_served) (sc := defScope st_served) (by decide +kernel)) (fun _ _ _ _ _ => pg_tup rfl (pgs_cons (pg_name (i := 6) nd rfl (Or.inl rfl)) (pgs_cons (pg_name (i := 7) nd rfl (Or.inl rfl)) (pgs_cons (pg_name (i := 8) nd rfl (Or.inl rfl)) pgs_nil)))) (fun _ _ _ _ _ => pts_one (pt_cmpR op_eq (pv 6) (pv 4) (nomark _))) (fun _ _ _ _ _ => (pv 7)))
       (pss_one (ps_expr (pe_bm PySem.F.plainAttrs_list PySem.F.slot_list_append PySem.F.type_list_append mt_append (pv 3) (pa_cons (pe_tup (pa_cons (pe_bm PySem.F.plainAttrs_list PySem.F.slot_list_count PySem.F.type_list_count (mt_dcount hr.units) (pv 5) (pa_cons pe_bl pa_nil)) (pa_cons (pe_bm PySem.F.plainAttrs_list PySem.F.slot_list_count PySem.F.type_list_count (mt_dcount hr.units) (pv 5) (pa_cons pe_bl pa_nil)) pa_nil))) pa_nil))))))
       (pss_one (ps_ret (pv 3)))))), ?_⟩
    have RV0 := RV
    obtain ⟨aC, aS, aP, xC, xS, R⟩ := RV
    obtain ⟨dx, hp⟩ := R.ob
    have sl := paired_len R.sv
    have sl10 := R.s1
    refine ⟨_, rfl, _, rfl, p, fr, svs, pat, st, n, rfl, RV0, hn, fun lr rows H1 hlr fds s1 n1 => ⟨(by show 0 ≤ sizeLine; decide), fun lt hlt => ?_⟩⟩
    have s2 := s1.trans (Same.upd (o := .lst []) hlt)
    have R2 := R.nl (NL.of s2)
    have nH : H lt = none := none_of s1 hlt
    have hlr2 := (Same.upd (o := .lst []) hlt) _ _ hlr
    have nrt : lr ≠ lt := ne_of_none hlr hlt
    refine ⟨_, rfl, p, L.c_Routes, dx, _, _, rfl, s2 _ _ hp, T.cf_Routes.cl, T.nf_Routes_services, rtF_s _ _ _ _, aS, xS, rfl, .inr (SqT.of R2.hS), _, rfl, by omega, by omega, ?_⟩
    refine for_range (lo := 0) (n := ((xS.length : Int)).toNat) (fun i σ Hc => ∃ (v4 v5 v6 v7 v8 : Option V) (ts : List V), σ = [some (.ref p), some (.int (n : Int)), some (.ref lr), some (.ref lt), v4, v5, v6, v7, v8] ∧ Hc lt = some (.lst ts) ∧ ts.length = i ∧ (∀ (w : Nat) (x : V), ts[w]? = some x → CtAt Hc x ((rtG fr svs pat st n w).count true) ((rtG fr svs pat st n w).count false)) ∧ Same H1 Hc)
      ⟨_, _, _, _, _, [], rfl, upd_same, rfl, fun (w : Nat) (x : V) e => (by cases e), Same.upd hlt⟩ ?_ ?_
    · rintro i σ Hc hi ⟨v4, v5, v6, v7, v8, ts, rfl, htc, tl, hts, sc⟩
      have e0 : (0 : Int) + (i : Int) = i := by omega
      rw [e0]
      have hlrc := sc _ _ hlr
      have fdc := fds.same sc
      refine ⟨_, rfl, lr, rfl, ⟨_, SqL.of hlrc⟩, fun D hD => ?_⟩
      refine lc_list (K := K) (a := lr) (xs := rows) (fun j Hx => Hx D = some (.lst ((rtG fr svs pat st j i).map V.bl)) ∧ Same Hc Hx) ⟨upd_same, Same.upd hD⟩ (fun j Hx _ ⟨_, s⟩ => SqL.of (s _ _ hlrc)) ?_ ?_
      · rintro j x Hx hxj ⟨hDx, sx⟩
        obtain ⟨q, lo, rfl, h1, h2⟩ := (fdc.2 j x hxj).same sx
        have jn : j < n := by have := (List.getElem?_eq_some_iff.mp hxj).1; rw [fds.1] at this; exact this
        have gl : (rtG fr svs pat st j i).length ≤ j := by
          unfold rtG
          rw [List.length_map]
          have := List.length_filter_le (fun j => decide (rtW pat j = i)) (List.range j)
          rw [List.length_range] at this
          exact this
        have er : rtG fr svs pat st (j + 1) i = rtG fr svs pat st j i ++ if rtW pat j = i then [rtGood fr svs pat st j] else [] := by
          unfold rtG
          rw [List.range_succ, List.filter_append, List.map_append, List.filter_cons]
          by_cases c : rtW pat j = i
          · rw [if_pos c, if_pos (decide_eq_true c)]
            rfl
          · rw [if_neg c, if_neg (fun z => c (of_decide_eq_true z))]
            rfl
        rw [er]
        refine ⟨q, _, rfl, SqT.of h1, rfl, _, _, rfl, _, _, rfl, _, _, rfl, rfl, rfl, ?_⟩
        refine ⟨_, rfl, _, rfl, rfl, _, rfl, ite2 (fun c => ?_) (fun c => ?_)⟩
        · have c' : rtW pat j = i := by
            have := V.int.inj (of_decide_eq_true c)
            omega
          rw [if_pos c', List.map_append]
          exact ⟨_, rfl, _, hDx, small1 (by rw [List.length_map]; omega), upd_same, fun b u e => by rw [upd_ne (ne_of_none e hD)]; exact sx _ _ e⟩
        · have c' : ¬ rtW pat j = i := fun z => c (decide_eq_true (by rw [z]))
          rw [if_neg c', List.append_nil]
          exact ⟨hDx, sx⟩
      rintro HD ⟨hDD, sD⟩
      rw [fds.1] at hDD
      have htD := sD _ _ htc
      refine ⟨_, rfl, .inl ⟨rfl, _, SqL.of htD⟩, _, rfl, .inl ⟨rfl, _, SqL.of hDD⟩, ?_⟩
      refine ⟨D, (rtG fr svs pat st n i).map V.bl, (rtG fr svs pat st n i).map PyData.bool, .bl true, .bool true, rfl, rfl, SqL.of hDD, bools_dp (rtG fr svs pat st n i), .bl true, bools_plain (rtG fr svs pat st n i), by simp [PyData.plain], by simp [PyData.depth], ?_⟩
      refine ⟨_, rfl, .inl ⟨rfl, _, SqL.of hDD⟩, ?_⟩
      refine ⟨D, (rtG fr svs pat st n i).map V.bl, (rtG fr svs pat st n i).map PyData.bool, .bl false, .bool false, rfl, rfl, SqL.of hDD, bools_dp (rtG fr svs pat st n i), .bl false, bools_plain (rtG fr svs pat st n i), by simp [PyData.plain], by simp [PyData.depth], ?_⟩
      simp only [bools_count]
      generalize hct : (rtG fr svs pat st n i).count true = ct
      generalize hcf : (rtG fr svs pat st n i).count false = cf
      refine ⟨(by show 2 ≤ sizeLine; decide), fun tq htq => ?_⟩
      have sq := Same.upd (o := .tup [.int (ct : Int), .int (cf : Int)]) htq
      have htQ := sq _ _ htD
      have nq := NL.upd (o := .lst (ts ++ [.ref tq])) htQ
      have s1q := (sc.trans sD).trans sq
      refine ⟨lt, ts, _, rfl, rfl, htQ, small1 (by omega), ?_⟩
      refine ⟨_, _, _, _, _, ts ++ [.ref tq], rfl, upd_same, by rw [List.length_append, tl]; rfl, fun (w : Nat) (x : V) hw => ?_, fun b o e => by rw [upd_ne (ne_of_none e hlt)]; exact s1q _ _ e⟩
      by_cases c : w < i
      · rw [List.getElem?_append_left (by omega)] at hw
        obtain ⟨q, e, h⟩ := hts w x hw
        exact ⟨q, e, nq _ _ (sq _ _ (sD _ _ h)) fun _ z => nomatch z⟩
      · rw [List.getElem?_append_right (by omega), tl] at hw
        have : w = i := by
          have := (List.getElem?_eq_some_iff.mp hw).1
          simp at this
          omega
        subst this
        rw [Nat.sub_self] at hw
        cases hw
        refine ⟨tq, rfl, ?_⟩
        rw [hct, hcf]
        exact nq _ _ upd_same fun _ z => nomatch z
    · rintro σ Hc ⟨v4, v5, v6, v7, v8, ts, rfl, htc, tl, hts, sc⟩
      exact ⟨_, rfl, k lt ts Hc htc (by omega) hts (s1.trans sc) nH⟩
theorem ok_served (T : LX K mg L) : Cal P w K mg base "served" 7 L.f_served ["routes", "count"] (spServed L.c_Routes) := T.d_served.cal fun fd F => fn_served T F
abbrev N_commonopenings : List Str := ["routes", "count", "requests", "number", "service", "success", "opened", "breaker"]
theorem sc_commonopenings : FnScope N_commonopenings ["routes", "count"] (defScope st_common_openings) := ⟨rfl, rfl, rfl, by decide +kernel, rfl, by decide +kernel, by decide +kernel⟩
theorem fn_commonopenings (T : LX K mg L) {fd : FuncData} (F : Fun K "common_openings" "common_openings" st_common_openings L.f_common_openings fd) : FnOk P w K mg base CX0 7 L.f_common_openings fd ["routes", "count"] (spOpens L.c_Routes) := by
  have G_sentrequests := ok_sentrequests (P := P) (w := w) (base := base) T
  have nd := sc_commonopenings.nd
  refine F.ok sc_commonopenings (fun vs H Q E h => ?_) (fun cdv A outer S H vs Q E hr h => ?_)
  · obtain ⟨p, fr, svs, pat, st, n, rfl, _⟩ := h
    rfl
  · obtain ⟨p, fr, svs, pat, st, n, rfl, RV, hn, k⟩ := h
    refine ⟨_, (pss_cons (ps_set (i := 2) nd rfl (Or.inl rfl) (pe_c G_sentrequests (hr.mono (by decide)) rfl (pa_cons (pv 0) (pa_cons (pv 1) pa_nil))))
       (pss_one (ps_ret (pe_lc2 (own := [("number", 3), ("service", 4), ("success", 5), ("opened", 6), ("breaker", 7)]) (vs1 := [7]) (g := gTup K 2 (gCons (gName 3) (gCons (gTup K 3 (gCons (gName 4) (gCons (gName 5) (gCons (gName 6) (gNil))))) (gNil)))) (tt := tYes) (g1 := gName 7) (tt1 := tYes) (wi1 := iList K _) rfl nd (pi_enum (by rfl) T.b_enumerate (pa_cons (pv 2) pa_nil)) (blkOk_by (own := [("number", 3), ("service", 4), ("success", 5), ("opened", 6), ("breaker", 7)]) (N := N_commonopenings) (sc := defScope st_common_openings) (by decide +kernel)) (by simp) (fun _ _ _ _ _ => pg_tup rfl (pgs_cons (pg_name (i := 3) nd rfl (Or.inl rfl)) (pgs_cons (pg_tup rfl (pgs_cons (pg_name (i := 4) nd rfl (Or.inl rfl)) (pgs_cons (pg_name (i := 5) nd rfl (Or.inl rfl)) (pgs_cons (pg_name (i := 6) nd rfl (Or.inl rfl)) pgs_nil)))) pgs_nil))) (fun _ _ _ _ _ => pts_nil) (fun _ _ _ _ _ => (pi_list (pv 6))) (fun _ _ _ _ _ => pg_name (i := 7) nd rfl (Or.inl rfl)) (fun _ _ _ _ _ => pts_nil) (fun _ _ _ _ _ => (pe_tup (pa_cons (pv 3) (pa_cons (pv 7) pa_nil)))))))), ?_⟩
    have l12 : fr.length ≤ 12 := by obtain ⟨_, _, _, _, _, R⟩ := RV; exact R.lnC
    refine ⟨_, rfl, _, rfl, p, fr, svs, pat, st, n, rfl, RV, hn, fun lr rows H1 hlr fds s1 n1 => ?_⟩
    refine ⟨_, rfl, lr, _, rfl, SqL.of hlr, fun D hD => ?_⟩
    have big : ∀ {m j : Nat}, m ≤ (opsL fr svs pat st j).length + 12 → j ≤ 10000 → m < sizeLine := fun {m j} h hj => by
      have h2 := opsL_len fr svs pat st j
      have h3 : fr.length * j ≤ 12 * 10000 := Nat.mul_le_mul l12 hj
      exact Nat.lt_of_le_of_lt (show m ≤ 200000 by omega) (by decide)
    refine lc2e_outer (K := K) (a := lr) (xs := rows) (fun i Hx => ∃ ys, Hx D = some (.lst ys) ∧ Paired (PrAt Hx) ys (opsL fr svs pat st i) ∧ Same H1 Hx) ⟨[], upd_same, .nil, Same.upd hD⟩ (fun i Hx ⟨_, _, _, s⟩ => SqL.of (s _ _ hlr)) ?_ ?_
    · rintro i x T' Hx hxi ⟨ys, hDx, py, sx⟩ hT
      have iN : i < n := by have := (List.getElem?_eq_some_iff.mp hxi).1; rw [fds.1] at this; exact this
      obtain ⟨q, lo, rfl, h1', h2'⟩ := fds.2 i x hxi
      have h1 := sx _ _ h1'
      have h2 := sx _ _ h2'
      have nlo : lo ≠ D := ne_of_none h2' hD
      have sT := Same.upd (o := .tup [.int (i : Nat), .ref q]) hT
      have h1T := sT _ _ h1
      have h2T := sT _ _ h2
      refine ⟨T', _, rfl, SqT.of upd_same, rfl, _, _, rfl, _, _, rfl, ⟨q, _, rfl, SqT.of h1T, rfl, _, _, rfl, _, _, rfl, _, _, rfl, rfl, rfl, ?_⟩⟩
      refine ⟨rfl, tYes_of ⟨_, rfl, lo, rfl, ⟨_, SqL.of h2T⟩, ?_⟩⟩
      have ylen := paired_len py
      refine lc2e_inner (K := K) (a := lo) (xs := (rtOp fr svs pat st i).map pnV) (fun j Hy => ∃ zs, Hy D = some (.lst zs) ∧ Paired (PrAt Hy) zs (opsL fr svs pat st i ++ ((rtOp fr svs pat st i).take j).map fun k => (i, k)) ∧ Kp D (upd Hx T' (.tup [.int (i : Nat), .ref q])) Hy) ⟨ys, sT _ _ hDx, by rw [List.take_zero, List.map_nil, List.append_nil]; exact L2.Paired.mapP py fun _ _ z => z.nl (NL.of sT), Kp.refl⟩ (fun j Hy _ ⟨_, _, _, ky⟩ => SqL.of (ky _ _ nlo h2T)) ?_ ?_
      · rintro j y Hy hyj ⟨zs, hDy, pz, ky⟩
        have hj := (List.getElem?_eq_some_iff.mp hyj).1
        rw [List.length_map] at hj
        obtain ⟨m, hm⟩ : ∃ m, (rtOp fr svs pat st i)[j]? = some m := ⟨_, List.getElem?_eq_getElem hj⟩
        rw [List.getElem?_map, hm] at hyj
        cases hyj
        have zl := paired_len pz
        rw [List.length_append, List.length_map, List.length_take] at zl
        have ol := rtOp_len fr svs pat st i
        refine ⟨rfl, tYes_of ⟨_, rfl, _, rfl, (by show 2 ≤ sizeLine; decide), fun tq htq => ⟨zs, (Same.upd htq) _ _ hDy, big (j := i) (by omega) (by omega), ?_⟩⟩⟩
        have sq := Same.upd (o := .tup [.int (i : Nat), pnV m]) htq
        have hDq := sq _ _ hDy
        have nq := NL.upd (o := .lst (zs ++ [.ref tq])) hDq
        refine ⟨_, upd_same, ?_, (ky.trans (Kp.of sq)).trans Kp.upd⟩
        rw [List.take_add_one, hm, List.map_append, ← List.append_assoc]
        exact paired_app (L2.Paired.mapP pz fun _ _ z => (z.nl (NL.of sq)).nl nq) (.cons ⟨tq, rfl, nq _ _ upd_same fun _ z => nomatch z⟩ .nil)
      · rintro Hy ⟨zs, hDy, pz, ky⟩
        rw [List.length_map, List.take_length, ← opsL_succ] at pz
        exact ⟨zs, hDy, pz, fun b o e => ky _ _ (ne_of_none e hD) (sT _ _ (sx _ _ e))⟩
    · rintro Hx ⟨ys, hDx, py, sx⟩
      rw [fds.1] at py
      exact k D ys Hx hDx py (s1.trans sx) (none_of s1 hD)
theorem ok_commonopenings (T : LX K mg L) : Cal P w K mg base "common_openings" 7 L.f_common_openings ["routes", "count"] (spOpens L.c_Routes) := T.d_common_openings.cal fun fd F => fn_commonopenings T F
end
/-! ### routes made; openings told as data -/
section
variable {X : Cx} {L : LA}
/-- Routes(..) -/
theorem pe_mkRoutes (T : LX X.K X.mg L) (hr : Room 9 X.A) {p pos : Pos} {e : Expr} {es : List Expr} {t : TA} (hg : Gl X "Routes") (ha : PA X (e :: es) t)
    (he : starEach (e :: es) X.env = (false, eval e X.env) :: starEach es X.env := by rfl) (hpl : (backTo pos (starEach es X.env)).any (·.1) = false := by rfl) : PE X (.Call (.Name "Routes" p) (e :: es) [] pos) (tMake L.c_Routes (spRtInit L.c_Routes) [] E0 t) := by
  obtain ⟨fd, F, b⟩ := T.in_Routes
  exact pe_make T.mk_Routes (fn_Routesinit T F) hr hg T.gc_Routes b .nil pass0 ha (by decide) he hpl
end
theorem opsL_mem {fr : List Tri} {svs : List Svc} {pat : List Nat} {st : Int} {n : Nat} {p : Nat × Nat} (h : p ∈ opsL fr svs pat st n) : p.1 < n ∧ p.2 ∈ rtOp fr svs pat st p.1 := by
  unfold opsL at h
  obtain ⟨j, hj, hp⟩ := List.mem_flatMap.mp h
  obtain ⟨k, hk, rfl⟩ := List.mem_map.mp hp
  exact ⟨List.mem_range.mp hj, hk⟩
/-- openings are told in their order -/
theorem opsL_asc (fr : List Tri) (svs : List Svc) (pat : List Nat) (st : Int) : ∀ n : Nat, (opsL fr svs pat st n).Pairwise fun a b => a.1 < b.1 ∨ (a.1 = b.1 ∧ a.2 < b.2)
  | 0 => by simp [opsL]
  | n + 1 => by
    rw [opsL_succ, List.pairwise_append]
    refine ⟨opsL_asc fr svs pat st n, ?_, fun a ha b hb => .inl ?_⟩
    · rw [List.pairwise_map]
      unfold rtOp
      refine (List.pairwise_lt_range.sublist List.filter_sublist).imp fun h => .inr ⟨rfl, h⟩
    · obtain ⟨k, _, rfl⟩ := List.mem_map.mp hb
      exact (opsL_mem ha).1
theorem routes_made {C : Addr} {H : Hp} {Q : Addr → Hp → Prop} {lc ls lp : Addr} {st : Int} {xc xs : List V} {fr : List Tri} {svs : List Svc} {pat : List Nat} (h1 : H lc = some (.lst xc)) (h2 : Brs H xc fr) (h3 : H ls = some (.lst xs)) (h4 : Paired (SlAt H) xs svs) (h5 : H lp = some (.lst (pat.map pnV))) (W : RtOk fr svs pat st)
    (k : ∀ p H', RtV C H' p fr svs pat st → Same H H' → H p = none → Q p H') :
    ∀ x dx, H x = none → H dx = none → dx ≠ x → spRtInit C [.ref x, .ref lc, .ref ls, .ref lp, .int st] (upd (upd H dx (.own x)) x (.ins C dx [])) (fun v H3 => v = .non ∧ Q x H3) E0 := by
  intro x dx hx hd hne
  have s0 : Same H (upd (upd H dx (.own x)) x (.ins C dx [])) := fun b o e => by
    rw [upd_ne (ne_of_none e hx), upd_ne (ne_of_none e hd)]
    exact e
  exact ⟨x, lc, ls, lp, st, xc, xs, fr, svs, pat, dx, rfl, upd_same, s0 _ _ h1, h2.nl (NL.of s0), s0 _ _ h3, L2.Paired.mapP h4 (fun _ _ z => z.same s0), s0 _ _ h5, W, fun H' R kp => ⟨rfl, k x H' R (fun b o e => kp b o (ne_of_none e hx) (s0 b o e)) hx⟩⟩
theorem all_canP : ∀ ds : List PyData, (∀ d ∈ ds, d.canLay0 = true ∧ d.depth ≤ 10) → PyData.canLayAll0 ds = true ∧ PyData.depthAll ds ≤ 11
  | [], _ => ⟨by simp [PyData.canLayAll0], by simp [PyData.depthAll]⟩
  | d :: ds, h => by
    obtain ⟨h1, h2⟩ := all_canP ds fun d hd => h d (List.mem_cons_of_mem _ hd)
    obtain ⟨h3, h4⟩ := h d (List.mem_cons_self ..)
    refine ⟨?_, ?_⟩
    · rw [PyData.canLayAll0, h1, h3]
      rfl
    · rw [PyData.depthAll]
      omega
theorem lst_shP {ds : List PyData} (h : ∀ d ∈ ds, d.canLay0 = true ∧ d.depth ≤ 10) : SeqAt.shaped (.list ds) = true := by
  obtain ⟨h1, h2⟩ := all_canP ds h
  refine Bool.and_eq_true_iff.mpr ⟨?_, decide_eq_true ?_⟩
  · rw [PyData.canLay0]
    exact h1
  · rw [PyData.depth]
    omega
theorem eqv_allP : ∀ ds : List PyData, (∀ d ∈ ds, PyData.eqv d d = true) → PyData.eqvAll ds ds = true
  | [], _ => by simp [PyData.eqvAll]
  | d :: ds, h => by
    rw [PyData.eqvAll, h d (List.mem_cons_self ..), eqv_allP ds fun d hd => h d (List.mem_cons_of_mem _ hd)]
    rfl
/-- pairs as data -/
def prD (p : Nat × Nat) : PyData := .tuple [.int (p.1 : Int), .int (p.2 : Int)]
theorem prs_dp {K : PySem.W.Frag} {H : Hp} {xs : List V} {ps : List (Nat × Nat)} (h : Paired (PrAt H) xs ps) : DpAll K H xs (ps.map prD) := by
  induction h with
  | nil => exact .nil
  | cons h _ ih =>
    obtain ⟨a, rfl, h⟩ := h
    exact .cons (.tup (SqT.of h) (.cons (.int _) (.cons (.int _) .nil))) ih
theorem prs_can (ps : List (Nat × Nat)) : ∀ d ∈ ps.map prD, d.canLay0 = true ∧ d.depth ≤ 10 := fun d hd => by
  obtain ⟨p, _, rfl⟩ := List.mem_map.mp hd
  exact ⟨by simp [prD, PyData.canLay0, PyData.canLayAll0], by simp [prD, PyData.depth, PyData.depthAll]⟩
theorem prs_sh (ps : List (Nat × Nat)) : SeqAt.shaped (.list (ps.map prD)) = true := lst_shP (prs_can ps)
theorem prs_eq (ps : List (Nat × Nat)) : PyData.eqv (.list (ps.map prD)) (.list (ps.map prD)) = true := by
  rw [PyData.eqv]
  refine eqv_allP _ fun d hd => ?_
  obtain ⟨p, _, rfl⟩ := List.mem_map.mp hd
  simp [prD, PyData.eqv, PyData.eqvAll]
/-- the pair that stands at a value -/
noncomputable def prK (H : Hp) (x : V) : Int × Int := match x with
  | .ref a => match H a with
    | some (.tup [.int i, .int j]) => (i, j)
    | _ => (0, 0)
  | _ => (0, 0)
theorem prK_of {H : Hp} {x : V} {p : Nat × Nat} (h : PrAt H x p) : prK H x = ((p.1 : Int), (p.2 : Int)) ∧ ∃ t, x = .ref t ∧ H t = some (.tup [.int (prK H x).1, .int (prK H x).2]) := by
  obtain ⟨a, rfl, h⟩ := h
  have e : prK H (.ref a) = ((p.1 : Int), (p.2 : Int)) := by
    simp only [prK, h]
  exact ⟨e, a, rfl, by rw [e]; exact h⟩
theorem prs_srtd {H : Hp} : ∀ {xs : List V} {ps : List (Nat × Nat)}, Paired (PrAt H) xs ps → (ps.Pairwise fun a b => a.1 < b.1 ∨ (a.1 = b.1 ∧ a.2 < b.2)) → SrtO.Srtd (ltP (prK H)) xs
  | _, _, .nil, _ => List.Pairwise.nil
  | _, _, .cons (a := x) (b := p) (l₁ := xs) (l₂ := ps) h t, hp => by
    obtain ⟨h1, h2⟩ := List.pairwise_cons.mp hp
    refine List.Pairwise.cons (fun y hy => ?_) (prs_srtd t h2)
    obtain ⟨j, hj⟩ := List.mem_iff_getElem?.mp hy
    obtain ⟨q, hq, hyq⟩ := paired_get t hj
    have l := h1 q (List.mem_of_getElem? hq)
    refine SrtO.lexB_no.mpr ?_
    rw [(prK_of h).1, (prK_of hyq).1]
    show ¬ _
    omega
/-! ### k57: requests sent by the law -/
theorem cH : ¬ V.str "closed" = V.str "half" := fun z => by injection z with z; exact sC_H z
def okB (b : Tri) (s : StD) : Prop := (s.1 = "closed" ∧ 0 ≤ s.2 ∧ s.2 < b.1) ∨ s.1 = "open" ∨ (s.1 = "half" ∧ 0 ≤ s.2 ∧ s.2 < b.2.2)
def spNote : Sp := fun vs H Q _ => ∃ x a b s t g, vs = [x, .ref a, .int t, .bl g] ∧ BrAt H x b ∧ H a = some (.lst [.str (hfS s).1, .int (hfS s).2]) ∧ OkT b ∧ okB b s ∧ Q .non (upd H a (.lst [.str (stpS b s t g).1, .int (stpS b s t g).2]))
/-- a state as the law keeps it: a list of a word and a number -/
def LsAt (H : Hp) (v : V) (s : StD) : Prop := ∃ a, v = .ref a ∧ H a = some (.lst [.str s.1, .int s.2])
abbrev Lss (H : Hp) (ys : List V) (ss : List StD) : Prop := Paired (LsAt H) ys ss
theorem Lss.get {H : Hp} {ys : List V} {ss : List StD} (h : Lss H ys ss) {i : Nat} {y : V} {s : StD} (hy : ys[i]? = some y) (hs : ss[i]? = some s) : LsAt H y s := by
  obtain ⟨s', hs', r⟩ := paired_get h hy
  rw [hs] at hs'
  cases hs'
  exact r
theorem paired_ix {α β : Type} {F : α → β → Prop} : ∀ {xs : List α} {ys : List β}, xs.length = ys.length → (∀ (i : Nat) (x : α) (y : β), xs[i]? = some x → ys[i]? = some y → F x y) → Paired F xs ys
  | [], [], _, _ => .nil
  | x :: xs, y :: ys, h, k => .cons (k 0 x y rfl rfl) (paired_ix (Nat.succ.inj h) fun i x' y' h1 h2 => k (i + 1) x' y' h1 h2)
  | [], _ :: _, h, _ => by cases h
  | _ :: _, [], h, _ => by cases h
theorem at_upd {H : Hp} {ys : List V} {bs : List Tri} {ss : List StD} {f : Nat → Tri → StD → StD} {i : Nat} {a : Addr} {s' : StD} (nd : ys.Nodup) (hi : ys[i]? = some (.ref a)) (h : ∀ j y b s, ys[j]? = some y → bs[j]? = some b → ss[j]? = some s → LsAt H y (f j b s)) :
    ∀ j y b s, ys[j]? = some y → bs[j]? = some b → ss[j]? = some s → LsAt (upd H a (.lst [.str s'.1, .int s'.2])) y (if j = i then s' else f j b s) := by
  intro j y b s hy hb hs
  by_cases c : j = i
  · rw [if_pos c]
    rw [c, hi] at hy
    cases hy
    exact ⟨a, rfl, upd_same⟩
  · rw [if_neg c]
    obtain ⟨a', rfl, h'⟩ := h j y b s hy hb hs
    refine ⟨a', rfl, ?_⟩
    rw [upd_ne]
    · exact h'
    · intro e
      rw [e] at hy
      exact c ((List.getElem?_inj (List.getElem?_eq_some_iff.mp hy).1 nd).mp (by rw [hy, hi]))
def spSend : Sp := fun vs H Q _ => ∃ lb ls xb ys bs ss t up, vs = [.ref lb, .ref ls, .int t, .bl up] ∧ H lb = some (.lst xb) ∧ Brs H xb bs ∧ H ls = some (.lst ys) ∧ Lss H ys ss ∧ ys.Nodup ∧ ss.length = bs.length ∧ Paired okB bs ss ∧ (∀ b ∈ bs, OkT b) ∧ bs.length ≤ 100 ∧
  ∀ T H', H' T = some (.tup [.bl (decide (kOf bs ss t = bs.length) && up), .int (kOf bs ss t : Int)]) → Lss H' ys (sntS bs ss t up) → H T = none → (∀ b o, V.ref b ∉ ys → H b = some o → H' b = some o) → Q (.ref T) H'
theorem okB_hf {b : Tri} {s : StD} (okb : OkT b) (ok : okB b s) : (∃ n, hfS s = (("half", n) : StD) ∧ 0 ≤ n ∧ n < b.2.2) ∨ ∃ c, hfS s = (("closed", c) : StD) ∧ 0 ≤ c ∧ c < b.1 := by
  rcases ok with ⟨h1, h2, h3⟩ | h1 | ⟨h1, h2, h3⟩
  · refine .inr ⟨s.2, ?_, h2, h3⟩
    have e : hfS s = s := if_neg (by rw [h1]; exact sC_O)
    rw [e, ← h1]
  · refine .inl ⟨0, if_pos h1, Int.le_refl _, ?_⟩
    have := okb.2.2.2.2.1
    omega
  · refine .inl ⟨s.2, ?_, h2, h3⟩
    have e : hfS s = s := if_neg (by rw [h1]; exact sH_O)
    rw [e, ← h1]
section
variable {P : Program} {w : World} {K : PySem.W.Frag} {mg : Str → Option Value} {base : Heap} {L : LA}
abbrev N_wnote : List Str := ["_law_spec", "_law_state", "_law_time", "_law_good"]
theorem sc_wnote : FnScope N_wnote ["_law_spec", "_law_state", "_law_time", "_law_good"] (defScope st__law_note) := ⟨rfl, rfl, rfl, by decide +kernel, rfl, by decide +kernel, by decide +kernel⟩
theorem fn_wnote (T : LX K mg L) {fd : FuncData} (F : Fun K "_law_note" "_law_note" st__law_note L.f__law_note fd) : FnOk P w K mg base CX0 1 L.f__law_note fd ["_law_spec", "_law_state", "_law_time", "_law_good"] (spNote) := by
  have nd := sc_wnote.nd
  refine F.ok sc_wnote (fun vs H Q E h => ?_) (fun cdv A outer S H vs Q E hr h => ?_)
  · obtain ⟨x, a, b, s, t, g, rfl, _⟩ := h
    rfl
  · obtain ⟨x, a, b, s, t, g, rfl, ⟨ab, rfl, hb⟩, ha, okb, ok, k⟩ := h
    refine ⟨_, (pss_one (ps_if (PW.pt (pw_and (pt_cmpR op_eq (pe_ix (r := rIxL K) ix_list (pv 1) pe_int (fun _ _ => rfl)) pe_str (nomark _)) (pw_and1 (pt_not (pt_val (pv 3)))))) (pss_cons (ps_asg pe_str (pg_sub (pv 1) pe_int set_list))
       (pss_one (ps_asg (pv 2) (pg_sub (pv 1) pe_int set_list)))) (pss_one (ps_if (pt_cmpR op_eq (pe_ix (r := rIxL K) ix_list (pv 1) pe_int (fun _ _ => rfl)) pe_str (nomark _)) (pss_cons (ps_asg (pe_op op_add (pe_ix (r := rIxL K) ix_list (pv 1) pe_int (fun _ _ => rfl)) pe_int) (pg_sub (pv 1) pe_int set_list))
       (pss_one (ps_if (pt_cmpR op_eq (pe_ix (r := rIxL K) ix_list (pv 1) pe_int (fun _ _ => rfl)) (pe_ix (r := rIxT K) ix_tup (pv 0) pe_int (fun _ _ => rfl)) (nomark _)) (pss_cons (ps_asg pe_str (pg_sub (pv 1) pe_int set_list))
       (pss_one (ps_asg pe_int (pg_sub (pv 1) pe_int set_list)))) pss_nil))) (pss_one (ps_if (pt_val (pv 3)) (pss_one (ps_asg pe_int (pg_sub (pv 1) pe_int set_list))) (pss_cons (ps_asg (pe_op op_add (pe_ix (r := rIxL K) ix_list (pv 1) pe_int (fun _ _ => rfl)) pe_int) (pg_sub (pv 1) pe_int set_list))
       (pss_one (ps_if (pt_cmpR op_eq (pe_ix (r := rIxL K) ix_list (pv 1) pe_int (fun _ _ => rfl)) (pe_ix (r := rIxT K) ix_tup (pv 0) pe_int (fun _ _ => rfl)) (nomark _)) (pss_cons (ps_asg pe_str (pg_sub (pv 1) pe_int set_list))
       (pss_one (ps_asg (pv 2) (pg_sub (pv 1) pe_int set_list)))) pss_nil))))))))), ?_⟩
    rcases okB_hf okb ok with ⟨n, eh, n0, n1⟩ | ⟨c, eh, c0, c1⟩
    · rw [eh] at ha
      have ha : H a = some (.lst [.str "half", .int n]) := ha
      refine ⟨_, rfl, a, _, 0, .str "half", rfl, rfl, SqL.of ha, rfl, rfl, _, rfl, ite2 (fun _ => ?_) (fun z => absurd (decide_eq_true rfl) z)⟩
      cases g with
      | false =>
        have e : stpS b s t false = (("open", t) : StD) := by
          show badS b s t = _
          unfold badS
          rw [eh, if_neg (fun q => sH_C q.1)]
        rw [e] at k
        refine ⟨_, rfl, _, rfl, iteT ⟨_, rfl, a, _, 0, 0, rfl, rfl, ha, rfl, _, rfl, _, rfl, a, _, 1, 1, rfl, rfl, upd_same, rfl, ?_⟩⟩
        rw [upd_upd]
        exact k
      | true =>
        refine ⟨_, rfl, _, rfl, iteF ?_⟩
        refine ⟨_, rfl, a, _, 0, .str "half", rfl, rfl, SqL.of ha, rfl, rfl, _, rfl, ite2 (fun _ => ?_) (fun z => absurd (decide_eq_true rfl) z)⟩
        refine ⟨_, rfl, a, _, 1, .int n, rfl, rfl, SqL.of ha, rfl, _, _, rfl, rfl, _, rfl, a, _, 1, 1, rfl, rfl, ha, rfl, ?_⟩
        refine ⟨_, rfl, a, _, 1, .int (n + 1), rfl, rfl, SqL.of upd_same, rfl, _, rfl, ab, _, 2, .int b.2.2, rfl, rfl, SqT.of ((upd_ne (fun z => by rw [z, ha] at hb; cases hb)).trans hb), rfl, rfl, _, rfl, ite2 (fun z => ?_) (fun z => ?_)⟩
        · have z := of_decide_eq_true z
          injection z with z
          have e : stpS b s t true = (("closed", 0) : StD) := by
            show okS b s = _
            unfold okS
            rw [eh, if_neg (fun q => by have q2 : n + 1 < b.2.2 := q.2; omega)]
          rw [e] at k
          refine ⟨_, rfl, a, _, 0, 0, rfl, rfl, upd_same, rfl, _, rfl, a, _, 1, 1, rfl, rfl, upd_same, rfl, ?_⟩
          rw [upd_upd, upd_upd]
          exact k
        · have z' : ¬ n + 1 = b.2.2 := fun e => z (decide_eq_true (by rw [e]))
          have e : stpS b s t true = (("half", n + 1) : StD) := by
            show okS b s = _
            unfold okS
            rw [eh, if_pos ⟨rfl, by show n + 1 < b.2.2; omega⟩]
          rw [e] at k
          exact k
    · rw [eh] at ha
      have ha : H a = some (.lst [.str "closed", .int c]) := ha
      refine ⟨_, rfl, a, _, 0, .str "closed", rfl, rfl, SqL.of ha, rfl, rfl, _, rfl, ite2 (fun z => absurd (of_decide_eq_true z) cH) (fun _ => iteF ?_)⟩
      refine ⟨_, rfl, a, _, 0, .str "closed", rfl, rfl, SqL.of ha, rfl, rfl, _, rfl, ite2 (fun z => absurd (of_decide_eq_true z) cH) (fun _ => ?_)⟩
      cases g with
      | true =>
        have e : stpS b s t true = (("closed", 0) : StD) := by
          show okS b s = _
          unfold okS
          rw [eh, if_neg (fun q => sC_H q.1)]
        rw [e] at k
        exact ⟨_, rfl, _, rfl, iteT ⟨_, rfl, a, _, 1, 1, rfl, rfl, ha, rfl, k⟩⟩
      | false =>
        refine ⟨_, rfl, _, rfl, iteF ?_⟩
        refine ⟨_, rfl, a, _, 1, .int c, rfl, rfl, SqL.of ha, rfl, _, _, rfl, rfl, _, rfl, a, _, 1, 1, rfl, rfl, ha, rfl, ?_⟩
        refine ⟨_, rfl, a, _, 1, .int (c + 1), rfl, rfl, SqL.of upd_same, rfl, _, rfl, ab, _, 0, .int b.1, rfl, rfl, SqT.of ((upd_ne (fun z => by rw [z, ha] at hb; cases hb)).trans hb), rfl, rfl, _, rfl, ite2 (fun z => ?_) (fun z => ?_)⟩
        · have z := of_decide_eq_true z
          injection z with z
          have e : stpS b s t false = (("open", t) : StD) := by
            show badS b s t = _
            unfold badS
            rw [eh, if_neg (fun q => by have q2 : c + 1 < b.1 := q.2; omega)]
          rw [e] at k
          refine ⟨_, rfl, a, _, 0, 0, rfl, rfl, upd_same, rfl, _, rfl, _, rfl, a, _, 1, 1, rfl, rfl, upd_same, rfl, ?_⟩
          rw [upd_upd, upd_upd]
          exact k
        · have z' : ¬ c + 1 = b.1 := fun e => z (decide_eq_true (by rw [e]))
          have e : stpS b s t false = (("closed", c + 1) : StD) := by
            show badS b s t = _
            unfold badS
            rw [eh, if_pos ⟨rfl, by show c + 1 < b.1; omega⟩]
          rw [e] at k
          exact k
theorem ok_wnote (T : LX K mg L) : Cal P w K mg base "_law_note" 1 L.f__law_note ["_law_spec", "_law_state", "_law_time", "_law_good"] (spNote) := T.d__law_note.cal fun fd F => fn_wnote T F
abbrev N_wsend : List Str := ["_law_specs_here", "_law_states", "_law_time", "_law_upright", "_law_gone", "_law_spec", "_law_state", "_law_good", "_law_k"]
theorem sc_wsend : FnScope N_wsend ["_law_specs_here", "_law_states", "_law_time", "_law_upright"] (defScope st__law_send) := ⟨rfl, rfl, rfl, by decide +kernel, rfl, by decide +kernel, by decide +kernel⟩
theorem fn_wsend (T : LX K mg L) {fd : FuncData} (F : Fun K "_law_send" "_law_send" st__law_send L.f__law_send fd) : FnOk P w K mg base CX0 2 L.f__law_send fd ["_law_specs_here", "_law_states", "_law_time", "_law_upright"] (spSend) := by
  have G_wnote := ok_wnote (P := P) (w := w) (base := base) T
  have nd := sc_wsend.nd
  refine F.ok sc_wsend (fun vs H Q E h => ?_) (fun cdv A outer S H vs Q E hr h => ?_)
  · obtain ⟨lb, ls, xb, ys, bs, ss, t, up, rfl, _⟩ := h
    rfl
  · obtain ⟨lb, ls, xb, ys, bs, ss, t, up, rfl, hlb, hbs, hls, hy, nd0, sl, okb, okt, bl, k⟩ := h
    refine ⟨_, (pss_cons (ps_set (i := 4) nd rfl (Or.inl rfl) pe_int)
       (C8.pss_cut (ps_for PassesOwn.never rfl (pi_zip (by rfl) T.b_zip (pa_cons (pv 0) (pa_cons (pv 1) pa_nil))) (pg_tup rfl (pgs_cons (pg_name (i := 5) nd rfl (Or.inl rfl)) (pgs_cons (pg_name (i := 6) nd rfl (Or.inl rfl)) pgs_nil))) (pss_cons (ps_if (PW.pt (pw_and (pt_cmpR op_eq (pe_ix (r := rIxL K) ix_list (pv 6) pe_int (fun _ _ => rfl)) pe_str (nomark _)) (pw_and1 (pt_cmpR op_ge (pe_op op_sub (pv 2) (pe_ix (r := rIxL K) ix_list (pv 6) pe_int (fun _ _ => rfl))) (pe_ix (r := rIxT K) ix_tup (pv 5) pe_int (fun _ _ => rfl)) (nomark _))))) (pss_cons (ps_asg pe_str (pg_sub (pv 6) pe_int set_list))
       (pss_one (ps_asg pe_int (pg_sub (pv 6) pe_int set_list)))) pss_nil)
       (pss_cons (ps_if (pt_cmpR op_eq (pe_ix (r := rIxL K) ix_list (pv 6) pe_int (fun _ _ => rfl)) pe_str (nomark _)) (pss_one (ps_break)) pss_nil)
       (pss_one (ps_set (i := 4) nd rfl (Or.inl rfl) (pe_op op_add (pv 4) pe_int))))))
       (pss_cons (ps_set (i := 7) nd rfl (Or.inl rfl) (pe_and (pv 3) (pe_one (pe_cmpR op_eq (pv 4) (pe_callB call_len_seq (by rfl) T.b_len PySem.boot_len (pa_cons (pv 0) pa_nil)) (nomark _)))))
       (pss_cons (ps_for PassesOwn.never rfl (pi_range1 rfl T.b_range (pa_cons (pv 4) pa_nil)) (pg_name (i := 8) nd rfl (Or.inl rfl)) (pss_one (ps_expr (pe_c G_wnote (hr.mono (by decide)) rfl (pa_cons (pe_ix (r := rIxL K) ix_list (pv 0) (pv 8) (fun _ _ => rfl)) (pa_cons (pe_ix (r := rIxL K) ix_list (pv 1) (pv 8) (fun _ _ => rfl)) (pa_cons (pv 2) (pa_cons (pv 7) pa_nil))))))))
       (pss_one (ps_ret (pe_tup (pa_cons (pv 7) (pa_cons (pv 4) pa_nil))))))))), ?_⟩
    have yl := paired_len hy
    have xl := hbs.len
    have kl := kOf_le bs ss t
    have get : ∀ {j : Nat}, j < bs.length → ∃ y b s, ys[j]? = some y ∧ bs[j]? = some b ∧ ss[j]? = some s := fun {j} h => ⟨_, _, _, List.getElem?_eq_getElem (by omega), List.getElem?_eq_getElem h, List.getElem?_eq_getElem (by omega)⟩
    have nls : V.ref ls ∉ ys := fun h => by
      obtain ⟨j, hj⟩ := List.mem_iff_getElem?.mp h
      obtain ⟨s, _, a, e, h2⟩ := paired_get hy hj
      cases e
      rw [hls] at h2
      cases h2
      simp at h
    have nlb : V.ref lb ∉ ys := fun h => by
      obtain ⟨j, hj⟩ := List.mem_iff_getElem?.mp h
      obtain ⟨s, _, a, e, h2⟩ := paired_get hy hj
      cases e
      rw [hlb] at h2
      cases h2
      cases hbs with
      | cons z _ =>
        obtain ⟨_, e, _⟩ := z
        cases e
    have ntu : ∀ {b : Addr} {xs : List V}, H b = some (.tup xs) → V.ref b ∉ ys := fun {b xs} e h => by
      obtain ⟨j, hj⟩ := List.mem_iff_getElem?.mp h
      obtain ⟨s, _, a, e', h2⟩ := paired_get hy hj
      cases e'
      rw [e] at h2
      cases h2
    have hbsK : ∀ {Hx : Hp}, (∀ b o, V.ref b ∉ ys → H b = some o → Hx b = some o) → Brs Hx xb bs := fun {Hx} kx => L2.Paired.mapP hbs fun _ _ ⟨b, e, h⟩ => ⟨b, e, kx _ _ (ntu h) h⟩
    obtain ⟨g, hg⟩ : ∃ g, g = (decide (kOf bs ss t = bs.length) && up) := ⟨_, rfl⟩
    refine ⟨fun σ' H' => ∃ v5 v6 v7 v8 : Option V, σ' = [some (.ref lb), some (.ref ls), some (.int t), some (.bl up), some (.int (kOf bs ss t : Int)), v5, v6, v7, v8] ∧ (∀ j y b s, ys[j]? = some y → bs[j]? = some b → ss[j]? = some s → LsAt H' y (if j < kOf bs ss t then hfS s else s)) ∧ (∀ b o, V.ref b ∉ ys → H b = some o → H' b = some o), ?_, ?_⟩
    · refine ⟨_, rfl, _, rfl, lb, ls, xb, ys, rfl, SqL.of hlb, SqL.of hls, ?_⟩
      refine RZ.for_zipL (K := K) (a := lb) (b := ls) (xs := xb) (ys := ys) (by omega) (fun i σ Hx => ∃ v5 v6 v7 v8 : Option V, σ = [some (.ref lb), some (.ref ls), some (.int t), some (.bl up), some (.int (i : Int)), v5, v6, v7, v8] ∧ (∀ j b s, j < i → bs[j]? = some b → ss[j]? = some s → psB b s t) ∧ i ≤ bs.length ∧ (∀ j y b s, ys[j]? = some y → bs[j]? = some b → ss[j]? = some s → LsAt Hx y (if j < i then hfS s else s)) ∧ (∀ b o, V.ref b ∉ ys → H b = some o → Hx b = some o))
        ⟨_, _, _, _, rfl, fun j b s h => absurd h (Nat.not_lt_zero _), Nat.zero_le _, fun j y b s h1 h2 h3 => by rw [if_neg (Nat.not_lt_zero _)]; exact hy.get h1 h3, fun b o _ e => e⟩ (fun i σ Hx ⟨_, _, _, _, _, _, _, _, kx⟩ => ⟨SqL.of (kx _ _ nlb hlb), SqL.of (kx _ _ nls hls)⟩) ?_ ?_
      · rintro i x y T σ Hx hx hyi ⟨v5, v6, v7, v8, rfl, ps, il, at', kx⟩ hT
        obtain ⟨b, hb, b0, rfl, hb0⟩ := (hbsK kx).get hx
        have ib := (List.getElem?_eq_some_iff.mp hb).1
        obtain ⟨s, hs⟩ : ∃ s, ss[i]? = some s := ⟨_, List.getElem?_eq_getElem (by omega)⟩
        have at0 := at' i y b s hyi hb hs
        rw [if_neg (Nat.lt_irrefl _)] at at0
        obtain ⟨a, rfl, ha⟩ := at0
        have sT := Same.upd (o := .tup [.ref b0, .ref a]) hT
        have ha1 := sT _ _ ha
        have hb1 := sT _ _ hb0
        have at1 : ∀ j y b s, ys[j]? = some y → bs[j]? = some b → ss[j]? = some s → LsAt (upd Hx T (.tup [.ref b0, .ref a])) y (if j < i then hfS s else s) := fun j y b s h1 h2 h3 => by
          obtain ⟨a', e, h⟩ := at' j y b s h1 h2 h3
          exact ⟨a', e, sT _ _ h⟩
        have kx1 : ∀ b o, V.ref b ∉ ys → H b = some o → (upd Hx T (.tup [.ref b0, .ref a])) b = some o := fun b o n e => sT _ _ (kx _ _ n e)
        refine ⟨T, _, rfl, SqT.of upd_same, rfl, _, _, rfl, _, _, rfl, rfl, ?_⟩
        generalize upd Hx T (.tup [.ref b0, .ref a]) = Hy at sT ha1 hb1 at1 kx1 ⊢
        have stop : ¬ psB b s t → i = kOf bs ss t := fun n => kOf_is sl (by omega) (fun j b' s' h1 h2 h3 => ps j b' s' h1 h2 h3) (fun b' s' h2 h3 => by rw [hb] at h2; rw [hs] at h3; cases h2; cases h3; exact n)
        have ps1 : psB b s t → ∀ j b s, j < i + 1 → bs[j]? = some b → ss[j]? = some s → psB b s t := fun p j b' s' h1 h2 h3 => by
          by_cases c : j = i
          · rw [c] at h2 h3
            rw [hb] at h2
            rw [hs] at h3
            cases h2
            cases h3
            exact p
          · exact ps j b' s' (by omega) h2 h3
        have fin : ∀ Hz : Hp, (∀ j y b' s', ys[j]? = some y → bs[j]? = some b' → ss[j]? = some s' → LsAt Hz y (if j = i then hfS s else if j < i then hfS s' else s')) → ∀ j y b' s', ys[j]? = some y → bs[j]? = some b' → ss[j]? = some s' → LsAt Hz y (if j < i + 1 then hfS s' else s') := fun Hz h j y b' s' h1 h2 h3 => by
          have h4 := h j y b' s' h1 h2 h3
          by_cases c : j = i
          · rw [if_pos c] at h4
            rw [c, hs] at h3
            cases h3
            rw [if_pos (by omega)]
            exact h4
          · rw [if_neg c] at h4
            by_cases d : j < i
            · rw [if_pos d] at h4
              rw [if_pos (by omega)]
              exact h4
            · rw [if_neg d] at h4
              rw [if_neg (by omega)]
              exact h4
        have i1 : (i : Int) + 1 = ((i + 1 : Nat) : Int) := by omega
        by_cases so : s.1 = "open"
        · have ot : decide (V.str s.1 = V.str "open") = true := decide_eq_true (by rw [so])
          refine ⟨_, rfl, a, _, 0, .str s.1, rfl, rfl, SqL.of ha1, rfl, rfl, _, rfl, ite2 (fun _ => ?_) (fun z => absurd ot z)⟩
          by_cases pb : b.2.1 ≤ t - s.2
          · refine ⟨_, rfl, _, rfl, a, _, 1, .int s.2, rfl, rfl, SqL.of ha1, rfl, _, _, rfl, rfl, _, rfl, b0, _, 1, .int b.2.1, rfl, rfl, SqT.of hb1, rfl, _, _, rfl, rfl, _, rfl, ite2 (fun _ => ?_) (fun z => absurd (decide_eq_true pb) z)⟩
            refine ⟨_, rfl, a, _, 0, 0, rfl, rfl, ha1, rfl, _, rfl, a, _, 1, 1, rfl, rfl, upd_same, rfl, ?_⟩
            rw [upd_upd]
            refine ⟨_, rfl, a, _, 0, .str "half", rfl, rfl, SqL.of upd_same, rfl, rfl, _, rfl, ite2 (fun z => absurd (of_decide_eq_true z) (fun e => by injection e with e; exact sH_O e)) (fun _ => ⟨_, rfl, _, _, rfl, rfl, ?_⟩)⟩
            show gName 4 (.int ((i : Int) + 1)) _ _ _
            rw [i1]
            refine ⟨_, _, _, _, rfl, ps1 (fun _ => pb), ib, fin _ ?_, fun b' o n e => ?_⟩
            · have e : hfS s = (("half", 0) : StD) := if_pos so
              rw [e]
              exact at_upd (s' := (("half", 0) : StD)) nd0 hyi at1
            · rw [upd_ne (fun z => n (by rw [z]; exact List.mem_of_getElem? hyi))]
              exact kx1 _ _ n e
          · refine ⟨_, rfl, _, rfl, a, _, 1, .int s.2, rfl, rfl, SqL.of ha1, rfl, _, _, rfl, rfl, _, rfl, b0, _, 1, .int b.2.1, rfl, rfl, SqT.of hb1, rfl, _, _, rfl, rfl, _, rfl, ite2 (fun z => absurd (of_decide_eq_true z) pb) (fun _ => ?_)⟩
            refine ⟨_, rfl, a, _, 0, .str s.1, rfl, rfl, SqL.of ha1, rfl, rfl, _, rfl, ite2 (fun _ => ?_) (fun z => absurd ot z)⟩
            have ek := stop fun q => pb (q so)
            rw [← ek]
            exact ⟨_, _, _, _, rfl, at1, kx1⟩
        · have on : ¬ decide (V.str s.1 = V.str "open") = true := fun z => so (by have z := of_decide_eq_true z; injection z)
          refine ⟨_, rfl, a, _, 0, .str s.1, rfl, rfl, SqL.of ha1, rfl, rfl, _, rfl, ite2 (fun z => absurd z on) (fun _ => iteF ?_)⟩
          refine ⟨_, rfl, a, _, 0, .str s.1, rfl, rfl, SqL.of ha1, rfl, rfl, _, rfl, ite2 (fun z => absurd z on) (fun _ => ⟨_, rfl, _, _, rfl, rfl, ?_⟩)⟩
          show gName 4 (.int ((i : Int) + 1)) _ _ _
          rw [i1]
          refine ⟨_, _, _, _, rfl, ps1 (fun q => absurd q so), ib, fin _ fun j y b' s' h1 h2 h3 => ?_, kx1⟩
          have h4 := at1 j y b' s' h1 h2 h3
          by_cases c : j = i
          · rw [if_pos c]
            rw [c, hs] at h3
            cases h3
            rw [if_neg (by omega)] at h4
            rw [show hfS s = s from if_neg so]
            exact h4
          · rw [if_neg c]
            exact h4
      · rintro σ Hx ⟨v5, v6, v7, v8, rfl, ps, il, at', kx⟩
        have e : xb.length = kOf bs ss t := kOf_is sl (by omega) (fun j b s h1 h2 h3 => ps j b s (by omega) h2 h3) fun b s h _ => by
          have := (List.getElem?_eq_some_iff.mp h).1
          omega
        rw [← e]
        exact ⟨_, _, _, _, rfl, at', kx⟩
    rintro σ Hx ⟨v5, v6, v7, v8, rfl, at', kx⟩
    have hbx := hbsK kx
    have kk : ∀ Hz : Hp, Same Hx Hz → True := fun _ _ => trivial
    obtain ⟨kn, hkn⟩ : ∃ kn, kn = kOf bs ss t := ⟨_, rfl⟩
    rw [← hkn] at at' hg kl k ⊢
    have eg : decide (V.int (kn : Int) = V.int ((xb.length : Nat) : Int)) = decide (kn = bs.length) := by
      rw [Bool.eq_iff_iff, decide_eq_true_iff, decide_eq_true_iff, xl]
      constructor
      · intro z
        injection z with z
        omega
      · intro z
        rw [z]
    have good : ∀ Q : VK, Q (.bl g) Hx → tAndV (tVar 3) (tOp rEq (tVar 4) (tCB (fun xs H_1 Q => ∃ p ys, xs = [V.ref p] ∧ (SqL K H_1 p ys ∨ SqT K H_1 p ys) ∧ Q (V.int ((ys.length : Nat) : Int)) H_1) (tCons (tVar 0) tNil))) [some (.ref lb), some (.ref ls), some (.int t), some (.bl up), some (.int (kn : Int)), v5, v6, v7, v8] Hx Q := by
      intro Q q
      refine ⟨_, rfl, up, rfl, ?_⟩
      cases up with
      | true =>
        refine iteT ⟨_, rfl, _, rfl, lb, _, rfl, .inl (SqL.of (kx _ _ nlb hlb)), rfl, ?_⟩
        rw [eg, ← Bool.and_true (decide (kn = bs.length)), ← hg]
        exact q
      | false =>
        rw [Bool.and_false] at hg
        rw [hg] at q
        exact iteF q
    refine good _ ?_
    refine ⟨_, rfl, _, rfl, by omega, by omega, ?_⟩
    rw [Int.toNat_natCast]
    refine for_range (lo := 0) (n := kn) (fun i σ Hy => ∃ v8 : Option V, σ = [some (.ref lb), some (.ref ls), some (.int t), some (.bl up), some (.int (kn : Int)), v5, v6, some (.bl g), v8] ∧ (∀ j y b s, ys[j]? = some y → bs[j]? = some b → ss[j]? = some s → LsAt Hy y (if j < i then stpS b s t g else if j < kn then hfS s else s)) ∧ (∀ b o, V.ref b ∉ ys → H b = some o → Hy b = some o))
      ⟨v8, rfl, fun j y b s h1 h2 h3 => by rw [if_neg (Nat.not_lt_zero _)]; exact at' j y b s h1 h2 h3, kx⟩ ?_ ?_
    · rintro i σ Hy hi ⟨v8, rfl, aty, ky⟩
      rw [Int.zero_add]
      obtain ⟨y, b, s, h1, h2, h3⟩ := get (j := i) (by omega)
      have h4 := aty i y b s h1 h2 h3
      rw [if_neg (Nat.lt_irrefl _), if_pos hi] at h4
      obtain ⟨a, rfl, ha⟩ := h4
      obtain ⟨x, hx, hxb⟩ := paired_get2 (hbsK ky) h2
      have okb' : okB b s := by
        obtain ⟨s', hs', r⟩ := paired_get okb h2
        rw [h3] at hs'
        cases hs'
        exact r
      refine ⟨_, rfl, _, rfl, lb, _, _, x, rfl, rfl, SqL.of (ky _ _ nlb hlb), atI_nat hx, _, rfl, _, rfl, ls, _, _, .ref a, rfl, rfl, SqL.of (ky _ _ nls hls), atI_nat h1, _, rfl, _, rfl, x, a, b, s, t, g, rfl, hxb, ha, okt b (List.mem_of_getElem? h2), okb', ?_⟩
      refine ⟨_, rfl, fun j y' b' s' e1 e2 e3 => ?_, fun b' o n e => ?_⟩
      · have h5 := at_upd (s' := stpS b s t g) nd0 h1 aty j y' b' s' e1 e2 e3
        by_cases c : j = i
        · rw [if_pos c] at h5
          rw [c, h2] at e2
          rw [c, h3] at e3
          cases e2
          cases e3
          rw [if_pos (by omega)]
          exact h5
        · rw [if_neg c] at h5
          by_cases d : j < i
          · rw [if_pos d] at h5
            rw [if_pos (by omega)]
            exact h5
          · rw [if_neg d] at h5
            rw [if_neg (by omega)]
            exact h5
      · rw [upd_ne (fun z => n (by rw [z]; exact List.mem_of_getElem? h1))]
        exact ky _ _ n e
    rintro σ Hy ⟨v8, rfl, aty, ky⟩
    refine ⟨_, rfl, _, rfl, (by show 2 ≤ sizeLine; decide), fun T hT => ?_⟩
    have sT := Same.upd (o := .tup [.bl g, .int (kn : Int)]) hT
    refine k T _ (by rw [upd_same, hg]) ?_ ?_ (fun b o n e => sT _ _ (ky _ _ n e))
    · refine paired_ix (by rw [sntS_len, yl, sl]) fun i y s' h1 h2 => ?_
      have ib := (List.getElem?_eq_some_iff.mp h2).1
      rw [sntS_len] at ib
      obtain ⟨y', b, s, e1, e2, e3⟩ := get (j := i) ib
      rw [sntS_get e2 e3, ← hkn, ← hg] at h2
      obtain ⟨a, e, h⟩ := aty i y b s h1 e2 e3
      refine ⟨a, e, ?_⟩
      have h2 := Option.some.inj h2
      rw [← h2]
      by_cases c : i < kn
      · rw [if_pos c] at h ⊢
        exact sT _ _ h
      · rw [if_neg c, if_neg c] at h
        rw [if_neg c]
        exact sT _ _ h
    · cases q : H T with
      | none => rfl
      | some o =>
        by_cases m : V.ref T ∈ ys
        · obtain ⟨i, hi⟩ := List.mem_iff_getElem?.mp m
          have il := (List.getElem?_eq_some_iff.mp hi).1
          obtain ⟨y', b, s, e1, e2, e3⟩ := get (j := i) (by omega)
          obtain ⟨a, e, h⟩ := aty i _ b s hi e2 e3
          cases e
          have hT : Hy T = none := hT
          rw [hT] at h
          cases h
        · have h := ky _ _ m q
          have hT : Hy T = none := hT
          rw [hT] at h
          cases h
theorem ok_wsend (T : LX K mg L) : Cal P w K mg base "_law_send" 2 L.f__law_send ["_law_specs_here", "_law_states", "_law_time", "_law_upright"] (spSend) := T.d__law_send.cal fun fd F => fn_wsend T F
end
/-! ### k57: what is true of the states of routes -/
theorem okB_stp {b : Tri} {s : StD} {t : Int} {g : Bool} (okb : OkT b) (ok : okB b s) : okB b (stpS b s t g) := by
  have h1 := okb.1
  cases g with
  | true =>
    show okB b (okS b s)
    unfold okS
    rcases okB_hf okb ok with ⟨n, eh, n0, n1⟩ | ⟨c, eh, c0, c1⟩
    · rw [eh]
      by_cases z : n + 1 < b.2.2
      · rw [if_pos ⟨rfl, z⟩]
        exact .inr (.inr ⟨rfl, by show 0 ≤ n + 1; omega, z⟩)
      · rw [if_neg (fun q => z q.2)]
        exact .inl ⟨rfl, Int.le_refl _, by show 0 < b.1; omega⟩
    · rw [eh, if_neg (fun q => sC_H q.1)]
      exact .inl ⟨rfl, Int.le_refl _, by show 0 < b.1; omega⟩
  | false =>
    show okB b (badS b s t)
    unfold badS
    rcases okB_hf okb ok with ⟨n, eh, n0, n1⟩ | ⟨c, eh, c0, c1⟩
    · rw [eh, if_neg (fun q => sH_C q.1)]
      exact .inr (.inl rfl)
    · rw [eh]
      by_cases z : c + 1 < b.1
      · rw [if_pos ⟨rfl, z⟩]
        exact .inl ⟨rfl, by show 0 ≤ c + 1; omega, z⟩
      · rw [if_neg (fun q => z q.2)]
        exact .inr (.inl rfl)
theorem snt_okB {bs : List Tri} {ss : List StD} {t : Int} {up : Bool} (okb : ∀ b ∈ bs, OkT b) (h : Paired okB bs ss) : Paired okB bs (sntS bs ss t up) := by
  have sl := paired_len h
  refine paired_ix sntS_len.symm fun i b s' hb hs' => ?_
  have ib := (List.getElem?_eq_some_iff.mp hb).1
  obtain ⟨s, hs, ok⟩ := paired_get h hb
  rw [sntS_get hb hs] at hs'
  have e := Option.some.inj hs'
  rw [← e]
  by_cases c : i < kOf bs ss t
  · rw [if_pos c]
    exact okB_stp (okb b (List.mem_of_getElem? hb)) ok
  · rw [if_neg c]
    exact ok
theorem stp_open {b : Tri} {s : StD} {t : Int} {g : Bool} (h : (stpS b s t g).1 = "open") : stpS b s t g = (("open", t) : StD) := by
  cases g with
  | true =>
    have h : (okS b s).1 = "open" := h
    unfold okS at h
    split at h
    · exact absurd h sH_O
    · exact absurd h sC_O
  | false =>
    have h : (badS b s t).1 = "open" := h
    show badS b s t = _
    unfold badS at h ⊢
    split at h
    · exact absurd h sC_O
    · rename_i c
      exact if_neg c
section
variable {fr : List Tri} {svs : List Svc} {pat : List Nat} {st : Int}
theorem rt_okB (okC : ∀ t ∈ fr, OkT t) (okS' : ∀ sv ∈ svs, ∀ t ∈ sv.1, OkT t) (p0 : 1 ≤ pat.length) (pb : ∀ k ∈ pat, k < svs.length) : ∀ n : Nat, Paired okB fr (rtS fr svs pat st n).1 ∧ ∀ (w : Nat) (o : List StD), (rtS fr svs pat st n).2[w]? = some o → Paired okB (svOf svs w).1 o
  | 0 => by
    have z : ∀ bs : List Tri, (∀ t ∈ bs, OkT t) → Paired okB bs (List.replicate bs.length (("closed", 0) : StD)) := fun bs h => paired_ix (by rw [List.length_replicate]) fun i b s hb hs => by
      rw [List.getElem?_replicate] at hs
      split at hs
      · cases hs
        have := (h b (List.mem_of_getElem? hb)).1
        exact .inl ⟨rfl, Int.le_refl _, by show 0 < b.1; omega⟩
      · cases hs
    refine ⟨z fr okC, fun w o h => ?_⟩
    have h : (svs.map fun sv => List.replicate sv.1.length (("closed", 0) : StD))[w]? = some o := h
    rw [List.getElem?_map] at h
    obtain ⟨sv, hsv, rfl⟩ := Option.map_eq_some_iff.mp h
    have wl := (List.getElem?_eq_some_iff.mp hsv).1
    rw [svOf_get wl] at hsv
    cases hsv
    exact z _ (okS' _ (List.mem_of_getElem? (svOf_get wl)))
  | n + 1 => by
    obtain ⟨h1, h2⟩ := rt_okB okC okS' p0 pb n
    obtain ⟨_, _, q3, _⟩ := rtS_ok (fr := fr) (st := st) p0 pb n
    obtain ⟨_, wl⟩ := rtW_lt p0 pb n
    obtain ⟨o, ho⟩ : ∃ o, (rtS fr svs pat st n).2[rtW pat n]? = some o := ⟨_, List.getElem?_eq_getElem (by omega)⟩
    have eo : (rtS fr svs pat st n).2.getD (rtW pat n) [] = o := by rw [List.getD_eq_getElem?_getD, ho]; rfl
    have hN : Paired okB (rtRow fr svs pat n) (rtNew fr svs pat st (rtS fr svs pat st n) n) := by
      refine snt_okB (fun b hb => ?_) ?_
      · rcases List.mem_append.mp hb with hb | hb
        · exact okC b hb
        · exact okS' _ (List.mem_of_getElem? (svOf_get wl)) b hb
      · show Paired okB (fr ++ _) ((rtS fr svs pat st n).1 ++ (rtS fr svs pat st n).2.getD (rtW pat n) [])
        rw [eo]
        exact paired_app h1 (h2 _ o ho)
    refine ⟨?_, fun w o' h => ?_⟩
    · have := paired_take fr.length hN
      rw [show (rtRow fr svs pat n).take fr.length = fr from List.take_left' rfl] at this
      exact this
    · have h : ((rtS fr svs pat st n).2.set (rtW pat n) ((rtNew fr svs pat st (rtS fr svs pat st n) n).drop fr.length))[w]? = some o' := h
      by_cases c : w = rtW pat n
      · rw [c, List.getElem?_set_self (by omega)] at h
        have h := Option.some.inj h
        rw [← h, c]
        have := paired_drop fr.length hN
        rw [show (rtRow fr svs pat n).drop fr.length = (svOf svs (rtW pat n)).1 from List.drop_left' rfl] at this
        exact this
      · rw [List.getElem?_set_ne (fun e => c e.symm)] at h
        exact h2 w o' h
/-- a common breaker's state behind a request -/
theorem rt_next (p0 : 1 ≤ pat.length) (pb : ∀ k ∈ pat, k < svs.length) (n : Nat) {k : Nat} {s s' : StD} (hs : (rtS fr svs pat st n).1[k]? = some s) (hs' : (rtS fr svs pat st (n + 1)).1[k]? = some s') : s' = s ∨ (s'.1 = "open" → s' = (("open", (n : Int) * st) : StD)) := by
  obtain ⟨l1, _, _, _⟩ := rtS_ok (fr := fr) (svs := svs) (st := st) p0 pb n
  have kl := (List.getElem?_eq_some_iff.mp hs).1
  have hs' : ((rtNew fr svs pat st (rtS fr svs pat st n) n).take fr.length)[k]? = some s' := hs'
  rw [List.getElem?_take, if_pos (by omega)] at hs'
  have hb : (rtRow fr svs pat n)[k]? = some fr[k] := by
    show (fr ++ _)[k]? = _
    rw [List.getElem?_append_left (by omega), List.getElem?_eq_getElem (by omega)]
  have hs2 : (rtSt pat (rtS fr svs pat st n) n)[k]? = some s := by
    show ((rtS fr svs pat st n).1 ++ _)[k]? = _
    rw [List.getElem?_append_left kl, hs]
  unfold rtNew at hs'
  rw [sntS_get hb hs2] at hs'
  have e := Option.some.inj hs'
  split at e
  · right
    intro h
    rw [← e] at h ⊢
    exact stp_open h
  · exact .inl e.symm
theorem rt_times (p0 : 1 ≤ pat.length) (pb : ∀ k ∈ pat, k < svs.length) (st1 : 1 ≤ st) : ∀ n : Nat, ∀ (k : Nat) (s : StD), (rtS fr svs pat st n).1[k]? = some s → s.1 = "open" → s.2 < (n : Int) * st
  | 0, k, s, h, o => by
    have h : (List.replicate fr.length (("closed", 0) : StD))[k]? = some s := h
    rw [List.getElem?_replicate] at h
    split at h
    · cases h
      exact absurd o sC_O
    · cases h
  | n + 1, k, s', h, o => by
    obtain ⟨l1, _, _, _⟩ := rtS_ok (fr := fr) (svs := svs) (st := st) p0 pb n
    obtain ⟨l2, _, _, _⟩ := rtS_ok (fr := fr) (svs := svs) (st := st) p0 pb (n + 1)
    have kl := (List.getElem?_eq_some_iff.mp h).1
    obtain ⟨s, hs⟩ : ∃ s, (rtS fr svs pat st n).1[k]? = some s := ⟨_, List.getElem?_eq_getElem (by omega)⟩
    have e1 : ((n + 1 : Nat) : Int) * st = (n : Int) * st + st := by rw [show ((n + 1 : Nat) : Int) = (n : Int) + 1 by omega, Int.add_mul, Int.one_mul]
    rcases rt_next p0 pb n hs h with e | e
    · rw [e] at o ⊢
      have := rt_times p0 pb st1 n k s hs o
      omega
    · rw [e o]
      show (n : Int) * st < _
      omega
/-- opened at a request: open behind it, and not as before it -/
theorem rt_opened (p0 : 1 ≤ pat.length) (pb : ∀ k ∈ pat, k < svs.length) (st1 : 1 ≤ st) (n : Nat) {k : Nat} {s s' : StD} (hs : (rtS fr svs pat st n).1[k]? = some s) (hs' : (rtS fr svs pat st (n + 1)).1[k]? = some s') : (s'.1 = "open" ∧ ¬ s' = s) ↔ s' = (("open", (n : Int) * st) : StD) := by
  constructor
  · rintro ⟨h1, h2⟩
    rcases rt_next p0 pb n hs hs' with e | e
    · exact absurd e h2
    · exact e h1
  · intro e
    refine ⟨by rw [e], fun z => ?_⟩
    rw [← z, e] at hs
    have := rt_times p0 pb st1 n k _ hs rfl
    have this : (n : Int) * st < (n : Int) * st := this
    omega
theorem rtG_succ (n w : Nat) : rtG fr svs pat st (n + 1) w = rtG fr svs pat st n w ++ if rtW pat n = w then [rtGood fr svs pat st n] else [] := by
  unfold rtG
  rw [List.range_succ, List.filter_append, List.map_append]
  congr 1
  by_cases c : rtW pat n = w
  · rw [if_pos c, List.filter_cons, if_pos (decide_eq_true c)]
    rfl
  · rw [if_neg c, List.filter_cons, if_neg (fun z => c (of_decide_eq_true z))]
    rfl
end
/-- a list of new lists of two items each -/
def mk2P (H : Hp) (D : Addr) (x y : V) (j : Nat) (Hx : Hp) : Prop := ∃ ys, Hx D = some (.lst ys) ∧ ys.length = j ∧ (∀ v ∈ ys, ∃ b, v = .ref b ∧ Hx b = some (.lst [x, y]) ∧ H b = none) ∧ ys.Nodup ∧ V.ref D ∉ ys ∧ Same H Hx
theorem mk2P.zero {H : Hp} {D : Addr} {x y : V} (hD : H D = none) : mk2P H D x y 0 (upd H D (.lst [])) := ⟨[], upd_same, rfl, fun v h => (nomatch h), List.Pairwise.nil, fun h => (nomatch h), Same.upd hD⟩
theorem mk2P.step {H Hx : Hp} {D : Addr} {x y : V} {j : Nat} (hp : mk2P H D x y j Hx) (hD : H D = none) (hj : j ≤ 10000) {b : Addr} (hb : Hx b = none) : ∃ acc, (upd Hx b (.lst [x, y])) D = some (.lst acc) ∧ acc.length < sizeLine ∧ mk2P H D x y (j + 1) (upd (upd Hx b (.lst [x, y])) D (.lst (acc ++ [.ref b]))) := by
  obtain ⟨ys, hDx, yl, hy, nd, nD, sx⟩ := hp
  have s1 := Same.upd (o := .lst [x, y]) hb
  have nbD : b ≠ D := (ne_of_none hDx hb).symm
  have nb : V.ref b ∉ ys := fun h => by
    obtain ⟨c, e, h1, _⟩ := hy _ h
    cases e
    rw [hb] at h1
    cases h1
  refine ⟨ys, s1 _ _ hDx, small1 (by omega), ys ++ [.ref b], upd_same, by rw [List.length_append, yl]; rfl, fun v hv => ?_, List.nodup_append.mpr ⟨nd, List.pairwise_singleton _ _, fun u hu z hz => by rw [List.mem_singleton.mp hz]; exact fun e => nb (e ▸ hu)⟩, fun h => ?_, fun c o e => ?_⟩
  · rcases List.mem_append.mp hv with hv | hv
    · obtain ⟨c, e, h1, h2⟩ := hy v hv
      refine ⟨c, e, ?_, h2⟩
      rw [upd_ne (fun z => nD (by rw [← z, ← e]; exact hv))]
      exact s1 _ _ h1
    · refine ⟨b, List.mem_singleton.mp hv, ?_, none_of sx hb⟩
      rw [upd_ne nbD]
      exact upd_same
  · rcases List.mem_append.mp h with h | h
    · exact nD h
    · have e := List.mem_singleton.mp h
      injection e with e
      exact nbD e.symm
  · rw [upd_ne (ne_of_none e hD)]
    exact s1 _ _ (sx _ _ e)
theorem mk2P.same {H Hx : Hp} {D : Addr} {x y : V} {j : Nat} (hp : mk2P H D x y j Hx) : Same H Hx := by
  obtain ⟨_, _, _, _, _, _, s⟩ := hp
  exact s
/-! ### k57: all requests sent by the law -/
def CnAt (H : Hp) (v : V) (a b : Nat) : Prop := ∃ c, v = .ref c ∧ H c = some (.lst [.int (a : Int), .int (b : Int)])
def LiAt (H : Hp) (v : V) (zs : List V) : Prop := ∃ a, v = .ref a ∧ H a = some (.lst zs)
theorem lsD_eq (s u : StD) : PyData.eqv (.list [.str s.1, .int s.2]) (.list [.str u.1, .int u.2]) = decide (s = u) := by
  obtain ⟨a, b⟩ := s
  obtain ⟨a', b'⟩ := u
  simp only [PyData.eqv, PyData.eqvAll, Bool.and_true]
  rw [Bool.eq_iff_iff]
  simp [Prod.ext_iff]
theorem lsD_sh {s : StD} (h : SeqAt.shaped (stD s) = true) : SeqAt.shaped (.list [.str s.1, .int s.2]) = true := by
  simp only [SeqAt.shaped, stD, PyData.canLay0, PyData.depth, Bool.and_eq_true] at h ⊢
  exact h
def spRun : Sp := fun vs H Q _ => ∃ lf lbk lt, ∃ n : Nat, ∃ xf xb fr svs pat st, vs = [.ref lf, .ref lbk, .ref lt, .int st, .int (n : Int)] ∧ H lf = some (.lst xf) ∧ Brs H xf fr ∧ H lbk = some (.lst xb) ∧ Paired (SlAt H) xb svs ∧ H lt = some (.lst (pat.map pnV)) ∧ RtOk fr svs pat st ∧ n ≤ 200 ∧
  ∀ T l1 xs1 l2 xs2 H', H' T = some (.tup [.ref l1, .ref l2]) → H' l1 = some (.lst xs1) → xs1.length = svs.length → (∀ (w : Nat) (x : V), xs1[w]? = some x → CtAt H' x ((rtG fr svs pat st n w).count true) ((rtG fr svs pat st n w).count false)) → H' l2 = some (.lst xs2) → Paired (PrAt H') xs2 (opsL fr svs pat st n) → Same H H' → H T = none → Q (.ref T) H'
section
variable {P : Program} {w : World} {K : PySem.W.Frag} {mg : Str → Option Value} {base : Heap} {L : LA}
abbrev N_wrun : List Str := ["_law_front", "_law_backs", "_law_turns", "_law_pace", "_law_often", "_law_held", "_law_specs_here", "_law_outages", "_law_own", "_law_numbers", "_law_opened", "_law_number", "_law_which", "_law_state", "_law_before", "_law_upright", "_law_good", "_law_gone", "_law_k", "_law_spec", "_law_service", "_law_pair", "_law_begin", "_law_end"]
theorem sc_wrun : FnScope N_wrun ["_law_front", "_law_backs", "_law_turns", "_law_pace", "_law_often"] (defScope st__law_run) := ⟨rfl, rfl, rfl, by decide +kernel, rfl, by decide +kernel, by decide +kernel⟩
theorem fn_wrun (T : LX K mg L) {fd : FuncData} (F : Fun K "_law_run" "_law_run" st__law_run L.f__law_run fd) : FnOk P w K mg base CX0 3 L.f__law_run fd ["_law_front", "_law_backs", "_law_turns", "_law_pace", "_law_often"] (spRun) := by
  have G_wsend := ok_wsend (P := P) (w := w) (base := base) T
  have nd := sc_wrun.nd
  refine F.ok sc_wrun (fun vs H Q E h => ?_) (fun cdv A outer S H vs Q E hr h => ?_)
  · obtain ⟨lf, lbk, lt, n, xf, xb, fr, svs, pat, st, rfl, _⟩ := h
    rfl
  · obtain ⟨lf, lbk, lt, n, xf, xb, fr, svs, pat, st, rfl, hlf, hbf, hlb, hsl, hlt, RO, n200, k⟩ := h
    refine ⟨_, (pss_cons (ps_setLc (i := 5) (own := [("_law_spec", 19)]) (g := gName 19) (tt := tYes) rfl nd rfl rfl (sw_true rfl rfl rfl (by decide +kernel)) (pi_list (pv 0)) (blkOk_by (own := [("_law_spec", 19)]) (N := N_wrun) (sc := defScope st__law_run) (by decide +kernel)) (fun _ _ _ _ _ => pg_name (i := 19) nd rfl (Or.inl rfl)) (fun _ _ _ _ _ => pts_nil) (fun _ _ _ _ _ => (pe_lst (pa_cons pe_str (pa_cons pe_int pa_nil)))))
       (pss_cons (ps_setLc (i := 8) (own := [("_law_specs_here", 6), ("_law_outages", 7)]) (g := gTup K 2 (gCons (gName 6) (gCons (gName 7) (gNil)))) (tt := tYes) rfl nd rfl rfl (sw_true rfl rfl rfl (by decide +kernel)) (pi_list (pv 1)) (blkOk_by (own := [("_law_specs_here", 6), ("_law_outages", 7)]) (N := N_wrun) (sc := defScope st__law_run) (by decide +kernel)) (fun _ _ _ _ _ => pg_tup rfl (pgs_cons (pg_name (i := 6) nd rfl (Or.inl rfl)) (pgs_cons (pg_name (i := 7) nd rfl (Or.inl rfl)) pgs_nil))) (fun _ _ _ _ _ => pts_nil) (fun _ _ _ _ _ => (pe_lc (wi := iList K _) (own := [("_law_spec", 19)]) (g := gName 19) (tt := tYes) rfl nd (pi_list (pv 6)) (blkOk_by (own := [("_law_spec", 19)]) (N := N_wrun) (sc := { kind := .function, names := [(".0", .local), ("_law_specs_here", .local), ("_law_outages", .local)], isGenerator := false, isCoroutine := false }) (by decide +kernel)) (fun _ _ _ _ _ => pg_name (i := 19) nd rfl (Or.inl rfl)) (fun _ _ _ _ _ => pts_nil) (fun _ _ _ _ _ => pe_lst (pa_cons pe_str (pa_cons pe_int pa_nil))))))
       (pss_cons (ps_setLc (i := 9) (own := [("_law_service", 20)]) (g := gName 20) (tt := tYes) rfl nd rfl rfl (sw_true rfl rfl rfl (by decide +kernel)) (pi_list (pv 1)) (blkOk_by (own := [("_law_service", 20)]) (N := N_wrun) (sc := defScope st__law_run) (by decide +kernel)) (fun _ _ _ _ _ => pg_name (i := 20) nd rfl (Or.inl rfl)) (fun _ _ _ _ _ => pts_nil) (fun _ _ _ _ _ => (pe_lst (pa_cons pe_int (pa_cons pe_int pa_nil)))))
       (pss_cons (ps_set (i := 10) nd rfl (Or.inl rfl) (pe_lst pa_nil))
       (pss_cons (ps_for PassesOwn.never rfl (pi_range1 rfl T.b_range (pa_cons (pv 4) pa_nil)) (pg_name (i := 11) nd rfl (Or.inr rfl)) (pss_cons (ps_set (i := 12) nd rfl (Or.inl rfl) (pe_ix (r := rIxL K) ix_list (pv 2) (pe_op op_mod (pe_callTy call_int1 (by rfl) T.b_int (by decide +kernel) (pa_cons (pv 11) pa_nil)) (pe_callB call_len_seq (by rfl) T.b_len PySem.boot_len (pa_cons (pv 2) pa_nil))) (fun _ _ => rfl)))
       (pss_cons (ps_asg (pe_ix (r := rIxL K) ix_list (pv 1) (pv 12) (fun _ _ => rfl)) (pg_tup rfl (pgs_cons (pg_name (i := 6) nd rfl (Or.inl rfl)) (pgs_cons (pg_name (i := 7) nd rfl (Or.inl rfl)) pgs_nil))))
       (pss_cons (ps_setLc (i := 14) (own := [("_law_state", 13)]) (g := gName 13) (tt := tYes) rfl nd rfl rfl (sw_true rfl rfl rfl (by decide +kernel)) (pi_list (pv 5)) (blkOk_by (own := [("_law_state", 13)]) (N := N_wrun) (sc := defScope st__law_run) (by decide +kernel)) (fun _ _ _ _ _ => pg_name (i := 13) nd rfl (Or.inl rfl)) (fun _ _ _ _ _ => pts_nil) (fun _ _ _ _ _ => (pe_callTy (call_listK (K := K) rfl) (by rfl) T.b_list (by decide +kernel) (pa_cons (pv 13) pa_nil))))
       (pss_cons (ps_set (i := 15) nd rfl (Or.inl rfl) (pe_cmpR (op_eqD hr.units) (pe_lc (own := [("_law_begin", 22), ("_law_end", 23)]) (g := gTup K 2 (gCons (gName 22) (gCons (gName 23) (gNil)))) rfl nd (pi_list (pv 7)) (blkOk_by (own := [("_law_begin", 22), ("_law_end", 23)]) (N := N_wrun) (sc := defScope st__law_run) (by decide +kernel)) (fun _ _ _ _ _ => pg_tup rfl (pgs_cons (pg_name (i := 22) nd rfl (Or.inl rfl)) (pgs_cons (pg_name (i := 23) nd rfl (Or.inl rfl)) pgs_nil))) (fun _ _ _ _ _ => pts_one (pt_chain op_le op_lt (pv 22) (pe_op op_mulW (pv 11) (pv 3)) (pv 23))) (fun _ _ _ _ _ => pe_int)) (pe_lst pa_nil) (nomark _)))
       (pss_cons (ps_asg (pe_c G_wsend (hr.mono (by decide)) rfl (pa_cons (pe_op op_cat (pv 0) (pv 6)) (pa_cons (pe_op op_cat (pv 5) (pe_ix (r := rIxL K) ix_list (pv 8) (pv 12) (fun _ _ => rfl))) (pa_cons (pe_op op_mulW (pv 11) (pv 3)) (pa_cons (pv 15) pa_nil))))) (pg_tup rfl (pgs_cons (pg_name (i := 16) nd rfl (Or.inl rfl)) (pgs_cons (pg_name (i := 17) nd rfl (Or.inl rfl)) pgs_nil))))
       (pss_cons (ps_asg (pe_op op_add (pe_ix (r := rIxL K) ix_list (pe_ix (r := rIxL K) ix_list (pv 9) (pv 12) (fun _ _ => rfl)) (pe_callTy call_int1 (by rfl) T.b_int (by decide +kernel) (pa_cons (pe_not (pv 16)) pa_nil)) (fun _ _ => rfl)) pe_int) (pg_sub (pe_ix (r := rIxL K) ix_list (pv 9) (pv 12) (fun _ _ => rfl)) (pe_callTy call_int1 (by rfl) T.b_int (by decide +kernel) (pa_cons (pe_not (pv 16)) pa_nil)) set_list))
       (pss_one (ps_for PassesOwn.never rfl (pi_enum (by rfl) T.b_enumerate (pa_cons (pv 5) pa_nil)) (pg_tup rfl (pgs_cons (pg_name (i := 18) nd rfl (Or.inl rfl)) (pgs_cons (pg_name (i := 13) nd rfl (Or.inl rfl)) pgs_nil))) (pss_one (ps_if (PW.pt (pw_and (pt_cmpR op_eq (pe_ix (r := rIxL K) ix_list (pv 13) pe_int (fun _ _ => rfl)) pe_str (nomark _)) (pw_and1 (pt_cmpR (op_neD hr.units) (pv 13) (pe_ix (r := rIxL K) ix_list (pv 14) (pv 18) (fun _ _ => rfl)) (nomark _))))) (pss_one (ps_expr (pe_bm PySem.F.plainAttrs_list PySem.F.slot_list_append PySem.F.type_list_append mt_append (pv 10) (pa_cons (pe_tup (pa_cons (pv 11) (pa_cons (pv 18) pa_nil))) pa_nil)))) pss_nil)))))))))))
       (pss_one (ps_ret (pe_tup (pa_cons (pe_lc (own := [("_law_pair", 21)]) (g := gName 21) (tt := tYes) rfl nd (pi_list (pv 9)) (blkOk_by (own := [("_law_pair", 21)]) (N := N_wrun) (sc := defScope st__law_run) (by decide +kernel)) (fun _ _ _ _ _ => pg_name (i := 21) nd rfl (Or.inl rfl)) (fun _ _ _ _ _ => pts_nil) (fun _ _ _ _ _ => (pe_callTy (call_tupK (K := K) rfl) (by rfl) T.b_tuple (by decide +kernel) (pa_cons (pv 21) pa_nil)))) (pa_cons (pv 10) pa_nil)))))))))), ?_⟩
    have xfl := hbf.len
    have xbl := paired_len hsl
    have ln12 := RO.lnC
    have s10 := RO.s1
    -- the states of the common breakers
    refine ⟨_, rfl, lf, rfl, ⟨_, SqL.of hlf⟩, fun lh nlh => ?_⟩
    refine lc_list (K := K) (a := lf) (xs := xf) (mk2P H lh (.str "closed") (.int 0)) (.zero nlh) (fun j Hx _ hp => SqL.of (hp.same _ _ hlf)) (fun j v Hx hv hp => ⟨rfl, tYes_of ⟨(by show 2 ≤ sizeLine; decide), fun b hb => hp.step nlh (by have := (List.getElem?_eq_some_iff.mp hv).1; omega) hb⟩⟩) ?_
    rintro H1 ⟨yh, hlh, yhl, yh1, yh2, yh3, s1⟩
    have hyh : Lss H1 yh (List.replicate fr.length (("closed", 0) : StD)) := paired_ix (by rw [List.length_replicate]; omega) fun i v s hv hs => by
      obtain ⟨b, e, h, _⟩ := yh1 v (List.mem_of_getElem? hv)
      rw [List.getElem?_replicate] at hs
      split at hs
      · cases hs
        exact ⟨b, e, h⟩
      · cases hs
    have hlb1 := s1 _ _ hlb
    have hsl1 : Paired (SlAt H1) xb svs := L2.Paired.mapP hsl fun _ _ z => z.same s1
    -- those of the services' own
    refine ⟨_, rfl, lbk, rfl, ⟨_, SqL.of hlb1⟩, fun lo hlo => ?_⟩
    refine lc_list (K := K) (a := lbk) (xs := xb) (fun j Hx => ∃ yo zss, Hx lo = some (.lst yo) ∧ yo.length = j ∧ Paired (fun v zs => ∃ a, v = .ref a ∧ Hx a = some (.lst zs) ∧ a ≠ lo) yo zss ∧ Paired (Lss Hx) zss ((svs.take j).map fun sv => List.replicate sv.1.length (("closed", 0) : StD)) ∧ (yh ++ zss.flatten).Nodup ∧ (∀ v ∈ yh ++ zss.flatten, ∃ b, v = .ref b ∧ Hx b = some (.lst [.str "closed", .int 0]) ∧ H b = none ∧ b ≠ lo) ∧ Same H1 Hx)
      ⟨[], [], upd_same, rfl, .nil, .nil, by rw [List.flatten_nil, List.append_nil]; exact yh2, fun v hv => ?_, Same.upd hlo⟩ (fun j Hx _ ⟨_, _, _, _, _, _, _, _, s⟩ => SqL.of (s _ _ hlb1)) ?_ ?_
    · rw [List.flatten_nil, List.append_nil] at hv
      obtain ⟨b, e, h, h2⟩ := yh1 v hv
      have nb : b ≠ lo := ne_of_none h hlo
      exact ⟨b, e, (upd_ne nb).trans h, h2, nb⟩
    · rintro j x Hx hxj ⟨yo, zss, hDx, yol, hyo, hz, nd, al, sx⟩
      obtain ⟨sv, hsv, xa, ab, ao, zb, zo, rfl, h1, h2, h3, h4, h5⟩ := paired_get hsl1 hxj
      have hj := (List.getElem?_eq_some_iff.mp hsv).1
      have svOk := RO.okS sv (List.mem_of_getElem? hsv)
      refine ⟨xa, _, rfl, SqT.of (sx _ _ h1), rfl, _, _, rfl, _, _, rfl, rfl, rfl, tYes_of ?_⟩
      have zbl := h3.len
      have zb12 := svOk.2.1
      have h2x := sx _ _ h2
      refine ⟨_, rfl, ab, rfl, ⟨_, SqL.of h2x⟩, fun D2 nD2 => ?_⟩
      refine lc_list (K := K) (a := ab) (xs := zb) (mk2P Hx D2 (.str "closed") (.int 0)) (.zero nD2) (fun i Hy _ hp => SqL.of (hp.same _ _ h2x)) (fun i v Hy hv hp => ⟨rfl, tYes_of ⟨(by show 2 ≤ sizeLine; decide), fun b hb => hp.step nD2 (by have := (List.getElem?_eq_some_iff.mp hv).1; omega) hb⟩⟩) ?_
      rintro Hy ⟨ys, hD2, ysl, ys1, ys2, ys3, sy⟩
      have hDy := sy _ _ hDx
      have nD2lo : D2 ≠ lo := (ne_of_none hDx nD2).symm
      have nlo : ∀ {a : Addr} {x : Str} {r : List V}, Hx a = some (.lst (.str x :: r)) → a ≠ lo := fun {a x r} h e => by
        rw [e, hDx] at h
        cases h
        cases hyo with
        | cons z _ =>
          obtain ⟨_, e, _⟩ := z
          cases e
      refine ⟨yo, hDy, small1 (by omega), yo ++ [.ref D2], zss ++ [ys], upd_same, by rw [List.length_append, yol]; rfl, paired_app (L2.Paired.mapP hyo fun _ _ ⟨a, e, h, n⟩ => ⟨a, e, (upd_ne n).trans (sy _ _ h), n⟩) (.cons ⟨D2, rfl, (upd_ne nD2lo).trans hD2, nD2lo⟩ .nil), ?_, ?_, ?_, fun u o e => by rw [upd_ne (ne_of_none e hlo)]; exact sy _ _ (sx _ _ e)⟩
      · rw [List.take_add_one, hsv, List.map_append]
        refine paired_app (L2.Paired.mapP hz fun _ _ h => L2.Paired.mapP h fun v s ⟨a, e, ha⟩ => ⟨a, e, (upd_ne (nlo ha)).trans (sy _ _ ha)⟩) (.cons (paired_ix (by rw [List.length_replicate]; omega) fun i v s hv hs => ?_) .nil)
        obtain ⟨b, e, h, hn⟩ := ys1 v (List.mem_of_getElem? hv)
        rw [List.getElem?_replicate] at hs
        split at hs
        · cases hs
          exact ⟨b, e, (upd_ne (ne_of_none hDx hn).symm).trans h⟩
        · cases hs
      · rw [List.flatten_append, List.flatten_cons, List.flatten_nil, List.append_nil, ← List.append_assoc]
        refine List.nodup_append.mpr ⟨nd, ys2, fun u hu z hz' e => ?_⟩
        obtain ⟨b, e1, h, _⟩ := al u hu
        obtain ⟨c, e2, _, hn⟩ := ys1 z hz'
        rw [e1, e2] at e
        injection e with e
        rw [e, hn] at h
        cases h
      · rw [List.flatten_append, List.flatten_cons, List.flatten_nil, List.append_nil, ← List.append_assoc]
        intro v hv
        rcases List.mem_append.mp hv with hv | hv
        · obtain ⟨b, e, h, h2, n⟩ := al v hv
          exact ⟨b, e, (upd_ne n).trans (sy _ _ h), h2, n⟩
        · obtain ⟨b, e, h, hn⟩ := ys1 v hv
          have n := (ne_of_none hDx hn).symm
          exact ⟨b, e, (upd_ne n).trans h, none_of (s1.trans sx) hn, n⟩
    rintro H2 ⟨yo, zss, hlo2, yol, hyo, hz, nd, al, s2⟩
    have hlb2 := s2 _ _ hlb1
    -- the numbers
    refine ⟨_, rfl, lbk, rfl, ⟨_, SqL.of hlb2⟩, fun ln nln => ?_⟩
    refine lc_list (K := K) (a := lbk) (xs := xb) (mk2P H2 ln (.int 0) (.int 0)) (.zero nln) (fun j Hx _ hp => SqL.of (hp.same _ _ hlb2)) (fun j v Hx hv hp => ⟨rfl, tYes_of ⟨(by show 2 ≤ sizeLine; decide), fun b hb => hp.step nln (by have := (List.getElem?_eq_some_iff.mp hv).1; omega) hb⟩⟩) ?_
    rintro B ⟨yn, hln, ynl, yn1, yn2, yn3, s3⟩
    refine ⟨(by show 0 ≤ sizeLine; decide), fun lp nlp => ?_⟩
    have sB : Same H B := (s1.trans s2).trans s3
    have hlhB := s3 _ _ (s2 _ _ hlh)
    have hloB := s3 _ _ hlo2
    have hyoB : Paired (LiAt B) yo zss := L2.Paired.mapP hyo fun _ _ ⟨a, e, h, _⟩ => ⟨a, e, s3 _ _ h⟩
    have alB : ∀ v ∈ yh ++ zss.flatten, ∃ b, v = .ref b ∧ B b = some (.lst [.str "closed", .int 0]) ∧ H b = none := fun v hv => by
      obtain ⟨b, e, h, h2, _⟩ := al v hv
      exact ⟨b, e, s3 _ _ h, h2⟩
    have ynB : ∀ v ∈ yn, ∃ b, v = .ref b ∧ B b = some (.lst [.int 0, .int 0]) ∧ H b = none := fun v hv => by
      obtain ⟨b, e, h, h2⟩ := yn1 v hv
      exact ⟨b, e, h, none_of (s1.trans s2) h2⟩
    -- lists of lists are neither states nor counts
    have nS : ∀ {a : Addr} {zs : List V}, B a = some (.lst zs) → (∀ v ∈ zs, ∃ b, v = .ref b) → V.ref a ∉ yh ++ zss.flatten ∧ V.ref a ∉ yn := by
      intro a zs h r
      refine ⟨fun m => ?_, fun m => ?_⟩
      · obtain ⟨b, e, h', _⟩ := alB _ m
        cases e
        rw [h] at h'
        cases h'
        obtain ⟨_, e⟩ := r _ (List.mem_cons_self ..)
        cases e
      · obtain ⟨b, e, h', _⟩ := ynB _ m
        cases e
        rw [h] at h'
        cases h'
        obtain ⟨_, e⟩ := r _ (List.mem_cons_self ..)
        cases e
    have hS : ∀ {a : Addr} {o : HO}, H a = some o → V.ref a ∉ yh ++ zss.flatten ∧ V.ref a ∉ yn := by
      intro a o h
      refine ⟨fun m => ?_, fun m => ?_⟩
      · obtain ⟨b, e, _, h'⟩ := alB _ m
        cases e
        rw [h] at h'
        cases h'
      · obtain ⟨b, e, _, h'⟩ := ynB _ m
        cases e
        rw [h] at h'
        cases h'
    have yhR : ∀ v ∈ yh, ∃ b, v = .ref b := fun v hv => by
      obtain ⟨b, e, _⟩ := yh1 v hv
      exact ⟨b, e⟩
    have ynR : ∀ v ∈ yn, ∃ b, v = .ref b := fun v hv => by
      obtain ⟨b, e, _⟩ := yn1 v hv
      exact ⟨b, e⟩
    have yoR : ∀ v ∈ yo, ∃ b, v = .ref b := fun v hv => by
      obtain ⟨i, hi⟩ := List.mem_iff_getElem?.mp hv
      obtain ⟨_, _, a, e, _⟩ := paired_get hyoB hi
      exact ⟨a, e⟩
    have sl2 := paired_len hyoB
    have sl3 := paired_len hz
    rw [List.length_map, List.length_take] at sl3
    refine ⟨_, rfl, _, rfl, by omega, by omega, ?_⟩
    rw [Int.toNat_natCast]
    have lpS : V.ref lp ∉ yh ++ zss.flatten ∧ V.ref lp ∉ yn := by
      refine ⟨fun m => ?_, fun m => ?_⟩
      · obtain ⟨b, e, h', _⟩ := alB _ m
        cases e
        rw [nlp] at h'
        cases h'
      · obtain ⟨b, e, h', _⟩ := ynB _ m
        cases e
        rw [nlp] at h'
        cases h'
    have sP := Same.upd (o := .lst []) nlp
    have hz0 : Paired (Lss B) zss (svs.map fun sv => List.replicate sv.1.length (("closed", 0) : StD)) := by
      rw [xbl, List.take_length] at hz
      exact L2.Paired.mapP hz fun _ _ h => L2.Paired.mapP h fun v s ⟨a, e, ha⟩ => ⟨a, e, s3 _ _ ha⟩
    refine for_range (lo := 0) (n := n) (fun i σ Hx => ∃ v6 v7 v11 v12 v13 v14 v15 v16 v17 v18 v19 v20 v21 v22 v23 : Option V, ∃ xo, σ = [some (.ref lf), some (.ref lbk), some (.ref lt), some (.int st), some (.int (n : Int)), some (.ref lh), v6, v7, some (.ref lo), some (.ref ln), some (.ref lp), v11, v12, v13, v14, v15, v16, v17, v18, v19, v20, v21, v22, v23] ∧
        Lss Hx yh (rtS fr svs pat st i).1 ∧ Paired (Lss Hx) zss (rtS fr svs pat st i).2 ∧ (∀ (w : Nat) (v : V), yn[w]? = some v → CnAt Hx v ((rtG fr svs pat st i w).count true) ((rtG fr svs pat st i w).count false)) ∧ Hx lp = some (.lst xo) ∧ Paired (PrAt Hx) xo (opsL fr svs pat st i) ∧ (∀ b o, V.ref b ∉ yh ++ zss.flatten → V.ref b ∉ yn → b ≠ lp → B b = some o → Hx b = some o))
      ⟨_, _, _, _, _, _, _, _, _, _, _, _, _, _, _, [], rfl, ?_, ?_, ?_, upd_same, .nil, fun b o _ _ n e => (upd_ne n).trans e⟩ ?_ ?_
    · exact L2.Paired.mapP hyh fun v s ⟨a, e, ha⟩ => ⟨a, e, sP _ _ (s3 _ _ (s2 _ _ ha))⟩
    · exact L2.Paired.mapP hz0 fun _ _ h => L2.Paired.mapP h fun v s ⟨a, e, ha⟩ => ⟨a, e, sP _ _ ha⟩
    · intro w v hv
      obtain ⟨b, e, h, _⟩ := yn1 v (List.mem_of_getElem? hv)
      exact ⟨b, e, sP _ _ h⟩
    · rintro i σ Hx hi ⟨v6, v7, v11, v12, v13, v14, v15, v16, v17, v18, v19, v20, v21, v22, v23, xo, rfl, gyh, gz, gyn, glp, gxo, gk⟩
      rw [Int.zero_add]
      have hx0 : Same H Hx := fun b o e => gk b o (hS e).1 (hS e).2 (ne_of_none (sB _ _ e) nlp) (sB _ _ e)
      have hlt0 := hx0 _ _ hlt
      have p0 := RO.p0
      have p1 := RO.p1
      obtain ⟨w1, w2⟩ := rtW_lt p0 RO.pb i
      obtain ⟨wi, hwi⟩ : ∃ wi, wi = rtW pat i := ⟨_, rfl⟩
      rw [← hwi] at w1 w2
      have atw : atI (pat.map pnV) ((i : Int) % (((pat.map pnV).length : Nat) : Int)) = some (pnV wi) := by
        rw [List.length_map]
        show atI (pat.map pnV) ((i % pat.length : Nat) : Int) = _
        refine atI_nat ?_
        rw [List.getElem?_map, w1]
        rfl
      refine ⟨_, rfl, _, rfl, .inl ⟨_, rfl, _, rfl, lt, _, rfl, .inl (SqL.of hlt0), _, _, rfl, rfl, (by rw [List.length_map]; omega), lt, _, _, pnV wi, rfl, rfl, SqL.of hlt0, atw, ?_⟩⟩
      -- the service
      obtain ⟨x0, hx0', xa, ab, ao, zb, zo, rfl, h1, h2, h3, h4, h5⟩ := paired_get2 hsl (svOf_get w2)
      have svOk := RO.okS (svOf svs wi) (List.mem_of_getElem? (svOf_get w2))
      refine ⟨_, rfl, _, rfl, lbk, xb, _, .ref xa, rfl, rfl, SqL.of (hx0 _ _ hlb), atI_nat hx0', xa, _, rfl, SqT.of (hx0 _ _ h1), rfl, _, _, rfl, _, _, rfl, rfl, ?_⟩
      -- the states before
      have glh := gk _ _ (nS hlhB yhR).1 (nS hlhB yhR).2 (ne_of_none hlhB nlp) hlhB
      have yl1 := paired_len gyh
      refine ⟨_, rfl, lh, rfl, ⟨_, SqL.of glh⟩, fun Db hDb => ?_⟩
      refine lc_list (K := K) (a := lh) (xs := yh) (fun j Hy => ∃ yb, Hy Db = some (.lst yb) ∧ yb.length = j ∧ (∀ (k : Nat) (v : V) (s : StD), yb[k]? = some v → (rtS fr svs pat st i).1[k]? = some s → ∃ a, v = .ref a ∧ a ≠ Db ∧ Hx a = none ∧ Hy a = some (.lst [.str s.1, .int s.2])) ∧ Same Hx Hy) ⟨[], upd_same, rfl, fun k v s h => by simp at h, Same.upd hDb⟩ (fun j Hy _ ⟨_, _, _, _, s⟩ => SqL.of (s _ _ glh)) ?_ ?_
      · rintro j v Hy hv ⟨yb, hDy, ybl, hc, sy⟩
        have hj := (List.getElem?_eq_some_iff.mp hv).1
        obtain ⟨s, hs, c, rfl, hc0⟩ := paired_get gyh hv
        refine ⟨rfl, tYes_of ⟨_, rfl, c, _, rfl, .inl (SqL.of (sy _ _ hc0)), fun b hb => ?_⟩⟩
        have sb := Same.upd (o := .lst [.str s.1, .int s.2]) hb
        have nb : b ≠ Db := (ne_of_none hDy hb).symm
        refine ⟨yb, sb _ _ hDy, small1 (by omega), yb ++ [.ref b], upd_same, by rw [List.length_append, ybl]; rfl, fun k v s' hk hs' => ?_, fun u o e => by rw [upd_ne (ne_of_none e hDb)]; exact sb _ _ (sy _ _ e)⟩
        by_cases cw : k < yb.length
        · rw [List.getElem?_append_left cw] at hk
          obtain ⟨a, e, na, n2, h⟩ := hc k v s' hk hs'
          exact ⟨a, e, na, n2, (upd_ne na).trans (sb _ _ h)⟩
        · rw [List.getElem?_append_right (by omega)] at hk
          have k0 : k = j := by
            have := (List.getElem?_eq_some_iff.mp hk).1
            rw [List.length_singleton] at this
            omega
          rw [k0, ybl, Nat.sub_self] at hk
          cases hk
          rw [k0, hs] at hs'
          cases hs'
          exact ⟨b, rfl, nb, none_of sy hb, (upd_ne nb).trans upd_same⟩
      rintro Hy ⟨yb, hDby, ybl, hyb, sy⟩
      have hy0 := hx0.trans sy
      obtain ⟨os, hos⟩ : ∃ os, os = (svOf svs wi).2 := ⟨_, rfl⟩
      obtain ⟨own, hown⟩ : ∃ own, own = (svOf svs wi).1 := ⟨_, rfl⟩
      have svO : VOut 0 os ∧ os.length ≤ 50 := by rw [hos]; exact svOk.2.2
      have svB : (∀ t ∈ own, OkT t) ∧ own.length ≤ 12 := by rw [hown]; exact ⟨svOk.1, svOk.2.1⟩
      rw [← hos] at h5
      rw [← hown] at h3
      have zol := paired_len h5
      have ol : (outs os).length = os.length := by unfold outs; rw [List.length_map]
      have h4y := hy0 _ _ h4
      have cm : CMulW (i : Int) st := wide_mul (a := 20) (b := 100) (Nat.lt_of_le_of_lt (show (i : Int).natAbs ≤ 200 by omega) (by decide)) (Nat.lt_of_le_of_lt (show st.natAbs ≤ 1000000000000000000000000000000 by have := RO.st0; have := RO.st1; omega) (by decide)) (by decide) (by decide) (by decide)
      obtain ⟨tm, htm⟩ : ∃ tm, tm = (i : Int) * st := ⟨_, rfl⟩
      -- whether the service is up
      refine ⟨_, rfl, ao, rfl, ⟨_, SqL.of h4y⟩, fun Du hDu => ?_⟩
      refine lc_list (K := K) (a := ao) (xs := zo) (fun j Hz => ∃ m, Hz Du = some (.lst (List.replicate m (.int 1))) ∧ m ≤ j ∧ (m = 0 ↔ ((os.take j).any fun o => decide (o.1 ≤ tm) && decide (tm < o.2)) = false) ∧ Same Hy Hz) ⟨0, upd_same, Nat.le_refl _, by simp, Same.upd hDu⟩ (fun j Hz _ ⟨_, _, _, _, s⟩ => SqL.of (s _ _ h4y)) ?_ ?_
      · rintro j x Hz hxj ⟨m, hDz, mj, mi, sz⟩
        obtain ⟨o', ho', hox⟩ := paired_get h5 hxj
        obtain ⟨o, ho, rfl⟩ : ∃ o, os[j]? = some o ∧ o' = (o.1, some o.2) := by
          unfold outs at ho'
          rw [List.getElem?_map] at ho'
          cases q : os[j]? with
          | none => rw [q] at ho'; cases ho'
          | some o => rw [q] at ho'; cases ho'; exact ⟨o, rfl, rfl⟩
        have hj := (List.getElem?_eq_some_iff.mp ho).1
        obtain ⟨c, rfl, hc⟩ := hox
        have ean : (os.take (j + 1)).any (fun o => decide (o.1 ≤ tm) && decide (tm < o.2)) = ((os.take j).any (fun o => decide (o.1 ≤ tm) && decide (tm < o.2)) || (decide (o.1 ≤ tm) && decide (tm < o.2))) := by
          rw [List.take_add_one, ho, List.any_append]
          simp
        refine ⟨c, _, rfl, SqT.of (sz _ _ (hy0 _ _ hc)), rfl, _, _, rfl, _, _, rfl, rfl, rfl, ?_⟩
        refine ⟨_, rfl, _, rfl, _, rfl, _, _, rfl, rfl, cm, _, _, rfl, rfl, _, rfl, ?_⟩
        show if decide (o.1 ≤ (i : Int) * st) = true then _ else _
        rw [← htm, ean]
        have no : ¬ (o.1 ≤ tm ∧ tm < o.2) → ∃ m, Hz Du = some (.lst (List.replicate m (.int 1))) ∧ m ≤ j + 1 ∧ (m = 0 ↔ ((os.take j).any (fun o => decide (o.1 ≤ tm) && decide (tm < o.2)) || (decide (o.1 ≤ tm) && decide (tm < o.2))) = false) ∧ Same Hy Hz := fun n => by
          have e : (decide (o.1 ≤ tm) && decide (tm < o.2)) = false := by
            cases q : (decide (o.1 ≤ tm) && decide (tm < o.2)) with
            | false => rfl
            | true =>
              rw [Bool.and_eq_true, decide_eq_true_iff, decide_eq_true_iff] at q
              exact absurd q n
          rw [e, Bool.or_false]
          exact ⟨m, hDz, by omega, mi, sz⟩
        by_cases c1 : o.1 ≤ tm
        · rw [decide_eq_true c1]
          refine iteT ⟨_, rfl, _, _, rfl, rfl, _, rfl, ?_⟩
          show if decide ((i : Int) * st < o.2) = true then _ else _
          rw [← htm]
          by_cases c2 : tm < o.2
          · rw [decide_eq_true c2]
            refine iteT ⟨_, hDz, small1 (by rw [List.length_replicate]; omega), m + 1, by rw [upd_same, List.replicate_succ'], by omega, ⟨fun h => absurd h (by omega), fun h => by simp at h⟩, fun b o e => by rw [upd_ne (ne_of_none e hDu)]; exact sz _ _ e⟩
          · have := no fun q => c2 q.2
            rw [decide_eq_true c1] at this
            rw [decide_eq_false c2] at this ⊢
            exact iteF this
        · have := no fun q => c1 q.1
          rw [decide_eq_false c1] at this ⊢
          exact iteF ⟨_, rfl, iteF this⟩
      rintro Hz ⟨m, hDz, mj, mi, sz⟩
      have ezo : zo.length = os.length := by omega
      rw [ezo, List.take_length] at mi
      refine ⟨(by show 0 ≤ sizeLine; decide), fun le hle => ?_⟩
      have se := sz.trans (Same.upd (o := .lst []) hle)
      have hDu' : (upd Hz le (.lst [])) Du = some (.lst ((List.replicate m (1 : Int)).map V.int)) := by
        rw [List.map_replicate]
        exact (Same.upd (o := .lst []) hle) _ _ hDz
      refine ⟨_, _, Dp.ints hDu', Dp.ints (ns := []) upd_same, shInts _, shInts _, ?_⟩
      rw [eqInts]
      have eup : decide (List.replicate m (1 : Int) = []) = upB os tm := by
        unfold upB
        rw [Bool.eq_iff_iff, decide_eq_true_iff, Bool.not_eq_true', ← mi]
        constructor
        · intro h
          have := congrArg List.length h
          rw [List.length_replicate] at this
          exact this
        · intro h
          rw [h]
          rfl
      rw [eup]
      obtain ⟨up, hup⟩ : ∃ up, up = upB os tm := ⟨_, rfl⟩
      rw [← hup]
      generalize upd Hz le (.lst []) = Hw at se ⊢
      have hw0 := hy0.trans se
      -- the request
      obtain ⟨l1, l2, l3, l4⟩ := rtS_ok (fr := fr) (st := st) RO.p0 RO.pb i
      obtain ⟨ow, how⟩ : ∃ ow, (rtS fr svs pat st i).2[wi]? = some ow := ⟨_, List.getElem?_eq_getElem (by omega)⟩
      obtain ⟨zs, hzs, hzo⟩ := paired_get2 gz how
      obtain ⟨vo, hvo, al', rfl, hal⟩ := paired_get2 hyoB hzs
      have zsR : ∀ v ∈ zs, ∃ b, v = .ref b := fun v hv => by
        obtain ⟨j, hj⟩ := List.mem_iff_getElem?.mp hv
        obtain ⟨_, _, a, e, _⟩ := paired_get hzo hj
        exact ⟨a, e⟩
      have gal := gk _ _ (nS hal zsR).1 (nS hal zsR).2 (ne_of_none hal nlp) hal
      have glo := gk _ _ (nS hloB yoR).1 (nS hloB yoR).2 (ne_of_none hloB nlp) hloB
      have sxw := sy.trans se
      have zbl := h3.len
      have zsl := paired_len hzo
      have owl := (l4 wi ow how).1
      rw [← hown] at owl
      refine ⟨_, rfl, _, rfl, lf, ab, xf, zb, rfl, rfl, hw0 _ _ hlf, hw0 _ _ h2, small2 (by omega), fun c1 hc1 => ⟨_, rfl, _, rfl, _, rfl, lo, yo, _, .ref al', rfl, rfl, SqL.of ((Same.upd hc1) _ _ (sxw _ _ glo)), atI_nat hvo, lh, al', yh, zs, rfl, rfl, (Same.upd hc1) _ _ (sxw _ _ glh), (Same.upd hc1) _ _ (sxw _ _ gal), small2 (by omega), fun c2 hc2 => ⟨_, rfl, _, rfl, _, _, rfl, rfl, cm, _, rfl, ?_⟩⟩⟩
      have sc2 := (Same.upd (o := .lst (xf ++ zb)) hc1).trans (Same.upd (o := .lst (yh ++ zs)) hc2)
      have gc1 := (Same.upd (o := .lst (yh ++ zs)) hc2) _ _ (upd_same (H := Hw) (a := c1) (o := .lst (xf ++ zb)))
      have gc2 : (upd (upd Hw c1 (.lst (xf ++ zb))) c2 (.lst (yh ++ zs))) c2 = some (.lst (yh ++ zs)) := upd_same
      generalize upd (upd Hw c1 (.lst (xf ++ zb))) c2 (.lst (yh ++ zs)) = Hv at sc2 gc1 gc2 ⊢
      have hv0 := hw0.trans sc2
      have sxv := sxw.trans sc2
      have mem_fl : ∀ v ∈ zs, v ∈ zss.flatten := fun v hv => List.mem_flatten.mpr ⟨zs, List.mem_of_getElem? hzs, hv⟩
      obtain ⟨okA, okO⟩ := rt_okB (st := st) RO.okC (fun sv h => (RO.okS sv h).1) RO.p0 RO.pb i
      have okW' := okO wi ow how
      rw [← hown] at okW'
      subst htm
      refine ⟨c1, c2, xf ++ zb, yh ++ zs, fr ++ own, (rtS fr svs pat st i).1 ++ ow, (i : Int) * st, up, rfl, gc1, Brs.app (hbf.nl (NL.of hv0)) (h3.nl (NL.of hv0)), gc2, paired_app (L2.Paired.mapP gyh fun _ _ ⟨a, e, h⟩ => ⟨a, e, sxv _ _ h⟩) (L2.Paired.mapP hzo fun _ _ ⟨a, e, h⟩ => ⟨a, e, sxv _ _ h⟩), ?_, ?_, paired_app okA okW', ?_, ?_, fun T H' hT hss nT kp => ?_⟩
      · obtain ⟨n1, n2, n3⟩ := List.nodup_append.mp nd
        refine List.nodup_append.mpr ⟨n1, ?_, fun u hu z hz' => n3 u hu z (mem_fl z hz')⟩
        exact (List.pairwise_flatten.mp n2).1 zs (List.mem_of_getElem? hzs)
      · rw [List.length_append, List.length_append]
        omega
      · intro b hb
        rcases List.mem_append.mp hb with hb | hb
        · exact RO.okC b hb
        · exact svB.1 b hb
      · rw [List.length_append]
        omega
      have eo : (rtS fr svs pat st i).2.getD wi [] = ow := by rw [List.getD_eq_getElem?_getD, how]; rfl
      have eN : rtNew fr svs pat st (rtS fr svs pat st i) i = sntS (fr ++ own) ((rtS fr svs pat st i).1 ++ ow) ((i : Int) * st) up := by
        unfold rtNew rtRow rtSt rtUp
        rw [← hwi, ← hown, ← hos, eo, hup]
      have eg : (decide (kOf (fr ++ own) ((rtS fr svs pat st i).1 ++ ow) ((i : Int) * st) = (fr ++ own).length) && up) = rtGood fr svs pat st i := by
        unfold rtGood rtK rtRow rtSt rtUp
        rw [← hwi, ← hown, ← hos, eo, hup]
      rw [eg] at hT
      refine ⟨T, _, rfl, SqT.of hT, rfl, _, _, rfl, _, _, rfl, rfl, ?_⟩
      -- what is kept
      have dS : ∀ {b : Addr}, V.ref b ∈ yn → V.ref b ∉ yh ++ zss.flatten := fun {b} m h => by
        obtain ⟨c1', e1, h1', _⟩ := ynB _ m
        obtain ⟨c2', e2, h2', _⟩ := alB _ h
        cases e1
        cases e2
        rw [h1'] at h2'
        cases h2'
      have sub : ∀ {v : V}, v ∉ yh ++ zss.flatten → v ∉ yh ++ zs := fun {v} n m => n (by
        rcases List.mem_append.mp m with m | m
        · exact List.mem_append_left _ m
        · exact List.mem_append_right _ (mem_fl v m))
      have kpx : ∀ b o, V.ref b ∉ yh ++ zss.flatten → Hx b = some o → H' b = some o := fun b o n e => kp b o (sub n) (sxv _ _ e)
      have ywl : wi < yn.length := by omega
      obtain ⟨vw, hvw⟩ : ∃ vw, yn[wi]? = some vw := ⟨_, List.getElem?_eq_getElem ywl⟩
      obtain ⟨cw, rfl, hcw⟩ := gyn wi vw hvw
      have mcw := List.mem_of_getElem? hvw
      have hcw' := kpx _ _ (dS mcw) hcw
      have gln := gk _ _ (nS hln ynR).1 (nS hln ynR).2 (ne_of_none hln nlp) hln
      have gln' := kpx _ _ (nS hln ynR).1 gln
      -- the numbers
      obtain ⟨g, hg⟩ : ∃ g, g = rtGood fr svs pat st i := ⟨_, rfl⟩
      rw [← hg]
      have et : (rtG fr svs pat st (i + 1) wi) = rtG fr svs pat st i wi ++ [g] := by rw [rtG_succ, if_pos hwi.symm, hg]
      have at1 : atI [V.int (((rtG fr svs pat st i wi).count true : Nat) : Int), V.int (((rtG fr svs pat st i wi).count false : Nat) : Int)] (if (!g) = true then 1 else 0) = some (.int (if g = true then (((rtG fr svs pat st i wi).count true : Nat) : Int) else (((rtG fr svs pat st i wi).count false : Nat) : Int))) := by cases g <;> rfl
      have ix1 : ixN 2 (if (!g) = true then 1 else 0) = some (if g = true then 0 else 1) := by cases g <;> rfl
      have set1 : [V.int (((rtG fr svs pat st i wi).count true : Nat) : Int), V.int (((rtG fr svs pat st i wi).count false : Nat) : Int)].set (if g = true then 0 else 1) (.int ((if g = true then (((rtG fr svs pat st i wi).count true : Nat) : Int) else (((rtG fr svs pat st i wi).count false : Nat) : Int)) + 1)) = [V.int (((rtG fr svs pat st (i + 1) wi).count true : Nat) : Int), V.int (((rtG fr svs pat st (i + 1) wi).count false : Nat) : Int)] := by
        rw [et, List.count_append, List.count_append]
        cases g <;> rfl
      refine ⟨_, rfl, _, rfl, ln, yn, _, .ref cw, rfl, rfl, SqL.of gln', atI_nat hvw, _, rfl, g, rfl, .inr ⟨_, rfl, cw, _, _, _, rfl, rfl, SqL.of hcw', at1, _, _, rfl, rfl, _, rfl, _, rfl, ln, yn, _, .ref cw, rfl, rfl, SqL.of gln', atI_nat hvw, _, rfl, g, rfl, .inr ⟨_, rfl, cw, _, _, _, rfl, rfl, hcw', ix1, ?_⟩⟩⟩
      rw [set1]
      have hcu : (upd H' cw (.lst [V.int (((rtG fr svs pat st (i + 1) wi).count true : Nat) : Int), V.int (((rtG fr svs pat st (i + 1) wi).count false : Nat) : Int)])) cw = some (.lst [V.int (((rtG fr svs pat st (i + 1) wi).count true : Nat) : Int), V.int (((rtG fr svs pat st (i + 1) wi).count false : Nat) : Int)]) := upd_same
      have kpu : ∀ b o, b ≠ cw → H' b = some o → (upd H' cw (.lst [V.int (((rtG fr svs pat st (i + 1) wi).count true : Nat) : Int), V.int (((rtG fr svs pat st (i + 1) wi).count false : Nat) : Int)])) b = some o := fun b o n e => (upd_ne n).trans e
      generalize upd H' cw (.lst [V.int (((rtG fr svs pat st (i + 1) wi).count true : Nat) : Int), V.int (((rtG fr svs pat st (i + 1) wi).count false : Nat) : Int)]) = Hu at hcu kpu ⊢
      have strU : ∀ {a : Addr} {x : Str} {y : V}, H' a = some (.lst [.str x, y]) → a ≠ cw := fun {a x y} h e => by
        rw [e, hcw'] at h
        cases h
      have lhU : Hu lh = some (.lst yh) := kpu _ _ (fun e => (nS hlhB yhR).2 (e ▸ mcw)) (kpx _ _ (nS hlhB yhR).1 glh)
      have lpU : Hu lp = some (.lst xo) := kpu _ _ (fun e => lpS.2 (e ▸ mcw)) (kpx _ _ lpS.1 glp)
      have prU : ∀ {v : V} {p : Nat × Nat}, PrAt Hx v p → PrAt Hu v p := fun {v p} ⟨a, e, h⟩ => ⟨a, e, kpu _ _ (fun z => by
        have := kpx a _ (fun m => by
          rcases List.mem_append.mp m with m | m
          · obtain ⟨j, hj⟩ := List.mem_iff_getElem?.mp m
            obtain ⟨_, _, a', e', h'⟩ := paired_get gyh hj
            cases e'
            rw [h] at h'
            cases h'
          · obtain ⟨l, hl, m⟩ := List.mem_flatten.mp m
            obtain ⟨j, hj⟩ := List.mem_iff_getElem?.mp hl
            obtain ⟨_, _, h''⟩ := paired_get gz hj
            obtain ⟨j', hj'⟩ := List.mem_iff_getElem?.mp m
            obtain ⟨_, _, a', e', h'⟩ := paired_get h'' hj'
            cases e'
            rw [h] at h'
            cases h') h
        rw [z, hcw'] at this
        cases this) (kpx a _ (fun m => by
          rcases List.mem_append.mp m with m | m
          · obtain ⟨j, hj⟩ := List.mem_iff_getElem?.mp m
            obtain ⟨_, _, a', e', h'⟩ := paired_get gyh hj
            cases e'
            rw [h] at h'
            cases h'
          · obtain ⟨l, hl, m⟩ := List.mem_flatten.mp m
            obtain ⟨j, hj⟩ := List.mem_iff_getElem?.mp hl
            obtain ⟨_, _, h''⟩ := paired_get gz hj
            obtain ⟨j', hj'⟩ := List.mem_iff_getElem?.mp m
            obtain ⟨_, _, a', e', h'⟩ := paired_get h'' hj'
            cases e'
            rw [h] at h'
            cases h') h)⟩
      have hssU : Lss Hu (yh ++ zs) (rtNew fr svs pat st (rtS fr svs pat st i) i) := by
        rw [eN]
        exact L2.Paired.mapP hss fun v s ⟨a, e, h⟩ => ⟨a, e, kpu _ _ (strU h) h⟩
      have eS1 : (rtS fr svs pat st (i + 1)).1 = (rtNew fr svs pat st (rtS fr svs pat st i) i).take fr.length := rfl
      have eS2 : (rtS fr svs pat st (i + 1)).2 = (rtS fr svs pat st i).2.set wi ((rtNew fr svs pat st (rtS fr svs pat st i) i).drop fr.length) := by rw [hwi]; rfl
      have yhf : yh.length = fr.length := by omega
      have hU1 : Lss Hu yh (rtS fr svs pat st (i + 1)).1 := by
        have := paired_take yh.length hssU
        rw [List.take_left' rfl, yhf] at this
        rw [eS1]
        exact this
      have hU2 : Lss Hu zs ((rtNew fr svs pat st (rtS fr svs pat st i) i).drop fr.length) := by
        have := paired_drop yh.length hssU
        rw [List.drop_left' rfl, yhf] at this
        exact this
      refine ⟨_, rfl, lh, yh, rfl, SqL.of lhU, ?_⟩
      have nx : ∀ {a : Addr}, Hx a = none → V.ref a ∉ yh ++ zs := fun {a} h m => by
        rcases List.mem_append.mp m with m | m
        · obtain ⟨j, hj⟩ := List.mem_iff_getElem?.mp m
          obtain ⟨_, _, a', e', h'⟩ := paired_get gyh hj
          cases e'
          rw [h] at h'
          cases h'
        · obtain ⟨j, hj⟩ := List.mem_iff_getElem?.mp m
          obtain ⟨_, _, a', e', h'⟩ := paired_get hzo hj
          cases e'
          rw [h] at h'
          cases h'
      have frU : ∀ {a : Addr} {o : HO}, Hx a = none → Hy a = some o → Hu a = some o ∧ a ≠ lp := fun {a o} h e => ⟨kpu _ _ (fun z => by rw [z, hcw] at h; cases h) (kp _ _ (nx h) (sc2 _ _ (se _ _ e))), fun z => by rw [z, glp] at h; cases h⟩
      obtain ⟨hDbU, nDblp⟩ := frU hDb hDby
      have hybU : ∀ (k : Nat) (v : V) (s : StD), yb[k]? = some v → (rtS fr svs pat st i).1[k]? = some s → ∃ a, v = .ref a ∧ a ≠ lp ∧ Hu a = some (.lst [.str s.1, .int s.2]) := fun k v s h1 h2 => by
        obtain ⟨a, e, _, na, h⟩ := hyb k v s h1 h2
        exact ⟨a, e, (frU na h).2, (frU na h).1⟩
      have strP : ∀ {a : Addr} {x : Str} {y : V}, Hu a = some (.lst [.str x, y]) → a ≠ lp := fun {a x y} h e => by
        rw [e, lpU] at h
        cases h
        obtain ⟨_, _, _, e, _⟩ := paired_get (i := 0) gxo rfl
        cases e
      have nlhp : lh ≠ lp := ne_of_none hlhB nlp
      refine for_enum (K := K) (a := lh) (xs := yh) (fun k σ Hs => ∃ v13 v18 : Option V, ∃ xo', σ = [some (.ref lf), some (.ref lbk), some (.ref lt), some (.int st), some (.int (n : Int)), some (.ref lh), some (.ref ab), some (.ref ao), some (.ref lo), some (.ref ln), some (.ref lp), some (.int (i : Int)), some (pnV wi), v13, some (.ref Db), some (.bl up), some (.bl g), some (.int ((kOf (fr ++ own) ((rtS fr svs pat st i).1 ++ ow) ((i : Int) * st) : Nat) : Int)), v18, v19, v20, v21, v22, v23] ∧
          Hs lp = some (.lst xo') ∧ xo'.length ≤ fr.length * i + k ∧ Paired (PrAt Hs) xo' (opsL fr svs pat st i ++ ((List.range k).filter fun k => decide ((rtS fr svs pat st (i + 1)).1[k]? = some (("open", (i : Int) * st) : StD))).map fun k => (i, k)) ∧ (∀ b o, b ≠ lp → Hu b = some o → Hs b = some o))
        ⟨_, _, xo, rfl, lpU, by have := paired_len gxo; have := opsL_len fr svs pat st i; omega, by rw [List.range_zero, List.filter_nil, List.map_nil, List.append_nil]; exact L2.Paired.mapP gxo fun _ _ z => prU z, fun b o _ e => e⟩ (fun k σ Hs _ ⟨_, _, _, _, _, _, _, ks⟩ => SqL.of (ks _ _ nlhp lhU)) ?_ ?_
      · rintro kk v T' σ Hs hv ⟨v13, v18, xo', rfl, hlps, xol, pxo, ks⟩ hT'
        obtain ⟨s', hs', a, rfl, ha⟩ := paired_get hU1 hv
        have hkk := (List.getElem?_eq_some_iff.mp hv).1
        obtain ⟨s, hs⟩ : ∃ s, (rtS fr svs pat st i).1[kk]? = some s := ⟨_, List.getElem?_eq_getElem (by omega)⟩
        obtain ⟨v2, hv2⟩ : ∃ v2, yb[kk]? = some v2 := ⟨_, List.getElem?_eq_getElem (by omega)⟩
        obtain ⟨a2, rfl, n2, h2b⟩ := hybU kk v2 s hv2 hs
        have sT := Same.upd (o := .tup [.int (kk : Nat), .ref a]) hT'
        have ha' := sT _ _ (ks _ _ (strP ha) ha)
        have h2b' := sT _ _ (ks _ _ n2 h2b)
        have hDbs := sT _ _ (ks _ _ nDblp hDbU)
        have hlp1 := sT _ _ hlps
        obtain ⟨_, l2', _, _⟩ := rtS_ok (fr := fr) (st := st) RO.p0 RO.pb (i + 1)
        have ok1 := l2' s' (List.mem_of_getElem? hs')
        have ok2 := l2 s (List.mem_of_getElem? hs)
        have ro := rt_opened (fr := fr) RO.p0 RO.pb RO.st0 i hs hs'
        have erg : ((List.range (kk + 1)).filter fun k => decide ((rtS fr svs pat st (i + 1)).1[k]? = some (("open", (i : Int) * st) : StD))) = ((List.range kk).filter fun k => decide ((rtS fr svs pat st (i + 1)).1[k]? = some (("open", (i : Int) * st) : StD))) ++ if s' = (("open", (i : Int) * st) : StD) then [kk] else [] := by
          rw [List.range_succ, List.filter_append, List.filter_cons, hs']
          by_cases z : s' = (("open", (i : Int) * st) : StD)
          · rw [if_pos z, if_pos (decide_eq_true (congrArg some z))]
            rfl
          · rw [if_neg z, if_neg (fun y => z (Option.some.inj (of_decide_eq_true y)))]
            rfl
        rw [erg]
        have stay : ¬ s' = (("open", (i : Int) * st) : StD) → Paired (PrAt (upd Hs T' (.tup [.int (kk : Nat), .ref a]))) xo' (opsL fr svs pat st i ++ (((List.range kk).filter fun k => decide ((rtS fr svs pat st (i + 1)).1[k]? = some (("open", (i : Int) * st) : StD))) ++ if s' = (("open", (i : Int) * st) : StD) then [kk] else []).map fun k => (i, k)) := fun z => by
          rw [if_neg z, List.append_nil]
          exact L2.Paired.mapP pxo fun _ _ q => q.nl (NL.of sT)
        have kss : ∀ b o, b ≠ lp → Hu b = some o → (upd Hs T' (.tup [.int (kk : Nat), .ref a])) b = some o := fun b o n e => sT _ _ (ks _ _ n e)
        refine ⟨T', _, rfl, SqT.of upd_same, rfl, _, _, rfl, _, _, rfl, rfl, ?_⟩
        refine ⟨_, rfl, a, _, 0, .str s'.1, rfl, rfl, SqL.of ha', rfl, rfl, _, rfl, ite2 (fun c => ?_) (fun c => ?_)⟩
        · have so : s'.1 = "open" := by
            have c := of_decide_eq_true c
            injection c
          refine ⟨_, rfl, _, rfl, _, rfl, Db, yb, _, .ref a2, rfl, rfl, SqL.of hDbs, atI_nat hv2, .list [.str s'.1, .int s'.2], .list [.str s.1, .int s.2], .lst (SqL.of ha') (.cons (.str _) (.cons (.int _) .nil)), .lst (SqL.of h2b') (.cons (.str _) (.cons (.int _) .nil)), lsD_sh (shStD ok1), lsD_sh (shStD ok2), _, rfl, ?_⟩
          rw [lsD_eq]
          by_cases z : s' = s
          · rw [decide_eq_true z]
            exact iteF ⟨_, _, xo', rfl, hlp1, by omega, stay (fun q => (ro.mpr q).2 z), kss⟩
          · rw [decide_eq_false z]
            refine iteT ⟨_, rfl, .inl ⟨rfl, _, SqL.of hlp1⟩, _, rfl, _, rfl, (by show 2 ≤ sizeLine; decide), fun tp htp => ?_⟩
            have sp := Same.upd (o := .tup [.int (i : Int), .int (kk : Int)]) htp
            have hlp2 := sp _ _ hlp1
            have fi : fr.length * i ≤ 12 * 200 := Nat.mul_le_mul ln12 (by omega)
            refine ⟨lp, xo', _, rfl, rfl, hlp2, small1 (by omega), ?_⟩
            have nt : tp ≠ lp := (ne_of_none hlp1 htp).symm
            refine ⟨_, _, xo' ++ [.ref tp], rfl, upd_same, by rw [List.length_append]; show xo'.length + 1 ≤ _; omega, ?_, fun b o n e => by rw [upd_ne n]; exact sp _ _ (kss _ _ n e)⟩
            rw [if_pos (ro.mp ⟨so, z⟩), List.map_append, ← List.append_assoc]
            exact paired_app (L2.Paired.mapP pxo fun _ _ q => (q.nl (NL.of (sT.trans sp))).nl (NL.upd hlp2)) (.cons ⟨tp, rfl, (upd_ne nt).trans upd_same⟩ .nil)
        · have so : ¬ s'.1 = "open" := fun e => c (decide_eq_true (by rw [e]))
          exact iteF ⟨_, _, xo', rfl, hlp1, by omega, stay (fun q => so (ro.mpr q).1), kss⟩
      · rintro σ Hs ⟨v13, v18, xo', rfl, hlps, xol, pxo, ks⟩
        have mk : ∀ {a : Addr} {x : Str} {y : V}, Hx a = some (.lst [.str x, y]) → V.ref a ∉ yh ++ zs → Hs a = some (.lst [.str x, y]) := fun {a x y} h n => by
          have h1' := kp _ _ n (sxv _ _ h)
          have h2' := kpu _ _ (strU h1') h1'
          exact ks _ _ (strP h2') h2'
        have pf := List.pairwise_flatten.mp (List.nodup_append.mp nd).2.1
        have apart : ∀ (w : Nat) (l : List V) (v : V), zss[w]? = some l → w ≠ wi → v ∈ l → v ∉ yh ++ zs := fun w l v hl nw hv m => by
          rcases List.mem_append.mp m with m | m
          · exact (List.nodup_append.mp nd).2.2 v m v (List.mem_flatten.mpr ⟨l, List.mem_of_getElem? hl, hv⟩) rfl
          · have wl := (List.getElem?_eq_some_iff.mp hl)
            have ul := (List.getElem?_eq_some_iff.mp hzs)
            obtain ⟨wl1, wl2⟩ := wl
            obtain ⟨ul1, ul2⟩ := ul
            have pp := List.pairwise_iff_getElem.mp pf.2
            rcases Nat.lt_or_gt_of_ne nw with c | c
            · have := pp w wi wl1 ul1 c
              rw [wl2, ul2] at this
              exact this v hv v m rfl
            · have := pp wi w ul1 wl1 c
              rw [wl2, ul2] at this
              exact this v m v hv rfl
        have zlen := paired_len gz
        refine ⟨_, _, _, _, _, _, _, _, _, _, _, _, _, _, _, xo', rfl, L2.Paired.mapP hU1 fun v s ⟨a, e, h⟩ => ⟨a, e, ks _ _ (strP h) h⟩, ?_, fun w v hv => ?_, hlps, ?_, fun b o n1 n2 n3 e => ?_⟩
        · rw [eS2]
          refine paired_ix (by rw [List.length_set]; exact zlen.symm ▸ rfl) fun w l o hl ho => ?_
          by_cases c : w = wi
          · rw [c, hzs] at hl
            cases hl
            rw [c, List.getElem?_set_self (by omega)] at ho
            have ho := Option.some.inj ho
            rw [← ho]
            exact L2.Paired.mapP hU2 fun v s ⟨a, e, h⟩ => ⟨a, e, ks _ _ (strP h) h⟩
          · rw [List.getElem?_set_ne (fun e => c e.symm)] at ho
            obtain ⟨o', ho', r⟩ := paired_get gz hl
            rw [ho] at ho'
            cases ho'
            refine paired_ix (paired_len r) fun j v s hv hs => ?_
            obtain ⟨a, e, h⟩ := r.get hv hs
            exact ⟨a, e, mk h (e ▸ apart w l v hl c (List.mem_of_getElem? hv))⟩
        · by_cases c : w = wi
          · rw [c, hvw] at hv
            cases hv
            rw [c]
            exact ⟨cw, rfl, ks _ _ (fun z => by rw [z, glp] at hcw; cases hcw; obtain ⟨_, _, _, e, _⟩ := paired_get (i := 0) gxo rfl; cases e) hcu⟩
          · obtain ⟨c0, rfl, h0⟩ := gyn w v hv
            rw [rtG_succ, if_neg (fun e => c (by rw [hwi]; exact e.symm)), List.append_nil]
            have m0 := List.mem_of_getElem? hv
            have n0 : c0 ≠ cw := fun e => by
              rw [e] at hv
              exact c ((List.getElem?_inj (List.getElem?_eq_some_iff.mp hv).1 yn2).mp (by rw [hv, hvw]))
            exact ⟨c0, rfl, ks _ _ (fun z => by rw [z, glp] at h0; cases h0; obtain ⟨_, _, _, e, _⟩ := paired_get (i := 0) gxo rfl; cases e) (kpu _ _ n0 (kpx _ _ (dS m0) h0))⟩
        · rw [opsL_succ]
          rw [yhf] at pxo
          exact pxo
        · exact ks _ _ n3 (kpu _ _ (fun z => n2 (z ▸ mcw)) (kpx _ _ n1 (gk _ _ n1 n2 n3 e)))
    rintro σ Hx ⟨v6, v7, v11, v12, v13, v14, v15, v16, v17, v18, v19, v20, v21, v22, v23, xo, rfl, gyh, gz, gyn, glp, gxo, gk⟩
    have hx0 : Same H Hx := fun b o e => gk b o (hS e).1 (hS e).2 (ne_of_none (sB _ _ e) nlp) (sB _ _ e)
    have gln := gk _ _ (nS hln ynR).1 (nS hln ynR).2 (ne_of_none hln nlp) hln
    refine ⟨_, rfl, ln, rfl, ⟨_, SqL.of gln⟩, fun D9 hD9 => ?_⟩
    refine lc_list (K := K) (a := ln) (xs := yn) (fun j Hy => ∃ zs, Hy D9 = some (.lst zs) ∧ zs.length = j ∧ (∀ (w : Nat) (x : V), zs[w]? = some x → ∃ a, x = .ref a ∧ a ≠ D9 ∧ Hy a = some (.tup [.int (((rtG fr svs pat st n w).count true : Nat) : Int), .int (((rtG fr svs pat st n w).count false : Nat) : Int)])) ∧ Same Hx Hy) ⟨[], upd_same, rfl, fun w x h => by simp at h, Same.upd hD9⟩ (fun j Hy _ ⟨_, _, _, _, s⟩ => SqL.of (s _ _ gln)) ?_ ?_
    · rintro j v Hy hv ⟨zs, hDy, zl, hc, sy⟩
      have hj := (List.getElem?_eq_some_iff.mp hv).1
      obtain ⟨c, rfl, hc0⟩ := gyn j v hv
      refine ⟨rfl, tYes_of ⟨_, rfl, c, _, rfl, .inl ⟨SqL.of (sy _ _ hc0), fun b hb => ?_⟩⟩⟩
      have sb := Same.upd (o := .tup [.int (((rtG fr svs pat st n j).count true : Nat) : Int), .int (((rtG fr svs pat st n j).count false : Nat) : Int)]) hb
      have nb : b ≠ D9 := (ne_of_none hDy hb).symm
      refine ⟨zs, sb _ _ hDy, small1 (by omega), zs ++ [.ref b], upd_same, by rw [List.length_append, zl]; rfl, fun w x hx => ?_, fun u o e => by rw [upd_ne (ne_of_none e hD9)]; exact sb _ _ (sy _ _ e)⟩
      by_cases cw : w < zs.length
      · rw [List.getElem?_append_left cw] at hx
        obtain ⟨a, e, na, h⟩ := hc w x hx
        exact ⟨a, e, na, (upd_ne na).trans (sb _ _ h)⟩
      · rw [List.getElem?_append_right (by omega)] at hx
        have w0 : w = j := by
          have := (List.getElem?_eq_some_iff.mp hx).1
          rw [List.length_singleton] at this
          omega
        rw [w0, zl, Nat.sub_self] at hx
        cases hx
        rw [w0]
        exact ⟨b, rfl, nb, (upd_ne nb).trans upd_same⟩
    rintro Hy ⟨zs, hDy, zl, hc, sy⟩
    refine ⟨_, rfl, (by show 2 ≤ sizeLine; decide), fun T hT => ?_⟩
    have sT := Same.upd (o := .tup [.ref D9, .ref lp]) hT
    refine k T D9 zs lp xo _ upd_same (sT _ _ hDy) (by omega) (fun w x hx => ?_) (sT _ _ (sy _ _ glp)) (L2.Paired.mapP gxo fun _ _ z => z.nl (NL.of (sy.trans sT))) ((hx0.trans sy).trans sT) (none_of (hx0.trans sy) hT)
    obtain ⟨a, e, _, h⟩ := hc w x hx
    exact ⟨a, e, sT _ _ h⟩
theorem ok_wrun (T : LX K mg L) : Cal P w K mg base "_law_run" 3 L.f__law_run ["_law_front", "_law_backs", "_law_turns", "_law_pace", "_law_often"] (spRun) := T.d__law_run.cal fun fd F => fn_wrun T F
end
/-! ### routes as data; routes compared; routes made with named arguments -/
def prI (o : Int × Int) : PyData := .tuple [.int o.1, .int o.2]
def svT (sv : Svc) : PyData := .tuple [.tuple (sv.1.map triD), .tuple (sv.2.map prI)]
def svL (sv : Svc) : PyData := .tuple [.list (sv.1.map triD), .list (sv.2.map prI)]
def pnD (k : Nat) : PyData := .int (k : Int)
theorem ots_dp {K : PySem.W.Frag} {H : Hp} : ∀ {os : List (Int × Int)} {xs : List V}, Ots H xs (outs os) → DpAll K H xs (os.map prI)
  | [], xs, h => by
    have h : Paired (OtAt H) xs [] := h
    cases h
    exact .nil
  | o :: r, xs, h => by
    have h : Paired (OtAt H) xs ((o.1, some o.2) :: outs r) := h
    cases h with
    | cons z t =>
      obtain ⟨a, rfl, hz⟩ := z
      exact .cons (.tup (SqT.of hz) (.cons (.int _) (.cons (.int _) .nil))) (ots_dp t)
theorem svsT_dp {K : PySem.W.Frag} {H : Hp} {xs : List V} {svs : List Svc} (h : Paired (SvAt H) xs svs) : DpAll K H xs (svs.map svT) := by
  induction h with
  | nil => exact .nil
  | cons h _ ih =>
    obtain ⟨a, ab, ao, xb, xo, rfl, h1, h2, h3, h4, h5⟩ := h
    exact .cons (.tup (SqT.of h1) (.cons (.tup (SqT.of h2) h3.dp) (.cons (.tup (SqT.of h4) (ots_dp h5)) .nil))) ih
theorem svsL_dp {K : PySem.W.Frag} {H : Hp} {xs : List V} {svs : List Svc} (h : Paired (SlAt H) xs svs) : DpAll K H xs (svs.map svL) := by
  induction h with
  | nil => exact .nil
  | cons h _ ih =>
    obtain ⟨a, ab, ao, xb, xo, rfl, h1, h2, h3, h4, h5⟩ := h
    exact .cons (.tup (SqT.of h1) (.cons (.lst (SqL.of h2) h3.dp) (.cons (.lst (SqL.of h4) (ots_dp h5)) .nil))) ih
theorem pns_dp {K : PySem.W.Frag} {H : Hp} : ∀ p : List Nat, DpAll K H (p.map pnV) (p.map pnD)
  | [] => .nil
  | k :: r => .cons (.int _) (pns_dp r)
theorem all_canN {n : Nat} : ∀ {ds : List PyData}, (∀ d ∈ ds, d.canLay0 = true ∧ d.depth ≤ n) → PyData.canLayAll0 ds = true ∧ PyData.depthAll ds ≤ n + 1
  | [], _ => ⟨by simp [PyData.canLayAll0], by simp [PyData.depthAll]⟩
  | d :: ds, h => by
    obtain ⟨h1, h2⟩ := all_canN (n := n) (ds := ds) fun d hd => h d (List.mem_cons_of_mem _ hd)
    obtain ⟨h3, h4⟩ := h d (List.mem_cons_self ..)
    refine ⟨?_, ?_⟩
    · rw [PyData.canLayAll0, h1, h3]
      rfl
    · rw [PyData.depthAll]
      omega
def CanN (n : Nat) (d : PyData) : Prop := d.canLay0 = true ∧ d.depth ≤ n
theorem canT {n : Nat} {ds : List PyData} (h : ∀ d ∈ ds, CanN n d) : CanN (n + 2) (.tuple ds) := by
  obtain ⟨h1, h2⟩ := all_canN h
  refine ⟨?_, ?_⟩
  · rw [PyData.canLay0]
    exact h1
  · rw [PyData.depth]
    omega
theorem canL {n : Nat} {ds : List PyData} (h : ∀ d ∈ ds, CanN n d) : CanN (n + 2) (.list ds) := by
  obtain ⟨h1, h2⟩ := all_canN h
  refine ⟨?_, ?_⟩
  · rw [PyData.canLay0]
    exact h1
  · rw [PyData.depth]
    omega
theorem CanN.mono {n m : Nat} {d : PyData} (h : CanN n d) (l : n ≤ m) : CanN m d := ⟨h.1, Nat.le_trans h.2 l⟩
theorem canI (i : Int) : CanN 1 (.int i) := ⟨by simp [PyData.canLay0], by simp [PyData.depth]⟩
theorem canM {α : Type} {n : Nat} {f : α → PyData} {xs : List α} (h : ∀ x, CanN n (f x)) : ∀ d ∈ xs.map f, CanN n d := fun d hd => by
  obtain ⟨x, _, rfl⟩ := List.mem_map.mp hd
  exact h x
theorem can1 {n : Nat} {d : PyData} {ds : List PyData} (h : CanN n d) (t : ∀ e ∈ ds, CanN n e) : ∀ e ∈ d :: ds, CanN n e := fun e he => by
  rcases List.mem_cons.mp he with he | he
  · rw [he]
    exact h
  · exact t e he
theorem can0 {n : Nat} : ∀ e ∈ ([] : List PyData), CanN n e := fun e he => nomatch he
theorem can_tri (t : Tri) : CanN 3 (triD t) := canT (can1 (canI _) (can1 (canI _) (can1 (canI _) can0)))
theorem can_prI (o : Int × Int) : CanN 3 (prI o) := canT (can1 (canI _) (can1 (canI _) can0))
theorem can_svT (sv : Svc) : CanN 7 (svT sv) := canT (can1 (canT (canM can_tri)) (can1 (canT (canM can_prI)) can0))
theorem can_svL (sv : Svc) : CanN 7 (svL sv) := canT (can1 (canL (canM can_tri)) (can1 (canL (canM can_prI)) can0))
theorem can_pn (k : Nat) : CanN 1 (pnD k) := canI _
theorem sh_can {d : PyData} (h : CanN 12 d) : SeqAt.shaped d = true := Bool.and_eq_true_iff.mpr ⟨h.1, decide_eq_true (Nat.le_trans h.2 (by decide))⟩
theorem eqvA {ds : List PyData} (h : ∀ d ∈ ds, PyData.eqv d d = true) : PyData.eqvAll ds ds = true := eqv_allP ds h
theorem eqvT {ds : List PyData} (h : ∀ d ∈ ds, PyData.eqv d d = true) : PyData.eqv (.tuple ds) (.tuple ds) = true := by
  rw [PyData.eqv]
  exact eqvA h
theorem eqvL {ds : List PyData} (h : ∀ d ∈ ds, PyData.eqv d d = true) : PyData.eqv (.list ds) (.list ds) = true := by
  rw [PyData.eqv]
  exact eqvA h
theorem eqvM {α : Type} {f : α → PyData} {xs : List α} (h : ∀ x, PyData.eqv (f x) (f x) = true) : ∀ d ∈ xs.map f, PyData.eqv d d = true := fun d hd => by
  obtain ⟨x, _, rfl⟩ := List.mem_map.mp hd
  exact h x
theorem eqvI (i : Int) : PyData.eqv (.int i) (.int i) = true := by simp [PyData.eqv]
theorem eqv1 {d : PyData} {ds : List PyData} (h : PyData.eqv d d = true) (t : ∀ e ∈ ds, PyData.eqv e e = true) : ∀ e ∈ d :: ds, PyData.eqv e e = true := fun e he => by
  rcases List.mem_cons.mp he with he | he
  · rw [he]
    exact h
  · exact t e he
theorem eqv0 : ∀ e ∈ ([] : List PyData), PyData.eqv e e = true := fun e he => nomatch he
theorem eqv_tri (t : Tri) : PyData.eqv (triD t) (triD t) = true := by rw [triD_eq, decide_eq_true rfl]
theorem eqv_prI (o : Int × Int) : PyData.eqv (prI o) (prI o) = true := eqvT (eqv1 (eqvI _) (eqv1 (eqvI _) eqv0))
theorem eqv_svT (sv : Svc) : PyData.eqv (svT sv) (svT sv) = true := eqvT (eqv1 (eqvT (eqvM eqv_tri)) (eqv1 (eqvT (eqvM eqv_prI)) eqv0))
theorem eqv_svL (sv : Svc) : PyData.eqv (svL sv) (svL sv) = true := eqvT (eqv1 (eqvL (eqvM eqv_tri)) (eqv1 (eqvL (eqvM eqv_prI)) eqv0))
theorem pnD_eq (i j : Nat) : PyData.eqv (pnD i) (pnD j) = decide (i = j) := by
  simp only [pnD, PyData.eqv]
  rw [Bool.eq_iff_iff]
  simp only [beq_iff_eq, decide_eq_true_iff]
  omega
theorem pns_eq : ∀ p q : List Nat, PyData.eqvAll (p.map pnD) (q.map pnD) = decide (p = q)
  | [], [] => by simp [PyData.eqvAll]
  | [], _ :: _ => by simp [PyData.eqvAll]
  | _ :: _, [] => by simp [PyData.eqvAll]
  | t :: ts, u :: us => by
    rw [List.map_cons, List.map_cons, PyData.eqvAll, pnD_eq, pns_eq ts us, Bool.eq_iff_iff]
    simp
def spRtEq (C : Addr) : Sp := fun vs H Q _ => ∃ p q fr svs pat st pat' st', vs = [.ref p, .ref q] ∧ RtV C H p fr svs pat st ∧ RtV C H q fr svs pat' st' ∧ Q (.bl (decide (pat = pat' ∧ st = st'))) H
section
variable {P : Program} {w : World} {K : PySem.W.Frag} {mg : Str → Option Value} {base : Heap} {L : LA}
abbrev N_Routeseq : List Str := ["self", "other"]
theorem sc_Routeseq : FnScope N_Routeseq ["self", "other"] (defScope st_Routes_eq) := ⟨rfl, rfl, rfl, by decide +kernel, rfl, by decide +kernel, by decide +kernel⟩
theorem fn_Routeseq (T : LX K mg L) {fd : FuncData} (F : Fun K "__eq__" "Routes.__eq__" st_Routes_eq L.m_Routes_eq fd) : FnOk P w K mg base CX0 1 L.m_Routes_eq fd ["self", "other"] (spRtEq L.c_Routes) := by
  have M_Routes := T.gc_Routes
  have nd := sc_Routeseq.nd
  refine F.ok sc_Routeseq (fun vs H Q E h => ?_) (fun cdv A outer S H vs Q E hr h => ?_)
  · obtain ⟨p, q, fr, svs, pat, st, pat', st', rfl, _⟩ := h
    rfl
  · obtain ⟨p, q, fr, svs, pat, st, pat', st', rfl, RV, RV', k⟩ := h
    refine ⟨_, (pss_one (ps_ret (pe_and (pe_callB call_isi (by rfl) T.b_isinstance (by decide +kernel) (pa_cons (pv 1) (pa_cons (pe_glob rfl M_Routes rr) pa_nil))) (pe_and (pe_cmpR (op_eqD hr.units) (pe_fld (pv 0) rfl) (pe_fld (pv 1) rfl) (nomark _)) (pe_and (pe_cmpR (op_eqD hr.units) (pe_fld (pv 0) rfl) (pe_fld (pv 1) rfl) (nomark _)) (pe_and (pe_cmpR (op_eqD hr.units) (pe_fld (pv 0) rfl) (pe_fld (pv 1) rfl) (nomark _)) (pe_one (pe_cmpR op_eq (pe_fld (pv 0) rfl) (pe_fld (pv 1) rfl) (nomark _))))))))), ?_⟩
    obtain ⟨aC, aS, aP, xC, xS, R⟩ := RV
    obtain ⟨dx, hp⟩ := R.ob
    obtain ⟨bC, bS, bP, yC, yS, R'⟩ := RV'
    obtain ⟨dy, hq⟩ := R'.ob
    refine ⟨_, rfl, _, .ref L.c_Routes, _, _, _, rfl, .own L.c_Routes, T.cf_Routes.tyR hq, if_pos (beq_self_eq_true _), _, rfl, iteT ?_⟩
    refine ⟨_, rfl, p, L.c_Routes, dx, _, _, rfl, hp, T.cf_Routes.cl, T.nf_Routes_common, rtF_c _ _ _ _, _, rfl, q, L.c_Routes, dy, _, _, rfl, hq, T.cf_Routes.cl, T.nf_Routes_common, rtF_c _ _ _ _, .tuple (fr.map triD), .tuple (fr.map triD), .tup (SqT.of R.hC) R.bC.dp, .tup (SqT.of R'.hC) R'.bC.dp, shT _, shT _, _, rfl, ?_⟩
    rw [eqvT (eqvM eqv_tri)]
    refine iteT ⟨_, rfl, p, L.c_Routes, dx, _, _, rfl, hp, T.cf_Routes.cl, T.nf_Routes_services, rtF_s _ _ _ _, _, rfl, q, L.c_Routes, dy, _, _, rfl, hq, T.cf_Routes.cl, T.nf_Routes_services, rtF_s _ _ _ _, .tuple (svs.map svT), .tuple (svs.map svT), .tup (SqT.of R.hS) (svsT_dp R.sv), .tup (SqT.of R'.hS) (svsT_dp R'.sv), sh_can ((canT (canM can_svT)).mono (by decide)), sh_can ((canT (canM can_svT)).mono (by decide)), _, rfl, ?_⟩
    rw [eqvT (eqvM eqv_svT)]
    refine iteT ⟨_, rfl, p, L.c_Routes, dx, _, _, rfl, hp, T.cf_Routes.cl, T.nf_Routes_pattern, rtF_p _ _ _ _, _, rfl, q, L.c_Routes, dy, _, _, rfl, hq, T.cf_Routes.cl, T.nf_Routes_pattern, rtF_p _ _ _ _, .tuple (pat.map pnD), .tuple (pat'.map pnD), .tup (SqT.of R.hP) (pns_dp _), .tup (SqT.of R'.hP) (pns_dp _), sh_can ((canT (canM can_pn)).mono (by decide)), sh_can ((canT (canM can_pn)).mono (by decide)), _, rfl, ?_⟩
    have e0 : PyData.eqv (.tuple (pat.map pnD)) (.tuple (pat'.map pnD)) = decide (pat = pat') := by rw [PyData.eqv]; exact pns_eq pat pat'
    rw [e0]
    have fin : ∀ c : Bool, decide (pat = pat' ∧ st = st') = c → Q (.bl c) H := fun c e => by rw [← e]; exact k
    refine ite2 (fun c1 => ?_) (fun c1 => fin false (decide_eq_false fun e => c1 (decide_eq_true e.1)))
    have c1' : pat = pat' := of_decide_eq_true c1
    refine ⟨_, rfl, p, L.c_Routes, dx, _, _, rfl, hp, T.cf_Routes.cl, T.nf_Routes_step, rtF_st _ _ _ _, _, rfl, q, L.c_Routes, dy, _, _, rfl, hq, T.cf_Routes.cl, T.nf_Routes_step, rtF_st _ _ _ _, rfl, fin _ ?_⟩
    rw [Bool.eq_iff_iff, decide_eq_true_iff, decide_eq_true_iff]
    exact ⟨fun h => by rw [h.2], fun h => ⟨c1', V.int.inj h⟩⟩
theorem ok_Routeseq (T : LX K mg L) : Met P w K mg base L.c_Routes "__eq__" 1 L.m_Routes_eq ["self", "other"] (spRtEq L.c_Routes) := T.mm_Routes_eq.met fun fd F => fn_Routeseq T F
end
section
variable {X : Cx} {L : LA}
/-- Routes(step = .., pattern = .., services = .., common = ..) -/
theorem pe_mkRoutes_step_pattern_services_common (T : LX X.K X.mg L) (hr : Room 9 X.A) {p pos : Pos} {kws : List Keyword} {tk : TA} (hg : Gl X "Routes") (hkw : PK X kws tk)
    (hall : (backToKw pos (keywordEach kws X.env)).all (·.1.isSome) = true := by rfl) (hks : (backToKw pos (keywordEach kws X.env)).filterMap (·.1) = (["step", "pattern", "services", "common"] : List Str) := by rfl)
    (hpl : ((backTo pos (starEach [] X.env)).any (·.1) || (backToKw pos (keywordEach kws X.env)).any (·.1.isNone)) = false := by rfl) :
    PE X (.Call (.Name "Routes" p) [] kws pos) (tMakeK L.c_Routes 0 4 (spRtInit L.c_Routes) (fun us ws => us ++ ws.reverse) E0 tNil tk) := by
  obtain ⟨fd, F, _⟩ := T.in_Routes
  have hb : KBn X.K fd ["self", "common", "services", "pattern", "step"] 1 ["step", "pattern", "services", "common"] (fun us ws => us ++ ws.reverse) (fun us ws => us ++ ws.reverse) := by
    refine ⟨fun s us ws hX h1 h2 => ?_, fun r1 r2 => r1.append (vals_rev r2)⟩
    obtain ⟨oc, od, kV, doc, pm, an, cdv, ct, osl, rfl, lk, hcd⟩ := F.ex
    match us, h1, ws, h2 with
    | [_], _, [_, _, _, _], _ => exact .of_eq rfl
  exact pe_makeK0 T.mk_Routes (fn_Routesinit T F) hr hg T.gc_Routes hb pass0 hkw hall hks (by decide) hpl
end
/-! ### services whose lists are apart -/
/-- a service, none of whose lists is s or D -/
def SlA (s D : Addr) (H : Hp) (v : V) (sv : Svc) : Prop := ∃ a ab ao xb xo, v = .ref a ∧ H a = some (.tup [.ref ab, .ref ao]) ∧ H ab = some (.lst xb) ∧ Brs H xb sv.1 ∧ H ao = some (.lst xo) ∧ Ots H xo (outs sv.2) ∧ (ab ≠ s ∧ ab ≠ D) ∧ ao ≠ s ∧ ao ≠ D
theorem SlA.at {s D : Addr} {H : Hp} {v : V} {sv : Svc} : SlA s D H v sv → SlAt H v sv := fun ⟨a, ab, ao, xb, xo, e, h1, h2, h3, h4, h5, _⟩ => ⟨a, ab, ao, xb, xo, e, h1, h2, h3, h4, h5⟩
theorem SlA.mv {s D : Addr} {H H' : Hp} {v : V} {sv : Svc} (n : NL H H') (k : ∀ b o, b ≠ s → b ≠ D → H b = some o → H' b = some o) : SlA s D H v sv → SlA s D H' v sv := fun ⟨a, ab, ao, xb, xo, e, h1, h2, h3, h4, h5, ⟨n1, n2⟩, n3, n4⟩ =>
  ⟨a, ab, ao, xb, xo, e, n _ _ h1 (fun _ z => nomatch z), k _ _ n1 n2 h2, h3.nl n, k _ _ n3 n4 h4, h5.nl n, ⟨n1, n2⟩, n3, n4⟩
/-- a service whose lists are new -/
def SlB (H0 : Hp) (D : Addr) (H : Hp) (v : V) (sv : Svc) : Prop := ∃ a ab ao xb xo, v = .ref a ∧ H a = some (.tup [.ref ab, .ref ao]) ∧ H ab = some (.lst xb) ∧ Brs H xb sv.1 ∧ H ao = some (.lst xo) ∧ Ots H xo (outs sv.2) ∧ ab ≠ D ∧ ao ≠ D ∧ H0 ab = none ∧ H0 ao = none
theorem SlB.mv {H0 H H' : Hp} {D : Addr} {v : V} {sv : Svc} (n : NL H H') (k : ∀ b o, b ≠ D → H b = some o → H' b = some o) : SlB H0 D H v sv → SlB H0 D H' v sv := fun ⟨a, ab, ao, xb, xo, e, h1, h2, h3, h4, h5, n1, n2, m1, m2⟩ =>
  ⟨a, ab, ao, xb, xo, e, n _ _ h1 (fun _ z => nomatch z), k _ _ n1 h2, h3.nl n, k _ _ n2 h4, h5.nl n, n1, n2, m1, m2⟩
theorem SlB.at {H0 H : Hp} {D : Addr} {v : V} {sv : Svc} : SlB H0 D H v sv → SlAt H v sv := fun ⟨a, ab, ao, xb, xo, e, h1, h2, h3, h4, h5, _⟩ => ⟨a, ab, ao, xb, xo, e, h1, h2, h3, h4, h5⟩
/-! ### k57: services drawn -/
def spServices : Sp := fun vs H Q _ => ∃ (s : Addr) (n : Nat), vs = [.ref s] ∧ Src H s n ∧ n ≤ 200000 ∧
  ∀ l xs svs H', H' l = some (.lst xs) → Paired (SlA s l H') xs svs → (∀ sv ∈ svs, OkSv sv) → 1 ≤ svs.length → svs.length ≤ 3 → Src H' s (n + 320000) → Kp s H H' → H l = none → Q (.ref l) H'
section
variable {P : Program} {w : World} {K : PySem.W.Frag} {mg : Str → Option Value} {base : Heap} {L : LA}
abbrev N_wservices : List Str := ["_law_source", "_law_found", "_law_k", "_law_begin", "_law_first", "_law_second"]
theorem sc_wservices : FnScope N_wservices ["_law_source"] (defScope st__law_services) := ⟨rfl, rfl, rfl, by decide +kernel, rfl, by decide +kernel, by decide +kernel⟩
theorem fn_wservices (T : LX K mg L) {fd : FuncData} (F : Fun K "_law_services" "_law_services" st__law_services L.f__law_services fd) : FnOk P w K mg base CX0 4 L.f__law_services fd ["_law_source"] (spServices) := by
  have G_wnext := ok_wnext (P := P) (w := w) (base := base) T
  have G_wspecs := ok_wspecs (P := P) (w := w) (base := base) T
  have nd := sc_wservices.nd
  refine F.ok sc_wservices (fun vs H Q E h => ?_) (fun cdv A outer S H vs Q E hr h => ?_)
  · obtain ⟨s, n, rfl, _⟩ := h
    rfl
  · obtain ⟨s, n, rfl, src, hn, k⟩ := h
    refine ⟨_, (pss_cons (ps_set (i := 1) nd rfl (Or.inl rfl) (pe_lst pa_nil))
       (pss_cons (ps_for PassesOwn.never rfl (pi_range1 rfl T.b_range (pa_cons (pe_op op_add pe_int (pe_c G_wnext (hr.mono (by decide)) rfl (pa_cons (pv 0) (pa_cons pe_int pa_nil)))) pa_nil)) (pg_name (i := 2) nd rfl (Or.inl rfl)) (pss_cons (ps_set (i := 3) nd rfl (Or.inl rfl) (pe_c G_wnext (hr.mono (by decide)) rfl (pa_cons (pv 0) (pa_cons pe_int pa_nil))))
       (pss_cons (ps_set (i := 4) nd rfl (Or.inl rfl) (pe_tup (pa_cons (pv 3) (pa_cons (pe_op op_add (pe_op op_add (pv 3) pe_int) (pe_c G_wnext (hr.mono (by decide)) rfl (pa_cons (pv 0) (pa_cons pe_int pa_nil)))) pa_nil))))
       (pss_cons (ps_set (i := 5) nd rfl (Or.inl rfl) (pe_tup (pa_cons (pe_op op_add (pe_op op_add (pe_ix (r := rIxT K) ix_tup (pv 4) pe_int (fun _ _ => rfl)) pe_int) (pe_c G_wnext (hr.mono (by decide)) rfl (pa_cons (pv 0) (pa_cons pe_int pa_nil)))) (pa_cons (pe_op op_add (pe_op op_add (pe_ix (r := rIxT K) ix_tup (pv 4) pe_int (fun _ _ => rfl)) pe_int) (pe_c G_wnext (hr.mono (by decide)) rfl (pa_cons (pv 0) (pa_cons pe_int pa_nil)))) pa_nil))))
       (pss_one (ps_expr (pe_bm PySem.F.plainAttrs_list PySem.F.slot_list_append PySem.F.type_list_append mt_append (pv 1) (pa_cons (pe_tup (pa_cons (pe_c G_wspecs (hr.mono (by decide)) rfl (pa_cons (pv 0) (pa_cons pe_int (pa_cons pe_int (pa_cons pe_int pa_nil))))) (pa_cons (pe_slice (r := rSlL K) sl_list (pe_lst (pa_cons (pv 4) (pa_cons (pv 5) pa_nil))) po_none (po_some (pe_c G_wnext (hr.mono (by decide)) rfl (pa_cons (pv 0) (pa_cons pe_int pa_nil))))) pa_nil))) pa_nil))))))))
       (pss_one (ps_ret (pv 1))))), ?_⟩
    refine ⟨(by show 0 ≤ sizeLine; decide), fun l nl => ?_⟩
    have s0 := Same.upd (o := .lst []) nl
    obtain ⟨y0, hy0⟩ := src.has
    have nls : l ≠ s := (ne_of_none hy0 nl).symm
    refine ⟨_, rfl, s, 3, _, rfl, by decide, by decide, src.same s0, by omega, fun q H1 q0 q1 src1 k1 => ⟨_, _, rfl, rfl, _, rfl, by omega, by omega, ?_⟩⟩
    refine for_range (lo := 0) (n := (1 + q).toNat) (fun j σ Hx => ∃ v2 v3 v4 v5 : Option V, ∃ zs svs, σ = [some (.ref s), some (.ref l), v2, v3, v4, v5] ∧ Hx l = some (.lst zs) ∧ Paired (SlA s l Hx) zs svs ∧ svs.length = j ∧ (∀ sv ∈ svs, OkSv sv) ∧ Src Hx s (n + 1101 + 100000 * j) ∧ (∀ b o, b ≠ s → H b = some o → Hx b = some o))
      ⟨none, none, none, none, [], [], rfl, k1 _ _ nls upd_same, .nil, rfl, fun sv h => (nomatch h), src1, fun b o n e => k1 _ _ n (s0 _ _ e)⟩ ?_ ?_
    · rintro j σ Hx hj ⟨v2, v3, v4, v5, zs, svs, rfl, hlx, hz, sl, oks, srcx, kx⟩
      obtain ⟨yx, hyx⟩ := srcx.has
      refine ⟨_, rfl, s, 30, _, rfl, by decide, by decide, srcx, by omega, fun b1 Ha b10 b11 srca ka => ?_⟩
      refine ⟨_, rfl, _, rfl, _, _, rfl, rfl, _, rfl, s, 60, _, rfl, by decide, by decide, srca, by omega, fun d1 Hb d10 d11 srcb kb => ⟨_, _, rfl, rfl, (by show 2 ≤ sizeLine; decide), fun t1 ht1 => ?_⟩⟩
      obtain ⟨ya, hya⟩ := srca.has
      obtain ⟨yb, hyb⟩ := srcb.has
      obtain ⟨e1, he1⟩ : ∃ e1, e1 = b1 + 1 + d1 := ⟨_, rfl⟩
      have st1 := Same.upd (o := .tup [.int b1, .int (b1 + 1 + d1)]) ht1
      have gt1 : (upd Hb t1 (.tup [.int b1, .int (b1 + 1 + d1)])) t1 = some (.tup [.int b1, .int e1]) := by rw [upd_same, he1]
      have nt1 : t1 ≠ s := (ne_of_none hyb ht1).symm
      show gName 4 (.ref t1) _ (upd Hb t1 (.tup [.int b1, .int (b1 + 1 + d1)])) _
      generalize upd Hb t1 (.tup [.int b1, .int (b1 + 1 + d1)]) = Hc at st1 gt1 ⊢
      have srcc := srcb.same st1
      obtain ⟨yc, hyc⟩ := srcc.has
      refine ⟨_, rfl, t1, _, 1, .int e1, rfl, rfl, SqT.of gt1, rfl, _, _, rfl, rfl, _, rfl, s, 9, _, rfl, by decide, by decide, srcc, by omega, fun x2 Hd x20 x21 srcd kd => ⟨_, _, rfl, rfl, ?_⟩⟩
      have gt1d := kd _ _ nt1 gt1
      obtain ⟨yd, hyd⟩ := srcd.has
      refine ⟨_, rfl, t1, _, 1, .int e1, rfl, rfl, SqT.of gt1d, rfl, _, _, rfl, rfl, _, rfl, s, 60, _, rfl, by decide, by decide, srcd, by omega, fun y2 He y20 y21 srce ke => ⟨_, _, rfl, rfl, (by show 2 ≤ sizeLine; decide), fun t2 ht2 => ?_⟩⟩
      obtain ⟨ye, hye⟩ := srce.has
      obtain ⟨b2, hb2⟩ : ∃ b2, b2 = e1 + 1 + x2 := ⟨_, rfl⟩
      obtain ⟨e2, he2⟩ : ∃ e2, e2 = e1 + 30 + y2 := ⟨_, rfl⟩
      have st2 := Same.upd (o := .tup [.int (e1 + 1 + x2), .int (e1 + 30 + y2)]) ht2
      have gt2 : (upd He t2 (.tup [.int (e1 + 1 + x2), .int (e1 + 30 + y2)])) t2 = some (.tup [.int b2, .int e2]) := by rw [upd_same, hb2, he2]
      have nt2 : t2 ≠ s := (ne_of_none hye ht2).symm
      show gName 5 (.ref t2) _ (upd He t2 (.tup [.int (e1 + 1 + x2), .int (e1 + 30 + y2)])) _
      generalize upd He t2 (.tup [.int (e1 + 1 + x2), .int (e1 + 30 + y2)]) = Hf at st2 gt2 ⊢
      have gt1f := st2 _ _ (ke _ _ nt1 gt1d)
      have srcf := srce.same st2
      obtain ⟨yf, hyf⟩ := srcf.has
      have kxf : ∀ b o, b ≠ s → Hx b = some o → Hf b = some o := fun b o n e => st2 _ _ (ke _ _ n (kd _ _ n (st1 _ _ (kb _ _ n (ka _ _ n e)))))
      have nxf : NL Hx Hf := (((((Kp.nl ka hyx).trans (Kp.nl kb hya)).trans (NL.of st1)).trans (Kp.nl kd hyc)).trans (Kp.nl ke hyd)).trans (NL.of st2)
      refine ⟨_, rfl, .inl ⟨rfl, _, SqL.of (kxf _ _ nls hlx)⟩, _, rfl, s, _, 2, 9, 3, rfl, srcf, by omega, by decide, by decide, by decide, by decide, by decide, by decide, fun lb xb bs Hg hlb hbb okb okfb lbl srcg kg nlb => ?_⟩
      have nlbs : lb ≠ s := (ne_of_none hyf nlb).symm
      have gt1g := kg _ _ nt1 gt1f
      have gt2g := kg _ _ nt2 gt2
      obtain ⟨yg, hyg⟩ := srcg.has
      refine ⟨_, rfl, _, rfl, (by show 2 ≤ sizeLine; decide), fun l2 hl2 => ?_⟩
      have s2 := Same.upd (o := .lst [.ref t1, .ref t2]) hl2
      have nl2 : l2 ≠ s := (ne_of_none hyg hl2).symm
      have gl2 : (upd Hg l2 (.lst [.ref t1, .ref t2])) l2 = some (.lst [.ref t1, .ref t2]) := upd_same
      refine ⟨_, rfl, s, 3, _, rfl, by decide, by decide, srcg.same s2, by omega, fun c0 Hh c00 c01 srch kh => ?_⟩
      obtain ⟨c, rfl⟩ := Int.eq_ofNat_of_zero_le c00
      have c2 : c ≤ 2 := by omega
      refine ⟨_, rfl, l2, _, rfl, SqL.of (kh _ _ nl2 gl2), fun l3 hl3 => ⟨(by show 2 ≤ sizeLine; decide), fun tp htp => ?_⟩⟩
      rw [cut_take0 [V.ref t1, V.ref t2] c (by show c ≤ 2; exact c2)] at htp ⊢
      have s3 := Same.upd (o := .lst (([.ref t1, .ref t2] : List V).take c)) hl3
      have s4 := Same.upd (o := .tup [.ref lb, .ref l3]) htp
      have g3 := s4 _ _ (upd_same (H := Hh) (a := l3) (o := .lst (([.ref t1, .ref t2] : List V).take c)))
      have g4 : (upd (upd Hh l3 (.lst (([.ref t1, .ref t2] : List V).take c))) tp (.tup [.ref lb, .ref l3])) tp = some (.tup [.ref lb, .ref l3]) := upd_same
      obtain ⟨yh, hyh⟩ := srch.has
      have nl3 : l3 ≠ s := (ne_of_none hyh hl3).symm
      have s34 := s3.trans s4
      generalize upd (upd Hh l3 (.lst (([.ref t1, .ref t2] : List V).take c))) tp (.tup [.ref lb, .ref l3]) = Hq at s34 g3 g4 ⊢
      have kfq : ∀ b o, b ≠ s → Hf b = some o → Hq b = some o := fun b o n e => s34 _ _ (kh _ _ n (s2 _ _ (kg _ _ n e)))
      have nfq : NL Hf Hq := (((Kp.nl kg hyf).trans (NL.of s2)).trans (Kp.nl kh ((Same.upd hl2) _ _ hyg))).trans (NL.of s34)
      have kxq : ∀ b o, b ≠ s → Hx b = some o → Hq b = some o := fun b o n e => kfq _ _ n (kxf _ _ n e)
      have nxq := nxf.trans nfq
      have hlq := kxq _ _ nls hlx
      have lbq := s34 _ _ (kh _ _ nlbs (s2 _ _ hlb))
      have bsq : Brs Hq xb bs := ((hbb.nl (NL.of s2)).nl (Kp.nl kh ((Same.upd hl2) _ _ hyg))).nl (NL.of s34)
      have nlbl : lb ≠ l := (ne_of_none (kxf _ _ nls hlx) nlb).symm
      have nl3l : l3 ≠ l := (ne_of_none (kh _ _ nls (s2 _ _ (kg _ _ nls (kxf _ _ nls hlx)))) hl3).symm
      have zl := paired_len hz
      have n5 := NL.upd (o := .lst (zs ++ [.ref tp])) hlq
      have otq : Ots Hq [.ref t1, .ref t2] (outs [(b1, e1), (b2, e2)]) := .cons ⟨t1, rfl, kfq _ _ nt1 gt1f⟩ (.cons ⟨t2, rfl, kfq _ _ nt2 gt2⟩ .nil)
      have eo : (outs [(b1, e1), (b2, e2)]).take c = outs (([(b1, e1), (b2, e2)] : List (Int × Int)).take c) := by
        unfold outs
        rw [List.map_take]
      have otc := paired_take c otq
      rw [eo] at otc
      have vo : VOut 0 (([(b1, e1), (b2, e2)] : List (Int × Int)).take c) := by
        match c, c2 with
        | 0, _ => exact True.intro
        | 1, _ => exact ⟨by show 0 ≤ b1; omega, by show b1 < e1; omega, by show e1 ≤ _; omega, True.intro⟩
        | 2, _ => exact ⟨by show 0 ≤ b1; omega, by show b1 < e1; omega, by show e1 ≤ _; omega, by show e1 + 1 ≤ b2; omega, by show b2 < e2; omega, by show e2 ≤ _; omega, True.intro⟩
      refine ⟨l, zs, _, rfl, rfl, hlq, small1 (by omega), ?_⟩
      refine ⟨_, _, _, _, zs ++ [.ref tp], svs ++ [(bs, ([(b1, e1), (b2, e2)] : List (Int × Int)).take c)], rfl, upd_same, ?_, by rw [List.length_append, sl]; rfl, fun sv h => ?_, ?_, fun b o n e => ?_⟩
      · refine paired_app (L2.Paired.mapP hz fun _ _ z => z.mv (nxq.trans n5) fun b o n1 n2 e => (upd_ne n2).trans (kxq _ _ n1 e)) (.cons ⟨tp, lb, l3, xb, _, rfl, n5 _ _ g4 (fun _ z => nomatch z), (upd_ne nlbl).trans lbq, bsq.nl n5, (upd_ne nl3l).trans g3, Ots.nl n5 otc, ⟨nlbs, nlbl⟩, nl3, nl3l⟩ .nil)
      · rcases List.mem_append.mp h with h | h
        · exact oks sv h
        · rw [List.mem_singleton.mp h]
          refine ⟨okb, by show bs.length ≤ 12; omega, vo, ?_⟩
          show (([(b1, e1), (b2, e2)] : List (Int × Int)).take c).length ≤ 50
          rw [List.length_take]
          show min c 2 ≤ 50
          omega
      · exact src_kp Kp.upd nls.symm ((srch.same s34).mono (by omega))
      · have bl : b ≠ l := ne_of_none e nl
        rw [upd_ne bl]
        exact kxq _ _ n (kx _ _ n e)
    rintro σ Hx ⟨v2, v3, v4, v5, zs, svs, rfl, hlx, hz, sl, oks, srcx, kx⟩
    refine ⟨_, rfl, k l zs svs Hx hlx hz oks (by omega) (by omega) (srcx.mono (by omega)) (fun b o n e => kx b o n e) nl⟩
theorem ok_wservices (T : LX K mg L) : Cal P w K mg base "_law_services" 4 L.f__law_services ["_law_source"] (spServices) := T.d__law_services.cal fun fd F => fn_wservices T F
end
/-! ### Routes.parts -/
def spParts (C : Addr) : Sp := fun vs H Q _ => ∃ p fr svs pat st, vs = [.ref p] ∧ RtV C H p fr svs pat st ∧ ∀ T lc ls lp xc xs H', H' T = some (.tup [.ref lc, .ref ls, .ref lp, .int st]) → H' lc = some (.lst xc) → Brs H' xc fr → H' ls = some (.lst xs) → Paired (SlB H ls H') xs svs → H' lp = some (.lst (pat.map pnV)) → Same H H' → H T = none → H lc = none → H ls = none → H lp = none → Q (.ref T) H'
section
variable {P : Program} {w : World} {K : PySem.W.Frag} {mg : Str → Option Value} {base : Heap} {L : LA}
abbrev N_Routesparts : List Str := ["self", "services", "breakers", "outages"]
theorem sc_Routesparts : FnScope N_Routesparts ["self"] (defScope st_Routes_parts) := ⟨rfl, rfl, rfl, by decide +kernel, rfl, by decide +kernel, by decide +kernel⟩
theorem fn_Routesparts (T : LX K mg L) {fd : FuncData} (F : Fun K "parts" "Routes.parts" st_Routes_parts L.m_Routes_parts fd) : FnOk P w K mg base CX0 2 L.m_Routes_parts fd ["self"] (spParts L.c_Routes) := by
  have nd := sc_Routesparts.nd
  refine F.ok sc_Routesparts (fun vs H Q E h => ?_) (fun cdv A outer S H vs Q E hr h => ?_)
  · obtain ⟨p, fr, svs, pat, st, rfl, _⟩ := h
    rfl
  · obtain ⟨p, fr, svs, pat, st, rfl, RV, k⟩ := h
    refine ⟨_, (pss_cons (ps_setLc (i := 1) (own := [("breakers", 2), ("outages", 3)]) (g := gTup K 2 (gCons (gName 2) (gCons (gName 3) (gNil)))) (tt := tYes) rfl nd rfl rfl (sw_true rfl rfl rfl (by decide +kernel)) (pi_tup (pe_fld (pv 0) rfl)) (blkOk_by (own := [("breakers", 2), ("outages", 3)]) (N := N_Routesparts) (sc := defScope st_Routes_parts) (by decide +kernel)) (fun _ _ _ _ _ => pg_tup rfl (pgs_cons (pg_name (i := 2) nd rfl (Or.inl rfl)) (pgs_cons (pg_name (i := 3) nd rfl (Or.inl rfl)) pgs_nil))) (fun _ _ _ _ _ => pts_nil) (fun _ _ _ _ _ => (pe_tup (pa_cons (pe_callTy (call_listK (K := K) rfl) (by rfl) T.b_list (by decide +kernel) (pa_cons (pv 2) pa_nil)) (pa_cons (pe_callTy (call_listK (K := K) rfl) (by rfl) T.b_list (by decide +kernel) (pa_cons (pv 3) pa_nil)) pa_nil)))))
       (pss_one (ps_ret (pe_tup (pa_cons (pe_callTy call_list_of (by rfl) T.b_list (by decide +kernel) (pa_cons (pe_fld (pv 0) rfl) pa_nil)) (pa_cons (pv 1) (pa_cons (pe_callTy call_list_of (by rfl) T.b_list (by decide +kernel) (pa_cons (pe_fld (pv 0) rfl) pa_nil)) (pa_cons (pe_fld (pv 0) rfl) pa_nil)))))))), ?_⟩
    obtain ⟨aC, aS, aP, xC, xS, R⟩ := RV
    obtain ⟨dx, hp⟩ := R.ob
    have sl := paired_len R.sv
    have s10 := R.s1
    refine ⟨_, rfl, p, L.c_Routes, dx, _, _, rfl, hp, T.cf_Routes.cl, T.nf_Routes_services, rtF_s _ _ _ _, aS, rfl, ⟨_, SqT.of R.hS⟩, fun ls hls => ?_⟩
    refine lc_tup (K := K) (a := aS) (xs := xS) (fun j Hx => ∃ xs, Hx ls = some (.lst xs) ∧ xs.length = j ∧ Paired (SlB H ls Hx) xs (svs.take j) ∧ Same H Hx) ⟨[], upd_same, rfl, .nil, Same.upd hls⟩ (fun j Hx _ ⟨_, _, _, _, s⟩ => SqT.of (s _ _ R.hS)) ?_ ?_
    · rintro j x Hx hxj ⟨xs, hDx, xl, hz, sx⟩
      obtain ⟨sv, hsv, a, ab, ao, xb, xo, rfl, h1, h2, h3, h4, h5⟩ := paired_get R.sv hxj
      have hj := (List.getElem?_eq_some_iff.mp hsv).1
      refine ⟨a, _, rfl, SqT.of (sx _ _ h1), rfl, _, _, rfl, _, _, rfl, rfl, rfl, tYes_of ?_⟩
      refine ⟨_, rfl, ab, _, rfl, .inr (SqT.of (sx _ _ h2)), fun l1 hl1 => ⟨_, rfl, ao, _, rfl, .inr (SqT.of ((Same.upd hl1) _ _ (sx _ _ h4))), fun l2 hl2 => ⟨(by show 2 ≤ sizeLine; decide), fun t ht => ?_⟩⟩⟩
      have s1 := Same.upd (o := .lst xb) hl1
      have s2 := Same.upd (o := .lst xo) hl2
      have s3 := Same.upd (o := .tup [.ref l1, .ref l2]) ht
      have s13 := (s1.trans s2).trans s3
      have g1 := s3 _ _ (s2 _ _ (upd_same (H := Hx) (a := l1) (o := .lst xb)))
      have g2 := s3 _ _ (upd_same (H := upd Hx l1 (.lst xb)) (a := l2) (o := .lst xo))
      have g3 : (upd (upd (upd Hx l1 (.lst xb)) l2 (.lst xo)) t (.tup [.ref l1, .ref l2])) t = some (.tup [.ref l1, .ref l2]) := upd_same
      have n1 : l1 ≠ ls := (ne_of_none hDx hl1).symm
      have n2 : l2 ≠ ls := (ne_of_none (s1 _ _ hDx) hl2).symm
      generalize upd (upd (upd Hx l1 (.lst xb)) l2 (.lst xo)) t (.tup [.ref l1, .ref l2]) = Hy at s13 g1 g2 g3 ⊢
      have hDy := s13 _ _ hDx
      have n5 := NL.upd (o := .lst (xs ++ [.ref t])) hDy
      have sxy := sx.trans s13
      refine ⟨xs, hDy, small1 (by omega), xs ++ [.ref t], upd_same, by rw [List.length_append, xl]; rfl, ?_, fun u o e => by rw [upd_ne (ne_of_none e hls)]; exact sxy _ _ e⟩
      rw [List.take_add_one, hsv]
      exact paired_app (L2.Paired.mapP hz fun _ _ z => z.mv ((NL.of s13).trans n5) fun b o m1 e => (upd_ne m1).trans (s13 _ _ e)) (.cons ⟨t, l1, l2, xb, xo, rfl, n5 _ _ g3 (fun _ z => nomatch z), (upd_ne n1).trans g1, (h3.nl (NL.of sxy)).nl n5, (upd_ne n2).trans g2, Ots.nl n5 (Ots.nl (NL.of sxy) h5), n1, n2, none_of sx hl1, none_of (sx.trans s1) hl2⟩ .nil)
    rintro H1 ⟨xs, hls1, xl, hz, s1⟩
    rw [sl, List.take_length] at hz
    refine ⟨_, rfl, p, L.c_Routes, dx, _, _, rfl, s1 _ _ hp, T.cf_Routes.cl, T.nf_Routes_common, rtF_c _ _ _ _, aC, _, rfl, .inr (SqT.of (s1 _ _ R.hC)), fun lc hlc => ?_⟩
    have s2 := Same.upd (o := .lst xC) hlc
    refine ⟨_, rfl, _, rfl, p, L.c_Routes, dx, _, _, rfl, s2 _ _ (s1 _ _ hp), T.cf_Routes.cl, T.nf_Routes_pattern, rtF_p _ _ _ _, aP, _, rfl, .inr (SqT.of (s2 _ _ (s1 _ _ R.hP))), fun lp hlp => ?_⟩
    have s3 := Same.upd (o := .lst (pat.map pnV)) hlp
    refine ⟨_, rfl, p, L.c_Routes, dx, _, _, rfl, s3 _ _ (s2 _ _ (s1 _ _ hp)), T.cf_Routes.cl, T.nf_Routes_step, rtF_st _ _ _ _, (by show 4 ≤ sizeLine; decide), fun T0 hT0 => ?_⟩
    have s4 := Same.upd (o := .tup [.ref lc, .ref ls, .ref lp, .int st]) hT0
    have s24 := (s2.trans s3).trans s4
    have s14 := s1.trans s24
    refine k T0 lc ls lp xC xs _ upd_same (s4 _ _ (s3 _ _ upd_same)) (R.bC.nl (NL.of s14)) (s24 _ _ hls1) ?_ (s4 _ _ upd_same) s14 (none_of (s1.trans (s2.trans s3)) hT0) (none_of s1 hlc) hls (none_of (s1.trans s2) hlp)
    exact L2.Paired.mapP hz fun v sv z => z.mv (NL.of s24) fun _ _ _ e => s24 _ _ e
theorem ok_Routesparts (T : LX K mg L) : Met P w K mg base L.c_Routes "parts" 2 L.m_Routes_parts ["self"] (spParts L.c_Routes) := T.mm_Routes_parts.met fun fd F => fn_Routesparts T F
end
/-! ### k57: counts in any order -/
def cntL (fr : List Tri) (svs : List Svc) (pat : List Nat) (st : Int) (n : Nat) : List (Nat × Nat) := (List.range svs.length).map fun w => ((rtG fr svs pat st n w).count true, (rtG fr svs pat st n w).count false)
theorem cts_pr {H : Hp} {xs : List V} {fr : List Tri} {svs : List Svc} {pat : List Nat} {st : Int} {n : Nat} (l : xs.length = svs.length) (h : ∀ (w : Nat) (x : V), xs[w]? = some x → CtAt H x ((rtG fr svs pat st n w).count true) ((rtG fr svs pat st n w).count false)) : Paired (PrAt H) xs (cntL fr svs pat st n) := by
  unfold cntL
  refine paired_ix (by rw [List.length_map, List.length_range, l]) fun i x p hx hp => ?_
  rw [List.getElem?_map, List.getElem?_range (by have := (List.getElem?_eq_some_iff.mp hx).1; omega)] at hp
  cases hp
  exact h i x hx
theorem Kp.ba {s D : Addr} {H H' : Hp} (k : Kp s H H') : ∀ b o, b ≠ s → b ≠ D → H b = some o → H' b = some o := fun b o n _ e => k b o n e
theorem src_prs {H : Hp} {s l : Addr} {n : Nat} {xs : List V} {ps : List (Nat × Nat)} (S : Src H s n) (h : H l = some (.lst xs)) (hp : Paired (PrAt H) xs ps) : l ≠ s := by
  rintro rfl
  obtain ⟨x, y, z, e, _⟩ := S
  rw [h] at e
  cases e
  cases hp with
  | cons z _ =>
    obtain ⟨a, e, _⟩ := z
    cases e
theorem ne_prs {K : PySem.W.Frag} {H : Hp} {l m : Addr} {xs ys : List V} {ps : List (Nat × Nat)} (h1 : H l = some (.lst xs)) (p1 : Paired (PrAt H) xs ps) (h2 : H m = some (.lst ys)) (p2 : Paired (PrAt H) ys ps) : ∃ d1 d2 : PyData, Dp K H (.ref l) d1 ∧ Dp K H (.ref m) d2 ∧ SeqAt.shaped d1 = true ∧ SeqAt.shaped d2 = true ∧ PyData.eqv d1 d2 = true :=
  ⟨_, _, .lst (SqL.of h1) (prs_dp p1), .lst (SqL.of h2) (prs_dp p2), prs_sh _, prs_sh _, prs_eq _⟩
/-- what the law keeps of a drawn case -/
structure Lw57 (s lf lbk lt : Addr) (xf xb : List V) (fr : List Tri) (svs : List Svc) (pat : List Nat) (H : Hp) : Prop where
  f : H lf = some (.lst xf)
  bf : Brs H xf fr
  b : H lbk = some (.lst xb)
  sl : Paired (SlA s lbk H) xb svs
  t : H lt = some (.lst (pat.map pnV))
  n1 : lf ≠ s
  n2 : lbk ≠ s
  n3 : lt ≠ s
theorem Lw57.mv {s lf lbk lt : Addr} {xf xb : List V} {fr : List Tri} {svs : List Svc} {pat : List Nat} {H H' : Hp} (h : Lw57 s lf lbk lt xf xb fr svs pat H) (n : NL H H') (k : Kp s H H') : Lw57 s lf lbk lt xf xb fr svs pat H' :=
  ⟨k _ _ h.n1 h.f, h.bf.nl n, k _ _ h.n2 h.b, L2.Paired.mapP h.sl fun _ _ z => z.mv n k.ba, k _ _ h.n3 h.t, h.n1, h.n2, h.n3⟩
theorem Lw57.at {s lf lbk lt : Addr} {xf xb : List V} {fr : List Tri} {svs : List Svc} {pat : List Nat} {H : Hp} (h : Lw57 s lf lbk lt xf xb fr svs pat H) : Paired (SlAt H) xb svs := L2.Paired.mapP h.sl fun _ _ z => z.at
def spCounts (C : Addr) : Sp := fun vs H Q _ => ∃ s n0 p q tp lf lbk lt xf xb fr svs pat st, vs = [.ref s, .ref p, .ref q, .ref tp] ∧ Src H s n0 ∧ n0 ≤ 500000 ∧ RtV C H p fr svs pat st ∧ RtV C H q fr svs pat st ∧ H tp = some (.tup [.ref lf, .ref lbk, .ref lt, .int st]) ∧ Lw57 s lf lbk lt xf xb fr svs pat H ∧ RtOk fr svs pat st ∧ ∀ H', Kp s H H' → Q (.bl true) H'
section
variable {P : Program} {w : World} {K : PySem.W.Frag} {mg : Str → Option Value} {base : Heap} {L : LA}
abbrev N_wcountsright : List Str := ["_law_source", "_law_ways", "_law_twin", "_law_parts", "_law_front", "_law_backs", "_law_turns", "_law_pace", "_law_turn", "_law_often", "_law_numbers", "_law_opened"]
theorem sc_wcountsright : FnScope N_wcountsright ["_law_source", "_law_ways", "_law_twin", "_law_parts"] (defScope st__law_counts_right) := ⟨rfl, rfl, rfl, by decide +kernel, rfl, by decide +kernel, by decide +kernel⟩
theorem fn_wcountsright (T : LX K mg L) {fd : FuncData} (F : Fun K "_law_counts_right" "_law_counts_right" st__law_counts_right L.f__law_counts_right fd) : FnOk P w K mg base CX0 8 L.f__law_counts_right fd ["_law_source", "_law_ways", "_law_twin", "_law_parts"] (spCounts L.c_Routes) := by
  have G_wnext := ok_wnext (P := P) (w := w) (base := base) T
  have G_wrun := ok_wrun (P := P) (w := w) (base := base) T
  have G_wone := ok_wone (P := P) (w := w) (base := base) T
  have G_served := ok_served (P := P) (w := w) (base := base) T
  have G_commonopenings := ok_commonopenings (P := P) (w := w) (base := base) T
  have nd := sc_wcountsright.nd
  refine F.ok sc_wcountsright (fun vs H Q E h => ?_) (fun cdv A outer S H vs Q E hr h => ?_)
  · obtain ⟨s, n0, p, q, tp, lf, lbk, lt, xf, xb, fr, svs, pat, st, rfl, _⟩ := h
    rfl
  · obtain ⟨s, n0, p, q, tp, lf, lbk, lt, xf, xb, fr, svs, pat, st, rfl, src, n0h, RVp, RVq, htp, hw, RO, k⟩ := h
    refine ⟨_, (pss_cons (ps_asg (pv 3) (pg_tup rfl (pgs_cons (pg_name (i := 4) nd rfl (Or.inl rfl)) (pgs_cons (pg_name (i := 5) nd rfl (Or.inl rfl)) (pgs_cons (pg_name (i := 6) nd rfl (Or.inl rfl)) (pgs_cons (pg_name (i := 7) nd rfl (Or.inl rfl)) pgs_nil))))))
       (pss_cons (ps_for PassesOwn.never rfl (pi_range1 rfl T.b_range (pa_cons (pe_op op_add pe_int (pe_c G_wnext (hr.mono (by decide)) rfl (pa_cons (pv 0) (pa_cons pe_int pa_nil)))) pa_nil)) (pg_name (i := 8) nd rfl (Or.inl rfl)) (pss_cons (ps_set (i := 9) nd rfl (Or.inl rfl) (pe_c G_wnext (hr.mono (by decide)) rfl (pa_cons (pv 0) (pa_cons (pe_c G_wone (hr.mono (by decide)) rfl (pa_cons (pv 0) (pa_cons (pe_lst (pa_cons pe_int (pa_cons pe_int pa_nil))) pa_nil))) pa_nil))))
       (pss_cons (ps_asg (pe_c G_wrun (hr.mono (by decide)) rfl (pa_cons (pv 4) (pa_cons (pv 5) (pa_cons (pv 6) (pa_cons (pv 7) (pa_cons (pv 9) pa_nil)))))) (pg_tup rfl (pgs_cons (pg_name (i := 10) nd rfl (Or.inl rfl)) (pgs_cons (pg_name (i := 11) nd rfl (Or.inl rfl)) pgs_nil))))
       (C8.pss_cut (ps_if (PW.pt (pw_and (pt_cmpR op_eq (pe_c G_wnext (hr.mono (by decide)) rfl (pa_cons (pv 0) (pa_cons pe_int pa_nil))) pe_int (nomark _)) (pw_and1 (pt_cmpR (op_neD hr.units) (pe_c G_served (hr.mono (by decide)) rfl (pa_cons (pv 1) (pa_cons (pv 9) pa_nil))) (pv 10) (nomark _))))) (pss_one (ps_ret pe_bl)) pss_nil)
       (pss_cons (ps_if (PW.pt (pw_or (pt_cmpR (op_neD hr.units) (pe_c G_commonopenings (hr.mono (by decide)) rfl (pa_cons (pv 1) (pa_cons (pv 9) pa_nil))) (pv 11) (nomark _)) (pw_or1 (pt_cmpR (op_neD hr.units) (pe_c G_served (hr.mono (by decide)) rfl (pa_cons (pv 1) (pa_cons (pv 9) pa_nil))) (pv 10) (nomark _))))) (pss_one (ps_ret pe_bl)) pss_nil)
       (pss_one (ps_if (pt_cmpR (op_neD hr.units) (pe_c G_served (hr.mono (by decide)) rfl (pa_cons (pv 2) (pa_cons (pe_op op_fdivW (pv 9) pe_int) pa_nil))) (pe_ix (r := rIxT K) ix_tup (pe_c G_wrun (hr.mono (by decide)) rfl (pa_cons (pv 4) (pa_cons (pv 5) (pa_cons (pv 6) (pa_cons (pv 7) (pa_cons (pe_op op_fdivW (pv 9) pe_int) pa_nil)))))) pe_int (fun _ _ => rfl)) (nomark _)) (pss_one (ps_ret pe_bl)) pss_nil)))))))
       (pss_one (ps_ret pe_bl)))), ?_⟩
    obtain ⟨y0, hy0⟩ := src.has
    refine ⟨_, rfl, tp, _, rfl, SqT.of htp, rfl, _, _, rfl, _, _, rfl, _, _, rfl, _, _, rfl, rfl, ?_⟩
    refine ⟨_, rfl, s, 3, _, rfl, by decide, by decide, src, by omega, fun q0 H1 q00 q01 src1 k1 => ⟨_, _, rfl, rfl, _, rfl, by omega, by omega, ?_⟩⟩
    refine for_range (lo := 0) (n := (4 + q0).toNat) (fun j σ Hx => ∃ v8 v9 v10 v11 : Option V, σ = [some (.ref s), some (.ref p), some (.ref q), some (.ref tp), some (.ref lf), some (.ref lbk), some (.ref lt), some (.int st), v8, v9, v10, v11] ∧ Src Hx s (n0 + 1101 + 4000 * j) ∧ Kp s H Hx) ⟨none, none, none, none, rfl, src1, k1⟩ ?_ ?_
    · rintro j σ Hx hj ⟨v8, v9, v10, v11, rfl, srcx, kx⟩
      refine draw_gen (P := P) (w := w) (mg := mg) (a := s) (n := _) (ns := [20, 151]) (hi := 151) rfl srcx (by omega) (fun R h => h) (by simp) (by simp) (fun m hm => ?_) (by decide +kernel) fun r Ha r0 r1 _ srca ka => ?_
      · simp only [List.mem_cons, List.mem_nil_iff, or_false] at hm
        rcases hm with rfl | rfl <;> exact ⟨by decide, by decide⟩
      obtain ⟨n, rfl⟩ := Int.eq_ofNat_of_zero_le r0
      have kxa := kx.trans ka
      have nxa := Kp.nl kxa hy0
      have hwa := hw.mv nxa kxa
      have RVpa := RVp.nl nxa
      have RVqa := RVq.nl nxa
      refine ⟨_, rfl, _, rfl, _, rfl, _, rfl, _, rfl, lf, lbk, lt, n, xf, xb, fr, svs, pat, st, rfl, hwa.f, hwa.bf, hwa.b, hwa.at, hwa.t, RO, by omega, fun T1 l1 xs1 l2 xs2 Hb hT1 hl1 xl1 hx1 hl2 hx2 sb nT1 => ?_⟩
      refine ⟨T1, _, rfl, SqT.of hT1, rfl, _, _, rfl, _, _, rfl, rfl, ?_⟩
      have p1 := cts_pr xl1 hx1
      obtain ⟨ya, hya⟩ := srca.has
      have srcb := srca.same sb
      have nl1 : l1 ≠ s := src_prs srcb hl1 p1
      have nl2 : l2 ≠ s := src_prs srcb hl2 hx2
      have kxb := kxa.trans (Kp.of sb)
      have nxb := nxa.trans (NL.of sb)
      obtain ⟨yb, hyb⟩ := srcb.has
      refine ⟨fun σ' H' => ∃ v8 : Option V, σ' = [some (.ref s), some (.ref p), some (.ref q), some (.ref tp), some (.ref lf), some (.ref lbk), some (.ref lt), some (.int st), v8, some (.int (n : Int)), some (.ref l1), some (.ref l2)] ∧ Kp s Hb H' ∧ Src H' s (n0 + 1101 + 4000 * j + 2202 + 1101), ?_, ?_⟩
      · refine ⟨_, rfl, s, 2, _, rfl, by decide, by decide, srcb, by omega, fun z Hc z0 z1 srcc kc => ?_⟩
        refine ⟨rfl, _, rfl, ?_⟩
        refine ite2 (fun c => ?_) (fun c => ?_)
        · have nxc := nxb.trans (Kp.nl kc hyb)
          refine ⟨_, rfl, _, rfl, p, fr, svs, pat, st, n, rfl, RVp.nl nxc, by omega, fun l3 xs3 Hd hl3 xl3 hx3 sd nl3 => ?_⟩
          have kd := kc.trans (Kp.of sd)
          obtain ⟨d1, d2, e1, e2, e3, e4, e5⟩ := ne_prs (K := K) hl3 (cts_pr xl3 hx3) (kd _ _ nl1 hl1) (L2.Paired.mapP p1 fun _ _ z => z.nl ((Kp.nl kc hyb).trans (NL.of sd)))
          refine ⟨_, rfl, d1, d2, e1, e2, e3, e4, false, by rw [e5]; rfl, iteF ?_⟩
          exact ⟨_, rfl, kd, srcc.same sd⟩
        · exact ⟨_, rfl, kc, srcc⟩
      rintro σ' Hc ⟨v8, rfl, kc, srcc⟩
      have kxc := kxb.trans kc
      have nxc := nxb.trans (Kp.nl kc hyb)
      have hl1c := kc _ _ nl1 hl1
      have hl2c := kc _ _ nl2 hl2
      have p1c : Paired (PrAt Hc) xs1 (cntL fr svs pat st n) := L2.Paired.mapP p1 fun _ _ z => z.nl (Kp.nl kc hyb)
      have p2c : Paired (PrAt Hc) xs2 (opsL fr svs pat st n) := L2.Paired.mapP hx2 fun _ _ z => z.nl (Kp.nl kc hyb)
      refine ⟨_, rfl, _, rfl, p, fr, svs, pat, st, n, rfl, RVp.nl nxc, by omega, fun l3 xs3 Hd hl3 hx3 sd nl3 => ?_⟩
      obtain ⟨d1, d2, e1, e2, e3, e4, e5⟩ := ne_prs (K := K) hl3 hx3 (sd _ _ hl2c) (L2.Paired.mapP p2c fun _ _ z => z.nl (NL.of sd))
      refine ⟨_, rfl, d1, d2, e1, e2, e3, e4, false, by rw [e5]; rfl, iteF ?_⟩
      refine ⟨_, rfl, _, rfl, p, fr, svs, pat, st, n, rfl, RVp.nl (nxc.trans (NL.of sd)), by omega, fun l4 xs4 He hl4 xl4 hx4 se nl4 => ?_⟩
      have sde := sd.trans se
      obtain ⟨d1, d2, e1, e2, e3, e4, e5⟩ := ne_prs (K := K) hl4 (cts_pr xl4 hx4) (sde _ _ hl1c) (L2.Paired.mapP p1c fun _ _ z => z.nl (NL.of sde))
      refine ⟨_, rfl, d1, d2, e1, e2, e3, e4, false, by rw [e5]; rfl, iteF ?_⟩
      obtain ⟨m, hm⟩ : ∃ m : Nat, m = n / 2 := ⟨_, rfl⟩
      have em : (n : Int) / 2 = (m : Int) := by omega
      have nxe := nxc.trans (NL.of sde)
      have kxe := kxc.trans (Kp.of sde)
      refine ⟨_, rfl, _, rfl, _, _, rfl, rfl, ⟨by decide, by decide⟩, ?_⟩
      dsimp only
      rw [em]
      refine ⟨q, fr, svs, pat, st, m, rfl, RVq.nl nxe, by omega, fun l5 xs5 Hf hl5 xl5 hx5 sf nl5 => ?_⟩
      have nxf := nxe.trans (NL.of sf)
      have kxf := kxe.trans (Kp.of sf)
      have hwf := hw.mv nxf kxf
      refine ⟨_, rfl, _, rfl, _, rfl, _, rfl, _, rfl, _, _, rfl, rfl, ⟨by decide, by decide⟩, ?_⟩
      dsimp only
      rw [em]
      refine ⟨lf, lbk, lt, m, xf, xb, fr, svs, pat, st, rfl, hwf.f, hwf.bf, hwf.b, hwf.at, hwf.t, RO, by omega, fun T2 l6 xs6 l7 xs7 Hg hT2 hl6 xl6 hx6 hl7 hx7 sg nT2 => ?_⟩
      refine ⟨T2, _, 0, .ref l6, rfl, rfl, SqT.of hT2, rfl, ?_⟩
      obtain ⟨d1, d2, e1, e2, e3, e4, e5⟩ := ne_prs (K := K) (sg _ _ hl5) (L2.Paired.mapP (cts_pr xl5 hx5) fun _ _ z => z.nl (NL.of sg)) hl6 (cts_pr xl6 hx6)
      refine ⟨d1, d2, e1, e2, e3, e4, false, by rw [e5]; rfl, iteF ?_⟩
      have sAll := (sde.trans sf).trans sg
      exact ⟨_, _, _, _, rfl, (srcc.same sAll).mono (by omega), kxc.trans (Kp.of sAll)⟩
    rintro σ Hx ⟨v8, v9, v10, v11, rfl, srcx, kx⟩
    exact k Hx kx
theorem ok_wcountsright (T : LX K mg L) : Cal P w K mg base "_law_counts_right" 8 L.f__law_counts_right ["_law_source", "_law_ways", "_law_twin", "_law_parts"] (spCounts L.c_Routes) := T.d__law_counts_right.cal fun fd F => fn_wcountsright T F
end
/-! ### k57: the law -/
def spLaw (K : PySem.W.Frag) : Sp := fun vs H Q _ => ∃ (a : Addr) (ns : List Int), vs = [.ref a] ∧ SqL K H a (ns.map V.int) ∧ ns.length ≤ 63 ∧ ∀ H', Q (.bl true) H'
theorem ne_rt {C : Addr} {H : Hp} {z v : Addr} {fr : List Tri} {svs : List Svc} {pat pat' : List Nat} {st st' : Int} {Q : VK} (R : RtV C H z fr svs pat st) (R' : RtV C H v fr svs pat' st') (k : Q (.bl (!decide (pat = pat' ∧ st = st'))) H) : rOwnEq C (spRtEq C) E0 Bool.not (.ref z) (.ref v) H Q := by
  have R0 := R
  have R0' := R'
  obtain ⟨_, _, _, _, _, R⟩ := R
  obtain ⟨_, _, _, _, _, R'⟩ := R'
  obtain ⟨dx, hz⟩ := R.ob
  obtain ⟨dy, hy⟩ := R'.ob
  exact ⟨z, dx, _, _, rfl, hz, .ins hy, z, v, fr, svs, pat, st, pat', st', rfl, R0, R0', _, rfl, k⟩
theorem eq_rt {C : Addr} {H : Hp} {z v : Addr} {fr : List Tri} {svs : List Svc} {pat pat' : List Nat} {st st' : Int} {Q : VK} (R : RtV C H z fr svs pat st) (R' : RtV C H v fr svs pat' st') (k : Q (.bl (decide (pat = pat' ∧ st = st'))) H) : rOwnEq C (spRtEq C) E0 _root_.id (.ref z) (.ref v) H Q := by
  have R0 := R
  have R0' := R'
  obtain ⟨_, _, _, _, _, R⟩ := R
  obtain ⟨_, _, _, _, _, R'⟩ := R'
  obtain ⟨dx, hz⟩ := R.ob
  obtain ⟨dy, hy⟩ := R'.ob
  exact ⟨z, dx, _, _, rfl, hz, .ins hy, z, v, fr, svs, pat, st, pat', st', rfl, R0, R0', _, rfl, k⟩
theorem RtV.own {C : Addr} {H : Hp} {p : Addr} {fr : List Tri} {svs : List Svc} {pat : List Nat} {st : Int} (R : RtV C H p fr svs pat st) : ∃ dx fs, H p = some (.ins C dx fs) ∧ fs.lookup ("parts" : Str) = none := by
  obtain ⟨_, _, _, _, _, R⟩ := R
  obtain ⟨dx, hz⟩ := R.ob
  exact ⟨dx, _, hz, rtF_no _ _ _ _ (by decide +kernel) (by decide +kernel) (by decide +kernel) (by decide +kernel)⟩
theorem getLast_atI {xs : List V} (h : 0 < xs.length) : ∃ v, atI xs (-1) = some v ∧ xs[xs.length - 1]? = some v := by
  have e : xs ≠ [] := fun z => by rw [z] at h; cases h
  refine ⟨xs.getLast e, ?_, ?_⟩
  · have := atI_last xs.dropLast (xs.getLast e)
    rwa [List.dropLast_concat_getLast e] at this
  · rw [← List.getLast?_eq_getElem?, List.getLast?_eq_getLast e]
/-- new lists, to which something is appended -/
structure ApOk (H0 Hn : Hp) (as : List Addr) (i : Nat) (Hx : Hp) : Prop where
  l : ∀ x ∈ as, H0 x = none ∧ ∃ ys, Hx x = some (.lst ys) ∧ ys.length ≤ 1000 + i
  s : Same H0 Hx
  n : NL Hn Hx
  k : ∀ b o, b ∉ as → Hn b = some o → Hx b = some o
theorem ApOk.step {H0 Hn Hx : Hp} {as : List Addr} {i : Nat} (h : ApOk H0 Hn as i Hx) {x : Addr} (hx : x ∈ as) : ∃ ys, Hx x = some (.lst ys) ∧ ys.length ≤ 1000 + i ∧ ApOk H0 Hn as (i + 1) (upd Hx x (.lst (ys ++ [V.non]))) := by
  obtain ⟨h0, ys, h1, h2⟩ := h.l x hx
  refine ⟨ys, h1, h2, fun y hy => ?_, fun b o e => ?_, h.n.trans (NL.upd h1), fun b o nb e => ?_⟩
  · obtain ⟨g0, zs, g1, g2⟩ := h.l y hy
    refine ⟨g0, ?_⟩
    by_cases c : y = x
    · rw [c, upd_same]
      exact ⟨_, rfl, by rw [List.length_append]; show ys.length + 1 ≤ 1000 + (i + 1); omega⟩
    · rw [upd_ne c]
      exact ⟨zs, g1, by omega⟩
  · rw [upd_ne (ne_of_none e h0)]
    exact h.s _ _ e
  · rw [upd_ne (fun c : b = x => nb (by rw [c]; exact hx))]
    exact h.k _ _ nb e
section
variable {P : Program} {w : World} {K : PySem.W.Frag} {mg : Str → Option Value} {base : Heap} {L : LA}
abbrev N_law : List Str := ["_law_script", "_law_cell", "_law_source", "_law_front", "_law_backs", "_law_turns", "_law_pace", "_law_handed", "_law_ways", "_law_some", "_law_often", "_law_numbers", "_law_opened", "_law_told", "_law_twin", "_law_parts", "_law_k", "_law_specs_here", "_law_gaps"]
theorem sc_law : FnScope N_law ["_law_script"] (defScope st_law) := ⟨rfl, rfl, rfl, by decide +kernel, rfl, by decide +kernel, by decide +kernel⟩
theorem ok_law {aLaw : Addr} {fd : FuncData} (F : Fun K "law" "law" st_law aLaw fd) (T : LX K mg L) : FnOk P w K mg base CX0 12 aLaw fd ["_law_script"] (spLaw K) := by
  have G_Routesparts := ok_Routesparts (P := P) (w := w) (base := base) T
  have G_Routeseq := ok_Routeseq (P := P) (w := w) (base := base) T
  have G_wsourceof := ok_wsourceof (P := P) (w := w) (base := base) T
  have G_wspecs := ok_wspecs (P := P) (w := w) (base := base) T
  have G_wservices := ok_wservices (P := P) (w := w) (base := base) T
  have G_wnext := ok_wnext (P := P) (w := w) (base := base) T
  have G_wrun := ok_wrun (P := P) (w := w) (base := base) T
  have G_wcellat := ok_wcellat (P := P) (w := w) (base := base) T
  have G_commonopenings := ok_commonopenings (P := P) (w := w) (base := base) T
  have G_served := ok_served (P := P) (w := w) (base := base) T
  have G_wcountsright := ok_wcountsright (P := P) (w := w) (base := base) T
  have nd := sc_law.nd
  refine F.ok sc_law (fun vs H Q E h => ?_) (fun cdv A outer S H vs Q E hr h => ?_)
  · obtain ⟨a, ns, rfl, _⟩ := h
    rfl
  · obtain ⟨a, ns, rfl, hS, ln, k⟩ := h
    refine ⟨_, (pss_cons (ps_for PassesOwn.never rfl (pi_list (pe_op op_cat (pe_lst (pa_cons (pe_c G_wcellat (hr.mono (by decide)) rfl (pa_cons (pv 0) (pa_cons pe_int pa_nil))) pa_nil)) (pe_slice (r := rSlL K) sl_list (pv 0) (po_some pe_int) (po_some pe_int)))) (pg_name (i := 1) nd rfl (Or.inl rfl)) (pss_cons (ps_set (i := 2) nd rfl (Or.inr rfl) (pe_c G_wsourceof (hr.mono (by decide)) rfl (pa_cons (pv 1) pa_nil)))
       (pss_cons (ps_set (i := 3) nd rfl (Or.inl rfl) (pe_c G_wspecs (hr.mono (by decide)) rfl (pa_cons (pv 2) (pa_cons pe_int (pa_cons pe_int (pa_cons pe_int pa_nil))))))
       (pss_cons (ps_set (i := 4) nd rfl (Or.inr rfl) (pe_c G_wservices (hr.mono (by decide)) rfl (pa_cons (pv 2) pa_nil)))
       (pss_cons (ps_setLc (i := 5) (own := [("_law_k", 16)]) (g := gName 16) (tt := tYes) rfl nd rfl rfl (sw_true rfl rfl rfl (by decide +kernel)) (pi_range1 rfl T.b_range (pa_cons (pe_op op_add pe_int (pe_c G_wnext (hr.mono (by decide)) rfl (pa_cons (pv 2) (pa_cons pe_int pa_nil)))) pa_nil)) (blkOk_by (own := [("_law_k", 16)]) (N := N_law) (sc := defScope st_law) (by decide +kernel)) (fun _ _ _ _ _ => pg_name (i := 16) nd rfl (Or.inl rfl)) (fun _ _ _ _ _ => pts_nil) (fun _ _ _ _ _ => (pe_c G_wnext (hr.mono (by decide)) rfl (pa_cons (pv 2) (pa_cons (pe_callB (call_lenK (K := K) rfl) (by rfl) T.b_len PySem.boot_len (pa_cons (pv 4) pa_nil)) pa_nil)))))
       (pss_cons (ps_set (i := 6) nd rfl (Or.inl rfl) (pe_op op_add pe_int (pe_c G_wnext (hr.mono (by decide)) rfl (pa_cons (pv 2) (pa_cons pe_int pa_nil)))))
       (pss_cons (ps_set (i := 7) nd rfl (Or.inl rfl) (pe_lst (pa_cons (pe_callTy call_list_of (by rfl) T.b_list (by decide +kernel) (pa_cons (pv 3) pa_nil)) (pa_cons (pe_lc (own := [("_law_specs_here", 17), ("_law_gaps", 18)]) (g := gTup K 2 (gCons (gName 17) (gCons (gName 18) (gNil)))) (tt := tYes) rfl nd (pi_list (pv 4)) (blkOk_by (own := [("_law_specs_here", 17), ("_law_gaps", 18)]) (N := N_law) (sc := defScope st_law) (by decide +kernel)) (fun _ _ _ _ _ => pg_tup rfl (pgs_cons (pg_name (i := 17) nd rfl (Or.inl rfl)) (pgs_cons (pg_name (i := 18) nd rfl (Or.inl rfl)) pgs_nil))) (fun _ _ _ _ _ => pts_nil) (fun _ _ _ _ _ => (pe_tup (pa_cons (pe_callTy (call_listK (K := K) rfl) (by rfl) T.b_list (by decide +kernel) (pa_cons (pv 17) pa_nil)) (pa_cons (pe_callTy (call_listK (K := K) rfl) (by rfl) T.b_list (by decide +kernel) (pa_cons (pv 18) pa_nil)) pa_nil))))) (pa_cons (pe_callTy call_list_of (by rfl) T.b_list (by decide +kernel) (pa_cons (pv 5) pa_nil)) pa_nil)))))
       (pss_cons (ps_set (i := 8) nd rfl (Or.inl rfl) (pe_mkRoutes T (hr.mono (by decide)) rfl (pa_cons (pe_ix (r := rIxL K) ix_list (pv 7) pe_int (fun _ _ => rfl)) (pa_cons (pe_ix (r := rIxL K) ix_list (pv 7) pe_int (fun _ _ => rfl)) (pa_cons (pe_ix (r := rIxL K) ix_list (pv 7) pe_int (fun _ _ => rfl)) (pa_cons (pv 6) pa_nil))))))
       (pss_cons (ps_for PassesOwn.never rfl (pi_list (pe_lst (pa_cons (pe_ix (r := rIxL K) ix_list (pv 7) pe_int (fun _ _ => rfl)) (pa_cons (pe_ix (r := rIxT K) ix_tup (pe_ix (r := rIxL K) ix_list (pe_ix (r := rIxL K) ix_list (pv 7) pe_int (fun _ _ => rfl)) pe_int (fun _ _ => rfl)) pe_int (fun _ _ => rfl)) (pa_cons (pe_ix (r := rIxT K) ix_tup (pe_ix (r := rIxL K) ix_list (pe_ix (r := rIxL K) ix_list (pv 7) pe_int (fun _ _ => rfl)) pe_int (fun _ _ => rfl)) pe_int (fun _ _ => rfl)) (pa_cons (pe_ix (r := rIxL K) ix_list (pv 7) pe_int (fun _ _ => rfl)) (pa_cons (pe_ix (r := rIxL K) ix_list (pv 7) pe_int (fun _ _ => rfl)) pa_nil))))))) (pg_name (i := 9) nd rfl (Or.inl rfl)) (pss_one (ps_expr (pe_bm PySem.F.plainAttrs_list PySem.F.slot_list_append PySem.F.type_list_append mt_append (pv 9) (pa_cons pe_non pa_nil)))))
       (pss_cons (ps_set (i := 10) nd rfl (Or.inl rfl) (pe_c G_wnext (hr.mono (by decide)) rfl (pa_cons (pv 2) (pa_cons pe_int pa_nil))))
       (pss_cons (ps_asg (pe_c G_wrun (hr.mono (by decide)) rfl (pa_cons (pv 3) (pa_cons (pv 4) (pa_cons (pv 5) (pa_cons (pv 6) (pa_cons (pv 10) pa_nil)))))) (pg_tup rfl (pgs_cons (pg_name (i := 11) nd rfl (Or.inl rfl)) (pgs_cons (pg_name (i := 12) nd rfl (Or.inl rfl)) pgs_nil))))
       (pss_cons (ps_if (PW.pt (pw_or (pt_cmpR (op_neD hr.units) (pe_c G_served (hr.mono (by decide)) rfl (pa_cons (pv 8) (pa_cons (pv 10) pa_nil))) (pv 11) (nomark _)) (pw_or1 (pt_cmpR (op_neD hr.units) (pe_kr T.d_served (fun fd F => fn_served (P := P) (w := w) (base := base) T F) (fun _ _ _ _ _ _ us hl => by match us, hl with | [_, _], _ => rfl) (hr.mono (by decide)) rfl (pk_cons (pv 10) (pk_cons (pv 8) pk_nil))) (pv 11) (nomark _))))) (pss_one (ps_ret pe_bl)) pss_nil)
       (pss_cons (ps_if (PW.pt (pw_or (pt_cmpR (op_neD hr.units) (pe_c G_commonopenings (hr.mono (by decide)) rfl (pa_cons (pv 8) (pa_cons (pv 10) pa_nil))) (pv 12) (nomark _)) (pw_or1 (pt_cmpR (op_neD hr.units) (pe_kr T.d_common_openings (fun fd F => fn_commonopenings (P := P) (w := w) (base := base) T F) (fun _ _ _ _ _ _ us hl => by match us, hl with | [_, _], _ => rfl) (hr.mono (by decide)) rfl (pk_cons (pv 10) (pk_cons (pv 8) pk_nil))) (pv 12) (nomark _))))) (pss_one (ps_ret pe_bl)) pss_nil)
       (pss_cons (ps_expr (pe_bm PySem.F.plainAttrs_list PySem.F.slot_list_append PySem.F.type_list_append mt_append (pe_c G_served (hr.mono (by decide)) rfl (pa_cons (pv 8) (pa_cons (pv 10) pa_nil))) (pa_cons pe_non pa_nil)))
       (pss_cons (ps_expr (pe_bm PySem.F.plainAttrs_list PySem.F.slot_list_append PySem.F.type_list_append mt_append (pe_c G_commonopenings (hr.mono (by decide)) rfl (pa_cons (pv 8) (pa_cons (pv 10) pa_nil))) (pa_cons pe_non pa_nil)))
       (pss_cons (ps_if (pt_cmpR (op_neD hr.units) (pe_c G_commonopenings (hr.mono (by decide)) rfl (pa_cons (pv 8) (pa_cons (pv 10) pa_nil))) (pv 12) (nomark _)) (pss_one (ps_ret pe_bl)) pss_nil)
       (pss_cons (ps_set (i := 13) nd rfl (Or.inl rfl) (G_Routesparts.p_m0 T.cf_Routes.cl (hr.mono (by decide)) (pv 8)))
       (pss_cons (ps_for PassesOwn.never rfl (pi_list (pe_lst (pa_cons (pe_ix (r := rIxT K) ix_tup (pv 13) pe_int (fun _ _ => rfl)) (pa_cons (pe_ix (r := rIxT K) ix_tup (pe_ix (r := rIxL K) ix_list (pe_ix (r := rIxT K) ix_tup (pv 13) pe_int (fun _ _ => rfl)) pe_int (fun _ _ => rfl)) pe_int (fun _ _ => rfl)) (pa_cons (pe_ix (r := rIxT K) ix_tup (pe_ix (r := rIxL K) ix_list (pe_ix (r := rIxT K) ix_tup (pv 13) pe_int (fun _ _ => rfl)) (pe_un un_neg pe_int) (fun _ _ => rfl)) pe_int (fun _ _ => rfl)) (pa_cons (pe_ix (r := rIxT K) ix_tup (pv 13) pe_int (fun _ _ => rfl)) (pa_cons (pe_ix (r := rIxT K) ix_tup (pv 13) pe_int (fun _ _ => rfl)) pa_nil))))))) (pg_name (i := 9) nd rfl (Or.inl rfl)) (pss_one (ps_expr (pe_bm PySem.F.plainAttrs_list PySem.F.slot_list_append PySem.F.type_list_append mt_append (pv 9) (pa_cons pe_non pa_nil)))))
       (pss_cons (ps_if (pt_cmpR (op_neD hr.units) (G_Routesparts.p_m0 T.cf_Routes.cl (hr.mono (by decide)) (pv 8)) (pe_tup (pa_cons (pv 3) (pa_cons (pv 4) (pa_cons (pv 5) (pa_cons (pv 6) pa_nil))))) (nomark _)) (pss_one (ps_ret pe_bl)) pss_nil)
       (pss_cons (ps_if (pt_cmpR (op_neD hr.units) (pe_c G_served (hr.mono (by decide)) rfl (pa_cons (pv 8) (pa_cons (pv 10) pa_nil))) (pv 11) (nomark _)) (pss_one (ps_ret pe_bl)) pss_nil)
       (pss_cons (ps_set (i := 14) nd rfl (Or.inl rfl) (pe_mkRoutes_step_pattern_services_common T (hr.mono (by decide)) rfl  (pk_cons (pv 6) (pk_cons (pv 5) (pk_cons (pv 4) (pk_cons (pv 3) pk_nil))))))
       (pss_cons (ps_set (i := 15) nd rfl (Or.inl rfl) (pe_tup (pa_cons (pv 3) (pa_cons (pv 4) (pa_cons (pv 5) (pa_cons (pv 6) pa_nil))))))
       (pss_cons (ps_if (PW.pt (pw_or (pt_cmpR (G_Routeseq.op_ne (hr.mono (by decide)) T.cf_Routes.om T.cf_Routes.ne) (pv 14) (pv 8) (nomark _)) (pw_or (pt_not (pt_val (pe_c G_wcountsright (hr.mono (by decide)) rfl (pa_cons (pv 2) (pa_cons (pv 8) (pa_cons (pv 14) (pa_cons (pv 15) pa_nil))))))) (pw_or1 (pt_cmpR (G_Routeseq.op_ne (hr.mono (by decide)) T.cf_Routes.om T.cf_Routes.ne) (pv 14) (pv 8) (nomark _)))))) (pss_one (ps_ret pe_bl)) pss_nil)
       (pss_cons (ps_if (pt_cmpR (G_Routeseq.op_eq (hr.mono (by decide))) (pe_mkRoutes T (hr.mono (by decide)) rfl (pa_cons (pv 3) (pa_cons (pv 4) (pa_cons (pv 5) (pa_cons (pe_op op_add (pv 6) pe_int) pa_nil))))) (pv 8) (nomark _)) (pss_one (ps_ret pe_bl)) pss_nil)
       (pss_one (ps_if (pt_cmpR (G_Routeseq.op_eq (hr.mono (by decide))) (pe_mkRoutes T (hr.mono (by decide)) rfl (pa_cons (pv 3) (pa_cons (pv 4) (pa_cons (pe_op op_cat (pv 5) (pv 5)) (pa_cons (pv 6) pa_nil))))) (pv 8) (nomark _)) (pss_one (ps_ret pe_bl)) pss_nil))))))))))))))))))))))))))
       (pss_one (ps_ret pe_bl))), ?_⟩
    refine ⟨_, rfl, a, ns, 0, rfl, hS, Int.le_refl _, fun z => ⟨(by show 1 ≤ sizeLine; decide), fun l1 hl1 => ?_⟩⟩
    have z1 : Same H (upd H l1 (.lst [.int z])) := Same.upd hl1
    refine ⟨_, rfl, 1, rfl, 3, rfl, a, ns.map V.int, rfl, z1.seq hS, fun l2 hl2 => ?_⟩
    refine ⟨l1, l2, _, _, rfl, rfl, (Same.upd hl2) _ _ upd_same, upd_same, small2 (by have := cutV_length (ns.map V.int) (some 1) (some 3); rw [List.length_map] at this; show 1 + _ ≤ 100000; omega), fun l3 hl3 => ?_⟩
    have items : ∀ v ∈ [V.int z] ++ cutV (ns.map V.int) (some 1) (some 3), ∃ c, v = .int c := fun v hv => by
      rcases List.mem_append.mp hv with hv | hv
      · exact ⟨z, by simpa using hv⟩
      · obtain ⟨c, _, e⟩ := List.mem_map.mp (List.mem_of_mem_drop (List.mem_of_mem_take hv))
        exact ⟨c, e.symm⟩
    have sI : Same H (upd (upd (upd H l1 (.lst [.int z])) l2 (.lst (cutV (ns.map V.int) (some 1) (some 3)))) l3 (.lst ([.int z] ++ cutV (ns.map V.int) (some 1) (some 3)))) := (z1.trans (Same.upd hl2)).trans (Same.upd hl3)
    generalize hit : [V.int z] ++ cutV (ns.map V.int) (some 1) (some 3) = its at items sI ⊢
    refine ⟨l3, rfl, ⟨_, SqL.of upd_same⟩, ?_⟩
    refine for_list (K := K) (a := l3) (xs := its) (fun i σ H2 => ∃ v1 v2 v3 v4 v5 v6 v7 v8 v9 v10 v11 v12 v13 v14 v15 v16 v17 v18 : Option V, σ = [some (.ref a), v1, v2, v3, v4, v5, v6, v7, v8, v9, v10, v11, v12, v13, v14, v15, v16, v17, v18] ∧ H2 l3 = some (.lst its) ∧ Same H H2)
      ⟨none, none, none, none, none, none, none, none, none, none, none, none, none, none, none, none, none, none, rfl, by rw [upd_same], sI⟩ (fun i σ H2 _ ⟨_, _, _, _, _, _, _, _, _, _, _, _, _, _, _, _, _, _, _, e, _⟩ => SqL.of e) ?_ ?_
    rotate_left
    · rintro σ H2 ⟨_, _, _, _, _, _, _, _, _, _, _, _, _, _, _, _, _, _, rfl, _, sH2⟩
      exact k H2
    rintro i v σ H0 hi ⟨v1, v2, v3, v4, v5, v6, v7, v8, v9, v10, v11, v12, v13, v14, v15, v16, v17, v18, rfl, hL, sH0⟩
    obtain ⟨cc, rfl⟩ := items v (List.mem_of_getElem? hi)
    refine ⟨_, rfl, cc, rfl, fun s H1 hs0 y1 src1 => ?_⟩
    have nls : l3 ≠ s := ne_of_none hL hs0
    have hL1 := y1 _ _ hL
    have nHs : H s = none := by
      cases c : H s with
      | none => rfl
      | some o => rw [sH0 _ _ c] at hs0; cases hs0
    obtain ⟨y1', hy1⟩ := src1.has
    refine ⟨_, rfl, s, _, 3, 12, 4, rfl, src1, by decide, by decide, by decide, by decide, by decide, by decide, by decide, fun la xa fr H2 hla hba okt okf lfr src2 k2 nla => ?_⟩
    obtain ⟨y2, hy2⟩ := src2.has
    have nlas : la ≠ s := (ne_of_none hy1 nla).symm
    refine ⟨_, rfl, s, _, rfl, src2, by decide, fun lb xb svs H3 hlb hsl oks s1 s3 src3 k3 nlb => ?_⟩
    obtain ⟨y3, hy3⟩ := src3.has
    have nlbs : lb ≠ s := (ne_of_none hy2 nlb).symm
    have xbl := paired_len hsl
    -- the pattern
    refine ⟨_, rfl, s, 6, _, rfl, by decide, by decide, src3, by omega, fun r H4 r0 r1 src4 k4 => ⟨_, _, rfl, rfl, _, rfl, by omega, by omega, fun D hD => ?_⟩⟩
    obtain ⟨pl, hpl⟩ : ∃ pl : Nat, (1 + r).toNat = pl := ⟨_, rfl⟩
    rw [hpl]
    obtain ⟨y4, hy4⟩ := src4.has
    have nDs : D ≠ s := (ne_of_none hy4 hD).symm
    have hlb4 := k4 _ _ nlbs hlb
    have nDlb : lb ≠ D := ne_of_none hlb4 hD
    refine lc_range (lo := 0) (n := pl) (fun j Hx => ∃ pat : List Nat, Hx D = some (.lst (pat.map pnV)) ∧ pat.length = j ∧ (∀ k ∈ pat, k < svs.length) ∧ Src Hx s (420000 + 1101 * j) ∧ Kp s H4 Hx)
      ⟨[], upd_same, rfl, fun k h => (nomatch h), (src4.same (Same.upd hD)).mono (by omega), fun b o _ e => by rw [upd_ne (ne_of_none e hD)]; exact e⟩ ?_ ?_
    · rintro j Hx hj ⟨pat, hDx, plen, pb, srcx, kx⟩
      refine ⟨rfl, tYes_of ⟨_, rfl, _, rfl, lb, _, rfl, .inl (SqL.of (kx _ _ nlbs hlb4)), s, (xb.length : Int), _, rfl, by omega, Nat.lt_of_le_of_lt (show (xb.length : Int).natAbs ≤ 4 by omega) (by decide +kernel), srcx, by omega, fun r' Hy r0' r1' srcy ky => ?_⟩⟩
      obtain ⟨rn, rfl⟩ := Int.eq_ofNat_of_zero_le r0'
      have hDy := ky _ _ nDs hDx
      refine ⟨_, hDy, small1 (by rw [List.length_map]; omega), pat ++ [rn], by rw [upd_same, List.map_append]; rfl, by rw [List.length_append, plen]; rfl, fun k hk => ?_, ?_, fun b o n e => ?_⟩
      · rcases List.mem_append.mp hk with hk | hk
        · exact pb k hk
        · rw [List.mem_singleton.mp hk]
          omega
      · exact src_kp Kp.upd nDs.symm (srcy.mono (by omega))
      · rw [upd_ne (ne_of_none e hD)]
        exact ky _ _ n (kx _ _ n e)
    rintro H5 ⟨pat, hD5, plen, pb, src5, k5⟩
    obtain ⟨y5, hy5⟩ := src5.has
    -- the step
    refine ⟨_, rfl, s, 3, _, rfl, by decide, by decide, src5, by omega, fun q HB q0 q1 srcB kB => ⟨_, _, rfl, rfl, ?_⟩⟩
    obtain ⟨yB, hyB⟩ := srcB.has
    obtain ⟨st, hst⟩ : ∃ st, st = 1 + q := ⟨_, rfl⟩
    show gName 6 (.int (1 + q)) _ _ _
    rw [← hst]
    have k3B := (k4.trans k5).trans kB
    have k2B := k3.trans k3B
    have n3B : NL H3 HB := Kp.nl k3B hy3
    have n2B : NL H2 HB := Kp.nl k2B hy2
    have hw : Lw57 s la lb D xa xb fr svs pat HB := ⟨k2B _ _ nlas hla, hba.nl n2B, k3B _ _ nlbs hlb, L2.Paired.mapP hsl fun _ _ z => z.mv n3B k3B.ba, kB _ _ nDs hD5, nlas, nlbs, nDs⟩
    have RO : RtOk fr svs pat st := ⟨okt, by omega, oks, by omega, by omega, by omega, by omega, pb, by omega, by omega⟩
    have hLB := k2B _ _ nls (k2 _ _ nls hL1)
    have kHB : ∀ b o, b ≠ s → H b = some o → HB b = some o := fun b o n e => k2B _ _ n (k2 _ _ n (y1 _ _ (sH0 _ _ e)))
    have sHB : Same H HB := fun b o e => kHB b o (ne_of_none e nHs) e
    have hsB := hyB
    clear hla hba hsl hlb hlb4 hD5 k3B k2B n3B n2B kHB kB k5 k4 k3 k2 src1 src2 src3 src4 src5 hS hL hL1 sH0 y1 hs0
    -- what is handed in
    refine ⟨_, rfl, la, _, rfl, .inl (SqL.of hw.f), fun lf1 hlf1 => ⟨_, rfl, lb, rfl, ⟨_, SqL.of ((Same.upd hlf1) _ _ hw.b)⟩, fun Ds hDs => ?_⟩⟩
    have sf := Same.upd (o := .lst xa) hlf1
    have gf : (upd HB lf1 (.lst xa)) lf1 = some (.lst xa) := upd_same
    have nDB : HB Ds = none := none_of sf hDs
    have nfD : lf1 ≠ Ds := ne_of_none gf hDs
    obtain ⟨Hf, eHf⟩ : ∃ Hf, Hf = upd HB lf1 (.lst xa) := ⟨_, rfl⟩
    rw [← eHf] at sf gf hDs ⊢
    refine lc_list (K := K) (a := lb) (xs := xb) (fun j Hx => ∃ zs, Hx Ds = some (.lst zs) ∧ zs.length = j ∧ Paired (SlB HB Ds Hx) zs (svs.take j) ∧ Same Hf Hx) ⟨[], upd_same, rfl, .nil, Same.upd hDs⟩ (fun j Hx _ ⟨_, _, _, _, s⟩ => SqL.of (s _ _ (sf _ _ hw.b))) ?_ ?_
    · rintro j x Hx hxj ⟨xs, hDx, xl, hz, sx⟩
      obtain ⟨sv, hsv, a', ab, ao, xb', xo, rfl, h1, h2, h3, h4, h5, _⟩ := paired_get hw.sl hxj
      have hj := (List.getElem?_eq_some_iff.mp hsv).1
      have sBx := sf.trans sx
      refine ⟨a', _, rfl, SqT.of (sBx _ _ h1), rfl, _, _, rfl, _, _, rfl, rfl, rfl, tYes_of ?_⟩
      refine ⟨_, rfl, ab, _, rfl, .inl (SqL.of (sBx _ _ h2)), fun l1 hl1 => ⟨_, rfl, ao, _, rfl, .inl (SqL.of ((Same.upd hl1) _ _ (sBx _ _ h4))), fun l2 hl2 => ⟨(by show 2 ≤ sizeLine; decide), fun t ht => ?_⟩⟩⟩
      have s1 := Same.upd (o := .lst xb') hl1
      have s2 := Same.upd (o := .lst xo) hl2
      have s3 := Same.upd (o := .tup [.ref l1, .ref l2]) ht
      have s13 := (s1.trans s2).trans s3
      have g1 := s3 _ _ (s2 _ _ (upd_same (H := Hx) (a := l1) (o := .lst xb')))
      have g2 := s3 _ _ (upd_same (H := upd Hx l1 (.lst xb')) (a := l2) (o := .lst xo))
      have g3 : (upd (upd (upd Hx l1 (.lst xb')) l2 (.lst xo)) t (.tup [.ref l1, .ref l2])) t = some (.tup [.ref l1, .ref l2]) := upd_same
      have n1 : l1 ≠ Ds := (ne_of_none hDx hl1).symm
      have n2 : l2 ≠ Ds := (ne_of_none (s1 _ _ hDx) hl2).symm
      have m1 : HB l1 = none := none_of sBx hl1
      have m2 : HB l2 = none := none_of (sBx.trans s1) hl2
      generalize upd (upd (upd Hx l1 (.lst xb')) l2 (.lst xo)) t (.tup [.ref l1, .ref l2]) = Hy at s13 g1 g2 g3 ⊢
      have hDy := s13 _ _ hDx
      have n5 := NL.upd (o := .lst (xs ++ [.ref t])) hDy
      have sxy := sBx.trans s13
      refine ⟨xs, hDy, small1 (by omega), xs ++ [.ref t], upd_same, by rw [List.length_append, xl]; rfl, ?_, fun u o e => by rw [upd_ne (ne_of_none e hDs)]; exact (sx.trans s13) _ _ e⟩
      rw [List.take_add_one, hsv]
      exact paired_app (L2.Paired.mapP hz fun _ _ z => z.mv ((NL.of s13).trans n5) fun b o m1 e => (upd_ne m1).trans (s13 _ _ e)) (.cons ⟨t, l1, l2, xb', xo, rfl, n5 _ _ g3 (fun _ z => nomatch z), (upd_ne n1).trans g1, (h3.nl (NL.of sxy)).nl n5, (upd_ne n2).trans g2, Ots.nl n5 (Ots.nl (NL.of sxy) h5), n1, n2, m1, m2⟩ .nil)
    rintro Hg ⟨zs, hDg, zl, hz, sg⟩
    rw [xbl, List.take_length] at hz
    have sBg := sf.trans sg
    refine ⟨_, rfl, D, _, rfl, .inl (SqL.of (sBg _ _ hw.t)), fun lt1 hlt1 => ⟨(by show 3 ≤ sizeLine; decide), fun lh hlh => ?_⟩⟩
    have st1 := Same.upd (o := .lst (pat.map pnV)) hlt1
    have sh := Same.upd (o := .lst [.ref lf1, .ref Ds, .ref lt1]) hlh
    have sgh := st1.trans sh
    have sBh := sBg.trans sgh
    have glh : (upd (upd Hg lt1 (.lst (pat.map pnV))) lh (.lst [.ref lf1, .ref Ds, .ref lt1])) lh = some (.lst [.ref lf1, .ref Ds, .ref lt1]) := upd_same
    have glt := sh _ _ (upd_same (H := Hg) (a := lt1) (o := .lst (pat.map pnV)))
    have ntB : HB lt1 = none := none_of sBg hlt1
    have nfB : HB lf1 = none := hlf1
    generalize upd (upd Hg lt1 (.lst (pat.map pnV))) lh (.lst [.ref lf1, .ref Ds, .ref lt1]) = Hh at sh sgh sBh glh glt ⊢
    have gf1 := sgh _ _ (sg _ _ gf)
    have gD1 := sgh _ _ hDg
    have hz1 : Paired (SlB HB Ds Hh) zs svs := L2.Paired.mapP hz fun _ _ z => z.mv (NL.of sgh) fun _ _ _ e => sgh _ _ e
    have hbf1 := hw.bf.nl (NL.of sBh)
    -- the routes
    refine ⟨_, rfl, lh, _, 0, .ref lf1, rfl, rfl, SqL.of glh, rfl, _, rfl, lh, _, 1, .ref Ds, rfl, rfl, SqL.of glh, rfl, _, rfl, lh, _, 2, .ref lt1, rfl, rfl, SqL.of glh, rfl, _, rfl, ?_⟩
    refine routes_made (fr := fr) (svs := svs) (pat := pat) (st := st) gf1 hbf1 gD1 (L2.Paired.mapP hz1 fun _ _ z => z.at) glt RO fun pr Hr RV sr nr => ?_
    -- something is appended to what was handed in
    have hzr : Paired (SlB HB Ds Hr) zs svs := L2.Paired.mapP hz1 fun _ _ z => z.mv (NL.of sr) fun _ _ _ e => sr _ _ e
    obtain ⟨z0, hz0⟩ : ∃ z0, zs[0]? = some z0 := ⟨_, List.getElem?_eq_getElem (by have := RO.s0; omega)⟩
    obtain ⟨sv0, hsv0, a0, ab0, ao0, xb0, xo0, rfl, e1, e2, e3, e4, e5, e6, e7, e8, e9⟩ := paired_get hzr hz0
    have glr := sr _ _ glh
    have gDr := sr _ _ gD1
    have at0 : atI zs ((0 : Nat) : Int) = some (.ref a0) := atI_nat hz0
    refine ⟨_, rfl, lh, _, 0, .ref lf1, rfl, rfl, SqL.of glr, rfl, ?_⟩
    refine ⟨_, rfl, lh, _, 1, .ref Ds, rfl, rfl, SqL.of glr, rfl, Ds, _, 0, .ref a0, rfl, rfl, SqL.of gDr, at0, a0, _, 0, .ref ab0, rfl, rfl, SqT.of e1, rfl, ?_⟩
    refine ⟨_, rfl, lh, _, 1, .ref Ds, rfl, rfl, SqL.of glr, rfl, Ds, _, 0, .ref a0, rfl, rfl, SqL.of gDr, at0, a0, _, 1, .ref ao0, rfl, rfl, SqT.of e1, rfl, ?_⟩
    refine ⟨_, rfl, lh, _, 1, .ref Ds, rfl, rfl, SqL.of glr, rfl, _, rfl, lh, _, 2, .ref lt1, rfl, rfl, SqL.of glr, rfl, (by show 5 ≤ sizeLine; decide), fun lz hlz => ⟨lz, rfl, ⟨_, SqL.of upd_same⟩, ?_⟩⟩
    have sz := Same.upd (o := .lst [.ref lf1, .ref ab0, .ref ao0, .ref Ds, .ref lt1]) hlz
    have gz : (upd Hr lz (.lst [.ref lf1, .ref ab0, .ref ao0, .ref Ds, .ref lt1])) lz = some (.lst [.ref lf1, .ref ab0, .ref ao0, .ref Ds, .ref lt1]) := upd_same
    generalize upd Hr lz (.lst [.ref lf1, .ref ab0, .ref ao0, .ref Ds, .ref lt1]) = Hz at sz gz ⊢
    have sBz := (sBh.trans sr).trans sz
    have zl10 := RO.s1
    have xb0l := e3.len
    have okv0 : OkSv sv0 := RO.okS sv0 (List.mem_of_getElem? hsv0)
    have xo0l : xo0.length = sv0.2.length := by rw [paired_len e5, outs_len]
    have fr12 := RO.lnC
    have xal := hw.bf.len
    have sb12 := okv0.2.1
    have so50 := okv0.2.2.2
    have p120 := RO.p1
    have nzm : lz ∉ [lf1, ab0, ao0, Ds, lt1] := fun h => by
      simp only [List.mem_cons, List.mem_nil_iff, or_false] at h
      rcases h with rfl | rfl | rfl | rfl | rfl
      · rw [sr _ _ gf1] at hlz; cases hlz
      · rw [e2] at hlz; cases hlz
      · rw [e4] at hlz; cases hlz
      · rw [gDr] at hlz; cases hlz
      · rw [sr _ _ glt] at hlz; cases hlz
    have ap0 : ApOk HB Hz [lf1, ab0, ao0, Ds, lt1] 0 Hz := ⟨fun x h => by
      simp only [List.mem_cons, List.mem_nil_iff, or_false] at h
      rcases h with rfl | rfl | rfl | rfl | rfl
      · exact ⟨nfB, _, sz _ _ (sr _ _ gf1), by omega⟩
      · exact ⟨e8, _, sz _ _ e2, by omega⟩
      · exact ⟨e9, _, sz _ _ e4, by omega⟩
      · exact ⟨nDB, _, sz _ _ gDr, by omega⟩
      · exact ⟨ntB, _, sz _ _ (sr _ _ glt), by rw [List.length_map]; omega⟩, sBz, NL.of (Same.refl _), fun b o _ e => e⟩
    refine for_list (K := K) (a := lz) (xs := [.ref lf1, .ref ab0, .ref ao0, .ref Ds, .ref lt1]) (fun i σ Hx => ∃ v9 v10 v11 v12 v13 v14 v15 v16 v17 v18 : Option V, σ = [some (.ref a), some (.int cc), some (.ref s), some (.ref la), some (.ref lb), some (.ref D), some (.int st), some (.ref lh), some (.ref pr), v9, v10, v11, v12, v13, v14, v15, v16, v17, v18] ∧ ApOk HB Hz [lf1, ab0, ao0, Ds, lt1] i Hx)
      ⟨_, _, _, _, _, _, _, _, _, _, rfl, ap0⟩ (fun i σ Hx _ ⟨_, _, _, _, _, _, _, _, _, _, _, ap⟩ => SqL.of (ap.k _ _ nzm gz)) ?_ ?_
    · rintro i x σ Hx hx ⟨v9, v10, v11, v12, v13, v14, v15, v16, v17, v18, rfl, ap⟩
      have i5 := (List.getElem?_eq_some_iff.mp hx).1
      have i5 : i < 5 := i5
      obtain ⟨x, rfl, hm⟩ : ∃ y, x = V.ref y ∧ y ∈ [lf1, ab0, ao0, Ds, lt1] := by
        have := List.mem_of_getElem? hx
        simp only [List.mem_cons, List.mem_nil_iff, or_false] at this ⊢
        rcases this with rfl | rfl | rfl | rfl | rfl
        · exact ⟨_, rfl, .inl rfl⟩
        · exact ⟨_, rfl, .inr (.inl rfl)⟩
        · exact ⟨_, rfl, .inr (.inr (.inl rfl))⟩
        · exact ⟨_, rfl, .inr (.inr (.inr (.inl rfl)))⟩
        · exact ⟨_, rfl, .inr (.inr (.inr (.inr rfl)))⟩
      obtain ⟨ys, g1, g2, ap'⟩ := ap.step hm
      exact ⟨_, rfl, .inl ⟨rfl, _, SqL.of g1⟩, x, ys, .non, rfl, rfl, g1, small1 (by omega), ⟨_, _, _, _, _, _, _, _, _, _, rfl, ap'⟩⟩
    rintro σ HC ⟨v9, v10, v11, v12, v13, v14, v15, v16, v17, v18, rfl, ap⟩
    have sBC := ap.s
    have hwC := hw.mv (NL.of sBC) (Kp.of sBC)
    have srcC := srcB.same sBC
    have RVC := (RV.nl (NL.of sz)).nl ap.n
    have hLC := sBC _ _ hLB
    have sHC := sHB.trans sBC
    clear ap ap0 gz glr gDr at0 e1 e2 e3 e4 e5 e6 e7 e8 e9 hzr hz0 hsv0 hz1 hz gf gD1 gf1 sf sg sBg sgh sBh sr sz sBz st1 sh glh glt hw srcB RV hLB sHB hsB hDg hyB
    -- the requests of the law
    refine ⟨_, rfl, s, 151, _, rfl, by decide, by decide, srcC, by omega, fun r' HD' r'0 r'1 srcD kD => ?_⟩
    obtain ⟨n, rfl⟩ := Int.eq_ofNat_of_zero_le r'0
    obtain ⟨yC, hyC⟩ := srcC.has
    have nCD := Kp.nl kD hyC
    have hwD := hwC.mv nCD kD
    have RVD := RVC.nl nCD
    have n200 : n ≤ 200 := by omega
    refine ⟨_, rfl, _, rfl, _, rfl, _, rfl, _, rfl, la, lb, D, n, xa, xb, fr, svs, pat, st, rfl, hwD.f, hwD.bf, hwD.b, hwD.at, hwD.t, RO, n200, fun T1 l1 xs1 l2 xs2 HE hT1 hl1 xl1 hx1 hl2 hx2 sDE nT1 => ?_⟩
    refine ⟨T1, _, rfl, SqT.of hT1, rfl, _, _, rfl, _, _, rfl, rfl, ?_⟩
    have p1 := cts_pr xl1 hx1
    have srcE := srcD.same sDE
    have hwE := hwD.mv (NL.of sDE) (Kp.of sDE)
    have RVE := RVD.nl (NL.of sDE)
    have nl1 : l1 ≠ s := src_prs srcE hl1 p1
    have nl2 : l2 ≠ s := src_prs srcE hl2 hx2
    -- what is told beside them
    refine ⟨_, rfl, _, rfl, pr, fr, svs, pat, st, n, rfl, RVE, by omega, fun u3 xs3 Ha hu3 xl3 hx3 sa nl3 => ?_⟩
    obtain ⟨d1, d2, f1, f2, f3, f4, f5⟩ := ne_prs (K := K) hu3 (cts_pr xl3 hx3) (sa _ _ hl1) (L2.Paired.mapP p1 fun _ _ z => z.nl (NL.of sa))
    refine ⟨_, rfl, d1, d2, f1, f2, f3, f4, false, by rw [f5]; rfl, iteF ?_⟩
    refine ⟨_, rfl, _, rfl, rfl, rfl, pr, fr, svs, pat, st, n, rfl, RVE.nl (NL.of sa), by omega, fun l4 xs4 Hb hl4 xl4 hx4 sb nl4 => ?_⟩
    have sab := sa.trans sb
    obtain ⟨d1, d2, f1, f2, f3, f4, f5⟩ := ne_prs (K := K) hl4 (cts_pr xl4 hx4) (sab _ _ hl1) (L2.Paired.mapP p1 fun _ _ z => z.nl (NL.of sab))
    refine ⟨_, rfl, d1, d2, f1, f2, f3, f4, false, by rw [f5]; rfl, iteF ?_⟩
    refine ⟨_, rfl, _, rfl, pr, fr, svs, pat, st, n, rfl, RVE.nl (NL.of sab), by omega, fun l5 xs5 Hc hl5 hx5 sc nl5 => ?_⟩
    have sac := sab.trans sc
    obtain ⟨d1, d2, f1, f2, f3, f4, f5⟩ := ne_prs (K := K) hl5 hx5 (sac _ _ hl2) (L2.Paired.mapP hx2 fun _ _ z => z.nl (NL.of sac))
    refine ⟨_, rfl, d1, d2, f1, f2, f3, f4, false, by rw [f5]; rfl, iteF ?_⟩
    refine ⟨_, rfl, _, rfl, rfl, rfl, pr, fr, svs, pat, st, n, rfl, RVE.nl (NL.of sac), by omega, fun l6 xs6 Hd hl6 hx6 sd nl6 => ?_⟩
    have sad := sac.trans sd
    obtain ⟨d1, d2, f1, f2, f3, f4, f5⟩ := ne_prs (K := K) hl6 hx6 (sad _ _ hl2) (L2.Paired.mapP hx2 fun _ _ z => z.nl (NL.of sad))
    refine ⟨_, rfl, d1, d2, f1, f2, f3, f4, false, by rw [f5]; rfl, iteF ?_⟩
    -- something is appended to what is told
    refine ⟨_, rfl, _, rfl, pr, fr, svs, pat, st, n, rfl, RVE.nl (NL.of sad), by omega, fun l7 xs7 He hl7 xl7 hx7 se nl7 => ⟨.inl ⟨rfl, _, SqL.of hl7⟩, l7, xs7, .non, rfl, rfl, hl7, small1 (by omega), ?_⟩⟩
    have se' : Same Hd (upd He l7 (.lst (xs7 ++ [V.non]))) := fun b o e => by rw [upd_ne (ne_of_none e nl7)]; exact se _ _ e
    have sae := sad.trans se'
    refine ⟨_, rfl, _, rfl, pr, fr, svs, pat, st, n, rfl, RVE.nl (NL.of sae), by omega, fun l8 xs8 Hf hl8 hx8 sf nl8 => ⟨.inl ⟨rfl, _, SqL.of hl8⟩, l8, xs8, .non, rfl, rfl, hl8, small1 (by
      have h1 := paired_len hx8
      have h2 := opsL_len fr svs pat st n
      have h3 : fr.length * n ≤ 4 * 150 := Nat.mul_le_mul (by omega) (by omega)
      omega), ?_⟩⟩
    have sf' : Same (upd He l7 (.lst (xs7 ++ [V.non]))) (upd Hf l8 (.lst (xs8 ++ [V.non]))) := fun b o e => by rw [upd_ne (ne_of_none e nl8)]; exact sf _ _ e
    have saf := sae.trans sf'
    generalize upd Hf l8 (.lst (xs8 ++ [V.non])) = HF at saf ⊢
    refine ⟨_, rfl, _, rfl, pr, fr, svs, pat, st, n, rfl, RVE.nl (NL.of saf), by omega, fun l9 xs9 Hg hl9 hx9 sg nl9 => ?_⟩
    have sag := saf.trans sg
    obtain ⟨d1, d2, f1, f2, f3, f4, f5⟩ := ne_prs (K := K) hl9 hx9 (sag _ _ hl2) (L2.Paired.mapP hx2 fun _ _ z => z.nl (NL.of sag))
    refine ⟨_, rfl, d1, d2, f1, f2, f3, f4, false, by rw [f5]; rfl, iteF ?_⟩
    -- the parts, and what is appended to them
    have hwG := hwE.mv (NL.of sag) (Kp.of sag)
    have RVG := RVE.nl (NL.of sag)
    have srcG := srcE.same sag
    have gG1 := sag _ _ hl1
    have pG1 : Paired (PrAt Hg) xs1 (cntL fr svs pat st n) := L2.Paired.mapP p1 fun _ _ z => z.nl (NL.of sag)
    have kCG : Kp s HC Hg := kD.trans (Kp.of (sDE.trans sag))
    have hLG := kCG _ _ nls hLC
    have kHG : Kp s H Hg := (Kp.of sHC).trans kCG
    clear hwC hwD hwE RVC RVD RVE sag saf hl1 hx1 p1 f1 f2 f3 f4 sg sf' se' sf se sae sad sac sab sa sb sc sd hl3 hl4 hl5 hl6 hl7 hl8 hl9 hx3 hx4 hx5 hx6 hx7 hx8 hx9 sDE hT1 hu3
    obtain ⟨dx1, fs1, o1, o2⟩ := RVG.own
    refine ⟨_, rfl, pr, dx1, fs1, rfl, o1, o2, pr, fr, svs, pat, st, rfl, RVG, fun T2 lc ls lp xc zs HH hT2 hlc hbc hls hzs hlp sH nT2 nlc nls' nlp => ?_⟩
    have zl := paired_len hzs
    have s0' := RO.s0
    obtain ⟨z0, hz0⟩ : ∃ z0, zs[0]? = some z0 := ⟨_, List.getElem?_eq_getElem (by omega)⟩
    obtain ⟨sv0, hsv0, a0, ab0, ao0, xb0, xo0, rfl, e1, e2, e3, e4, e5, e6, e7, e8, e9⟩ := paired_get hzs hz0
    obtain ⟨w0, hw0, hw0'⟩ := getLast_atI (xs := zs) (by omega)
    obtain ⟨sv1, hsv1, a1, ab1, ao1, xb1, xo1, rfl, g1, g2, g3, g4, g5, g6, g7, g8, g9⟩ := paired_get hzs hw0'
    have at0 : atI zs ((0 : Nat) : Int) = some (.ref a0) := atI_nat hz0
    refine ⟨_, rfl, T2, _, 0, .ref lc, rfl, rfl, SqT.of hT2, rfl, ?_⟩
    refine ⟨_, rfl, T2, _, 1, .ref ls, rfl, rfl, SqT.of hT2, rfl, ls, _, 0, .ref a0, rfl, rfl, SqL.of hls, at0, a0, _, 0, .ref ab0, rfl, rfl, SqT.of e1, rfl, ?_⟩
    refine ⟨_, rfl, T2, _, 1, .ref ls, rfl, rfl, SqT.of hT2, rfl, 1, rfl, ls, _, -1, .ref a1, rfl, rfl, SqL.of hls, hw0, a1, _, 1, .ref ao1, rfl, rfl, SqT.of g1, rfl, ?_⟩
    refine ⟨_, rfl, T2, _, 1, .ref ls, rfl, rfl, SqT.of hT2, rfl, _, rfl, T2, _, 2, .ref lp, rfl, rfl, SqT.of hT2, rfl, (by show 5 ≤ sizeLine; decide), fun lz hlz => ⟨lz, rfl, ⟨_, SqL.of upd_same⟩, ?_⟩⟩
    have sz := Same.upd (o := .lst [.ref lc, .ref ab0, .ref ao1, .ref ls, .ref lp]) hlz
    have gz : (upd HH lz (.lst [.ref lc, .ref ab0, .ref ao1, .ref ls, .ref lp])) lz = some (.lst [.ref lc, .ref ab0, .ref ao1, .ref ls, .ref lp]) := upd_same
    generalize upd HH lz (.lst [.ref lc, .ref ab0, .ref ao1, .ref ls, .ref lp]) = Hz at sz gz ⊢
    have nzm : lz ∉ [lc, ab0, ao1, ls, lp] := fun h => by
      simp only [List.mem_cons, List.mem_nil_iff, or_false] at h
      rcases h with rfl | rfl | rfl | rfl | rfl
      · rw [hlc] at hlz; cases hlz
      · rw [e2] at hlz; cases hlz
      · rw [g4] at hlz; cases hlz
      · rw [hls] at hlz; cases hlz
      · rw [hlp] at hlz; cases hlz
    have okv0 : OkSv sv0 := RO.okS sv0 (List.mem_of_getElem? hsv0)
    have okv1 : OkSv sv1 := RO.okS sv1 (List.mem_of_getElem? hsv1)
    have q1 := okv0.2.1
    have q2 := okv1.2.2.2
    have q3 : xb0.length = sv0.1.length := e3.len
    have q4 : xo1.length = sv1.2.length := by rw [paired_len g5, outs_len]
    have q5 := hbc.len
    have ap0 : ApOk Hg Hz [lc, ab0, ao1, ls, lp] 0 Hz := ⟨fun x h => by
      simp only [List.mem_cons, List.mem_nil_iff, or_false] at h
      rcases h with rfl | rfl | rfl | rfl | rfl
      · exact ⟨nlc, _, sz _ _ hlc, by omega⟩
      · exact ⟨e8, _, sz _ _ e2, by omega⟩
      · exact ⟨g9, _, sz _ _ g4, by omega⟩
      · exact ⟨nls', _, sz _ _ hls, by omega⟩
      · exact ⟨nlp, _, sz _ _ hlp, by rw [List.length_map]; omega⟩, sH.trans sz, NL.of (Same.refl _), fun b o _ e => e⟩
    refine for_list (K := K) (a := lz) (xs := [.ref lc, .ref ab0, .ref ao1, .ref ls, .ref lp]) (fun i σ Hx => ∃ v9 v13 v14 v15 v16 v17 v18 : Option V, σ = [some (.ref a), some (.int cc), some (.ref s), some (.ref la), some (.ref lb), some (.ref D), some (.int st), some (.ref lh), some (.ref pr), v9, some (.int (n : Int)), some (.ref l1), some (.ref l2), v13, v14, v15, v16, v17, v18] ∧ ApOk Hg Hz [lc, ab0, ao1, ls, lp] i Hx)
      ⟨_, _, _, _, _, _, _, rfl, ap0⟩ (fun i σ Hx _ ⟨_, _, _, _, _, _, _, _, ap⟩ => SqL.of (ap.k _ _ nzm gz)) ?_ ?_
    · rintro i x σ Hx hx ⟨v9, v13, v14, v15, v16, v17, v18, rfl, ap⟩
      have i5 := (List.getElem?_eq_some_iff.mp hx).1
      have i5 : i < 5 := i5
      obtain ⟨x, rfl, hm⟩ : ∃ y, x = V.ref y ∧ y ∈ [lc, ab0, ao1, ls, lp] := by
        have := List.mem_of_getElem? hx
        simp only [List.mem_cons, List.mem_nil_iff, or_false] at this ⊢
        rcases this with rfl | rfl | rfl | rfl | rfl
        · exact ⟨_, rfl, .inl rfl⟩
        · exact ⟨_, rfl, .inr (.inl rfl)⟩
        · exact ⟨_, rfl, .inr (.inr (.inl rfl))⟩
        · exact ⟨_, rfl, .inr (.inr (.inr (.inl rfl)))⟩
        · exact ⟨_, rfl, .inr (.inr (.inr (.inr rfl)))⟩
      obtain ⟨ys, g1, g2, ap'⟩ := ap.step hm
      exact ⟨_, rfl, .inl ⟨rfl, _, SqL.of g1⟩, x, ys, .non, rfl, rfl, g1, small1 (by omega), ⟨_, _, _, _, _, _, _, rfl, ap'⟩⟩
    rintro σ HI ⟨v9, v13, v14, v15, v16, v17, v18, rfl, ap⟩
    have sGI := ap.s
    clear ap ap0 gz hzs e1 e2 e3 e4 e5 e6 e7 e8 e9 g1 g2 g3 g4 g5 g6 g7 g8 g9 hz0 hsv0 hsv1 hw0 hw0' at0 hlc hbc hls hlp hT2 o1 sz sH
    -- the parts again
    have RVI := RVG.nl (NL.of sGI)
    have hwI := hwG.mv (NL.of sGI) (Kp.of sGI)
    obtain ⟨dx2, fs2, o1, o2⟩ := RVI.own
    refine ⟨_, rfl, pr, dx2, fs2, rfl, o1, o2, pr, fr, svs, pat, st, rfl, RVI, fun T3 lc ls lp xc zs HJ hT3 hlc hbc hls hzs hlp sJ nT3 _ _ _ => ?_⟩
    refine ⟨_, rfl, _, rfl, _, rfl, _, rfl, (by show 4 ≤ sizeLine; decide), fun T4 hT4 => ?_⟩
    have s4 := Same.upd (o := .tup [.ref la, .ref lb, .ref D, .int st]) hT4
    have gT4 : (upd HJ T4 (.tup [.ref la, .ref lb, .ref D, .int st])) T4 = some (.tup [.ref la, .ref lb, .ref D, .int st]) := upd_same
    generalize upd HJ T4 (.tup [.ref la, .ref lb, .ref D, .int st]) = HK at s4 gT4 ⊢
    have sIK := sJ.trans s4
    have hwK := hwI.mv (NL.of sIK) (Kp.of sIK)
    have RVK := RVI.nl (NL.of sIK)
    have hzK : Paired (SlAt HK) zs svs := L2.Paired.mapP hzs fun _ _ z => (z.mv (NL.of s4) fun _ _ _ e => s4 _ _ e).at
    have shP : CanN 12 (.tuple [.list (fr.map triD), .list (svs.map svL), .list (pat.map pnD), .int st]) := (canT (n := 9) (can1 ((canL (canM can_tri)).mono (by decide)) (can1 (canL (canM can_svL)) (can1 ((canL (canM can_pn)).mono (by decide)) (can1 ((canI _).mono (by decide)) can0))))).mono (by decide)
    have eqP : PyData.eqv (.tuple [.list (fr.map triD), .list (svs.map svL), .list (pat.map pnD), .int st]) (.tuple [.list (fr.map triD), .list (svs.map svL), .list (pat.map pnD), .int st]) = true := eqvT (eqv1 (eqvL (eqvM eqv_tri)) (eqv1 (eqvL (eqvM eqv_svL)) (eqv1 (eqvL (eqvM fun k => by rw [pnD_eq, decide_eq_true rfl])) (eqv1 (eqvI _) eqv0))))
    refine ⟨_, _, .tup (SqT.of (s4 _ _ hT3)) (.cons (.lst (SqL.of (s4 _ _ hlc)) (hbc.nl (NL.of s4)).dp) (.cons (.lst (SqL.of (s4 _ _ hls)) (svsL_dp hzK)) (.cons (.lst (SqL.of (s4 _ _ hlp)) (pns_dp _)) (.cons (.int _) .nil)))),
      .tup (SqT.of gT4) (.cons (.lst (SqL.of hwK.f) hwK.bf.dp) (.cons (.lst (SqL.of hwK.b) (svsL_dp hwK.at)) (.cons (.lst (SqL.of hwK.t) (pns_dp _)) (.cons (.int _) .nil)))), sh_can shP, sh_can shP, false, by rw [eqP]; rfl, iteF ?_⟩
    have sGK := sGI.trans sIK
    refine ⟨_, rfl, _, rfl, pr, fr, svs, pat, st, n, rfl, RVK, by omega, fun u1 us1 HM hu1 ul1 hx1 sM nu1 => ?_⟩
    have sGM := sGK.trans sM
    obtain ⟨d1, d2, f1, f2, f3, f4, f5⟩ := ne_prs (K := K) hu1 (cts_pr ul1 hx1) (sGM _ _ gG1) (L2.Paired.mapP pG1 fun _ _ z => z.nl (NL.of sGM))
    refine ⟨_, rfl, d1, d2, f1, f2, f3, f4, false, by rw [f5]; rfl, iteF ?_⟩
    have hwM := hwG.mv (NL.of sGM) (Kp.of sGM)
    have RVM := RVG.nl (NL.of sGM)
    have srcM := srcG.same sGM
    -- the second routes
    refine ⟨_, rfl, _, rfl, _, rfl, _, rfl, rfl, rfl, ?_⟩
    refine routes_made (fr := fr) (svs := svs) (pat := pat) (st := st) hwM.f hwM.bf hwM.b hwM.at hwM.t RO fun tw HN RVw sN nw => ?_
    refine ⟨_, rfl, _, rfl, _, rfl, _, rfl, (by show 4 ≤ sizeLine; decide), fun T5 hT5 => ?_⟩
    have s5 := Same.upd (o := .tup [.ref la, .ref lb, .ref D, .int st]) hT5
    have gT5 : (upd HN T5 (.tup [.ref la, .ref lb, .ref D, .int st])) T5 = some (.tup [.ref la, .ref lb, .ref D, .int st]) := upd_same
    generalize upd HN T5 (.tup [.ref la, .ref lb, .ref D, .int st]) = HO at s5 gT5 ⊢
    have sMO := sN.trans s5
    have RVO := RVM.nl (NL.of sMO)
    have RVwO := RVw.nl (NL.of s5)
    have hwO := hwM.mv (NL.of sMO) (Kp.of sMO)
    have srcO := srcM.same sMO
    obtain ⟨yO, hyO⟩ := srcO.has
    refine ⟨_, rfl, _, rfl, ne_rt RVwO RVO ?_⟩
    rw [decide_eq_true (And.intro rfl rfl)]
    refine ⟨_, rfl, iteF ?_⟩
    refine ⟨_, rfl, _, rfl, _, rfl, _, rfl, s, _, pr, tw, T5, la, lb, D, xa, xb, fr, svs, pat, st, rfl, srcO, by omega, RVO, RVwO, gT5, hwO, RO, fun HP kP => ?_⟩
    have nOP := Kp.nl kP hyO
    have RVP := RVO.nl nOP
    have RVwP := RVwO.nl nOP
    have hwP := hwO.mv nOP kP
    refine ⟨_, rfl, iteF ?_⟩
    refine ⟨_, rfl, _, rfl, ne_rt RVwP RVP ?_⟩
    rw [decide_eq_true (And.intro rfl rfl)]
    refine ⟨_, rfl, iteF ?_⟩
    -- other routes
    refine ⟨_, rfl, _, rfl, _, rfl, _, rfl, _, _, rfl, rfl, ?_⟩
    refine routes_made (fr := fr) (svs := svs) (pat := pat) (st := st + 1) hwP.f hwP.bf hwP.b hwP.at hwP.t ⟨RO.okC, RO.lnC, RO.okS, RO.s0, RO.s1, RO.p0, RO.p1, RO.pb, by omega, by omega⟩ fun t1 HQ RV1 sQ nt1 => ?_
    refine ⟨_, rfl, eq_rt RV1 (RVP.nl (NL.of sQ)) ?_⟩
    rw [decide_eq_false (show ¬ (pat = pat ∧ st + 1 = st) by omega)]
    refine ⟨_, rfl, iteF ?_⟩
    have hwQ := hwP.mv (NL.of sQ) (Kp.of sQ)
    refine ⟨_, rfl, _, rfl, _, rfl, _, rfl, D, D, _, _, rfl, rfl, hwQ.t, hwQ.t, small2 (by rw [List.length_map]; omega), fun l8 hl8 => ⟨_, rfl, ?_⟩⟩
    have s8 := Same.upd (o := .lst (pat.map pnV ++ pat.map pnV)) hl8
    have g8 : (upd HQ l8 (.lst (pat.map pnV ++ pat.map pnV))) l8 = some (.lst ((pat ++ pat).map pnV)) := by rw [upd_same, List.map_append]
    generalize upd HQ l8 (.lst (pat.map pnV ++ pat.map pnV)) = HR at s8 g8 ⊢
    have hwR := hwQ.mv (NL.of s8) (Kp.of s8)
    refine routes_made (fr := fr) (svs := svs) (pat := pat ++ pat) (st := st) hwR.f hwR.bf hwR.b hwR.at g8 ⟨RO.okC, RO.lnC, RO.okS, RO.s0, RO.s1, by rw [List.length_append]; omega, by rw [List.length_append]; omega, fun k hk => (List.mem_append.mp hk).elim (RO.pb k) (RO.pb k), RO.st0, RO.st1⟩ fun t2 HS RV2 sS nt2 => ?_
    refine ⟨_, rfl, eq_rt RV2 (((RVP.nl (NL.of sQ)).nl (NL.of s8)).nl (NL.of sS)) ?_⟩
    rw [decide_eq_false (show ¬ (pat ++ pat = pat ∧ st = st) from fun h => by
      have := congrArg List.length h.1
      rw [List.length_append] at this
      omega)]
    refine ⟨_, rfl, iteF ?_⟩
    have kEnd : Kp s Hg HS := ((Kp.of (sGM.trans sMO)).trans kP).trans (Kp.of ((sQ.trans s8).trans sS))
    exact ⟨_, _, _, _, _, _, _, _, _, _, _, _, _, _, _, _, _, _, rfl, kEnd _ _ nls hLG, fun b o e => kEnd _ _ (ne_of_none e nHs) (kHG _ _ (ne_of_none e nHs) e)⟩
end
/-! ### the end -/
theorem bn_q0 (kV doc pm : Value) (an : Option Addr) (cdv ct : Value) (us : List Value) (hl : us.length = (["value"] : List Str).length) : bindArgs (PySem.W.fnOf "is_integer" "is_integer" (defArgs st_is_integer) (defBody st_is_integer) (defScope st_is_integer) .none kV doc pm an cdv ct) ⟨us, []⟩ = pure ((["value"] : List Str).zip us) :=
  match us, hl with | [_], _ => rfl
theorem bn_q1 (kV doc pm : Value) (an : Option Addr) (cdv ct : Value) (us : List Value) (hl : us.length = (["value", "least"] : List Str).length) : bindArgs (PySem.W.fnOf "is_at_least" "is_at_least" (defArgs st_is_at_least) (defBody st_is_at_least) (defScope st_is_at_least) .none kV doc pm an cdv ct) ⟨us, []⟩ = pure ((["value", "least"] : List Str).zip us) :=
  match us, hl with | [_, _], _ => rfl
theorem bn_q2 (kV doc pm : Value) (an : Option Addr) (cdv ct : Value) (us : List Value) (hl : us.length = (["value", "least", "most"] : List Str).length) : bindArgs (PySem.W.fnOf "is_within" "is_within" (defArgs st_is_within) (defBody st_is_within) (defScope st_is_within) .none kV doc pm an cdv ct) ⟨us, []⟩ = pure ((["value", "least", "most"] : List Str).zip us) :=
  match us, hl with | [_, _, _], _ => rfl
theorem bn_q3 (kV doc pm : Value) (an : Option Addr) (cdv ct : Value) (us : List Value) (hl : us.length = (["value"] : List Str).length) : bindArgs (PySem.W.fnOf "is_breaker" "is_breaker" (defArgs st_is_breaker) (defBody st_is_breaker) (defScope st_is_breaker) .none kV doc pm an cdv ct) ⟨us, []⟩ = pure ((["value"] : List Str).zip us) :=
  match us, hl with | [_], _ => rfl
theorem bn_q4 (kV doc pm : Value) (an : Option Addr) (cdv ct : Value) (us : List Value) (hl : us.length = (["breakers", "part"] : List Str).length) : bindArgs (PySem.W.fnOf "check_breakers" "check_breakers" (defArgs st_check_breakers) (defBody st_check_breakers) (defScope st_check_breakers) .none kV doc pm an cdv ct) ⟨us, []⟩ = pure ((["breakers", "part"] : List Str).zip us) :=
  match us, hl with | [_, _], _ => rfl
theorem bn_q5 (kV doc pm : Value) (an : Option Addr) (cdv ct : Value) (us : List Value) (hl : us.length = (["step"] : List Str).length) : bindArgs (PySem.W.fnOf "check_step" "check_step" (defArgs st_check_step) (defBody st_check_step) (defScope st_check_step) .none kV doc pm an cdv ct) ⟨us, []⟩ = pure ((["step"] : List Str).zip us) :=
  match us, hl with | [_], _ => rfl
theorem bn_q6 (kV doc pm : Value) (an : Option Addr) (cdv ct : Value) (us : List Value) (hl : us.length = (["number"] : List Str).length) : bindArgs (PySem.W.fnOf "closed_states" "closed_states" (defArgs st_closed_states) (defBody st_closed_states) (defScope st_closed_states) .none kV doc pm an cdv ct) ⟨us, []⟩ = pure ((["number"] : List Str).zip us) :=
  match us, hl with | [_], _ => rfl
theorem bn_q7 (kV doc pm : Value) (an : Option Addr) (cdv ct : Value) (us : List Value) (hl : us.length = (["breaker", "state", "time"] : List Str).length) : bindArgs (PySem.W.fnOf "passes" "passes" (defArgs st_passes) (defBody st_passes) (defScope st_passes) .none kV doc pm an cdv ct) ⟨us, []⟩ = pure ((["breaker", "state", "time"] : List Str).zip us) :=
  match us, hl with | [_, _, _], _ => rfl
theorem bn_q8 (kV doc pm : Value) (an : Option Addr) (cdv ct : Value) (us : List Value) (hl : us.length = (["breaker", "state", "time", "succeeded"] : List Str).length) : bindArgs (PySem.W.fnOf "state_behind" "state_behind" (defArgs st_state_behind) (defBody st_state_behind) (defScope st_state_behind) .none kV doc pm an cdv ct) ⟨us, []⟩ = pure ((["breaker", "state", "time", "succeeded"] : List Str).zip us) :=
  match us, hl with | [_, _, _, _], _ => rfl
theorem bn_q9 (kV doc pm : Value) (an : Option Addr) (cdv ct : Value) (us : List Value) (hl : us.length = (["breakers", "states", "time", "up"] : List Str).length) : bindArgs (PySem.W.fnOf "sent" "sent" (defArgs st_sent) (defBody st_sent) (defScope st_sent) .none kV doc pm an cdv ct) ⟨us, []⟩ = pure ((["breakers", "states", "time", "up"] : List Str).zip us) :=
  match us, hl with | [_, _, _, _], _ => rfl
theorem bn_q10 (kV doc pm : Value) (an : Option Addr) (cdv ct : Value) (us : List Value) (hl : us.length = (["outages"] : List Str).length) : bindArgs (PySem.W.fnOf "check_outages" "check_outages" (defArgs st_check_outages) (defBody st_check_outages) (defScope st_check_outages) .none kV doc pm an cdv ct) ⟨us, []⟩ = pure ((["outages"] : List Str).zip us) :=
  match us, hl with | [_], _ => rfl
theorem bn_q11 (kV doc pm : Value) (an : Option Addr) (cdv ct : Value) (us : List Value) (hl : us.length = (["value"] : List Str).length) : bindArgs (PySem.W.fnOf "is_outage" "is_outage" (defArgs st_is_outage) (defBody st_is_outage) (defScope st_is_outage) .none kV doc pm an cdv ct) ⟨us, []⟩ = pure ((["value"] : List Str).zip us) :=
  match us, hl with | [_], _ => rfl
theorem bn_q12 (kV doc pm : Value) (an : Option Addr) (cdv ct : Value) (us : List Value) (hl : us.length = (["value"] : List Str).length) : bindArgs (PySem.W.fnOf "is_service" "is_service" (defArgs st_is_service) (defBody st_is_service) (defScope st_is_service) .none kV doc pm an cdv ct) ⟨us, []⟩ = pure ((["value"] : List Str).zip us) :=
  match us, hl with | [_], _ => rfl
theorem bn_q13 (kV doc pm : Value) (an : Option Addr) (cdv ct : Value) (us : List Value) (hl : us.length = (["services"] : List Str).length) : bindArgs (PySem.W.fnOf "check_services" "check_services" (defArgs st_check_services) (defBody st_check_services) (defScope st_check_services) .none kV doc pm an cdv ct) ⟨us, []⟩ = pure ((["services"] : List Str).zip us) :=
  match us, hl with | [_], _ => rfl
theorem bn_q14 (kV doc pm : Value) (an : Option Addr) (cdv ct : Value) (us : List Value) (hl : us.length = (["pattern", "number"] : List Str).length) : bindArgs (PySem.W.fnOf "check_pattern" "check_pattern" (defArgs st_check_pattern) (defBody st_check_pattern) (defScope st_check_pattern) .none kV doc pm an cdv ct) ⟨us, []⟩ = pure ((["pattern", "number"] : List Str).zip us) :=
  match us, hl with | [_, _], _ => rfl
theorem bn_q15 (kV doc pm : Value) (an : Option Addr) (cdv ct : Value) (us : List Value) (hl : us.length = (["outages", "time"] : List Str).length) : bindArgs (PySem.W.fnOf "is_up" "is_up" (defArgs st_is_up) (defBody st_is_up) (defScope st_is_up) .none kV doc pm an cdv ct) ⟨us, []⟩ = pure ((["outages", "time"] : List Str).zip us) :=
  match us, hl with | [_, _], _ => rfl
theorem bn_q16 (kV doc pm : Value) (an : Option Addr) (cdv ct : Value) (us : List Value) (hl : us.length = (["routes", "count"] : List Str).length) : bindArgs (PySem.W.fnOf "sent_requests" "sent_requests" (defArgs st_sent_requests) (defBody st_sent_requests) (defScope st_sent_requests) .none kV doc pm an cdv ct) ⟨us, []⟩ = pure ((["routes", "count"] : List Str).zip us) :=
  match us, hl with | [_, _], _ => rfl
theorem bn_q17 (kV doc pm : Value) (an : Option Addr) (cdv ct : Value) (us : List Value) (hl : us.length = (["routes", "count"] : List Str).length) : bindArgs (PySem.W.fnOf "served" "served" (defArgs st_served) (defBody st_served) (defScope st_served) .none kV doc pm an cdv ct) ⟨us, []⟩ = pure ((["routes", "count"] : List Str).zip us) :=
  match us, hl with | [_, _], _ => rfl
theorem bn_q18 (kV doc pm : Value) (an : Option Addr) (cdv ct : Value) (us : List Value) (hl : us.length = (["routes", "count"] : List Str).length) : bindArgs (PySem.W.fnOf "common_openings" "common_openings" (defArgs st_common_openings) (defBody st_common_openings) (defScope st_common_openings) .none kV doc pm an cdv ct) ⟨us, []⟩ = pure ((["routes", "count"] : List Str).zip us) :=
  match us, hl with | [_, _], _ => rfl
theorem bn_q19 (kV doc pm : Value) (an : Option Addr) (cdv ct : Value) (us : List Value) (hl : us.length = (["_law_cell"] : List Str).length) : bindArgs (PySem.W.fnOf "_law_source_of" "_law_source_of" (defArgs st__law_source_of) (defBody st__law_source_of) (defScope st__law_source_of) .none kV doc pm an cdv ct) ⟨us, []⟩ = pure ((["_law_cell"] : List Str).zip us) :=
  match us, hl with | [_], _ => rfl
theorem bn_q20 (kV doc pm : Value) (an : Option Addr) (cdv ct : Value) (us : List Value) (hl : us.length = (["_law_source", "_law_many"] : List Str).length) : bindArgs (PySem.W.fnOf "_law_next" "_law_next" (defArgs st__law_next) (defBody st__law_next) (defScope st__law_next) .none kV doc pm an cdv ct) ⟨us, []⟩ = pure ((["_law_source", "_law_many"] : List Str).zip us) :=
  match us, hl with | [_, _], _ => rfl
theorem bn_q21 (kV doc pm : Value) (an : Option Addr) (cdv ct : Value) (us : List Value) (hl : us.length = (["_law_source", "_law_options"] : List Str).length) : bindArgs (PySem.W.fnOf "_law_one" "_law_one" (defArgs st__law_one) (defBody st__law_one) (defScope st__law_one) .none kV doc pm an cdv ct) ⟨us, []⟩ = pure ((["_law_source", "_law_options"] : List Str).zip us) :=
  match us, hl with | [_, _], _ => rfl
theorem bn_q22 (kV doc pm : Value) (an : Option Addr) (cdv ct : Value) (us : List Value) (hl : us.length = (["_law_script", "_law_k"] : List Str).length) : bindArgs (PySem.W.fnOf "_law_cell_at" "_law_cell_at" (defArgs st__law_cell_at) (defBody st__law_cell_at) (defScope st__law_cell_at) .none kV doc pm an cdv ct) ⟨us, []⟩ = pure ((["_law_script", "_law_k"] : List Str).zip us) :=
  match us, hl with | [_, _], _ => rfl
theorem bn_q23 (kV doc pm : Value) (an : Option Addr) (cdv ct : Value) (us : List Value) (hl : us.length = (["_law_source", "_law_most", "_law_wide", "_law_many"] : List Str).length) : bindArgs (PySem.W.fnOf "_law_specs" "_law_specs" (defArgs st__law_specs) (defBody st__law_specs) (defScope st__law_specs) .none kV doc pm an cdv ct) ⟨us, []⟩ = pure ((["_law_source", "_law_most", "_law_wide", "_law_many"] : List Str).zip us) :=
  match us, hl with | [_, _, _, _], _ => rfl
theorem bn_q24 (kV doc pm : Value) (an : Option Addr) (cdv ct : Value) (us : List Value) (hl : us.length = (["_law_specs_here", "_law_states", "_law_time", "_law_upright"] : List Str).length) : bindArgs (PySem.W.fnOf "_law_send" "_law_send" (defArgs st__law_send) (defBody st__law_send) (defScope st__law_send) .none kV doc pm an cdv ct) ⟨us, []⟩ = pure ((["_law_specs_here", "_law_states", "_law_time", "_law_upright"] : List Str).zip us) :=
  match us, hl with | [_, _, _, _], _ => rfl
theorem bn_q25 (kV doc pm : Value) (an : Option Addr) (cdv ct : Value) (us : List Value) (hl : us.length = (["_law_spec", "_law_state", "_law_time", "_law_good"] : List Str).length) : bindArgs (PySem.W.fnOf "_law_note" "_law_note" (defArgs st__law_note) (defBody st__law_note) (defScope st__law_note) .none kV doc pm an cdv ct) ⟨us, []⟩ = pure ((["_law_spec", "_law_state", "_law_time", "_law_good"] : List Str).zip us) :=
  match us, hl with | [_, _, _, _], _ => rfl
theorem bn_q26 (kV doc pm : Value) (an : Option Addr) (cdv ct : Value) (us : List Value) (hl : us.length = (["_law_source"] : List Str).length) : bindArgs (PySem.W.fnOf "_law_services" "_law_services" (defArgs st__law_services) (defBody st__law_services) (defScope st__law_services) .none kV doc pm an cdv ct) ⟨us, []⟩ = pure ((["_law_source"] : List Str).zip us) :=
  match us, hl with | [_], _ => rfl
theorem bn_q27 (kV doc pm : Value) (an : Option Addr) (cdv ct : Value) (us : List Value) (hl : us.length = (["_law_front", "_law_backs", "_law_turns", "_law_pace", "_law_often"] : List Str).length) : bindArgs (PySem.W.fnOf "_law_run" "_law_run" (defArgs st__law_run) (defBody st__law_run) (defScope st__law_run) .none kV doc pm an cdv ct) ⟨us, []⟩ = pure ((["_law_front", "_law_backs", "_law_turns", "_law_pace", "_law_often"] : List Str).zip us) :=
  match us, hl with | [_, _, _, _, _], _ => rfl
theorem bn_q28 (kV doc pm : Value) (an : Option Addr) (cdv ct : Value) (us : List Value) (hl : us.length = (["_law_source", "_law_ways", "_law_twin", "_law_parts"] : List Str).length) : bindArgs (PySem.W.fnOf "_law_counts_right" "_law_counts_right" (defArgs st__law_counts_right) (defBody st__law_counts_right) (defScope st__law_counts_right) .none kV doc pm an cdv ct) ⟨us, []⟩ = pure ((["_law_source", "_law_ways", "_law_twin", "_law_parts"] : List Str).zip us) :=
  match us, hl with | [_, _, _, _], _ => rfl
theorem bn_NRoutes (kV doc pm : Value) (an : Option Addr) (cdv ct : Value) (us : List Value) (hl : us.length = (["self", "common", "services", "pattern", "step"] : List Str).length) : bindArgs (PySem.W.fnOf "__init__" "Routes.__init__" (defArgs st_Routes_init) (defBody st_Routes_init) (defScope st_Routes_init) .none kV doc pm an cdv ct) ⟨us, []⟩ = pure ((["self", "common", "services", "pattern", "step"] : List Str).zip us) :=
  match us, hl with | [_, _, _, _, _], _ => rfl
theorem bn_q29 (kV doc pm : Value) (an : Option Addr) (cdv ct : Value) (us : List Value) (hl : us.length = (["self"] : List Str).length) : bindArgs (PySem.W.fnOf "parts" "Routes.parts" (defArgs st_Routes_parts) (defBody st_Routes_parts) (defScope st_Routes_parts) .none kV doc pm an cdv ct) ⟨us, []⟩ = pure ((["self"] : List Str).zip us) :=
  match us, hl with | [_], _ => rfl
theorem bn_q30 (kV doc pm : Value) (an : Option Addr) (cdv ct : Value) (us : List Value) (hl : us.length = (["self", "other"] : List Str).length) : bindArgs (PySem.W.fnOf "__eq__" "Routes.__eq__" (defArgs st_Routes_eq) (defBody st_Routes_eq) (defScope st_Routes_eq) .none kV doc pm an cdv ct) ⟨us, []⟩ = pure ((["self", "other"] : List Str).zip us) :=
  match us, hl with | [_, _], _ => rfl
theorem mk_dfn {K : PySem.W.Frag} {h : Heap} {mg : Str → Option Value} {x : Str} {st : Stmt} {f : Addr} {ps : List Str} {oc : Value} {od an : Option Addr} {sl : Array (Option Value)} {kV dc pm cd ct : Value} (X : K.In h) (G : h.Ns mainGlobals mg) (a : PySem.W.nsIn K mainGlobals x = some (some (.ref f)))
    (l : K.lookup f = some ⟨oc, od, .func (PySem.W.fnOf x x (defArgs st) (defBody st) (defScope st) .none kV dc pm an cd ct), sl⟩) (c : PySem.W.codeIn K cd x = true) (k : PySem.W.keepIn K (.ref f) = true)
    (hb : ∀ (kV doc pm : Value) (an : Option Addr) (cdv ct : Value) (us : List Value), us.length = ps.length → bindArgs (PySem.W.fnOf x x (defArgs st) (defBody st) (defScope st) .none kV doc pm an cdv ct) ⟨us, []⟩ = pure (ps.zip us)) : Dfn K mg x st f ps :=
  ⟨⟨_, fun_mk l c k, (fun_mk l c k).binds hb⟩, PySem.W.mg_of X G a⟩
theorem mk_mth {K : PySem.W.Frag} {C : Addr} {x q : Str} {st : Stmt} {f : Addr} {ps : List Str} {oc : Value} {od an : Option Addr} {sl : Array (Option Value)} {kV dc pm cd ct : Value} (a : PySem.W.findIn K (.ref C) x = some (some (.ref f))) (i : PySem.W.isFn K (.ref f) = true) (fk : PySem.W.fnIn K f = true)
    (l : K.lookup f = some ⟨oc, od, .func (PySem.W.fnOf x q (defArgs st) (defBody st) (defScope st) .none kV dc pm an cd ct), sl⟩) (c : PySem.W.codeIn K cd q = true) (k : PySem.W.keepIn K (.ref f) = true)
    (hb : ∀ (kV doc pm : Value) (an : Option Addr) (cdv ct : Value) (us : List Value), us.length = ps.length → bindArgs (PySem.W.fnOf x q (defArgs st) (defBody st) (defScope st) .none kV doc pm an cdv ct) ⟨us, []⟩ = pure (ps.zip us)) : Mth K C x q st f ps :=
  ⟨⟨_, fun_mk l c k, (fun_mk l c k).binds hb⟩, a, i, fk⟩
set_option maxHeartbeats 16000000 in
theorem all_mk {P : Program} {w : World} {K : PySem.W.Frag} {h : Heap} {mg : Str → Option Value} {lv : List (Str × PySem.W.WData)} {fa aLaw aTSERVED aTFAILED fq0 fq1 fq2 fq3 fq4 fq5 fq6 fq7 fq8 fq9 fq10 fq11 fq12 fq13 fq14 fq15 fq16 fq17 fq18 fq19 fq20 fq21 fq22 fq23 fq24 fq25 fq26 fq27 fq28 CRoutes aIRoutes fq29 fq30 : Addr} {tkTSERVED0 tkTFAILED0 tNMOST_BREAKERS tNMOST_REQUESTS tNMOST_OUTAGES tNMOST_SERVICES tNMOST_PLACES : Tok} {nTSERVED nTFAILED : Nat} {odq0 anq0 odq1 anq1 odq2 anq2 odq3 anq3 odq4 anq4 odq5 anq5 odq6 anq6 odq7 anq7 odq8 anq8 odq9 anq9 odq10 anq10 odq11 anq11 odq12 anq12 odq13 anq13 odq14 anq14 odq15 anq15 odq16 anq16 odq17 anq17 odq18 anq18 odq19 anq19 odq20 anq20 odq21 anq21 odq22 anq22 odq23 anq23 odq24 anq24 odq25 anq25 odq26 anq26 odq27 anq27 odq28 anq28 odq29 anq29 odq30 anq30 odY anY odTSERVED odTFAILED odNRoutes anNRoutes : Option Addr} {slq0 slq1 slq2 slq3 slq4 slq5 slq6 slq7 slq8 slq9 slq10 slq11 slq12 slq13 slq14 slq15 slq16 slq17 slq18 slq19 slq20 slq21 slq22 slq23 slq24 slq25 slq26 slq27 slq28 slq29 slq30 slY slTSERVED slTFAILED slNRoutes : Array (Option Value)} {ocq0 kVq0 dcq0 pmq0 cdq0 ctq0 ocq1 kVq1 dcq1 pmq1 cdq1 ctq1 ocq2 kVq2 dcq2 pmq2 cdq2 ctq2 ocq3 kVq3 dcq3 pmq3 cdq3 ctq3 ocq4 kVq4 dcq4 pmq4 cdq4 ctq4 ocq5 kVq5 dcq5 pmq5 cdq5 ctq5 ocq6 kVq6 dcq6 pmq6 cdq6 ctq6 ocq7 kVq7 dcq7 pmq7 cdq7 ctq7 ocq8 kVq8 dcq8 pmq8 cdq8 ctq8 ocq9 kVq9 dcq9 pmq9 cdq9 ctq9 ocq10 kVq10 dcq10 pmq10 cdq10 ctq10 ocq11 kVq11 dcq11 pmq11 cdq11 ctq11 ocq12 kVq12 dcq12 pmq12 cdq12 ctq12 ocq13 kVq13 dcq13 pmq13 cdq13 ctq13 ocq14 kVq14 dcq14 pmq14 cdq14 ctq14 ocq15 kVq15 dcq15 pmq15 cdq15 ctq15 ocq16 kVq16 dcq16 pmq16 cdq16 ctq16 ocq17 kVq17 dcq17 pmq17 cdq17 ctq17 ocq18 kVq18 dcq18 pmq18 cdq18 ctq18 ocq19 kVq19 dcq19 pmq19 cdq19 ctq19 ocq20 kVq20 dcq20 pmq20 cdq20 ctq20 ocq21 kVq21 dcq21 pmq21 cdq21 ctq21 ocq22 kVq22 dcq22 pmq22 cdq22 ctq22 ocq23 kVq23 dcq23 pmq23 cdq23 ctq23 ocq24 kVq24 dcq24 pmq24 cdq24 ctq24 ocq25 kVq25 dcq25 pmq25 cdq25 ctq25 ocq26 kVq26 dcq26 pmq26 cdq26 ctq26 ocq27 kVq27 dcq27 pmq27 cdq27 ctq27 ocq28 kVq28 dcq28 pmq28 cdq28 ctq28 ocq29 kVq29 dcq29 pmq29 cdq29 ctq29 ocq30 kVq30 dcq30 pmq30 cdq30 ctq30 ocY kVY dcY pmY cdY ctY ocNRoutes dcNRoutes pmNRoutes cdNRoutes ctNRoutes kVNRoutes : Value}
    (X : K.In h) (G : h.Ns mainGlobals mg) (LL : PySem.W.LooseAre lv mg h) (hLMOST_COUNT : (("MOST_COUNT" : Str), PySem.W.WData.int 1000000000000) ∈ lv) (hLMOST_TIME : (("MOST_TIME" : Str), PySem.W.WData.int 1000000000000000000000000000000) ∈ lv) (hfa : mg "law" = some (.ref fa))
    (gTSERVED : PySem.W.nsIn K mainGlobals "SERVED" = some (some (.ref aTSERVED)))
    (lTSERVED : K.lookup aTSERVED = some ⟨.type "tuple", odTSERVED, .seq #[.str "served" tkTSERVED0] nTSERVED, slTSERVED⟩)
    (gTFAILED : PySem.W.nsIn K mainGlobals "FAILED" = some (some (.ref aTFAILED)))
    (lTFAILED : K.lookup aTFAILED = some ⟨.type "tuple", odTFAILED, .seq #[.str "failed" tkTFAILED0] nTFAILED, slTFAILED⟩)
    (aq0 : PySem.W.nsIn K mainGlobals "is_integer" = some (some (.ref fq0)))
    (lq0 : K.lookup fq0 = some ⟨ocq0, odq0, .func (PySem.W.fnOf "is_integer" "is_integer" (defArgs st_is_integer) (defBody st_is_integer) (defScope st_is_integer) .none kVq0 dcq0 pmq0 anq0 cdq0 ctq0), slq0⟩)
    (cq0 : PySem.W.codeIn K cdq0 "is_integer" = true)
    (kq0 : PySem.W.keepIn K (.ref fq0) = true)
    (aq1 : PySem.W.nsIn K mainGlobals "is_at_least" = some (some (.ref fq1)))
    (lq1 : K.lookup fq1 = some ⟨ocq1, odq1, .func (PySem.W.fnOf "is_at_least" "is_at_least" (defArgs st_is_at_least) (defBody st_is_at_least) (defScope st_is_at_least) .none kVq1 dcq1 pmq1 anq1 cdq1 ctq1), slq1⟩)
    (cq1 : PySem.W.codeIn K cdq1 "is_at_least" = true)
    (kq1 : PySem.W.keepIn K (.ref fq1) = true)
    (aq2 : PySem.W.nsIn K mainGlobals "is_within" = some (some (.ref fq2)))
    (lq2 : K.lookup fq2 = some ⟨ocq2, odq2, .func (PySem.W.fnOf "is_within" "is_within" (defArgs st_is_within) (defBody st_is_within) (defScope st_is_within) .none kVq2 dcq2 pmq2 anq2 cdq2 ctq2), slq2⟩)
    (cq2 : PySem.W.codeIn K cdq2 "is_within" = true)
    (kq2 : PySem.W.keepIn K (.ref fq2) = true)
    (aq3 : PySem.W.nsIn K mainGlobals "is_breaker" = some (some (.ref fq3)))
    (lq3 : K.lookup fq3 = some ⟨ocq3, odq3, .func (PySem.W.fnOf "is_breaker" "is_breaker" (defArgs st_is_breaker) (defBody st_is_breaker) (defScope st_is_breaker) .none kVq3 dcq3 pmq3 anq3 cdq3 ctq3), slq3⟩)
    (cq3 : PySem.W.codeIn K cdq3 "is_breaker" = true)
    (kq3 : PySem.W.keepIn K (.ref fq3) = true)
    (aq4 : PySem.W.nsIn K mainGlobals "check_breakers" = some (some (.ref fq4)))
    (lq4 : K.lookup fq4 = some ⟨ocq4, odq4, .func (PySem.W.fnOf "check_breakers" "check_breakers" (defArgs st_check_breakers) (defBody st_check_breakers) (defScope st_check_breakers) .none kVq4 dcq4 pmq4 anq4 cdq4 ctq4), slq4⟩)
    (cq4 : PySem.W.codeIn K cdq4 "check_breakers" = true)
    (kq4 : PySem.W.keepIn K (.ref fq4) = true)
    (aq5 : PySem.W.nsIn K mainGlobals "check_step" = some (some (.ref fq5)))
    (lq5 : K.lookup fq5 = some ⟨ocq5, odq5, .func (PySem.W.fnOf "check_step" "check_step" (defArgs st_check_step) (defBody st_check_step) (defScope st_check_step) .none kVq5 dcq5 pmq5 anq5 cdq5 ctq5), slq5⟩)
    (cq5 : PySem.W.codeIn K cdq5 "check_step" = true)
    (kq5 : PySem.W.keepIn K (.ref fq5) = true)
    (aq6 : PySem.W.nsIn K mainGlobals "closed_states" = some (some (.ref fq6)))
    (lq6 : K.lookup fq6 = some ⟨ocq6, odq6, .func (PySem.W.fnOf "closed_states" "closed_states" (defArgs st_closed_states) (defBody st_closed_states) (defScope st_closed_states) .none kVq6 dcq6 pmq6 anq6 cdq6 ctq6), slq6⟩)
    (cq6 : PySem.W.codeIn K cdq6 "closed_states" = true)
    (kq6 : PySem.W.keepIn K (.ref fq6) = true)
    (aq7 : PySem.W.nsIn K mainGlobals "passes" = some (some (.ref fq7)))
    (lq7 : K.lookup fq7 = some ⟨ocq7, odq7, .func (PySem.W.fnOf "passes" "passes" (defArgs st_passes) (defBody st_passes) (defScope st_passes) .none kVq7 dcq7 pmq7 anq7 cdq7 ctq7), slq7⟩)
    (cq7 : PySem.W.codeIn K cdq7 "passes" = true)
    (kq7 : PySem.W.keepIn K (.ref fq7) = true)
    (aq8 : PySem.W.nsIn K mainGlobals "state_behind" = some (some (.ref fq8)))
    (lq8 : K.lookup fq8 = some ⟨ocq8, odq8, .func (PySem.W.fnOf "state_behind" "state_behind" (defArgs st_state_behind) (defBody st_state_behind) (defScope st_state_behind) .none kVq8 dcq8 pmq8 anq8 cdq8 ctq8), slq8⟩)
    (cq8 : PySem.W.codeIn K cdq8 "state_behind" = true)
    (kq8 : PySem.W.keepIn K (.ref fq8) = true)
    (aq9 : PySem.W.nsIn K mainGlobals "sent" = some (some (.ref fq9)))
    (lq9 : K.lookup fq9 = some ⟨ocq9, odq9, .func (PySem.W.fnOf "sent" "sent" (defArgs st_sent) (defBody st_sent) (defScope st_sent) .none kVq9 dcq9 pmq9 anq9 cdq9 ctq9), slq9⟩)
    (cq9 : PySem.W.codeIn K cdq9 "sent" = true)
    (kq9 : PySem.W.keepIn K (.ref fq9) = true)
    (aq10 : PySem.W.nsIn K mainGlobals "check_outages" = some (some (.ref fq10)))
    (lq10 : K.lookup fq10 = some ⟨ocq10, odq10, .func (PySem.W.fnOf "check_outages" "check_outages" (defArgs st_check_outages) (defBody st_check_outages) (defScope st_check_outages) .none kVq10 dcq10 pmq10 anq10 cdq10 ctq10), slq10⟩)
    (cq10 : PySem.W.codeIn K cdq10 "check_outages" = true)
    (kq10 : PySem.W.keepIn K (.ref fq10) = true)
    (aq11 : PySem.W.nsIn K mainGlobals "is_outage" = some (some (.ref fq11)))
    (lq11 : K.lookup fq11 = some ⟨ocq11, odq11, .func (PySem.W.fnOf "is_outage" "is_outage" (defArgs st_is_outage) (defBody st_is_outage) (defScope st_is_outage) .none kVq11 dcq11 pmq11 anq11 cdq11 ctq11), slq11⟩)
    (cq11 : PySem.W.codeIn K cdq11 "is_outage" = true)
    (kq11 : PySem.W.keepIn K (.ref fq11) = true)
    (aq12 : PySem.W.nsIn K mainGlobals "is_service" = some (some (.ref fq12)))
    (lq12 : K.lookup fq12 = some ⟨ocq12, odq12, .func (PySem.W.fnOf "is_service" "is_service" (defArgs st_is_service) (defBody st_is_service) (defScope st_is_service) .none kVq12 dcq12 pmq12 anq12 cdq12 ctq12), slq12⟩)
    (cq12 : PySem.W.codeIn K cdq12 "is_service" = true)
    (kq12 : PySem.W.keepIn K (.ref fq12) = true)
    (aq13 : PySem.W.nsIn K mainGlobals "check_services" = some (some (.ref fq13)))
    (lq13 : K.lookup fq13 = some ⟨ocq13, odq13, .func (PySem.W.fnOf "check_services" "check_services" (defArgs st_check_services) (defBody st_check_services) (defScope st_check_services) .none kVq13 dcq13 pmq13 anq13 cdq13 ctq13), slq13⟩)
    (cq13 : PySem.W.codeIn K cdq13 "check_services" = true)
    (kq13 : PySem.W.keepIn K (.ref fq13) = true)
    (aq14 : PySem.W.nsIn K mainGlobals "check_pattern" = some (some (.ref fq14)))
    (lq14 : K.lookup fq14 = some ⟨ocq14, odq14, .func (PySem.W.fnOf "check_pattern" "check_pattern" (defArgs st_check_pattern) (defBody st_check_pattern) (defScope st_check_pattern) .none kVq14 dcq14 pmq14 anq14 cdq14 ctq14), slq14⟩)
    (cq14 : PySem.W.codeIn K cdq14 "check_pattern" = true)
    (kq14 : PySem.W.keepIn K (.ref fq14) = true)
    (aq15 : PySem.W.nsIn K mainGlobals "is_up" = some (some (.ref fq15)))
    (lq15 : K.lookup fq15 = some ⟨ocq15, odq15, .func (PySem.W.fnOf "is_up" "is_up" (defArgs st_is_up) (defBody st_is_up) (defScope st_is_up) .none kVq15 dcq15 pmq15 anq15 cdq15 ctq15), slq15⟩)
    (cq15 : PySem.W.codeIn K cdq15 "is_up" = true)
    (kq15 : PySem.W.keepIn K (.ref fq15) = true)
    (aq16 : PySem.W.nsIn K mainGlobals "sent_requests" = some (some (.ref fq16)))
    (lq16 : K.lookup fq16 = some ⟨ocq16, odq16, .func (PySem.W.fnOf "sent_requests" "sent_requests" (defArgs st_sent_requests) (defBody st_sent_requests) (defScope st_sent_requests) .none kVq16 dcq16 pmq16 anq16 cdq16 ctq16), slq16⟩)
    (cq16 : PySem.W.codeIn K cdq16 "sent_requests" = true)
    (kq16 : PySem.W.keepIn K (.ref fq16) = true)
    (aq17 : PySem.W.nsIn K mainGlobals "served" = some (some (.ref fq17)))
    (lq17 : K.lookup fq17 = some ⟨ocq17, odq17, .func (PySem.W.fnOf "served" "served" (defArgs st_served) (defBody st_served) (defScope st_served) .none kVq17 dcq17 pmq17 anq17 cdq17 ctq17), slq17⟩)
    (cq17 : PySem.W.codeIn K cdq17 "served" = true)
    (kq17 : PySem.W.keepIn K (.ref fq17) = true)
    (aq18 : PySem.W.nsIn K mainGlobals "common_openings" = some (some (.ref fq18)))
    (lq18 : K.lookup fq18 = some ⟨ocq18, odq18, .func (PySem.W.fnOf "common_openings" "common_openings" (defArgs st_common_openings) (defBody st_common_openings) (defScope st_common_openings) .none kVq18 dcq18 pmq18 anq18 cdq18 ctq18), slq18⟩)
    (cq18 : PySem.W.codeIn K cdq18 "common_openings" = true)
    (kq18 : PySem.W.keepIn K (.ref fq18) = true)
    (aq19 : PySem.W.nsIn K mainGlobals "_law_source_of" = some (some (.ref fq19)))
    (lq19 : K.lookup fq19 = some ⟨ocq19, odq19, .func (PySem.W.fnOf "_law_source_of" "_law_source_of" (defArgs st__law_source_of) (defBody st__law_source_of) (defScope st__law_source_of) .none kVq19 dcq19 pmq19 anq19 cdq19 ctq19), slq19⟩)
    (cq19 : PySem.W.codeIn K cdq19 "_law_source_of" = true)
    (kq19 : PySem.W.keepIn K (.ref fq19) = true)
    (aq20 : PySem.W.nsIn K mainGlobals "_law_next" = some (some (.ref fq20)))
    (lq20 : K.lookup fq20 = some ⟨ocq20, odq20, .func (PySem.W.fnOf "_law_next" "_law_next" (defArgs st__law_next) (defBody st__law_next) (defScope st__law_next) .none kVq20 dcq20 pmq20 anq20 cdq20 ctq20), slq20⟩)
    (cq20 : PySem.W.codeIn K cdq20 "_law_next" = true)
    (kq20 : PySem.W.keepIn K (.ref fq20) = true)
    (aq21 : PySem.W.nsIn K mainGlobals "_law_one" = some (some (.ref fq21)))
    (lq21 : K.lookup fq21 = some ⟨ocq21, odq21, .func (PySem.W.fnOf "_law_one" "_law_one" (defArgs st__law_one) (defBody st__law_one) (defScope st__law_one) .none kVq21 dcq21 pmq21 anq21 cdq21 ctq21), slq21⟩)
    (cq21 : PySem.W.codeIn K cdq21 "_law_one" = true)
    (kq21 : PySem.W.keepIn K (.ref fq21) = true)
    (aq22 : PySem.W.nsIn K mainGlobals "_law_cell_at" = some (some (.ref fq22)))
    (lq22 : K.lookup fq22 = some ⟨ocq22, odq22, .func (PySem.W.fnOf "_law_cell_at" "_law_cell_at" (defArgs st__law_cell_at) (defBody st__law_cell_at) (defScope st__law_cell_at) .none kVq22 dcq22 pmq22 anq22 cdq22 ctq22), slq22⟩)
    (cq22 : PySem.W.codeIn K cdq22 "_law_cell_at" = true)
    (kq22 : PySem.W.keepIn K (.ref fq22) = true)
    (aq23 : PySem.W.nsIn K mainGlobals "_law_specs" = some (some (.ref fq23)))
    (lq23 : K.lookup fq23 = some ⟨ocq23, odq23, .func (PySem.W.fnOf "_law_specs" "_law_specs" (defArgs st__law_specs) (defBody st__law_specs) (defScope st__law_specs) .none kVq23 dcq23 pmq23 anq23 cdq23 ctq23), slq23⟩)
    (cq23 : PySem.W.codeIn K cdq23 "_law_specs" = true)
    (kq23 : PySem.W.keepIn K (.ref fq23) = true)
    (aq24 : PySem.W.nsIn K mainGlobals "_law_send" = some (some (.ref fq24)))
    (lq24 : K.lookup fq24 = some ⟨ocq24, odq24, .func (PySem.W.fnOf "_law_send" "_law_send" (defArgs st__law_send) (defBody st__law_send) (defScope st__law_send) .none kVq24 dcq24 pmq24 anq24 cdq24 ctq24), slq24⟩)
    (cq24 : PySem.W.codeIn K cdq24 "_law_send" = true)
    (kq24 : PySem.W.keepIn K (.ref fq24) = true)
    (aq25 : PySem.W.nsIn K mainGlobals "_law_note" = some (some (.ref fq25)))
    (lq25 : K.lookup fq25 = some ⟨ocq25, odq25, .func (PySem.W.fnOf "_law_note" "_law_note" (defArgs st__law_note) (defBody st__law_note) (defScope st__law_note) .none kVq25 dcq25 pmq25 anq25 cdq25 ctq25), slq25⟩)
    (cq25 : PySem.W.codeIn K cdq25 "_law_note" = true)
    (kq25 : PySem.W.keepIn K (.ref fq25) = true)
    (aq26 : PySem.W.nsIn K mainGlobals "_law_services" = some (some (.ref fq26)))
    (lq26 : K.lookup fq26 = some ⟨ocq26, odq26, .func (PySem.W.fnOf "_law_services" "_law_services" (defArgs st__law_services) (defBody st__law_services) (defScope st__law_services) .none kVq26 dcq26 pmq26 anq26 cdq26 ctq26), slq26⟩)
    (cq26 : PySem.W.codeIn K cdq26 "_law_services" = true)
    (kq26 : PySem.W.keepIn K (.ref fq26) = true)
    (aq27 : PySem.W.nsIn K mainGlobals "_law_run" = some (some (.ref fq27)))
    (lq27 : K.lookup fq27 = some ⟨ocq27, odq27, .func (PySem.W.fnOf "_law_run" "_law_run" (defArgs st__law_run) (defBody st__law_run) (defScope st__law_run) .none kVq27 dcq27 pmq27 anq27 cdq27 ctq27), slq27⟩)
    (cq27 : PySem.W.codeIn K cdq27 "_law_run" = true)
    (kq27 : PySem.W.keepIn K (.ref fq27) = true)
    (aq28 : PySem.W.nsIn K mainGlobals "_law_counts_right" = some (some (.ref fq28)))
    (lq28 : K.lookup fq28 = some ⟨ocq28, odq28, .func (PySem.W.fnOf "_law_counts_right" "_law_counts_right" (defArgs st__law_counts_right) (defBody st__law_counts_right) (defScope st__law_counts_right) .none kVq28 dcq28 pmq28 anq28 cdq28 ctq28), slq28⟩)
    (cq28 : PySem.W.codeIn K cdq28 "_law_counts_right" = true)
    (kq28 : PySem.W.keepIn K (.ref fq28) = true)
    (gcRoutes : PySem.W.nsIn K mainGlobals "Routes" = some (some (.ref CRoutes)))
    (gRoutes0 : PySem.W.plainGet K CRoutes Str.empty = true)
    (gRoutes1 : PySem.W.hasDictIn K CRoutes = true)
    (gRoutes2 : PySem.W.plainOver K CRoutes = true)
    (gRoutes3 : PySem.W.findIn K (.ref CRoutes) "__setattr__" = some (some (.builtin "object.__setattr__")))
    (gRoutes4 : PySem.W.makesIn K CRoutes = true)
    (gRoutes5 : PySem.W.keepIn K (.ref CRoutes) = true)
    (gRoutes6 : PySem.W.isClsIn K CRoutes = true)
    (gRoutes7 : PySem.W.typeIn K (.ref CRoutes) = some (.type "type"))
    (gRoutes8 : PySem.W.findIn K (.ref CRoutes) "__class__" = some (some (.builtin "object.__class__")))
    (gRoutes9 : PySem.W.mroIn K CRoutes (.type "object") = some true)
    (gRoutes10 : PySem.W.selfFirst K CRoutes = true)
    (gRoutes11 : PySem.W.findIn K (.ref CRoutes) "__ne__" = some (some (.builtin "object.__ne__")))
    (gO1 : PySem.W.specialIn K (.builtin "object.__class__") "__get__" = some (some (.builtin "getset_descriptor.__get__")))
    (gO2 : PySem.W.takesIn K (.builtin "object.__class__") = some true)
    (nfRoutes_common : PySem.W.findIn K (.ref CRoutes) "common" = some none)
    (nfRoutes_services : PySem.W.findIn K (.ref CRoutes) "services" = some none)
    (nfRoutes_pattern : PySem.W.findIn K (.ref CRoutes) "pattern" = some none)
    (nfRoutes_step : PySem.W.findIn K (.ref CRoutes) "step" = some none)
    (aNRoutes : PySem.W.findIn K (.ref CRoutes) "__init__" = some (some (.ref aIRoutes)))
    (iNRoutes : PySem.W.isFn K (.ref aIRoutes) = true)
    (lNRoutes : K.lookup aIRoutes = some ⟨ocNRoutes, odNRoutes, .func (PySem.W.fnOf "__init__" "Routes.__init__" (defArgs st_Routes_init) (defBody st_Routes_init) (defScope st_Routes_init) .none kVNRoutes dcNRoutes pmNRoutes anNRoutes cdNRoutes ctNRoutes), slNRoutes⟩)
    (cNRoutes : PySem.W.codeIn K cdNRoutes "Routes.__init__" = true)
    (kNRoutes : PySem.W.keepIn K (.ref aIRoutes) = true)
    (aq29 : PySem.W.findIn K (.ref CRoutes) "parts" = some (some (.ref fq29)))
    (iq29 : PySem.W.isFn K (.ref fq29) = true)
    (nq29 : PySem.W.fnIn K fq29 = true)
    (lq29 : K.lookup fq29 = some ⟨ocq29, odq29, .func (PySem.W.fnOf "parts" "Routes.parts" (defArgs st_Routes_parts) (defBody st_Routes_parts) (defScope st_Routes_parts) .none kVq29 dcq29 pmq29 anq29 cdq29 ctq29), slq29⟩)
    (cq29 : PySem.W.codeIn K cdq29 "Routes.parts" = true)
    (kq29 : PySem.W.keepIn K (.ref fq29) = true)
    (aq30 : PySem.W.findIn K (.ref CRoutes) "__eq__" = some (some (.ref fq30)))
    (iq30 : PySem.W.isFn K (.ref fq30) = true)
    (nq30 : PySem.W.fnIn K fq30 = true)
    (lq30 : K.lookup fq30 = some ⟨ocq30, odq30, .func (PySem.W.fnOf "__eq__" "Routes.__eq__" (defArgs st_Routes_eq) (defBody st_Routes_eq) (defScope st_Routes_eq) .none kVq30 dcq30 pmq30 anq30 cdq30 ctq30), slq30⟩)
    (cq30 : PySem.W.codeIn K cdq30 "Routes.__eq__" = true)
    (kq30 : PySem.W.keepIn K (.ref fq30) = true)
    (gNMOST_BREAKERS : PySem.W.nsIn K mainGlobals "MOST_BREAKERS" = some (some (.int 12 tNMOST_BREAKERS)))
    (gNMOST_REQUESTS : PySem.W.nsIn K mainGlobals "MOST_REQUESTS" = some (some (.int 10000 tNMOST_REQUESTS)))
    (gNMOST_OUTAGES : PySem.W.nsIn K mainGlobals "MOST_OUTAGES" = some (some (.int 50 tNMOST_OUTAGES)))
    (gNMOST_SERVICES : PySem.W.nsIn K mainGlobals "MOST_SERVICES" = some (some (.int 10 tNMOST_SERVICES)))
    (gNMOST_PLACES : PySem.W.nsIn K mainGlobals "MOST_PLACES" = some (some (.int 20 tNMOST_PLACES)))
    (aY : PySem.W.nsIn K mainGlobals "law" = some (some (.ref aLaw)))
    (lY : K.lookup aLaw = some ⟨ocY, odY, .func (PySem.W.fnOf "law" "law" (defArgs st_law) (defBody st_law) (defScope st_law) .none kVY dcY pmY anY cdY ctY), slY⟩)
    (cY : PySem.W.codeIn K cdY "law" = true)
    (kY : PySem.W.keepIn K (.ref aLaw) = true)
    (z_bool : PySem.W.nsIn K mainGlobals "bool" = some none)
    (z_enumerate : PySem.W.nsIn K mainGlobals "enumerate" = some none)
    (z_int : PySem.W.nsIn K mainGlobals "int" = some none)
    (z_isinstance : PySem.W.nsIn K mainGlobals "isinstance" = some none)
    (z_len : PySem.W.nsIn K mainGlobals "len" = some none)
    (z_list : PySem.W.nsIn K mainGlobals "list" = some none)
    (z_range : PySem.W.nsIn K mainGlobals "range" = some none)
    (z_tuple : PySem.W.nsIn K mainGlobals "tuple" = some none)
    (z_zip : PySem.W.nsIn K mainGlobals "zip" = some none) :
    ∃ fd : FuncData, (∀ (s : Shared) (v : Value), BindsTo s fd ⟨[v], []⟩ [("_law_script", v)]) ∧ ∀ base : Heap, K.In base → base.Ns mainGlobals mg → FnOk P w K mg base CX0 12 fa fd ["_law_script"] (spLaw K) := by
  have e := hfa.symm.trans (PySem.W.mg_of X G aY)
  cases e
  obtain ⟨vMOST_COUNT, hvMOST_COUNT, rMOST_COUNT⟩ := LL.val _ hLMOST_COUNT
  obtain ⟨tMOST_COUNT, rfl, -⟩ := PySem.W.readsW_int_inv rMOST_COUNT
  obtain ⟨vMOST_TIME, hvMOST_TIME, rMOST_TIME⟩ := LL.val _ hLMOST_TIME
  obtain ⟨tMOST_TIME, rfl, -⟩ := PySem.W.readsW_int_inv rMOST_TIME
  have T : LX K mg ⟨fq0, fq1, fq2, fq3, fq4, fq5, fq6, fq7, fq8, fq9, fq10, fq11, fq12, fq13, fq14, fq15, fq16, fq17, fq18, fq19, fq20, fq21, fq22, fq23, fq24, fq25, fq26, fq27, fq28, CRoutes, aIRoutes, fq29, fq30⟩ := ⟨PySem.W.mg_none_of X G z_bool,
    PySem.W.mg_none_of X G z_enumerate,
    PySem.W.mg_none_of X G z_int,
    PySem.W.mg_none_of X G z_isinstance,
    PySem.W.mg_none_of X G z_len,
    PySem.W.mg_none_of X G z_list,
    PySem.W.mg_none_of X G z_range,
    PySem.W.mg_none_of X G z_tuple,
    PySem.W.mg_none_of X G z_zip,
    ⟨_, PySem.W.mg_of X G gNMOST_BREAKERS⟩,
    ⟨_, hvMOST_COUNT⟩,
    ⟨_, hvMOST_TIME⟩,
    ⟨_, PySem.W.mg_of X G gNMOST_REQUESTS⟩,
    ⟨_, PySem.W.mg_of X G gNMOST_OUTAGES⟩,
    ⟨_, PySem.W.mg_of X G gNMOST_SERVICES⟩,
    ⟨_, PySem.W.mg_of X G gNMOST_PLACES⟩,
    ⟨_, PySem.W.mg_of X G gTSERVED, fun _ => .inr ⟨_, _, _, lTSERVED, rfl, rfl, (by show 1 ≤ sizeLine; decide), .cons ⟨_, rfl⟩ (.nil)⟩⟩,
    ⟨_, PySem.W.mg_of X G gTFAILED, fun _ => .inr ⟨_, _, _, lTFAILED, rfl, rfl, (by show 1 ≤ sizeLine; decide), .cons ⟨_, rfl⟩ (.nil)⟩⟩,
    mk_dfn X G aq0 lq0 cq0 kq0 bn_q0,
    mk_dfn X G aq1 lq1 cq1 kq1 bn_q1,
    mk_dfn X G aq2 lq2 cq2 kq2 bn_q2,
    mk_dfn X G aq3 lq3 cq3 kq3 bn_q3,
    mk_dfn X G aq4 lq4 cq4 kq4 bn_q4,
    mk_dfn X G aq5 lq5 cq5 kq5 bn_q5,
    mk_dfn X G aq6 lq6 cq6 kq6 bn_q6,
    mk_dfn X G aq7 lq7 cq7 kq7 bn_q7,
    mk_dfn X G aq8 lq8 cq8 kq8 bn_q8,
    mk_dfn X G aq9 lq9 cq9 kq9 bn_q9,
    mk_dfn X G aq10 lq10 cq10 kq10 bn_q10,
    mk_dfn X G aq11 lq11 cq11 kq11 bn_q11,
    mk_dfn X G aq12 lq12 cq12 kq12 bn_q12,
    mk_dfn X G aq13 lq13 cq13 kq13 bn_q13,
    mk_dfn X G aq14 lq14 cq14 kq14 bn_q14,
    mk_dfn X G aq15 lq15 cq15 kq15 bn_q15,
    mk_dfn X G aq16 lq16 cq16 kq16 bn_q16,
    mk_dfn X G aq17 lq17 cq17 kq17 bn_q17,
    mk_dfn X G aq18 lq18 cq18 kq18 bn_q18,
    mk_dfn X G aq19 lq19 cq19 kq19 bn_q19,
    mk_dfn X G aq20 lq20 cq20 kq20 bn_q20,
    mk_dfn X G aq21 lq21 cq21 kq21 bn_q21,
    mk_dfn X G aq22 lq22 cq22 kq22 bn_q22,
    mk_dfn X G aq23 lq23 cq23 kq23 bn_q23,
    mk_dfn X G aq24 lq24 cq24 kq24 bn_q24,
    mk_dfn X G aq25 lq25 cq25 kq25 bn_q25,
    mk_dfn X G aq26 lq26 cq26 kq26 bn_q26,
    mk_dfn X G aq27 lq27 cq27 kq27 bn_q27,
    mk_dfn X G aq28 lq28 cq28 kq28 bn_q28,
    PySem.W.mg_of X G gcRoutes,
    ⟨⟨gRoutes0, gRoutes1, gRoutes2, gRoutes3⟩, gRoutes6, gRoutes7, gRoutes8, gO1, gO2, gRoutes9, gRoutes10, gRoutes11⟩,
    ⟨gRoutes4, aNRoutes, iNRoutes, gRoutes5⟩,
    nfRoutes_common,
    nfRoutes_services,
    nfRoutes_pattern,
    nfRoutes_step,
    ⟨_, fun_mk lNRoutes cNRoutes kNRoutes, (fun_mk lNRoutes cNRoutes kNRoutes).binds bn_NRoutes⟩,
    mk_mth aq29 iq29 nq29 lq29 cq29 kq29 bn_q29,
    mk_mth aq30 iq30 nq30 lq30 cq30 kq30 bn_q30⟩
  exact ⟨_, fun s v => .of_eq rfl, fun base _ _ => ok_law (fun_mk lY cY kY) T⟩
/-- as the hand layer's end, with what the loose names hold -/
theorem walk_loose {l : PySem.W.OpenLaw} {q p : Program} {lv : List (Str × PySem.W.WData)} {loose : List Str} {YP : World → Heap → Prop} {d : DefRec} {K : Params → PySem.W.Frag} (hn : l.most = some 63) (hd : d.params.defaults = []) (hY : ∀ (w : World) (h : Heap), YP w h → (K w.params).In h)
    (F : ∀ (w : World) (mg : Str → Option Value) (fa : Addr) (h : Heap), (K w.params).In h → h.Ns mainGlobals mg → PySem.W.LooseAre lv mg h → mg d.name = some (.ref fa) → ∃ fd : FuncData, (∀ (s : Shared) (u : Value), BindsTo s fd ⟨[u], []⟩ [("_law_script", u)]) ∧ ∀ base : Heap, (K w.params).In base → base.Ns mainGlobals mg → FnOk l.prog w (K w.params) mg base CX0 12 fa fd ["_law_script"] (spLaw (K w.params))) :
    PySem.W.WalkO q loose (PySem.W.XL p lv) YP l.row.toRowW d [] (fun f vs => PySem.call f vs) := Att.attach_call hn hd fun w _ s₁ mg mb fa _ _ _ _ a vs ns G Y _ _ _ hmg hobj hints hlen hg => by
  obtain ⟨fd, hb, hF⟩ := F w mg fa s₁.heap (hY w s₁.heap Y) G.T.g G.X.2 hmg
  exact law_call (hY w s₁.heap Y) G.T.g G.T.b G.T.builtins G.T.nolimit hg hobj hints (Nat.le_trans hlen (by decide)) ⟨rfl, by decide, by decide⟩ hF hb (fun H _ hS => ⟨a, ns, rfl, hS, hlen, fun _ => rfl⟩) fun _ _ _ z => z

end Toy
open PySem PySem.W PyProof.Rows
set_option maxRecDepth 100000 in
set_option maxHeartbeats 0 in
theorem PySem.Challenge.cw_breakerrow_k57_routes_request_by_request_holds : PySem.Challenge.rw_breakerrow_k57_routes_request_by_request.Holds := by
  w_on; o_law; k_head; (case hw => w_witness2)
  k_fill
  refine Toy.walk_loose (l := PySem.Challenge.rw_breakerrow_k57_routes_request_by_request) rfl rfl (fun w h Y => PySem.W.kIn_of Y) ?F
  intro w mg fa h KX G LL hmg
  refine' Toy.all_mk KX G LL (by first | exact .head _ | exact .tail _ (.head _) | exact .tail _ (.tail _ (.head _)) | exact .tail _ (.tail _ (.tail _ (.head _))) | exact .tail _ (.tail _ (.tail _ (.tail _ (.head _)))) | exact .tail _ (.tail _ (.tail _ (.tail _ (.tail _ (.head _))))) | exact .tail _ (.tail _ (.tail _ (.tail _ (.tail _ (.tail _ (.head _)))))) | exact .tail _ (.tail _ (.tail _ (.tail _ (.tail _ (.tail _ (.tail _ (.head _))))))) | exact .tail _ (.tail _ (.tail _ (.tail _ (.tail _ (.tail _ (.tail _ (.tail _ (.head _)))))))) | exact .tail _ (.tail _ (.tail _ (.tail _ (.tail _ (.tail _ (.tail _ (.tail _ (.tail _ (.head _)))))))))) (by first | exact .head _ | exact .tail _ (.head _) | exact .tail _ (.tail _ (.head _)) | exact .tail _ (.tail _ (.tail _ (.head _))) | exact .tail _ (.tail _ (.tail _ (.tail _ (.head _)))) | exact .tail _ (.tail _ (.tail _ (.tail _ (.tail _ (.head _))))) | exact .tail _ (.tail _ (.tail _ (.tail _ (.tail _ (.tail _ (.head _)))))) | exact .tail _ (.tail _ (.tail _ (.tail _ (.tail _ (.tail _ (.tail _ (.head _))))))) | exact .tail _ (.tail _ (.tail _ (.tail _ (.tail _ (.tail _ (.tail _ (.tail _ (.head _)))))))) | exact .tail _ (.tail _ (.tail _ (.tail _ (.tail _ (.tail _ (.tail _ (.tail _ (.tail _ (.head _)))))))))) hmg ?gTSERVED ?lTSERVED ?gTFAILED ?lTFAILED ?aq0 ?lq0 ?cq0 ?kq0 ?aq1 ?lq1 ?cq1 ?kq1 ?aq2 ?lq2 ?cq2 ?kq2 ?aq3 ?lq3 ?cq3 ?kq3 ?aq4 ?lq4 ?cq4 ?kq4 ?aq5 ?lq5 ?cq5 ?kq5 ?aq6 ?lq6 ?cq6 ?kq6 ?aq7 ?lq7 ?cq7 ?kq7 ?aq8 ?lq8 ?cq8 ?kq8 ?aq9 ?lq9 ?cq9 ?kq9 ?aq10 ?lq10 ?cq10 ?kq10 ?aq11 ?lq11 ?cq11 ?kq11 ?aq12 ?lq12 ?cq12 ?kq12 ?aq13 ?lq13 ?cq13 ?kq13 ?aq14 ?lq14 ?cq14 ?kq14 ?aq15 ?lq15 ?cq15 ?kq15 ?aq16 ?lq16 ?cq16 ?kq16 ?aq17 ?lq17 ?cq17 ?kq17 ?aq18 ?lq18 ?cq18 ?kq18 ?aq19 ?lq19 ?cq19 ?kq19 ?aq20 ?lq20 ?cq20 ?kq20 ?aq21 ?lq21 ?cq21 ?kq21 ?aq22 ?lq22 ?cq22 ?kq22 ?aq23 ?lq23 ?cq23 ?kq23 ?aq24 ?lq24 ?cq24 ?kq24 ?aq25 ?lq25 ?cq25 ?kq25 ?aq26 ?lq26 ?cq26 ?kq26 ?aq27 ?lq27 ?cq27 ?kq27 ?aq28 ?lq28 ?cq28 ?kq28 ?gcRoutes ?gRoutes0 ?gRoutes1 ?gRoutes2 ?gRoutes3 ?gRoutes4 ?gRoutes5 ?gRoutes6 ?gRoutes7 ?gRoutes8 ?gRoutes9 ?gRoutes10 ?gRoutes11 ?gO1 ?gO2 ?nfRoutes_common ?nfRoutes_services ?nfRoutes_pattern ?nfRoutes_step ?aNRoutes ?iNRoutes ?lNRoutes ?cNRoutes ?kNRoutes ?aq29 ?iq29 ?nq29 ?lq29 ?cq29 ?kq29 ?aq30 ?iq30 ?nq30 ?lq30 ?cq30 ?kq30 ?gNMOST_BREAKERS ?gNMOST_REQUESTS ?gNMOST_OUTAGES ?gNMOST_SERVICES ?gNMOST_PLACES ?aY ?lY ?cY ?kY ?z_bool ?z_enumerate ?z_int ?z_isinstance ?z_len ?z_list ?z_range ?z_tuple ?z_zip
  (case gTSERVED => k_is)
  (case lTSERVED => k_is)
  (case gTFAILED => k_is)
  (case lTFAILED => k_is)
  (case aq0 => k_is)
  (case lq0 => k_is)
  (case cq0 => k_is)
  (case kq0 => k_is)
  (case aq1 => k_is)
  (case lq1 => k_is)
  (case cq1 => k_is)
  (case kq1 => k_is)
  (case aq2 => k_is)
  (case lq2 => k_is)
  (case cq2 => k_is)
  (case kq2 => k_is)
  (case aq3 => k_is)
  (case lq3 => k_is)
  (case cq3 => k_is)
  (case kq3 => k_is)
  (case aq4 => k_is)
  (case lq4 => k_is)
  (case cq4 => k_is)
  (case kq4 => k_is)
  (case aq5 => k_is)
  (case lq5 => k_is)
  (case cq5 => k_is)
  (case kq5 => k_is)
  (case aq6 => k_is)
  (case lq6 => k_is)
  (case cq6 => k_is)
  (case kq6 => k_is)
  (case aq7 => k_is)
  (case lq7 => k_is)
  (case cq7 => k_is)
  (case kq7 => k_is)
  (case aq8 => k_is)
  (case lq8 => k_is)
  (case cq8 => k_is)
  (case kq8 => k_is)
  (case aq9 => k_is)
  (case lq9 => k_is)
  (case cq9 => k_is)
  (case kq9 => k_is)
  (case aq10 => k_is)
  (case lq10 => k_is)
  (case cq10 => k_is)
  (case kq10 => k_is)
  (case aq11 => k_is)
  (case lq11 => k_is)
  (case cq11 => k_is)
  (case kq11 => k_is)
  (case aq12 => k_is)
  (case lq12 => k_is)
  (case cq12 => k_is)
  (case kq12 => k_is)
  (case aq13 => k_is)
  (case lq13 => k_is)
  (case cq13 => k_is)
  (case kq13 => k_is)
  (case aq14 => k_is)
  (case lq14 => k_is)
  (case cq14 => k_is)
  (case kq14 => k_is)
  (case aq15 => k_is)
  (case lq15 => k_is)
  (case cq15 => k_is)
  (case kq15 => k_is)
  (case aq16 => k_is)
  (case lq16 => k_is)
  (case cq16 => k_is)
  (case kq16 => k_is)
  (case aq17 => k_is)
  (case lq17 => k_is)
  (case cq17 => k_is)
  (case kq17 => k_is)
  (case aq18 => k_is)
  (case lq18 => k_is)
  (case cq18 => k_is)
  (case kq18 => k_is)
  (case aq19 => k_is)
  (case lq19 => k_is)
  (case cq19 => k_is)
  (case kq19 => k_is)
  (case aq20 => k_is)
  (case lq20 => k_is)
  (case cq20 => k_is)
  (case kq20 => k_is)
  (case aq21 => k_is)
  (case lq21 => k_is)
  (case cq21 => k_is)
  (case kq21 => k_is)
  (case aq22 => k_is)
  (case lq22 => k_is)
  (case cq22 => k_is)
  (case kq22 => k_is)
  (case aq23 => k_is)
  (case lq23 => k_is)
  (case cq23 => k_is)
  (case kq23 => k_is)
  (case aq24 => k_is)
  (case lq24 => k_is)
  (case cq24 => k_is)
  (case kq24 => k_is)
  (case aq25 => k_is)
  (case lq25 => k_is)
  (case cq25 => k_is)
  (case kq25 => k_is)
  (case aq26 => k_is)
  (case lq26 => k_is)
  (case cq26 => k_is)
  (case kq26 => k_is)
  (case aq27 => k_is)
  (case lq27 => k_is)
  (case cq27 => k_is)
  (case kq27 => k_is)
  (case aq28 => k_is)
  (case lq28 => k_is)
  (case cq28 => k_is)
  (case kq28 => k_is)
  (case gcRoutes => k_is)
  (case gRoutes0 => k_is)
  (case gRoutes1 => k_is)
  (case gRoutes2 => k_is)
  (case gRoutes3 => k_is)
  (case gRoutes4 => k_is)
  (case gRoutes5 => k_is)
  (case gRoutes6 => k_is)
  (case gRoutes7 => k_is)
  (case gRoutes8 => k_is)
  (case gRoutes9 => k_is)
  (case gRoutes10 => k_is)
  (case gRoutes11 => k_is)
  (case gO1 => k_is)
  (case gO2 => k_is)
  (case nfRoutes_common => k_is)
  (case nfRoutes_services => k_is)
  (case nfRoutes_pattern => k_is)
  (case nfRoutes_step => k_is)
  (case aNRoutes => k_is)
  (case iNRoutes => k_is)
  (case lNRoutes => k_is)
  (case cNRoutes => k_is)
  (case kNRoutes => k_is)
  (case aq29 => k_is)
  (case iq29 => k_is)
  (case nq29 => k_is)
  (case lq29 => k_is)
  (case cq29 => k_is)
  (case kq29 => k_is)
  (case aq30 => k_is)
  (case iq30 => k_is)
  (case nq30 => k_is)
  (case lq30 => k_is)
  (case cq30 => k_is)
  (case kq30 => k_is)
  (case gNMOST_BREAKERS => k_is)
  (case gNMOST_REQUESTS => k_is)
  (case gNMOST_OUTAGES => k_is)
  (case gNMOST_SERVICES => k_is)
  (case gNMOST_PLACES => k_is)
  (case aY => k_is)
  (case lY => k_is)
  (case cY => k_is)
  (case kY => k_is)
  (case z_bool => k_is)
  (case z_enumerate => k_is)
  (case z_int => k_is)
  (case z_isinstance => k_is)
  (case z_len => k_is)
  (case z_list => k_is)
  (case z_range => k_is)
  (case z_tuple => k_is)
  (case z_zip => k_is)
