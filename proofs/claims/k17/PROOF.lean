import PyProof.Rows.All
import Wide.All
import OpenK.AllK
import Wide.FinOn
import HandS.ForMost
import HandS.IsInst
import HandS.Wide
import HandS.Style
import HandS.Defaults
import HandS.MakeKwOnly
import HandS.Zip
import HandS.SortRule
import HandS.TupAny
import HandS.Lambda
import KE.GoesEnum
import HandS.Flow
import HandS.Codes
import HandS.WideBits
import HandS.OwnEq
import HandS.TryOnly
import HandS.TupLe
import HandS.SetFor
import KE.DataMinMax
import HandS.Conv
import KE.DataFind
import PyProof.Rows.CallKwBuiltin
import PyProof.LongRange
import PySem.Challenge.RW_breakerrow_k17_spells_of_outages
set_option Elab.async false
set_option linter.all false
set_option maxRecDepth 100000
set_option maxHeartbeats 4000000
namespace Own
open PySem PySem.Spec PyProof.Rows L2
open Builtin

section
variable {X : Cx} {CX : CXT} {k : Nat} {f C : Addr} {fd : FuncData} {ps : List Str} {sp : Sp} {E : XK}

theorem rr {p : Addr} : L2.RelV (.ref p) (.ref p) := rfl
/-- a promise used under any frame below the body -/
theorem run_at {A : Around} {pins : List (Addr × Obj)} {σ : L2.St} {H : Hp} {s : Shared} {Q : VK} {us : List Value} {vs : List V} (F : FnOk X.prog X.w X.K X.mg X.base CX k f fd ps sp) (hr : Room k A) (hA : A.frames = X.A.frames)
    (hb : Binds X.K fd ps []) (hx : Passes CX X E) (I : Inv X pins σ H s) (r : Vals vs us) (h : sp vs H Q E) : wpAny (model X.prog X.w) A (call (.ref f) us) (EP X pins σ Q) X.xe s := by
  have hl : us.length = ps.length := by rw [← r.length]; exact F.len _ _ _ _ h
  have e0 : Env0 X.prog X.w X.K X.mg X.base A X.stack s H := by
    have e := I.env0
    exact ⟨by rw [hA]; exact e.frames, e.mod, e.bs, e.bsz, e.funs, e.frf, e.hok, e.bare⟩
  have hB : BindsTo s fd ⟨us, []⟩ (ps.zip us) := by
    have := hb s us I.kIn (by rw [List.append_nil]; exact hl)
    rwa [List.append_nil] at this
  refine wpAny_call (codeAny_mono (F.run A X.stack s H ⟨us, []⟩ us vs Q E hr e0 hB r h) fun r s' hq => ?_)
  cases r with
  | error e => exact hx pins σ H s e s' I hq
  | ok fl =>
    cases fl with
    | ret u => exact I.after hq
    | next => exact False.elim hq
    | brk => exact False.elim hq
    | cont => exact False.elim hq

theorem inst_of {pins : List (Addr × Obj)} {σ : L2.St} {H : Hp} {s : Shared} {p dx : Addr} {fs : List (Str × V)} (I : Inv X pins σ H s) (e : H p = some (.ins C dx fs)) : ∃ od, PySem.W.InstAt s.heap p (PySem.W.instObj C dx) C od := by
  obtain ⟨mA, O, _⟩ := ins_get I.hok e
  obtain ⟨od, J, _⟩ := O.look
  exact ⟨_, J⟩

/-- a bool is wanted of the method -/
def BlQ (Q : VK) (g : Bool → Bool) : VK := fun v H' => ∃ b, v = .bl b ∧ Q (.bl (g b)) H'
def rOwnIn (C : Addr) (sp : Sp) (E : XK) (g : Bool → Bool) : R2 := fun x y H Q => ∃ p dx fs, y = .ref p ∧ H p = some (.ins C dx fs) ∧ sp [.ref p, x] H (BlQ Q g) E
theorem op_own_in (F : FnOk X.prog X.w X.K X.mg X.base CX k f fd ps sp) (hr : Room k X.A) (hs : PySem.W.findIn X.K (.ref C) "__contains__" = some (some (.ref f))) (hf : PySem.W.isFn X.K (.ref f) = true) (hb : Binds X.K fd ps []) (hx : Passes CX X E) :
    OpR X (compareOp .In) (rOwnIn C sp E id) := by
  intro pins s σ H x y v u Q I rx ry h
  obtain ⟨p, dx, fs, rfl, hp, q⟩ := h
  cases ry
  obtain ⟨od, J⟩ := inst_of I hp
  obtain ⟨m, hF⟩ := I.fr
  refine PySem.W.in_K hF I.ok.mod.kin J hs hf (thn (run_at F hr rfl hb hx I (.cons rr (.cons rx .nil)) q) fun r s' hh => ?_)
  obtain ⟨z, H', I', rz, b, ez, q'⟩ := hh
  subst ez
  cases rz
  exact wpAny_truthy_bool ⟨.bl b, H', I', rfl, q'⟩
theorem op_own_notin (F : FnOk X.prog X.w X.K X.mg X.base CX k f fd ps sp) (hr : Room k X.A) (hs : PySem.W.findIn X.K (.ref C) "__contains__" = some (some (.ref f))) (hf : PySem.W.isFn X.K (.ref f) = true) (hb : Binds X.K fd ps []) (hx : Passes CX X E) :
    OpR X (compareOp .NotIn) (rOwnIn C sp E not) := by
  intro pins s σ H x y v u Q I rx ry h
  obtain ⟨p, dx, fs, rfl, hp, q⟩ := h
  cases ry
  obtain ⟨od, J⟩ := inst_of I hp
  obtain ⟨m, hF⟩ := I.fr
  refine PySem.W.notIn_K hF I.ok.mod.kin J hs hf (thn (run_at F hr rfl hb hx I (.cons rr (.cons rx .nil)) q) fun r s' hh => ?_)
  obtain ⟨z, H', I', rz, b, ez, q'⟩ := hh
  subst ez
  cases rz
  exact wpAny_truthy_bool ⟨.bl (!b), H', I', rfl, q'⟩
/-- len(o) -/
def rOwnLen (C : Addr) (sp : Sp) (E : XK) : List V → Hp → VK → Prop := fun xs H Q => ∃ p dx fs, xs = [.ref p] ∧ H p = some (.ins C dx fs) ∧ sp [.ref p] H (fun v H' => ∃ n : Int, v = .int n ∧ 0 ≤ n ∧ n < 2 ^ 63 ∧ Q (.int n) H') E
theorem call_own_len (F : FnOk X.prog X.w X.K X.mg X.base CX k f fd ps sp) (hr : Room (k + 1) X.A) (hs : PySem.W.findIn X.K (.ref C) "__len__" = some (some (.ref f))) (hf : PySem.W.isFn X.K (.ref f) = true) (hb : Binds X.K fd ps []) (hx : Passes CX X E) :
    CallR X (.builtin "len") (rOwnLen C sp E) := by
  intro pins s σ H xs us Q I r h
  obtain ⟨p, dx, fs, rfl, hp, q⟩ := h
  obtain ⟨u, rfl, ru⟩ := vals1 r
  cases ru
  obtain ⟨od, J⟩ := inst_of I hp
  obtain ⟨m, hF⟩ := I.fr
  refine PySem.W.len_K hF I.ok.mod.kin J hs hf (thn (run_at F hr.in1 rfl hb hx I (.cons rr .nil) q) fun r s' hh => ?_)
  obtain ⟨z, H', I', rz, n, ez, h0, h1, q'⟩ := hh
  subst ez
  obtain ⟨t, rfl⟩ := rz
  exact ⟨⟨h0, h1⟩, ⟨.int n, H', I'.tok _, ⟨_, rfl⟩, q'⟩⟩
/-- o + p, both of the class -/
def rOwnAdd (C : Addr) (sp : Sp) (E : XK) : R2 := fun x y H Q => ∃ p dx fs q dy gs, x = .ref p ∧ H p = some (.ins C dx fs) ∧ y = .ref q ∧ H q = some (.ins C dy gs) ∧ sp [.ref p, .ref q] H (fun v H' => (∃ a, v = .ref a) ∧ Q v H') E
theorem op_own_add (F : FnOk X.prog X.w X.K X.mg X.base CX k f fd ps sp) (hr : Room k X.A) (hc : PySem.W.selfFirst X.K C = true) (hs : PySem.W.findIn X.K (.ref C) "__add__" = some (some (.ref f))) (hf : PySem.W.isFn X.K (.ref f) = true) (hb : Binds X.K fd ps []) (hx : Passes CX X E) :
    OpR X (binaryOp .Add) (rOwnAdd C sp E) := by
  intro pins s σ H x y v u Q I rx ry h
  obtain ⟨p, dx, fs, q, dy, gs, rfl, hp, rfl, hq, hh⟩ := h
  cases rx
  cases ry
  obtain ⟨od, J⟩ := inst_of I hp
  obtain ⟨od', J'⟩ := inst_of I hq
  obtain ⟨m, hF⟩ := I.fr
  refine PySem.W.binop_K hF I.ok.mod.kin J J'.type hc hs hf (thn (run_at F hr rfl hb hx I (.cons rr (.cons rr .nil)) hh) fun r s' hh => ?_)
  obtain ⟨z, H', I', rz, ⟨a, ez⟩, q'⟩ := hh
  subst ez
  cases rz
  exact ⟨.ref a, H', I', rfl, q'⟩
/-- o[i] -/
def rOwnIx (C : Addr) (sp : Sp) (E : XK) : R2 := fun x y H Q => ∃ p dx fs, x = .ref p ∧ H p = some (.ins C dx fs) ∧ sp [.ref p, y] H Q E
theorem pe_own_ix {a b : Expr} {ta tb : TE} {pos : Pos} (F : FnOk X.prog X.w X.K X.mg X.base CX k f fd ps sp) (hr : Room (k + 1) X.A) (hs : PySem.W.findIn X.K (.ref C) "__getitem__" = some (some (.ref f))) (hfn : PySem.W.fnIn X.K f = true) (hf : PySem.W.isFn X.K (.ref f) = true)
    (hb : Binds X.K fd ps []) (hx : Passes CX X E) (ha : PE X a ta) (hb' : PE X b tb) (hsl : ∀ o i, subscripted b true o i = runValue (.builtin "lifetime.subscript" ⟨[o, i], []⟩) := by exact fun _ _ => rfl) :
    PE X (.Subscript a b pos) (tOp (rOwnIx C sp E) ta tb) := by
  refine ⟨fun pins s σ H Q I h => ?_⟩
  refine Subscript_ (binT ha hb' I h fun v u s2 x y H2 I2 rx ry q => ?_)
  obtain ⟨p, dx, fs, rfl, hp, q⟩ := q
  cases rx
  obtain ⟨od, J⟩ := inst_of I2 hp
  obtain ⟨m, hF⟩ := I2.fr
  exact PySem.W.sub_K hF I2.ok.mod.kin J hs hfn hf (run_at F hr.in1 rfl hb hx I2 (.cons rr (.cons ry .nil)) q) (hsl _ _)

/-! ### own == and the != that comes with it -/
theorem sub_ty {K : PySem.W.Frag} {C : Addr} {T : String} {l : List String} (e : fastBuiltinMro T = some (l.map Value.type)) : PySem.W.subIn K (.type T) (.ref C) = some false := by
  show (fastBuiltinMro T).map (·.contains (.ref C)) = some false
  rw [e]
  have : ∀ l : List String, (l.map Value.type).contains (Value.ref C) = false := by
    intro l
    induction l with
    | nil => rfl
    | cons a r ih =>
      rw [List.map_cons, List.contains_cons, ih]
      rfl
  rw [Option.map_some, this]
/-- a value's type, not one below the class C -/
inductive TyN (H : Hp) (C : Addr) : V → Value → Prop where
  | non : TyN H C .non (.type "NoneType")
  | bl (x : Bool) : TyN H C (.bl x) (.type "bool")
  | int (i : Int) : TyN H C (.int i) (.type "int")
  | str (x : Str) : TyN H C (.str x) (.type "str")
  | lst {a : Addr} {xs : List V} (e : H a = some (.lst xs)) : TyN H C (.ref a) (.type "list")
  | tup {a : Addr} {xs : List V} (e : H a = some (.tup xs)) : TyN H C (.ref a) (.type "tuple")
  | ins {a dx : Addr} {fs : List (Str × V)} (e : H a = some (.ins C dx fs)) : TyN H C (.ref a) (.ref C)
theorem TyN.notFirst {K : PySem.W.Frag} {H : Hp} {x : V} {t : Value} (h : TyN H C x t) : PySem.W.notFirst K C t = true := by
  cases h with
  | non => exact Bool.or_eq_true_iff.mpr (.inr (beq_iff_eq.mpr (sub_ty (l := ["NoneType", "object"]) (by decide +kernel))))
  | bl _ => exact Bool.or_eq_true_iff.mpr (.inr (beq_iff_eq.mpr (sub_ty (l := ["bool", "int", "object"]) (by decide +kernel))))
  | int _ => exact Bool.or_eq_true_iff.mpr (.inr (beq_iff_eq.mpr (sub_ty (l := ["int", "object"]) (by decide +kernel))))
  | str _ => exact Bool.or_eq_true_iff.mpr (.inr (beq_iff_eq.mpr (sub_ty (l := ["str", "object"]) (by decide +kernel))))
  | lst _ => exact Bool.or_eq_true_iff.mpr (.inr (beq_iff_eq.mpr (sub_ty (l := ["list", "object"]) (by decide +kernel))))
  | tup _ => exact Bool.or_eq_true_iff.mpr (.inr (beq_iff_eq.mpr (sub_ty (l := ["tuple", "object"]) (by decide +kernel))))
  | ins _ => exact Bool.or_eq_true_iff.mpr (.inl (by simp))
theorem looks_obj {M : Model} {h : Heap} {a : Addr} {o : Obj} (e : h.get? a = some o) : PySem.W.Looks M h (typeOf (.ref a)) o.cls := fun A Q E s kp q => PySem.wpAny_typeOf_ref (kp _ _ e) q
theorem TyN.looks {M : Model} {pins : List (Addr × Obj)} {σ : L2.St} {H : Hp} {s : Shared} {x : V} {u t : Value} (I : Inv X pins σ H s) (r : RelV x u) (h : TyN H C x t) : PySem.W.Looks M s.heap (typeOf u) t := by
  cases h with
  | non => cases r; exact PySem.W.Looks.of_pure rfl
  | bl _ => cases r; exact PySem.W.Looks.of_pure rfl
  | int _ => obtain ⟨_, rfl⟩ := r; exact PySem.W.Looks.of_pure rfl
  | str _ => obtain ⟨_, rfl⟩ := r; exact PySem.W.Looks.of_pure rfl
  | @lst a xs e =>
    cases r
    obtain ⟨_, _, n, _, h1⟩ := (show ObjOk X.prog X.w H s.heap a (.lst xs) from I.hok a _ e)
    exact looks_obj h1
  | @tup a xs e =>
    cases r
    obtain ⟨_, _, _, o, h1, h2, _⟩ := (show ObjOk X.prog X.w H s.heap a (.tup xs) from I.hok a _ e)
    have := looks_obj (M := M) h1
    rw [h2] at this
    exact this
  | ins e =>
    cases r
    obtain ⟨od, J⟩ := inst_of I e
    exact J.type
def rOwnEq (C : Addr) (sp : Sp) (E : XK) (g : Bool → Bool) : R2 := fun x y H Q => ∃ p dx fs t, x = .ref p ∧ H p = some (.ins C dx fs) ∧ TyN H C y t ∧ sp [.ref p, y] H (BlQ Q g) E
theorem op_own_eq (F : FnOk X.prog X.w X.K X.mg X.base CX k f fd ps sp) (hr : Room k X.A) (hs : PySem.W.findIn X.K (.ref C) "__eq__" = some (some (.ref f))) (hf : PySem.W.isFn X.K (.ref f) = true) (hb : Binds X.K fd ps []) (hx : Passes CX X E) :
    OpR X (compareOp .Eq) (rOwnEq C sp E id) := by
  intro pins s σ H x y v u Q I rx ry h
  obtain ⟨p, dx, fs, t, rfl, hp, ty, q⟩ := h
  cases rx
  obtain ⟨od, J⟩ := inst_of I hp
  obtain ⟨m, hF⟩ := I.fr
  show wpAny (model X.prog X.w) X.A (richCompare .Eq (.ref p) u) (EP X pins σ Q) X.xe s
  refine PySem.W.cmp_K (op := .Eq) hr.units0 hF I.ok.mod.kin J (ty.looks I ry) ty.notFirst hs hf (thn (run_at F hr rfl hb hx I (.cons rr (.cons ry .nil)) q) fun r s' hh => ?_)
  obtain ⟨z, H', I', rz, b, ez, q'⟩ := hh
  subst ez
  cases rz
  exact ⟨.bl b, H', I', rfl, q'⟩
section
variable {prog : Program} {w : World} {A : Around} {E' : Value → Shared → Prop} {s : Shared} {K : PySem.W.Frag} {x : Addr} {ox : Obj} {od : Option Obj} {b : Value}
theorem objNe_entry (hX : K.In s.heap) (I : PySem.W.InstAt s.heap x ox C od) (hs : PySem.W.findIn K (.ref C) "__eq__" = some (some (.ref f))) (hf : PySem.W.isFn K (.ref f) = true) (hu : A.units < cLine) {Q : Fin → Shared → Prop}
    (hcall : wpAny (model prog w) A (call (.ref f) [.ref x, b]) (fun v s' => ∃ k, v = .bool k ∧ Q (.done (.ret (.bool (!k)))) s') E' s) :
    wpAny (model prog w) A (Builtin.«object.__ne__» ⟨[.ref x, b], []⟩) Q E' s := by
  unfold Builtin.«object.__ne__»
  repeat (first
    | with_reducible refine wpAny_cRoomFor hu ?_
    | (refine wpAny_bind (m := callSpecialIfBound? (.ref x) (Str.ofString "__eq__") [b])
        (PySem.W.ifBound_K hX I hs hf (wpAny_mono hcall (fun r s' hr => by
          obtain ⟨k, rfl, hq⟩ := hr
          repeat (first | exact hq | exact wpAny_pure hq | exact wpAny_truthy_bool hq | (refine wpAny_bind (m := truthy (.bool _)) (wpAny_truthy_bool ?_)) | wp_step)) fun _ _ e => e)))
    | wp_step)
theorem call_objNe (hX : K.In s.heap) (I : PySem.W.InstAt s.heap x ox C od) (hm : PySem.W.mroIn K C (.type "object") = some true) (hs : PySem.W.findIn K (.ref C) "__eq__" = some (some (.ref f))) (hf : PySem.W.isFn K (.ref f) = true) (hu : A.units + 1 < cLine) {Q : Value → Shared → Prop}
    (hcall : wpAny (model prog w) A.in1 (call (.ref f) [.ref x, b]) (fun v s' => ∃ k, v = .bool k ∧ Q (.bool (!k)) s') E' s) :
    wpAny (model prog w) A (call (.builtin "object.__ne__") [.ref x, b]) Q E' s :=
  wpAny_call (codeAny_call_builtin PySem.F.cmp_object.ne.plain PySem.F.cmpEntry_ne (PySem.W.check_slot PySem.F.cmpKind_ne PySem.F.cmpSplit_ne (I.type.andThen (PySem.W.looks_mroIn hX hm)) (PySem.F.cmpArgs_ne _ _)
    (objNe_entry (A := A.in1) hX I hs hf hu (wpAny_mono hcall (fun v s' hv => by
      obtain ⟨k, e, hq⟩ := hv
      exact ⟨k, e, hq⟩) fun _ _ e => e))))
theorem ifBound_objNe {M : Model} {args : List Value} {Q : Option Value → Shared → Prop} (hX : K.In s.heap) (I : PySem.W.InstAt s.heap x ox C od) (hs : PySem.W.findIn K (.ref C) "__ne__" = some (some (.builtin "object.__ne__")))
    (h : wpAny M A (call (.builtin "object.__ne__") (.ref x :: args)) (fun v => Q (some v)) E' s) : wpAny M A (callSpecialIfBound? (.ref x) "__ne__" args) Q E' s := by
  simp only [callSpecialIfBound?, bindSpecialIfBound?]
  refine wpAny_holding (wpAny_bind (wpAny_bind (wpAny_bind (I.type.here ((PySem.W.looks_findIn hX hs).here ?_)))))
  refine wpAny_bind (wpAny_askSetting (wpAny_ite ?_))
  have fin : wpAny M A (call (.builtin "object.__ne__") ([.ref x] ++ args) >>= fun v => pure (some v)) Q E' s := wpAny_bind (wpAny_mono h (fun v s' h' => wpAny_pure h') fun _ _ h' => h')
  split
  · exact wpAny_bind (wpAny_of_eq (PySem.F.cmp_object.ne.bind _) (wpAny_pure (by exact fin)))
  · exact wpAny_tryCatch (wpAny_bind (wpAny_of_eq (PySem.F.cmp_object.ne.bind _) (wpAny_pure (by exact fin))))
theorem rc_ne {tb : Value} {Q : Value → Shared → Prop} (hu : A.units + 1 < cLine) (hX : K.In s.heap) (I : PySem.W.InstAt s.heap x ox C od) (hb : PySem.W.Looks (model prog w) s.heap (typeOf b) tb) (hn : PySem.W.notFirst K C tb = true)
    (hm : PySem.W.mroIn K C (.type "object") = some true) (hne : PySem.W.findIn K (.ref C) "__ne__" = some (some (.builtin "object.__ne__"))) (hs : PySem.W.findIn K (.ref C) "__eq__" = some (some (.ref f))) (hf : PySem.W.isFn K (.ref f) = true)
    (hcall : wpAny (model prog w) A.in1 (call (.ref f) [.ref x, b]) (fun v s' => ∃ k, v = .bool k ∧ Q (.bool (!k)) s') E' s) : wpAny (model prog w) A (richCompare .NotEq (.ref x) b) Q E' s := by
  have one : wpAny (model prog w) A (tryCompare (.ref x) "__ne__" b) (fun r s' => ∃ v, r = some v ∧ Q v s') E' s := by
    unfold tryCompare
    refine wpAny_bind (ifBound_objNe hX I hne (call_objNe hX I hm hs hf hu (wpAny_mono hcall (fun v s' hv => ?_) fun _ _ e => e)))
    obtain ⟨k, rfl, hq⟩ := hv
    exact ⟨k, rfl, wpAny_pure ⟨_, rfl, hq⟩⟩
  unfold richCompare
  simp only [oneThing_ref, cmpInfo_NotEq]
  refine wpAny_holding (wpAny_bind (wpAny_cRoomFor (Nat.lt_of_succ_lt hu) ?_))
  refine wpAny_bind (I.type.here (wpAny_bind (hb.here ?_)))
  split
  · rename_i q
    have e : PySem.W.subIn K tb (.ref C) = some false := by
      rcases Bool.or_eq_true_iff.mp hn with e | e
      · rw [beq_iff_eq.mp e] at q; simp at q
      · exact beq_iff_eq.mp e
    refine wpAny_bind ((PySem.W.looks_subIn hX e).here ?_)
    simp only [Bool.false_eq_true, if_false]
    refine wpAny_bind (wpAny_mono one (fun r s' z => ?_) fun _ _ e => e)
    obtain ⟨v, rfl, hq⟩ := z
    exact wpAny_pure hq
  · refine wpAny_bind (wpAny_pure ?_)
    simp only [Bool.false_eq_true, if_false]
    refine wpAny_bind (wpAny_mono one (fun r s' z => ?_) fun _ _ e => e)
    obtain ⟨v, rfl, hq⟩ := z
    exact wpAny_pure hq
end
theorem op_own_ne (F : FnOk X.prog X.w X.K X.mg X.base CX k f fd ps sp) (hr : Room (k + 1) X.A) (hm : PySem.W.mroIn X.K C (.type "object") = some true) (hne : PySem.W.findIn X.K (.ref C) "__ne__" = some (some (.builtin "object.__ne__")))
    (hs : PySem.W.findIn X.K (.ref C) "__eq__" = some (some (.ref f))) (hf : PySem.W.isFn X.K (.ref f) = true) (hb : Binds X.K fd ps []) (hx : Passes CX X E) :
    OpR X (compareOp .NotEq) (rOwnEq C sp E not) := by
  intro pins s σ H x y v u Q I rx ry h
  obtain ⟨p, dx, fs, t, rfl, hp, ty, q⟩ := h
  cases rx
  obtain ⟨od, J⟩ := inst_of I hp
  show wpAny (model X.prog X.w) X.A (richCompare .NotEq (.ref p) u) (EP X pins σ Q) X.xe s
  refine rc_ne (hu_of hr) I.kIn J (ty.looks I ry) ty.notFirst hm hne hs hf (thn (run_at F hr.in1 rfl hb hx I (.cons rr (.cons ry .nil)) q) fun r s' hh => ?_)
  obtain ⟨z, H', I', rz, b, ez, q'⟩ := hh
  subst ez
  cases rz
  exact ⟨b, rfl, .bl (!b), H', I', rfl, q'⟩
end
end Own

namespace Toy
open PySem L2 Own
/-! ### the text by places -/
def top (i : Nat) : Stmt := PySem.Challenge.pw_breakerrow_k17_spells_of_outages.main.body.getD i (.Pass ⟨0, 0, 0, 0⟩)
abbrev st__wall : Stmt := top 0
abbrev st_InvalidRow_init : Stmt := inClass (top 3) 0
abbrev st_InvalidTime_init : Stmt := inClass (top 4) 0
abbrev st_InvalidOutages_init : Stmt := inClass (top 5) 0
abbrev st_InvalidIndex_init : Stmt := inClass (top 6) 0
abbrev st_is_integer : Stmt := top 8
abbrev st_is_at_least : Stmt := top 9
abbrev st_is_within : Stmt := top 10
abbrev st_steps_to : Stmt := top 11
abbrev st_Row_init : Stmt := inClass (top 16) 0
abbrev st_Row_breaker_list : Stmt := inClass (top 16) 1
abbrev st_Row_step_length : Stmt := inClass (top 16) 2
abbrev st_Row_phase_time : Stmt := inClass (top 16) 3
abbrev st_Row_len : Stmt := inClass (top 16) 4
abbrev st_Row_getitem : Stmt := inClass (top 16) 5
abbrev st_Row_iter : Stmt := inClass (top 16) 6
abbrev st_Row_contains : Stmt := inClass (top 16) 7
abbrev st_Row_add : Stmt := inClass (top 16) 8
abbrev st_Row_eq : Stmt := inClass (top 16) 9
abbrev st_is_breaker : Stmt := top 17
abbrev st_check_breakers : Stmt := top 18
abbrev st_check_step : Stmt := top 19
abbrev st_request_time : Stmt := top 20
abbrev st_first_request : Stmt := top 21
abbrev st_last_time : Stmt := top 23
abbrev st_times_before : Stmt := top 24
abbrev st_part_of : Stmt := top 25
abbrev st_thinned_run : Stmt := top 26
abbrev st_thinned_runs : Stmt := top 27
abbrev st_divided_runs : Stmt := top 28
abbrev st_time_from : Stmt := top 29
abbrev st_closed_states : Stmt := top 31
abbrev st_Spell_init : Stmt := inClass (top 33) 0
abbrev st_spells_of : Stmt := top 34
abbrev st_spell_from : Stmt := top 35
abbrev st_passed_runs : Stmt := top 36
abbrev st_recovery : Stmt := top 37
abbrev st_states_behind : Stmt := top 38
abbrev st_whole_time : Stmt := top 39
abbrev st_Timeline_init : Stmt := inClass (top 42) 0
abbrev st_Timeline_base_row : Stmt := inClass (top 42) 1
abbrev st_Timeline_outage_list : Stmt := inClass (top 42) 2
abbrev st_Timeline_len : Stmt := inClass (top 42) 3
abbrev st_Timeline_getitem : Stmt := inClass (top 42) 4
abbrev st_Timeline_iter : Stmt := inClass (top 42) 5
abbrev st_Timeline_eq : Stmt := inClass (top 42) 6
abbrev st_check_outages : Stmt := top 43
abbrev st_is_outage : Stmt := top 44
abbrev st_marks_of : Stmt := top 45
abbrev st__law_mixed : Stmt := top 47
abbrev st__law_well : Stmt := top 48
abbrev st__law_draw : Stmt := top 49
abbrev st__law_one : Stmt := top 50
abbrev st__law_row : Stmt := top 51
abbrev st__law_downs : Stmt := top 52
abbrev st__law_send : Stmt := top 53
abbrev st__law_play : Stmt := top 54
abbrev st__law_runs : Stmt := top 55
abbrev st__law_until : Stmt := top 56
abbrev st__law_made : Stmt := top 57
abbrev st__law_due : Stmt := top 58
abbrev st__law_right : Stmt := top 59
abbrev st_law : Stmt := top 60
/-- a def of the top -/
structure Dfn (K : PySem.W.Frag) (mg : Str → Option Value) (x : Str) (st : Stmt) (f : Addr) (ps : List Str) : Prop where
  ex : ∃ fd, Fun K x x st f fd ∧ Binds K fd ps []
  g : mg x = some (.ref f)
structure Mth (K : PySem.W.Frag) (C : Addr) (m q : Str) (st : Stmt) (f : Addr) (ps : List Str) : Prop where
  ex : ∃ fd, Fun K m q st f fd ∧ Binds K fd ps []
  at_ : PySem.W.findIn K (.ref C) m = some (some (.ref f))
  fn : PySem.W.isFn K (.ref f) = true
  fk : PySem.W.fnIn K f = true
/-- a def that is called by its name, with its promise -/
structure Cal (P : Program) (w : World) (K : PySem.W.Frag) (mg : Str → Option Value) (base : Heap) (x : Str) (k : Nat) (f : Addr) (ps : List Str) (sp : Sp) : Prop where
  ex : ∃ fd, FnOk P w K mg base CX0 k f fd ps sp ∧ Binds K fd ps []
  g : mg x = some (.ref f)
  kp : PySem.W.keepIn K (.ref f) = true
theorem Dfn.cal {P : Program} {w : World} {K : PySem.W.Frag} {mg : Str → Option Value} {base : Heap} {x : Str} {st : Stmt} {f : Addr} {ps : List Str} {k : Nat} {sp : Sp} (D : Dfn K mg x st f ps) (h : ∀ fd, Fun K x x st f fd → FnOk P w K mg base CX0 k f fd ps sp) : Cal P w K mg base x k f ps sp := by
  obtain ⟨fd, F, b⟩ := D.ex
  exact ⟨⟨fd, h fd F, b⟩, D.g, F.kp⟩
theorem pe_c {X : Cx} {x : Str} {k : Nat} {f : Addr} {ps : List Str} {sp : Sp} {t : TA} {e : Expr} {es : List Expr} {p pos : Pos} (c : Cal X.prog X.w X.K X.mg X.base x k f ps sp) (hr : Room k X.A) (hg : Gl X x)
    (ha : PA X (e :: es) t) (hdb : (x == ("__debug__" : Str)) = false := by decide) (he : starEach (e :: es) X.env = (false, eval e X.env) :: starEach es X.env := by rfl) (hpl : (backTo pos (starEach es X.env)).any (·.1) = false := by rfl) :
    PE X (.Call (.Name x p) (e :: es) [] pos) (tCall sp [] E0 t) := by
  obtain ⟨fd, F, b⟩ := c.ex
  exact pe_call F hr hg c.g c.kp b .nil pass0 ha hdb he hpl
/-- a method with its promise -/
structure Met (P : Program) (w : World) (K : PySem.W.Frag) (mg : Str → Option Value) (base : Heap) (C : Addr) (m : Str) (k : Nat) (f : Addr) (ps : List Str) (sp : Sp) : Prop where
  ex : ∃ fd, FnOk P w K mg base CX0 k f fd ps sp ∧ Binds K fd ps []
  me : Meth K C m f
  fk : PySem.W.fnIn K f = true
theorem Mth.met {P : Program} {w : World} {K : PySem.W.Frag} {mg : Str → Option Value} {base : Heap} {C : Addr} {m q : Str} {st : Stmt} {f : Addr} {ps : List Str} {k : Nat} {sp : Sp} (D : Mth K C m q st f ps) (h : ∀ fd, Fun K m q st f fd → FnOk P w K mg base CX0 k f fd ps sp) : Met P w K mg base C m k f ps sp := by
  obtain ⟨fd, F, b⟩ := D.ex
  exact ⟨⟨fd, h fd F, b⟩, ⟨D.at_, D.fn, F.kp⟩, D.fk⟩

/-! ### values of plain kinds -/
inductive Kd (H : Hp) : V → String → Prop where
  | non : Kd H .non "NoneType"
  | bl (b : Bool) : Kd H (.bl b) "bool"
  | int (i : Int) : Kd H (.int i) "int"
  | str (x : Str) : Kd H (.str x) "str"
  | lst {a : Addr} {xs : List V} (e : H a = some (.lst xs)) : Kd H (.ref a) "list"
  | tup {a : Addr} {xs : List V} (e : H a = some (.tup xs)) : Kd H (.ref a) "tuple"
  | dK {a : Addr} {xs : List (Key × V)} (e : H a = some (.dK xs)) : Kd H (.ref a) "dict"
theorem Kd.ty {K : PySem.W.Frag} {H : Hp} {v : V} {n : String} (h : Kd H v n) : TyX K H v (.type n) := by
  cases h with
  | non => exact .base .non
  | bl b => exact .base (.bl b)
  | int i => exact .base (.int i)
  | str x => exact .base (.str x)
  | lst e => exact .base (.lst e)
  | tup e => exact .base (.tup e)
  | dK e => exact .base (.dK e)
def isI : V → Bool
  | .int _ => true
  | _ => false
def toI : V → Int
  | .int i => i
  | _ => 0
theorem Kd.kit {K : PySem.W.Frag} {H : Hp} {v : V} {n : String} (h : Kd H v n) (c : String) (b : Bool) (hc : c = "int" ∧ b = (n == "int" || n == "bool") ∨ c ≠ "int" ∧ c ∈ ["bool", "list", "tuple"] ∧ b = (n == c)) : PySem.W.kitOne K (.type n) (.type c) = some b := by
  rcases hc with ⟨rfl, rfl⟩ | ⟨_, hc, rfl⟩
  · cases h <;> exact kit_ty (by decide +kernel)
  · simp only [List.mem_cons, List.mem_nil_iff, or_false] at hc
    rcases hc with rfl | rfl | rfl <;> cases h <;> exact kit_ty (by decide +kernel)
theorem Kd.same {H H' : Hp} {v : V} {n : String} (h : Kd H v n) (s : ∀ b o, v = .ref b → H b = some o → H' b = some o) : Kd H' v n := by
  cases h with
  | non => exact .non
  | bl b => exact .bl b
  | int i => exact .int i
  | str x => exact .str x
  | lst e => exact .lst (s _ _ rfl e)
  | tup e => exact .tup (s _ _ rfl e)
  | dK e => exact .dK (s _ _ rfl e)
/-- all but what stands at a is kept -/
def Kp (a : Addr) (H H' : Hp) : Prop := ∀ b o, b ≠ a → H b = some o → H' b = some o
theorem Kp.refl {a : Addr} {H : Hp} : Kp a H H := fun _ _ _ h => h
theorem Kp.trans {a : Addr} {H H1 H2 : Hp} (h : Kp a H H1) (h' : Kp a H1 H2) : Kp a H H2 := fun b o n e => h' b o n (h b o n e)
theorem Kp.of {a : Addr} {H H' : Hp} (s : Same H H') : Kp a H H' := fun b o _ e => s b o e
theorem Kp.upd {a : Addr} {H : Hp} {o : HO} : Kp a H (upd H a o) := fun b _ n e => by rw [upd_ne n]; exact e
theorem Same.upd {H : Hp} {p : Addr} {o : HO} (h : H p = none) : Same H (L2.upd H p o) := fun b u e => by rw [upd_ne (ne_of_none e h)]; exact e
theorem Kp.free {a b : Addr} {H H' : Hp} {o : HO} (k : Kp a H H') (ha : H a = some o) (h : H' b = none) (n : b ≠ a) : H b = none := by
  cases q : H b with
  | none => rfl
  | some u => rw [k b u n q] at h; cases h

/-! ### the promises of the small defs -/
def spIsInt : Sp := fun vs H Q _ => ∃ v n, vs = [v] ∧ Kd H v n ∧ Q (.bl (isI v)) H
def spAtL : Sp := fun vs H Q _ => ∃ v n l, vs = [v, .int l] ∧ Kd H v n ∧ Q (.bl (isI v && decide (l ≤ toI v))) H
def spWithin : Sp := fun vs H Q _ => ∃ v n l m, vs = [v, .int l, .int m] ∧ Kd H v n ∧ Q (.bl (isI v && (decide (l ≤ toI v) && decide (toI v ≤ m)))) H
/-- how many steps -/
def stepsUp (d s : Int) : Int := if -(-d / s) > 0 then -(-d / s) else 0
def spSteps : Sp := fun vs H Q _ => ∃ d s, vs = [.int d, .int s] ∧ 0 < s ∧ s.natAbs.log2 < 9000 ∧ Q (.int (stepsUp d s)) H

/-- what is no list is kept -/
def NL (H H' : Hp) : Prop := ∀ b o, H b = some o → (∀ xs, o ≠ .lst xs) → H' b = some o
theorem NL.refl {H : Hp} : NL H H := fun _ _ h _ => h
theorem NL.trans {H H1 H2 : Hp} (a : NL H H1) (b : NL H1 H2) : NL H H2 := fun c o h n => b c o (a c o h n) n
theorem NL.of {H H' : Hp} (s : Same H H') : NL H H' := fun b o e _ => s b o e
theorem Kp.nl {a : Addr} {H H' : Hp} {xs : List V} (k : Kp a H H') (h : H a = some (.lst xs)) : NL H H' := fun b o e n => k b o (fun z => by subst z; rw [h] at e; exact n xs (Option.some.inj e).symm) e
theorem NL.upd {H : Hp} {p : Addr} {xs : List V} {o : HO} (h : H p = some (.lst xs)) : NL H (L2.upd H p o) := Kp.nl Kp.upd h
theorem pe_gI {X : Cx} {x : Str} {i : Int} {t : Tok} {pos : Pos} (hm : X.mg x = some (.int i t)) (hg : Gl X x := by rfl) (hd : (x == ("__debug__" : Str)) = false := by decide) : PE X (.Name x pos) (tC (.int i)) := pe_glob hg hm ⟨t, rfl⟩ hd
@[irreducible] def PB (n : Nat) : Int := 2 ^ n
theorem PB_succ (n : Nat) : PB (n + 1) = PB n + PB n := by
  unfold PB
  rw [Int.pow_succ]
  omega
theorem PB_pos (n : Nat) : 1 ≤ PB n := by
  unfold PB
  have : (0 : Int) < 2 ^ n := Int.pow_pos (by decide)
  omega
theorem PB_le {n m : Nat} (h : n ≤ m) : PB n ≤ PB m := by
  induction m with
  | zero => rw [Nat.le_zero.mp h]; exact Int.le_refl _
  | succ m ih =>
    by_cases e : n = m + 1
    · rw [e]; exact Int.le_refl _
    · have h1 := ih (by omega)
      have h2 := PB_succ m
      have h3 := PB_pos m
      omega
theorem PB_abs {i : Int} {n : Nat} (h0 : 0 ≤ i) (h : i ≤ PB n) : i.natAbs < 2 ^ (n + 1) := by
  unfold PB at h
  have e : (2 : Nat) ^ (n + 1) = 2 ^ n * 2 := Nat.pow_succ 2 n
  have e2 : ((2 ^ n : Nat) : Int) = 2 ^ n := by rw [Int.natCast_pow]; rfl
  rw [← e2] at h
  have : 0 < 2 ^ n := Nat.pow_pos (by decide)
  rw [e]
  generalize 2 ^ n = w at *
  omega
theorem PB_of {i : Int} {n : Nat} (h : i.natAbs < 2 ^ n) : i ≤ PB n := by
  unfold PB
  have e2 : ((2 ^ n : Nat) : Int) = 2 ^ n := by rw [Int.natCast_pow]; rfl
  rw [← e2]
  generalize 2 ^ n = w at *
  omega
def BB : Int := PB 5000
theorem BB0 : 0 ≤ BB := by
  have := PB_pos 5000
  unfold BB
  omega
theorem bb_lt {i : Int} (h0 : 0 ≤ i) (h : i ≤ BB + BB) : i.natAbs < 2 ^ 5002 := PB_abs h0 (by rw [PB_succ]; exact h)
theorem mulBB {i j : Int} (i0 : 0 ≤ i) (i1 : i ≤ BB + BB) (j0 : 0 ≤ j) (j1 : j ≤ BB + BB) : CMulW i j := wide_mul (bb_lt i0 i1) (bb_lt j0 j1) (by decide) (by decide) (by decide)
theorem BB1 : 1 ≤ BB := PB_pos 5000
theorem divBB {j : Int} (j0 : 1 ≤ j) (j1 : j ≤ BB) : j.natAbs.log2 < 9000 := (wide_div (i := 0) (by omega : 0 < j) (bb_lt (by omega) (by have := BB0; omega)) (by decide) (by decide)).2
theorem small2 {n : Nat} (h : n ≤ 100000) : n ≤ sizeLine := Nat.le_trans h (by decide)
theorem small1 {n : Nat} (h : n ≤ 100000) : n < sizeLine := Nat.lt_of_le_of_lt h (by decide)
theorem tYes_of {σ : L2.St} {H : Hp} {A B : Hp → Prop} (h : A H) : tYes σ H (fun b H3 => if b = true then A H3 else B H3) := by
  show if true = true then A H else B H
  rw [if_pos rfl]
  exact h
theorem cut_init (xs : List V) : cutV xs none (some (-1)) = xs.take (xs.length - 1) := by
  show (xs.drop 0).take ((if (-1 : Int) < 0 then ((-1 : Int) + (xs.length : Int)).toNat else min (-1 : Int).toNat xs.length) - 0) = _
  rw [if_pos (by decide), List.drop_zero]
  congr 1
  omega
theorem cut_last (xs : List V) : cutV xs (some (-1)) none = xs.drop (xs.length - 1) := by
  show (xs.drop (if (-1 : Int) < 0 then ((-1 : Int) + (xs.length : Int)).toNat else min (-1 : Int).toNat xs.length)).take (xs.length - (if (-1 : Int) < 0 then ((-1 : Int) + (xs.length : Int)).toNat else min (-1 : Int).toNat xs.length)) = _
  rw [if_pos (by decide)]
  have e : ((-1 : Int) + (xs.length : Int)).toNat = xs.length - 1 := by omega
  rw [e]
  refine List.take_of_length_le ?_
  rw [List.length_drop]
  exact Nat.le_refl _
theorem none_of {H H' : Hp} {l : Addr} (s : Same H H') (h : H' l = none) : H l = none := by
  cases q : H l with
  | none => rfl
  | some o => rw [s _ _ q] at h; cases h
theorem for_enum {K : PySem.W.Frag} {a : Addr} {xs : List V} {g : TG} {tb : TS} {D : Ends} {σ : L2.St} {H : Hp} (Pv : Nat → L2.St → Hp → Prop) (h0 : Pv 0 σ H) (hl : ∀ i σ H, i ≤ xs.length → Pv i σ H → SqL K H a xs)
    (hs : ∀ i x T σ H, xs[i]? = some x → Pv i σ H → H T = none → g (.ref T) σ (upd H T (.tup [.int (i : Nat), x])) fun σ2 H2 => tb { D with nx := Pv (i + 1), ct := Pv (i + 1), bk := D.nx } σ2 H2) (hd : ∀ σ H, Pv xs.length σ H → D.nx σ H) :
    ∃ W : Nat → Nat → L2.St → Hp → Prop, (∃ m, W 0 m σ H) ∧ ∀ i m σ H, W i m σ H →
      ((Ite K a).stop i H ∧ D.nx σ H) ∨ ((Ite K a).go i H ∧ ∃ N : L2.St → Hp → Prop, (∀ σ' H', N σ' H' → ∃ m', m' < m ∧ W (i + 1) m' σ' H') ∧ ∀ x H', (Ite K a).yld i H x H' → g x σ H' fun σ2 H2 => tb { D with nx := N, ct := N, bk := D.nx } σ2 H2) := by
  refine ⟨fun i m σ H => m = xs.length - i ∧ i ≤ xs.length ∧ Pv i σ H, ⟨xs.length, by simp, Nat.zero_le _, h0⟩, ?_⟩
  rintro i m σ H ⟨rfl, hi, p⟩
  have q := hl i σ H hi p
  by_cases hlt : i < xs.length
  · refine .inr ⟨⟨xs, xs[i], q, by simp [hlt]⟩, Pv (i + 1), fun σ' H' p' => ⟨xs.length - (i + 1), by omega, rfl, hlt, p'⟩, fun x H' y => ?_⟩
    obtain ⟨T, x', rfl, hT, rfl, hx⟩ := y
    exact hs i x' T σ H (hx xs q) p hT
  · have e : i = xs.length := by omega
    subst e
    exact .inl ⟨⟨xs, q, Nat.le_refl _⟩, hd σ H p⟩
theorem pe_callN0 {X : Cx} {CX : CXT} {k : Nat} {f : Addr} {fd : FuncData} {ps ks : List Str} {sp : Sp} {E : XK} {x : Str} {p pos : Pos} {kws : List Keyword} {tk : TA} {g : List Value → List Value → List Value} {gV : List V → List V → List V}
    (F : FnOk X.prog X.w X.K X.mg X.base CX k f fd ps sp) (hr : Room k X.A) (hg : Gl X x) (hm : X.mg x = some (.ref f)) (hk : PySem.W.keepIn X.K (.ref f) = true) (hb : KBn X.K fd ps 0 ks g gV) (hx : Passes CX X E) (hkw : PK X kws tk)
    (hall : (backToKw pos (keywordEach kws X.env)).all (·.1.isSome) = true := by rfl) (hks : (backToKw pos (keywordEach kws X.env)).filterMap (·.1) = ks := by rfl) (hdb : (x == ("__debug__" : Str)) = false := by decide)
    (hpl : ((backTo pos (starEach [] X.env)).any (·.1) || (backToKw pos (keywordEach kws X.env)).any (·.1.isNone)) = false := by rfl) :
    PE X (.Call (.Name x p) [] kws pos) (tCallN 0 ks.length sp gV E tNil tk) := by
  refine ⟨fun pins s σ H Q I h => ?_⟩
  refine wpAny_Call_Name_kw (ld_glob I hg hm ?_ hdb)
  refine PySem.W.callWith_KW0 (h₀ := X.base) I.ok.mod.kin hk hall ?_ hpl
  refine thn (hkw.run pos pins s σ H _ I h) fun ws s2 ⟨zs, H2, I2, rz, l1, l2, q2⟩ => ⟨I2.kIn, ?_⟩
  rw [hks]
  exact run_fnN F hr hb hx I2 .nil rz rfl l2 q2
section
variable {X : Cx} {C : Addr} {k : Nat} {f : Addr} {ps : List Str} {sp : Sp}
theorem Met.op_in (c : Met X.prog X.w X.K X.mg X.base C "__contains__" k f ps sp) (hr : Room k X.A) : OpR X (compareOp .In) (rOwnIn C sp E0 _root_.id) := by
  obtain ⟨fd, F, b⟩ := c.ex
  exact op_own_in F hr c.me.at_ c.me.fn b pass0
theorem Met.op_notin (c : Met X.prog X.w X.K X.mg X.base C "__contains__" k f ps sp) (hr : Room k X.A) : OpR X (compareOp .NotIn) (rOwnIn C sp E0 Bool.not) := by
  obtain ⟨fd, F, b⟩ := c.ex
  exact op_own_notin F hr c.me.at_ c.me.fn b pass0
theorem Met.c_len (c : Met X.prog X.w X.K X.mg X.base C "__len__" k f ps sp) (hr : Room (k + 1) X.A) : CallR X (.builtin "len") (rOwnLen C sp E0) := by
  obtain ⟨fd, F, b⟩ := c.ex
  exact call_own_len F hr c.me.at_ c.me.fn b pass0
theorem Met.op_add (c : Met X.prog X.w X.K X.mg X.base C "__add__" k f ps sp) (hr : Room k X.A) (hc : PySem.W.selfFirst X.K C = true) : OpR X (binaryOp .Add) (rOwnAdd C sp E0) := by
  obtain ⟨fd, F, b⟩ := c.ex
  exact op_own_add F hr hc c.me.at_ c.me.fn b pass0
theorem Met.op_eq (c : Met X.prog X.w X.K X.mg X.base C "__eq__" k f ps sp) (hr : Room k X.A) : OpR X (compareOp .Eq) (rOwnEq C sp E0 _root_.id) := by
  obtain ⟨fd, F, b⟩ := c.ex
  exact op_own_eq F hr c.me.at_ c.me.fn b pass0
theorem Met.op_ne (c : Met X.prog X.w X.K X.mg X.base C "__eq__" k f ps sp) (hr : Room (k + 1) X.A) (hm : PySem.W.mroIn X.K C (.type "object") = some true) (hne : PySem.W.findIn X.K (.ref C) "__ne__" = some (some (.builtin "object.__ne__"))) : OpR X (compareOp .NotEq) (rOwnEq C sp E0 Bool.not) := by
  obtain ⟨fd, F, b⟩ := c.ex
  exact op_own_ne F hr hm hne c.me.at_ c.me.fn b pass0
theorem Met.p_ix {a b : Expr} {ta tb : TE} {pos : Pos} (c : Met X.prog X.w X.K X.mg X.base C "__getitem__" k f ps sp) (hr : Room (k + 1) X.A) (ha : PE X a ta) (hb' : PE X b tb) (hsl : ∀ o i, subscripted b true o i = runValue (.builtin "lifetime.subscript" ⟨[o, i], []⟩) := by exact fun _ _ => rfl) :
    PE X (.Subscript a b pos) (tOp (rOwnIx C sp E0) ta tb) := by
  obtain ⟨fd, F, bb⟩ := c.ex
  exact pe_own_ix F hr c.me.at_ c.fk c.me.fn bb pass0 ha hb' hsl
end
theorem Met.p_m0 {X : Cx} {C : Addr} {k : Nat} {f : Addr} {ps : List Str} {sp : Sp} {m : Str} {o : Expr} {ta : TE} {apos pos : Pos} {pl : Sem Bool} (c : Met X.prog X.w X.K X.mg X.base C m k f ps sp) (cl : Cls X.K C) (hr : Room k X.A) (he : PE X o ta)
    (ht : eval (.Call (.Attribute o m apos) [] [] pos) X.env = (do
      let ov ← eval o X.env
      standAt apos.atName
      let (f, first) ← holding [ov] (getMethod ov m pl)
      callWith pos f first (backTo pos (starEach [] X.env)) (backToKw pos (keywordEach [] X.env))) := by rfl) :
    PE X (.Call (.Attribute o m apos) [] [] pos) (tMeth C m sp [] E0 ta tNil) := by
  obtain ⟨fd, F, b⟩ := c.ex
  exact pe_meth0 he cl c.me F hr b .nil pass0 ht
/-! ### a class of the text -/
structure CF (K : PySem.W.Frag) (C : Addr) : Prop where
  cl : Cls K C
  cls : PySem.W.isClsIn K C = true
  ty : PySem.W.typeIn K (.ref C) = some (.type "type")
  oc : PySem.W.findIn K (.ref C) "__class__" = some (some (.builtin "object.__class__"))
  og : PySem.W.specialIn K (.builtin "object.__class__") "__get__" = some (some (.builtin "getset_descriptor.__get__"))
  ot : PySem.W.takesIn K (.builtin "object.__class__") = some true
  om : PySem.W.mroIn K C (.type "object") = some true
  sf : PySem.W.selfFirst K C = true
  ne : PySem.W.findIn K (.ref C) "__ne__" = some (some (.builtin "object.__ne__"))
theorem CF.kitT {K : PySem.W.Frag} {C : Addr} (M : CF K C) {H : Hp} {v : V} {n : String} (h : Kd H v n) : PySem.W.kitOne K (.type n) (.ref C) = some false := by
  have e1 : ((PySem.W.clsIn K C).isSome && PySem.W.typeIn K (.ref C) == some (.type "type")) = true := by
    have h2 : (PySem.W.clsIn K C).isSome = true := M.cls
    rw [h2, M.ty] <;> rfl
  have e2 : PySem.W.subIn K (.type n) (.ref C) = some false := by
    cases h with
    | non => exact sub_ty (l := ["NoneType", "object"]) (by decide +kernel)
    | bl _ => exact sub_ty (l := ["bool", "int", "object"]) (by decide +kernel)
    | int _ => exact sub_ty (l := ["int", "object"]) (by decide +kernel)
    | str _ => exact sub_ty (l := ["str", "object"]) (by decide +kernel)
    | lst _ => exact sub_ty (l := ["list", "object"]) (by decide +kernel)
    | tup _ => exact sub_ty (l := ["tuple", "object"]) (by decide +kernel)
    | dK _ => exact sub_ty (l := ["dict", "object"]) (by decide +kernel)
  show (if (Value.type n == Value.ref C) = true then some true else PySem.W.kitCls K (.type n) (.ref C)) = some false
  rw [if_neg (by intro z; cases z)]
  show (if ((PySem.W.clsIn K C).isSome && PySem.W.typeIn K (.ref C) == some (.type "type")) = true then PySem.W.subIn K (.type n) (.ref C) else none) = some false
  rw [if_pos e1, e2]
theorem CF.tyR {K : PySem.W.Frag} {C : Addr} (M : CF K C) {H : Hp} {p dx : Addr} {fs : List (Str × V)} (h : H p = some (.ins C dx fs)) : TyX K H (.ref p) (.ref C) := .base (.ins h M.cl M.oc M.og M.ot M.om)
theorem vals_rev {vs : List V} {us : List Value} (r : Vals vs us) : Vals vs.reverse us.reverse := by
  induction r with
  | nil => exact .nil
  | cons h t ih =>
    rw [List.reverse_cons, List.reverse_cons]
    exact ih.append (.cons h .nil)
/-- f(c = .., b = .., a = ..) of a def f(a, b, c) -/
theorem pe_kr {X : Cx} {k : Nat} {f : Addr} {sp : Sp} {x : Str} {ps : List Str} {st : Stmt} {kws : List Keyword} {tk : TA} {p pos : Pos} (D : Dfn X.K X.mg x st f ps) (h : ∀ fd, Fun X.K x x st f fd → FnOk X.prog X.w X.K X.mg X.base CX0 k f fd ps sp)
    (hbind : ∀ (kV doc pm : Value) (an : Option Addr) (cdv ct : Value) (us : List Value), us.length = ps.reverse.length → bindArgs (PySem.W.fnOf x x (defArgs st) (defBody st) (defScope st) .none kV doc pm an cdv ct) ⟨[], ps.reverse.zip us⟩ = pure (ps.zip us.reverse))
    (hr : Room k X.A) (hg : Gl X x) (hkw : PK X kws tk) (hall : (backToKw pos (keywordEach kws X.env)).all (·.1.isSome) = true := by rfl) (hks : (backToKw pos (keywordEach kws X.env)).filterMap (·.1) = ps.reverse := by rfl) (hdb : (x == ("__debug__" : Str)) = false := by decide)
    (hpl : ((backTo pos (starEach [] X.env)).any (·.1) || (backToKw pos (keywordEach kws X.env)).any (·.1.isNone)) = false := by rfl) :
    PE X (.Call (.Name x p) [] kws pos) (tCallN 0 ps.reverse.length sp (fun us ws => us ++ ws.reverse) E0 tNil tk) := by
  obtain ⟨fd, F, _⟩ := D.ex
  have hb : KBn X.K fd ps 0 ps.reverse (fun us ws => us ++ ws.reverse) (fun us ws => us ++ ws.reverse) := by
    refine ⟨fun s us ws hX h1 h2 => ?_, fun r1 r2 => r1.append (vals_rev r2)⟩
    obtain ⟨oc, od, kV, doc, pm, an, cdv, ct, osl, rfl, lk, hcd⟩ := F.ex
    match us, h1 with
    | [], _ => exact .of_eq (hbind kV doc pm an cdv ct ws h2)
  exact pe_callN0 (h fd F) hr hg D.g F.kp hb pass0 hkw hall hks hdb hpl
/-- where the defs and classes of the text stand -/
structure LA where
  f__wall : Addr
  f_is_integer : Addr
  f_is_at_least : Addr
  f_is_within : Addr
  f_steps_to : Addr
  f_is_breaker : Addr
  f_check_breakers : Addr
  f_check_step : Addr
  f_request_time : Addr
  f_first_request : Addr
  f_last_time : Addr
  f_times_before : Addr
  f_part_of : Addr
  f_thinned_run : Addr
  f_thinned_runs : Addr
  f_divided_runs : Addr
  f_time_from : Addr
  f_closed_states : Addr
  f_spells_of : Addr
  f_spell_from : Addr
  f_passed_runs : Addr
  f_recovery : Addr
  f_states_behind : Addr
  f_whole_time : Addr
  f_check_outages : Addr
  f_is_outage : Addr
  f_marks_of : Addr
  f__law_mixed : Addr
  f__law_well : Addr
  f__law_draw : Addr
  f__law_one : Addr
  f__law_row : Addr
  f__law_downs : Addr
  f__law_send : Addr
  f__law_play : Addr
  f__law_runs : Addr
  f__law_until : Addr
  f__law_made : Addr
  f__law_due : Addr
  f__law_right : Addr
  c_Row : Addr
  i_Row : Addr
  m_Row_breaker_list : Addr
  m_Row_step_length : Addr
  m_Row_phase_time : Addr
  m_Row_len : Addr
  m_Row_getitem : Addr
  m_Row_contains : Addr
  m_Row_add : Addr
  m_Row_eq : Addr
  c_Spell : Addr
  i_Spell : Addr
  c_Timeline : Addr
  i_Timeline : Addr
  m_Timeline_base_row : Addr
  m_Timeline_outage_list : Addr
  m_Timeline_len : Addr
  m_Timeline_getitem : Addr
  m_Timeline_eq : Addr
/-- what the text says of them -/
structure LX (K : PySem.W.Frag) (mg : Str → Option Value) (L : LA) : Prop where
  b_bool : mg "bool" = none
  b_enumerate : mg "enumerate" = none
  b_int : mg "int" = none
  b_isinstance : mg "isinstance" = none
  b_len : mg "len" = none
  b_list : mg "list" = none
  b_max : mg "max" = none
  b_min : mg "min" = none
  b_range : mg "range" = none
  b_tuple : mg "tuple" = none
  b_zip : mg "zip" = none
  n_MOST_BREAKERS : ∃ t, mg "MOST_BREAKERS" = some (.int 12 t)
  n_MOST_COUNT : ∃ t, mg "MOST_COUNT" = some (.int 1000000000000 t)
  n_MOST_TIME : ∃ t, mg "MOST_TIME" = some (.int 1000000000000000000000000000000 t)
  n_MOST_OUTAGES : ∃ t, mg "MOST_OUTAGES" = some (.int 50 t)
  d__wall : Dfn K mg "_wall" st__wall L.f__wall ["k"]
  d_is_integer : Dfn K mg "is_integer" st_is_integer L.f_is_integer ["value"]
  d_is_at_least : Dfn K mg "is_at_least" st_is_at_least L.f_is_at_least ["value", "least"]
  d_is_within : Dfn K mg "is_within" st_is_within L.f_is_within ["value", "least", "most"]
  d_steps_to : Dfn K mg "steps_to" st_steps_to L.f_steps_to ["distance", "step"]
  d_is_breaker : Dfn K mg "is_breaker" st_is_breaker L.f_is_breaker ["value"]
  d_check_breakers : Dfn K mg "check_breakers" st_check_breakers L.f_check_breakers ["breakers", "part"]
  d_check_step : Dfn K mg "check_step" st_check_step L.f_check_step ["step"]
  d_request_time : Dfn K mg "request_time" st_request_time L.f_request_time ["row", "number"]
  d_first_request : Dfn K mg "first_request" st_first_request L.f_first_request ["row", "time"]
  d_last_time : Dfn K mg "last_time" st_last_time L.f_last_time ["train"]
  d_times_before : Dfn K mg "times_before" st_times_before L.f_times_before ["train", "time"]
  d_part_of : Dfn K mg "part_of" st_part_of L.f_part_of ["train", "low", "high"]
  d_thinned_run : Dfn K mg "thinned_run" st_thinned_run L.f_thinned_run ["train", "wait", "time"]
  d_thinned_runs : Dfn K mg "thinned_runs" st_thinned_runs L.f_thinned_runs ["trains", "wait", "time"]
  d_divided_runs : Dfn K mg "divided_runs" st_divided_runs L.f_divided_runs ["trains", "count"]
  d_time_from : Dfn K mg "time_from" st_time_from L.f_time_from ["trains", "time"]
  d_closed_states : Dfn K mg "closed_states" st_closed_states L.f_closed_states ["number"]
  d_spells_of : Dfn K mg "spells_of" st_spells_of L.f_spells_of ["row", "outages"]
  d_spell_from : Dfn K mg "spell_from" st_spell_from L.f_spell_from ["row", "first", "begun", "outages", "at"]
  d_passed_runs : Dfn K mg "passed_runs" st_passed_runs L.f_passed_runs ["runs", "breaker", "state"]
  d_recovery : Dfn K mg "recovery" st_recovery L.f_recovery ["runs", "outages", "at"]
  d_states_behind : Dfn K mg "states_behind" st_states_behind L.f_states_behind ["row", "spell", "time"]
  d_whole_time : Dfn K mg "whole_time" st_whole_time L.f_whole_time ["row", "spell"]
  d_check_outages : Dfn K mg "check_outages" st_check_outages L.f_check_outages ["outages"]
  d_is_outage : Dfn K mg "is_outage" st_is_outage L.f_is_outage ["value"]
  d_marks_of : Dfn K mg "marks_of" st_marks_of L.f_marks_of ["row", "spells"]
  d__law_mixed : Dfn K mg "_law_mixed" st__law_mixed L.f__law_mixed ["_law_cell", "_law_k"]
  d__law_well : Dfn K mg "_law_well" st__law_well L.f__law_well ["_law_cell"]
  d__law_draw : Dfn K mg "_law_draw" st__law_draw L.f__law_draw ["_law_well_here", "_law_many"]
  d__law_one : Dfn K mg "_law_one" st__law_one L.f__law_one ["_law_well_here", "_law_some"]
  d__law_row : Dfn K mg "_law_row" st__law_row L.f__law_row ["_law_well_here"]
  d__law_downs : Dfn K mg "_law_downs" st__law_downs L.f__law_downs ["_law_well_here", "_law_most"]
  d__law_send : Dfn K mg "_law_send" st__law_send L.f__law_send ["_law_specs", "_law_states", "_law_time", "_law_is_fine"]
  d__law_play : Dfn K mg "_law_play" st__law_play L.f__law_play ["_law_line", "_law_downs_here", "_law_until_here"]
  d__law_runs : Dfn K mg "_law_runs" st__law_runs L.f__law_runs ["_law_played"]
  d__law_until : Dfn K mg "_law_until" st__law_until L.f__law_until ["_law_downs_here"]
  d__law_made : Dfn K mg "_law_made" st__law_made L.f__law_made ["_law_line"]
  d__law_due : Dfn K mg "_law_due" st__law_due L.f__law_due ["_law_played"]
  d__law_right : Dfn K mg "_law_right" st__law_right L.f__law_right ["_law_well_here"]
  gc_Row : mg "Row" = some (.ref L.c_Row)
  cf_Row : CF K L.c_Row
  mk_Row : Mk K L.c_Row L.i_Row
  nf_Row_breakers : NoAttr K L.c_Row "breakers"
  nf_Row_step : NoAttr K L.c_Row "step"
  nf_Row_phase : NoAttr K L.c_Row "phase"
  in_Row : ∃ fd, FunD K "__init__" "Row.__init__" (defArgs st_Row_init) (defBody st_Row_init) (defScope st_Row_init) [] [("phase", .int 0)] L.i_Row fd
  mm_Row_breaker_list : Mth K L.c_Row "breaker_list" "Row.breaker_list" st_Row_breaker_list L.m_Row_breaker_list ["self"]
  mm_Row_step_length : Mth K L.c_Row "step_length" "Row.step_length" st_Row_step_length L.m_Row_step_length ["self"]
  mm_Row_phase_time : Mth K L.c_Row "phase_time" "Row.phase_time" st_Row_phase_time L.m_Row_phase_time ["self"]
  mm_Row_len : Mth K L.c_Row "__len__" "Row.__len__" st_Row_len L.m_Row_len ["self"]
  mm_Row_getitem : Mth K L.c_Row "__getitem__" "Row.__getitem__" st_Row_getitem L.m_Row_getitem ["self", "at"]
  mm_Row_contains : Mth K L.c_Row "__contains__" "Row.__contains__" st_Row_contains L.m_Row_contains ["self", "x"]
  mm_Row_add : Mth K L.c_Row "__add__" "Row.__add__" st_Row_add L.m_Row_add ["self", "other"]
  mm_Row_eq : Mth K L.c_Row "__eq__" "Row.__eq__" st_Row_eq L.m_Row_eq ["self", "other"]
  gc_Spell : mg "Spell" = some (.ref L.c_Spell)
  cf_Spell : CF K L.c_Spell
  mk_Spell : Mk K L.c_Spell L.i_Spell
  nf_Spell_first : NoAttr K L.c_Spell "first"
  nf_Spell_recovered : NoAttr K L.c_Spell "recovered"
  nf_Spell_begun : NoAttr K L.c_Spell "begun"
  nf_Spell_runs : NoAttr K L.c_Spell "runs"
  nf_Spell_opened : NoAttr K L.c_Spell "opened"
  in_Spell : ∃ fd, Fun K "__init__" "Spell.__init__" st_Spell_init L.i_Spell fd ∧ Binds K fd ["self", "first", "recovered", "begun", "runs", "opened"] []
  gc_Timeline : mg "Timeline" = some (.ref L.c_Timeline)
  cf_Timeline : CF K L.c_Timeline
  mk_Timeline : Mk K L.c_Timeline L.i_Timeline
  nf_Timeline_row : NoAttr K L.c_Timeline "row"
  nf_Timeline_outages : NoAttr K L.c_Timeline "outages"
  nf_Timeline_spells : NoAttr K L.c_Timeline "spells"
  nf_Timeline_firsts : NoAttr K L.c_Timeline "firsts"
  nf_Timeline_marks : NoAttr K L.c_Timeline "marks"
  in_Timeline : ∃ fd, Fun K "__init__" "Timeline.__init__" st_Timeline_init L.i_Timeline fd ∧ Binds K fd ["self", "row", "outages"] []
  mm_Timeline_base_row : Mth K L.c_Timeline "base_row" "Timeline.base_row" st_Timeline_base_row L.m_Timeline_base_row ["self"]
  mm_Timeline_outage_list : Mth K L.c_Timeline "outage_list" "Timeline.outage_list" st_Timeline_outage_list L.m_Timeline_outage_list ["self"]
  mm_Timeline_len : Mth K L.c_Timeline "__len__" "Timeline.__len__" st_Timeline_len L.m_Timeline_len ["self"]
  mm_Timeline_getitem : Mth K L.c_Timeline "__getitem__" "Timeline.__getitem__" st_Timeline_getitem L.m_Timeline_getitem ["self", "at"]
  mm_Timeline_eq : Mth K L.c_Timeline "__eq__" "Timeline.__eq__" st_Timeline_eq L.m_Timeline_eq ["self", "other"]
  mo_Row_Spell : PySem.W.mroIn K L.c_Row (.ref L.c_Spell) = some false
  mo_Row_Timeline : PySem.W.mroIn K L.c_Row (.ref L.c_Timeline) = some false
  mo_Spell_Row : PySem.W.mroIn K L.c_Spell (.ref L.c_Row) = some false
  mo_Spell_Timeline : PySem.W.mroIn K L.c_Spell (.ref L.c_Timeline) = some false
  mo_Timeline_Row : PySem.W.mroIn K L.c_Timeline (.ref L.c_Row) = some false
  mo_Timeline_Spell : PySem.W.mroIn K L.c_Timeline (.ref L.c_Spell) = some false

/-- a comprehension over zip of two lists -/
theorem lc_zip {K : PySem.W.Frag} {a b : Addr} {xs ys : List V} {g : TG} {tt : TT} {te : TE} {vs : List Nat} {σ : L2.St} {H1 : Hp} {D : Addr} {Qd : Hp → Prop} (hlen : ys.length ≤ xs.length) (Pv : Nat → Hp → Prop) (h0 : Pv 0 (upd H1 D (.lst []))) (hl : ∀ i H, Pv i H → SqL K H a xs ∧ SqL K H b ys)
    (hs : ∀ (i : Nat) (x y : V) (T : Addr) (H : Hp), xs[i]? = some x → ys[i]? = some y → Pv i H → H T = none → g (.ref T) (wipe σ vs) (upd H T (.tup [x, y])) fun σ2 H2 => wipe σ2 vs = wipe σ vs ∧ tt σ2 H2 fun b H3 =>
      if b = true then te σ2 H3 fun y H4 => ∃ acc, H4 D = some (.lst acc) ∧ acc.length < sizeLine ∧ Pv (i + 1) (upd H4 D (.lst (acc ++ [y]))) else Pv (i + 1) H3) (hd : ∀ H, Pv ys.length H → Qd H) :
    ∃ W : Nat → Nat → Hp → Prop, (∃ m, W 0 m (upd H1 D (.lst []))) ∧ ∀ i m H, W i m H → ((Itz K a b).stop i H ∧ Qd H) ∨ ((Itz K a b).go i H ∧ ∃ Nx : Hp → Prop, (∀ H', Nx H' → ∃ m', m' < m ∧ W (i + 1) m' H') ∧ ∀ x H', (Itz K a b).yld i H x H' → g x (wipe σ vs) H' fun σ2 H2 => wipe σ2 vs = wipe σ vs ∧ tt σ2 H2 fun b H3 =>
        if b = true then te σ2 H3 fun y H4 => ∃ acc, H4 D = some (.lst acc) ∧ acc.length < sizeLine ∧ Nx (upd H4 D (.lst (acc ++ [y]))) else Nx H3) := by
  refine ⟨fun i m H => m = ys.length - i ∧ i ≤ ys.length ∧ Pv i H, ⟨ys.length, by omega, Nat.zero_le _, h0⟩, ?_⟩
  rintro i m H ⟨rfl, hi, p⟩
  obtain ⟨qx, qy⟩ := hl i H p
  by_cases hlt : i < ys.length
  · have hx : xs[i]? = some xs[i] := List.getElem?_eq_getElem (by omega)
    have hy : ys[i]? = some ys[i] := List.getElem?_eq_getElem hlt
    refine .inr ⟨⟨xs, ys, _, _, qx, qy, hx, hy⟩, Pv (i + 1), fun H' p' => ⟨ys.length - (i + 1), by omega, rfl, hlt, p'⟩, fun v H' y => ?_⟩
    obtain ⟨T, x', y', rfl, hT, rfl, f1, f2⟩ := y
    exact hs i x' y' T H (f1 xs qx) (f2 ys qy) p hT
  · have e : i = ys.length := by omega
    subst e
    exact .inl ⟨⟨xs, ys, qx, qy, .inr (Nat.le_refl _)⟩, hd H p⟩
/-- an attribute inside a comprehension -/
theorem pe_fldK {X : Cx} {K : PySem.W.Frag} {e : Expr} {f : Str} {pos : Pos} {ta : TE} (hK : X.K = K) (he : PE X e ta) (hb : attributeBase e f X.env (eval e X.env) = eval e X.env) : PE X (.Attribute e f pos) (tFld K ta f) := by
  subst hK
  exact pe_fld he hb
theorem putF_len (f : Str) (v : V) (fs : List (Str × V)) {n : Nat} (h : fs.length ≤ n) : (putF f v fs).length ≤ n + 1 := Nat.le_trans (length_putF f v fs) (Nat.succ_le_succ h)
def spRup : Sp := fun vs H Q _ => ∃ v u : Int, vs = [.int v, .int u] ∧ 0 < u ∧ u.natAbs.log2 < 9000 ∧ CMulW (stepsUp v u) u ∧ Q (.int (stepsUp v u * u)) H
/-! ### the small defs -/
section
variable {P : Program} {w : World} {K : PySem.W.Frag} {mg : Str → Option Value} {base : Heap} {L : LA}
abbrev N_isinteger : List Str := ["value"]
theorem sc_isinteger : FnScope N_isinteger ["value"] (defScope st_is_integer) := ⟨rfl, rfl, rfl, by decide +kernel, rfl, by decide +kernel, by decide +kernel⟩
theorem fn_isinteger (T : LX K mg L) {fd : FuncData} (F : Fun K "is_integer" "is_integer" st_is_integer L.f_is_integer fd) : FnOk P w K mg base CX0 1 L.f_is_integer fd ["value"] (spIsInt) := by
  have nd := sc_isinteger.nd
  refine F.ok sc_isinteger (fun vs H Q E h => ?_) (fun cdv A outer S H vs Q E hr h => ?_)
  · obtain ⟨v, n, rfl, _⟩ := h
    rfl
  · obtain ⟨v, n, rfl, hv, k⟩ := h
    refine ⟨_, (pss_one (ps_ret (pe_and (pe_callB call_isi (by rfl) T.b_isinstance (by decide +kernel) (pa_cons (pv 0) (pa_cons (pe_bltn (by rfl) T.b_int (by decide +kernel : bootBuiltins "int" = some (.type "int")) (v := .ty "int") rfl) pa_nil))) (pe_one (pe_not (pe_callB call_isi (by rfl) T.b_isinstance (by decide +kernel) (pa_cons (pv 0) (pa_cons (pe_bltn (by rfl) T.b_bool (by decide +kernel : bootBuiltins "bool" = some (.type "bool")) (v := .ty "bool") rfl) pa_nil)))))))), ?_⟩
    refine ⟨_, rfl, v, .ty "int", _, _, _, rfl, .ty "int", hv.ty, hv.kit "int" _ (.inl ⟨rfl, rfl⟩), _, rfl, ?_⟩
    refine ite2 (fun c => ?_) (fun c => ?_)
    · refine ⟨_, rfl, v, .ty "bool", _, _, _, rfl, .ty "bool", hv.ty, hv.kit "bool" _ (.inr ⟨by decide, by decide, rfl⟩), _, rfl, ?_⟩
      cases hv <;> first | exact k | (exact absurd c (by decide))
    · cases hv <;> first | exact k | (exact absurd (by decide) c)
theorem ok_isinteger (T : LX K mg L) : Cal P w K mg base "is_integer" 1 L.f_is_integer ["value"] (spIsInt) := T.d_is_integer.cal fun fd F => fn_isinteger T F
abbrev N_isatleast : List Str := ["value", "least"]
theorem sc_isatleast : FnScope N_isatleast ["value", "least"] (defScope st_is_at_least) := ⟨rfl, rfl, rfl, by decide +kernel, rfl, by decide +kernel, by decide +kernel⟩
theorem fn_isatleast (T : LX K mg L) {fd : FuncData} (F : Fun K "is_at_least" "is_at_least" st_is_at_least L.f_is_at_least fd) : FnOk P w K mg base CX0 2 L.f_is_at_least fd ["value", "least"] (spAtL) := by
  have G_isinteger := ok_isinteger (P := P) (w := w) (base := base) T
  have nd := sc_isatleast.nd
  refine F.ok sc_isatleast (fun vs H Q E h => ?_) (fun cdv A outer S H vs Q E hr h => ?_)
  · obtain ⟨v, n, l, rfl, _⟩ := h
    rfl
  · obtain ⟨v, n, l, rfl, hv, k⟩ := h
    refine ⟨_, (pss_one (ps_ret (pe_and (pe_c G_isinteger (hr.mono (by decide)) rfl (pa_cons (pv 0) pa_nil)) (pe_one (pe_cmpR op_ge (pv 0) (pv 1) (nomark _)))))), ?_⟩
    refine ⟨_, rfl, v, n, rfl, hv, _, rfl, ?_⟩
    cases v with
    | int i => exact iteT ⟨_, rfl, _, rfl, _, _, rfl, rfl, k⟩
    | _ => exact iteF k
theorem ok_isatleast (T : LX K mg L) : Cal P w K mg base "is_at_least" 2 L.f_is_at_least ["value", "least"] (spAtL) := T.d_is_at_least.cal fun fd F => fn_isatleast T F
abbrev N_iswithin : List Str := ["value", "least", "most"]
theorem sc_iswithin : FnScope N_iswithin ["value", "least", "most"] (defScope st_is_within) := ⟨rfl, rfl, rfl, by decide +kernel, rfl, by decide +kernel, by decide +kernel⟩
theorem fn_iswithin (T : LX K mg L) {fd : FuncData} (F : Fun K "is_within" "is_within" st_is_within L.f_is_within fd) : FnOk P w K mg base CX0 2 L.f_is_within fd ["value", "least", "most"] (spWithin) := by
  have G_isinteger := ok_isinteger (P := P) (w := w) (base := base) T
  have nd := sc_iswithin.nd
  refine F.ok sc_iswithin (fun vs H Q E h => ?_) (fun cdv A outer S H vs Q E hr h => ?_)
  · obtain ⟨v, n, l, m, rfl, _⟩ := h
    rfl
  · obtain ⟨v, n, l, m, rfl, hv, k⟩ := h
    refine ⟨_, (pss_one (ps_ret (pe_and (pe_c G_isinteger (hr.mono (by decide)) rfl (pa_cons (pv 0) pa_nil)) (pe_one (pe_chain op_le op_le (pv 1) (pv 0) (pv 2)))))), ?_⟩
    refine ⟨_, rfl, v, n, rfl, hv, _, rfl, ?_⟩
    cases v with
    | int i =>
      refine iteT ⟨_, rfl, _, rfl, _, _, rfl, rfl, _, rfl, ?_⟩
      refine ite2 (fun c => ?_) (fun c => ?_)
      · refine ⟨_, rfl, _, _, rfl, rfl, ?_⟩
        have c' : decide (l ≤ i) = true := c
        have k' : Q (.bl (decide (l ≤ i) && decide (i ≤ m))) H := k
        rw [c', Bool.true_and] at k'
        exact k'
      · have c' : decide (l ≤ i) = false := by simpa using c
        have k' : Q (.bl (decide (l ≤ i) && decide (i ≤ m))) H := k
        rw [c', Bool.false_and] at k'
        exact k'
    | _ => exact iteF k
theorem ok_iswithin (T : LX K mg L) : Cal P w K mg base "is_within" 2 L.f_is_within ["value", "least", "most"] (spWithin) := T.d_is_within.cal fun fd F => fn_iswithin T F
abbrev N_stepsto : List Str := ["distance", "step"]
theorem sc_stepsto : FnScope N_stepsto ["distance", "step"] (defScope st_steps_to) := ⟨rfl, rfl, rfl, by decide +kernel, rfl, by decide +kernel, by decide +kernel⟩
theorem fn_stepsto (T : LX K mg L) {fd : FuncData} (F : Fun K "steps_to" "steps_to" st_steps_to L.f_steps_to fd) : FnOk P w K mg base CX0 1 L.f_steps_to fd ["distance", "step"] (spSteps) := by
  have nd := sc_stepsto.nd
  refine F.ok sc_stepsto (fun vs H Q E h => ?_) (fun cdv A outer S H vs Q E hr h => ?_)
  · obtain ⟨d, st, rfl, _⟩ := h
    rfl
  · obtain ⟨d, st, rfl, h0, h1, k⟩ := h
    refine ⟨_, (pss_one (ps_ret (pe_callB (call_max2 rfl) (by rfl) T.b_max (by decide +kernel) (pa_cons pe_int (pa_cons (pe_un un_neg (pe_op op_fdivW (pe_un un_neg (pv 0)) (pv 1))) pa_nil))))), ?_⟩
    exact ⟨_, rfl, _, rfl, _, rfl, _, _, rfl, rfl, ⟨h0, h1⟩, _, rfl, _, _, rfl, k⟩
theorem ok_stepsto (T : LX K mg L) : Cal P w K mg base "steps_to" 1 L.f_steps_to ["distance", "step"] (spSteps) := T.d_steps_to.cal fun fd F => fn_stepsto T F
end
/-! ### trains as data -/
abbrev Trn := Int × Int × Option Int
def OkTr (t : Trn) : Prop := 0 ≤ t.1 ∧ 1 ≤ t.2.1 ∧ ∀ c, t.2.2 = some c → 1 ≤ c
/-- all times of the first are before the second -/
def Lt (t u : Trn) : Prop := ∃ c, t.2.2 = some c ∧ t.1 + (c - 1) * t.2.1 < u.1
def Srt (ts : List Trn) : Prop := (∀ t ∈ ts, OkTr t) ∧ ts.Pairwise Lt
def minO (n : Int) : Option Int → Int
  | none => n
  | some c => if c < n then c else n
/-- how many times of a train are before x -/
def nbT (t : Trn) (x : Int) : Int := minO (stepsUp (x - t.1) t.2.1) t.2.2
def NB : List Trn → Int → Int
  | [], _ => 0
  | t :: ts, x => nbT t x + NB ts x
def At : List Trn → Int → Option Int
  | [], _ => none
  | t :: ts, i => match t.2.2 with
    | none => some (t.1 + i * t.2.1)
    | some c => if i < c then some (t.1 + i * t.2.1) else At ts (i - c)
def addO (c : Int) : Option Int → Option Int
  | none => none
  | some n => some (c + n)
def Tot : List Trn → Option Int
  | [] => some 0
  | t :: ts => match t.2.2 with
    | none => none
    | some c => addO c (Tot ts)
/-- d / s, rounded up -/
def cl (d s : Int) : Int := -(-d / s)
theorem stepsUp_cl (d s : Int) : stepsUp d s = if cl d s > 0 then cl d s else 0 := rfl
theorem cl_sub (d s c : Int) (hs : 0 < s) : cl (d - c * s) s = cl d s - c := by
  unfold cl
  have e : -(d - c * s) = -d + c * s := by omega
  rw [e, Int.add_mul_ediv_right _ _ (show s ≠ 0 by omega)]
  omega
theorem cl_le {d s n : Int} (hs : 0 < s) : cl d s ≤ n ↔ d ≤ n * s := by
  unfold cl
  have h : -n ≤ -d / s ↔ -n * s ≤ -d := Int.le_ediv_iff_mul_le hs
  rw [Int.neg_mul] at h
  omega
theorem cl_gt {d s n : Int} (hs : 0 < s) : n < cl d s ↔ n * s < d := by
  have h := cl_le (d := d) (s := s) (n := n) hs
  omega
def subO (k : Option Int) (c : Int) : Option Int := match k with
  | none => none
  | some n => some (n - c)
/-- a train is its first c times, and the others -/
theorem nbT_split {s p c : Int} {k : Option Int} (hp : 0 < p) (hc : 0 ≤ c) (hk : ∀ n, k = some n → c ≤ n) (x : Int) : nbT (s, p, k) x = nbT (s, p, some c) x + nbT (s + c * p, p, subO k c) x := by
  have e : x - (s + c * p) = x - s - c * p := by omega
  show minO (stepsUp (x - s) p) k = minO (stepsUp (x - s) p) (some c) + minO (stepsUp (x - (s + c * p)) p) (subO k c)
  rw [e, stepsUp_cl, stepsUp_cl, cl_sub _ _ _ hp]
  cases k with
  | none =>
    show (if cl (x - s) p > 0 then cl (x - s) p else 0) = (if c < (if cl (x - s) p > 0 then cl (x - s) p else 0) then c else (if cl (x - s) p > 0 then cl (x - s) p else 0)) + (if cl (x - s) p - c > 0 then cl (x - s) p - c else 0)
    split <;> split <;> split <;> omega
  | some n =>
    have := hk n rfl
    show (if n < (if cl (x - s) p > 0 then cl (x - s) p else 0) then n else (if cl (x - s) p > 0 then cl (x - s) p else 0)) = (if c < (if cl (x - s) p > 0 then cl (x - s) p else 0) then c else (if cl (x - s) p > 0 then cl (x - s) p else 0)) + (if n - c < (if cl (x - s) p - c > 0 then cl (x - s) p - c else 0) then n - c else (if cl (x - s) p - c > 0 then cl (x - s) p - c else 0))
    split <;> split <;> split <;> split <;> (try split) <;> omega
/-- the step of a single time is nothing -/
theorem nbT_one {s p q : Int} (hp : 0 < p) (hq : 0 < q) (x : Int) : nbT (s, p, some 1) x = nbT (s, q, some 1) x := by
  have one : ∀ p : Int, 0 < p → nbT (s, p, some 1) x = if s < x then 1 else 0 := fun p hp => by
    show (if (1 : Int) < (if cl (x - s) p > 0 then cl (x - s) p else 0) then (1 : Int) else (if cl (x - s) p > 0 then cl (x - s) p else 0)) = _
    have h0 : 0 < cl (x - s) p ↔ 0 * p < x - s := cl_gt hp
    rw [Int.zero_mul] at h0
    split <;> split <;> split <;> omega
  rw [one p hp, one q hq]
theorem NB_app : ∀ (ts us : List Trn) (x : Int), NB (ts ++ us) x = NB ts x + NB us x
  | [], us, x => by show NB us x = 0 + NB us x; omega
  | t :: ts, us, x => by
    show nbT t x + NB (ts ++ us) x = nbT t x + NB ts x + NB us x
    rw [NB_app ts us x]
    omega
theorem addO_addO (a b : Int) (k : Option Int) : addO a (addO b k) = addO (a + b) k := by
  cases k with
  | none => rfl
  | some n => show some (a + (b + n)) = some (a + b + n); rw [Int.add_assoc]
theorem nbT_nn {t : Trn} (h : OkTr t) (x : Int) : 0 ≤ nbT t x := by
  obtain ⟨s, p, k⟩ := t
  show 0 ≤ minO (stepsUp (x - s) p) k
  rw [stepsUp_cl]
  cases k with
  | none => show 0 ≤ if cl (x - s) p > 0 then cl (x - s) p else 0; split <;> omega
  | some c =>
    have := h.2.2 c rfl
    show 0 ≤ if c < (if cl (x - s) p > 0 then cl (x - s) p else 0) then c else (if cl (x - s) p > 0 then cl (x - s) p else 0)
    split <;> (try split) <;> omega
theorem nbT_zero {t : Trn} (h : OkTr t) {x : Int} (hx : x ≤ t.1) : nbT t x = 0 := by
  obtain ⟨s, p, k⟩ := t
  have hp : 0 < p := by
    have h2 : 1 ≤ p := h.2.1
    omega
  have h1 : cl (x - s) p ≤ 0 := (cl_le hp).mpr (by
    have h2 : x ≤ s := hx
    omega)
  show minO (stepsUp (x - s) p) k = 0
  rw [stepsUp_cl, if_neg (by omega)]
  cases k with
  | none => rfl
  | some c =>
    have := h.2.2 c rfl
    show (if c < 0 then c else 0) = 0
    rw [if_neg (by omega)]
theorem nbT_all {t : Trn} (h : OkTr t) {x c : Int} (hc : t.2.2 = some c) (hx : t.1 + (c - 1) * t.2.1 < x) : nbT t x = c := by
  obtain ⟨s, p, k⟩ := t
  have hp : 0 < p := by
    have h2 : 1 ≤ p := h.2.1
    omega
  have h0 : k = some c := hc
  subst h0
  have h1 : c - 1 < cl (x - s) p := (cl_gt hp).mpr (by
    have h2 : s + (c - 1) * p < x := hx
    omega)
  have := h.2.2 c rfl
  show (if c < stepsUp (x - s) p then c else stepsUp (x - s) p) = c
  rw [stepsUp_cl]
  split <;> (try split at *) <;> omega
theorem NB_nn {ts : List Trn} (h : ∀ t ∈ ts, OkTr t) (x : Int) : 0 ≤ NB ts x := by
  induction ts with
  | nil => exact Int.le_refl _
  | cons t ts ih =>
    have h1 := nbT_nn (h t (List.mem_cons_self ..)) x
    have h2 := ih fun u hu => h u (List.mem_cons_of_mem _ hu)
    show 0 ≤ nbT t x + NB ts x
    omega
theorem NB_zero {ts : List Trn} (h : ∀ t ∈ ts, OkTr t) {x : Int} (hx : ∀ t ∈ ts, x ≤ t.1) : NB ts x = 0 := by
  induction ts with
  | nil => rfl
  | cons t ts ih =>
    show nbT t x + NB ts x = 0
    rw [nbT_zero (h t (List.mem_cons_self ..)) (hx t (List.mem_cons_self ..)), ih (fun u hu => h u (List.mem_cons_of_mem _ hu)) fun u hu => hx u (List.mem_cons_of_mem _ hu)]
    rfl
theorem Srt.tail {t : Trn} {ts : List Trn} (h : Srt (t :: ts)) : Srt ts := ⟨fun u hu => h.1 u (List.mem_cons_of_mem _ hu), (List.pairwise_cons.mp h.2).2⟩
theorem Srt.head {t : Trn} {ts : List Trn} (h : Srt (t :: ts)) : OkTr t := h.1 t (List.mem_cons_self ..)
theorem Srt.lt {t : Trn} {ts : List Trn} (h : Srt (t :: ts)) : ∀ u ∈ ts, Lt t u := (List.pairwise_cons.mp h.2).1
theorem lt_start {t u : Trn} (h : OkTr t) (l : Lt t u) : t.1 < u.1 := by
  obtain ⟨c, e, q⟩ := l
  have hc := h.2.2 c e
  have : 0 ≤ (c - 1) * t.2.1 := Int.mul_nonneg (by omega) (by have := h.2.1; omega)
  omega
/-! what is before x, and which time is the i-th -/
theorem nbT_le {t : Trn} {x c : Int} (e : t.2.2 = some c) : nbT t x ≤ c := by
  unfold nbT
  rw [e]
  show (if c < stepsUp (x - t.1) t.2.1 then c else stepsUp (x - t.1) t.2.1) ≤ c
  split <;> omega
/-- the times before x are those with an index below nbT -/
theorem nbT_lt {t : Trn} (h : OkTr t) {x i : Int} (i0 : 0 ≤ i) (hi : ∀ c, t.2.2 = some c → i < c) : i < nbT t x ↔ t.1 + i * t.2.1 < x := by
  obtain ⟨s, p, k⟩ := t
  have hp : 0 < p := by
    have h2 : 1 ≤ p := h.2.1
    omega
  have h1 : i < cl (x - s) p ↔ i * p < x - s := cl_gt hp
  have e : (s + i * p < x) ↔ i * p < x - s := by omega
  show i < minO (stepsUp (x - s) p) k ↔ s + i * p < x
  rw [stepsUp_cl, e, ← h1]
  cases k with
  | none =>
    show i < (if cl (x - s) p > 0 then cl (x - s) p else 0) ↔ _
    split <;> omega
  | some c =>
    have := hi c rfl
    show i < (if c < (if cl (x - s) p > 0 then cl (x - s) p else 0) then c else (if cl (x - s) p > 0 then cl (x - s) p else 0)) ↔ _
    split <;> (try split) <;> (try split at *) <;> omega
theorem At_lt : ∀ {ts : List Trn}, Srt ts → ∀ {i y : Int}, 0 ≤ i → At ts i = some y → ∀ x, i < NB ts x ↔ y < x
  | [], _, i, y, _, e, _ => by cases e
  | t :: ts, h, i, y, i0, e, x => by
    have ht := h.head
    have hs := h.tail
    have nn := NB_nn hs.1 x
    cases hk : t.2.2 with
    | none =>
      have e' : At (t :: ts) i = some (t.1 + i * t.2.1) := by
        show (match t.2.2 with | none => some (t.1 + i * t.2.1) | some c => if i < c then some (t.1 + i * t.2.1) else At ts (i - c)) = _
        rw [hk]
      rw [e'] at e
      have ey := Option.some.inj e
      subst ey
      have nt : ts = [] := by
        cases ts with
        | nil => rfl
        | cons u us =>
          obtain ⟨c, hc, _⟩ := h.lt u (List.mem_cons_self ..)
          rw [hk] at hc
          cases hc
      subst nt
      have := nbT_lt ht (x := x) i0 (fun c hc => by rw [hk] at hc; cases hc)
      show i < nbT t x + 0 ↔ _
      rw [Int.add_zero]
      exact this
    | some c =>
      have e' : At (t :: ts) i = if i < c then some (t.1 + i * t.2.1) else At ts (i - c) := by
        show (match t.2.2 with | none => some (t.1 + i * t.2.1) | some c => if i < c then some (t.1 + i * t.2.1) else At ts (i - c)) = _
        rw [hk]
      rw [e'] at e
      show i < nbT t x + NB ts x ↔ y < x
      by_cases hi : i < c
      · rw [if_pos hi] at e
        have ey := Option.some.inj e
        have h1 := nbT_lt ht (x := x) i0 (fun c' hc => by rw [hk] at hc; cases hc; exact hi)
        by_cases hl : t.1 + (c - 1) * t.2.1 < x
        · have h2 := nbT_all ht hk hl
          omega
        · have h3 : NB ts x = 0 := NB_zero hs.1 fun u hu => by
            obtain ⟨c', hc, q⟩ := h.lt u hu
            rw [hk] at hc
            cases hc
            omega
          omega
      · rw [if_neg hi] at e
        have ih := At_lt hs (i := i - c) (by omega) e x
        have h2 := nbT_le (x := x) hk
        by_cases hl : t.1 + (c - 1) * t.2.1 < x
        · have h3 := nbT_all ht hk hl
          omega
        · have h3 : NB ts x = 0 := NB_zero hs.1 fun u hu => by
            obtain ⟨c', hc, q⟩ := h.lt u hu
            rw [hk] at hc
            cases hc
            omega
          omega
theorem tot_nn : ∀ {ts : List Trn}, (∀ t ∈ ts, OkTr t) → ∀ n, Tot ts = some n → 0 ≤ n
  | [], _, n, e => by cases e; exact Int.le_refl _
  | t :: ts, h, n, e => by
    cases hk : t.2.2 with
    | none =>
      have e2 : Tot (t :: ts) = none := by
        show (match t.2.2 with | none => none | some c => addO c (Tot ts)) = _
        rw [hk]
      rw [e2] at e
      cases e
    | some c =>
      have e2 : Tot (t :: ts) = addO c (Tot ts) := by
        show (match t.2.2 with | none => none | some c => addO c (Tot ts)) = _
        rw [hk]
      rw [e2] at e
      cases ht : Tot ts with
      | none => rw [ht] at e; cases e
      | some m =>
        rw [ht] at e
        have z' : c + m = n := Option.some.inj e
        have := tot_nn (fun u hu => h u (List.mem_cons_of_mem _ hu)) m ht
        have := (h t (List.mem_cons_self ..)).2.2 c hk
        omega
theorem At_none : ∀ {ts : List Trn}, (∀ t ∈ ts, OkTr t) → ∀ {i : Int}, 0 ≤ i → (At ts i = none ↔ ∃ n, Tot ts = some n ∧ n ≤ i)
  | [], _, i, i0 => ⟨fun _ => ⟨0, rfl, i0⟩, fun _ => rfl⟩
  | t :: ts, h, i, i0 => by
    cases hk : t.2.2 with
    | none =>
      have e' : At (t :: ts) i = some (t.1 + i * t.2.1) := by
        show (match t.2.2 with | none => some (t.1 + i * t.2.1) | some c => if i < c then some (t.1 + i * t.2.1) else At ts (i - c)) = _
        rw [hk]
      have e2 : Tot (t :: ts) = none := by
        show (match t.2.2 with | none => none | some c => addO c (Tot ts)) = _
        rw [hk]
      rw [e', e2]
      exact ⟨fun z => (by cases z), fun ⟨n, z, _⟩ => (by cases z)⟩
    | some c =>
      have e' : At (t :: ts) i = if i < c then some (t.1 + i * t.2.1) else At ts (i - c) := by
        show (match t.2.2 with | none => some (t.1 + i * t.2.1) | some c => if i < c then some (t.1 + i * t.2.1) else At ts (i - c)) = _
        rw [hk]
      have e2 : Tot (t :: ts) = addO c (Tot ts) := by
        show (match t.2.2 with | none => none | some c => addO c (Tot ts)) = _
        rw [hk]
      have tn : ∀ n, Tot ts = some n → 0 ≤ n := tot_nn fun u hu => h u (List.mem_cons_of_mem _ hu)
      rw [e', e2]
      by_cases hi : i < c
      · rw [if_pos hi]
        refine ⟨fun z => (by cases z), fun ⟨n, z, hn⟩ => ?_⟩
        cases ht : Tot ts with
        | none => rw [ht] at z; cases z
        | some m =>
          rw [ht] at z
          have := tn m ht
          have z' : c + m = n := Option.some.inj z
          omega
      · rw [if_neg hi]
        have ih := At_none (ts := ts) (fun u hu => h u (List.mem_cons_of_mem _ hu)) (i := i - c) (by omega)
        rw [ih]
        constructor
        · rintro ⟨n, e, hn⟩
          exact ⟨c + n, by rw [e]; rfl, by omega⟩
        · rintro ⟨n, e, hn⟩
          cases ht : Tot ts with
          | none => rw [ht] at e; cases e
          | some m =>
            rw [ht] at e
            have z' : c + m = n := Option.some.inj e
            exact ⟨m, rfl, by omega⟩
theorem NB_tot : ∀ {ts : List Trn}, (∀ t ∈ ts, OkTr t) → ∀ {n : Int}, Tot ts = some n → ∀ x, NB ts x ≤ n
  | [], _, n, e, x => by cases e; exact Int.le_refl _
  | t :: ts, h, n, e, x => by
    cases hk : t.2.2 with
    | none =>
      have e2 : Tot (t :: ts) = none := by
        show (match t.2.2 with | none => none | some c => addO c (Tot ts)) = _
        rw [hk]
      rw [e2] at e
      cases e
    | some c =>
      have e2 : Tot (t :: ts) = addO c (Tot ts) := by
        show (match t.2.2 with | none => none | some c => addO c (Tot ts)) = _
        rw [hk]
      rw [e2] at e
      cases ht : Tot ts with
      | none => rw [ht] at e; cases e
      | some m =>
        rw [ht] at e
        have z' : c + m = n := Option.some.inj e
        have h1 := nbT_le (x := x) hk
        have h2 := NB_tot (fun u hu => h u (List.mem_cons_of_mem _ hu)) ht x
        show nbT t x + NB ts x ≤ n
        omega
theorem nbT_step {t : Trn} (h : OkTr t) (x : Int) : nbT t (x + 1) ≤ nbT t x + 1 := by
  obtain ⟨s, p, k⟩ := t
  have hp : 1 ≤ p := h.2.1
  have h1 : cl (x + 1 - s) p ≤ cl (x - s) p + 1 := by
    refine (cl_le (by omega)).mpr ?_
    have h2 : x - s ≤ cl (x - s) p * p := (cl_le (by omega)).mp (Int.le_refl _)
    rw [Int.add_mul, Int.one_mul]
    omega
  show minO (stepsUp (x + 1 - s) p) k ≤ minO (stepsUp (x - s) p) k + 1
  rw [stepsUp_cl, stepsUp_cl]
  cases k with
  | none =>
    show (if cl (x + 1 - s) p > 0 then cl (x + 1 - s) p else 0) ≤ (if cl (x - s) p > 0 then cl (x - s) p else 0) + 1
    split <;> split <;> omega
  | some c =>
    show (if c < (if cl (x + 1 - s) p > 0 then cl (x + 1 - s) p else 0) then c else (if cl (x + 1 - s) p > 0 then cl (x + 1 - s) p else 0)) ≤ (if c < (if cl (x - s) p > 0 then cl (x - s) p else 0) then c else (if cl (x - s) p > 0 then cl (x - s) p else 0)) + 1
    repeat' split
    all_goals omega
theorem NB_step : ∀ {ts : List Trn}, Srt ts → ∀ x, NB ts (x + 1) ≤ NB ts x + 1
  | [], _, x => by show (0 : Int) ≤ 0 + 1; omega
  | t :: ts, h, x => by
    have ht := h.head
    have hs := h.tail
    have st := nbT_step ht x
    show nbT t (x + 1) + NB ts (x + 1) ≤ nbT t x + NB ts x + 1
    cases hk : t.2.2 with
    | none =>
      have nt : ts = [] := by
        cases ts with
        | nil => rfl
        | cons u us =>
          obtain ⟨c, hc, _⟩ := h.lt u (List.mem_cons_self ..)
          rw [hk] at hc
          cases hc
      subst nt
      show nbT t (x + 1) + 0 ≤ nbT t x + 0 + 1
      omega
    | some c =>
      by_cases hl : t.1 + (c - 1) * t.2.1 < x
      · have h1 := nbT_all ht hk hl
        have h2 := nbT_all ht hk (show t.1 + (c - 1) * t.2.1 < x + 1 by omega)
        have h3 := NB_step hs x
        omega
      · have z : ∀ y, y ≤ x + 1 → NB ts y = 0 := fun y hy => NB_zero hs.1 fun u hu => by
          obtain ⟨c', hc, q⟩ := h.lt u hu
          rw [hk] at hc
          cases hc
          omega
        have h1 := z x (by omega)
        have h2 := z (x + 1) (Int.le_refl _)
        omega
/-- the i-th time is told by what is before x -/
theorem At_iff {ts : List Trn} (h : Srt ts) {i y : Int} (i0 : 0 ≤ i) : At ts i = some y ↔ NB ts y = i ∧ NB ts (y + 1) = i + 1 := by
  have one : ∀ {z}, At ts i = some z → NB ts z = i ∧ NB ts (z + 1) = i + 1 := fun {z} e => by
    have h1 := At_lt h i0 e z
    have h2 := At_lt h i0 e (z + 1)
    have h3 := NB_step h z
    omega
  refine ⟨one, fun ⟨e1, e2⟩ => ?_⟩
  cases q : At ts i with
  | none =>
    obtain ⟨n, e3, e4⟩ := (At_none h.1 i0).mp q
    have := NB_tot h.1 e3 (y + 1)
    omega
  | some w =>
    have h3 := At_lt h i0 q y
    have h4 := At_lt h i0 q (y + 1)
    congr 1
    omega
/-- trains with the same counts have the same times -/
theorem At_same {ts us : List Trn} (h : Srt ts) (h' : Srt us) (e : ∀ x, NB ts x = NB us x) {i : Int} (i0 : 0 ≤ i) : At ts i = At us i := by
  cases q : At ts i with
  | some y =>
    obtain ⟨e1, e2⟩ := (At_iff h i0).mp q
    exact ((At_iff h' i0).mpr ⟨by rw [← e]; exact e1, by rw [← e]; exact e2⟩).symm
  | none =>
    cases q2 : At us i with
    | none => rfl
    | some y =>
      obtain ⟨e1, e2⟩ := (At_iff h' i0).mp q2
      rw [(At_iff h i0).mpr ⟨by rw [e]; exact e1, by rw [e]; exact e2⟩] at q
      cases q
/-! ### the normal form as data -/
def partL (t : Trn) (low : Int) (high : Option Int) : List Trn := match high with
  | none => [(t.1 + low * t.2.1, t.2.1, none)]
  | some h => if low = h then [] else [(t.1 + low * t.2.1, t.2.1, some (h - low))]
def joinS (t f : Trn) (c : Int) : Int := if c = 1 then f.1 - t.1 else t.2.1
def joinC (t f : Trn) (c : Int) : List Trn :=
  if t.1 + c * joinS t f c = f.1 then
    if f.2.1 = joinS t f c then [(t.1, joinS t f c, addO c f.2.2)]
    else (t.1, joinS t f c, some (c + 1)) :: partL f 1 f.2.2
  else [t, f]
def joinL (t f : Trn) : List Trn := match t.2.2 with
  | none => [f]
  | some c => joinC t f c
def plainT (t : Trn) : Trn := if t.2.2 = some 1 then (t.1, 1, some 1) else t
def nfG (cl : List Trn) : Option Trn → List Trn → List Trn
  | h, [] => cl ++ (h.map plainT).toList
  | none, f :: r => nfG cl (some f) r
  | some t, f :: r => nfG (cl ++ (joinL t f).dropLast) (joinL t f).getLast? r
def nfs (ts : List Trn) : List Trn := nfG [] none ts
theorem nbT_none_zero {s p : Int} (hp : 0 < p) (x : Int) : nbT (s, p, some 0) x = 0 := by
  show (if (0 : Int) < stepsUp (x - s) p then 0 else stepsUp (x - s) p) = 0
  rw [stepsUp_cl]
  repeat' split
  all_goals omega
theorem nbT_part {f : Trn} (h : OkTr f) (x : Int) : nbT f x = nbT (f.1, f.2.1, some 1) x + NB (partL f 1 f.2.2) x := by
  obtain ⟨s, p, k⟩ := f
  have hp : 1 ≤ p := h.2.1
  have e := nbT_split (s := s) (p := p) (c := 1) (k := k) (by omega) (by decide) (fun n hn => h.2.2 n hn) x
  rw [e]
  cases k with
  | none => show _ = _ + (nbT (s + 1 * p, p, none) x + 0); rw [Int.add_zero]; rfl
  | some d =>
    show _ = _ + NB (if 1 = d then [] else [(s + 1 * p, p, some (d - 1))]) x
    by_cases c : 1 = d
    · subst c
      rw [if_pos rfl]
      have := nbT_none_zero (s := s + 1 * p) (p := p) (by omega) x
      show _ + nbT (s + 1 * p, p, some (1 - 1)) x = _ + 0
      rw [show (1 : Int) - 1 = 0 by rfl, this]
    · rw [if_neg c]
      show _ = _ + (nbT (s + 1 * p, p, some (d - 1)) x + 0)
      rw [Int.add_zero]
      rfl
structure Joined (t f : Trn) (g : List Trn) : Prop where
  ok : ∀ u ∈ g, OkTr u
  pw : g.Pairwise Lt
  nb : ∀ x, NB g x = nbT t x + nbT f x
  lo : ∀ u ∈ g, t.1 ≤ u.1
  hi : ∀ r, Lt f r → ∀ u ∈ g, Lt u r
  ne : g ≠ []
theorem joinL_ok {t f : Trn} (ht : OkTr t) (hf : OkTr f) (hl : Lt t f) : Joined t f (joinL t f) := by
  obtain ⟨c, hc, hlt⟩ := hl
  have c1 := ht.2.2 c hc
  have p1 := ht.2.1
  have q1 := hf.2.1
  have start : t.1 < f.1 := lt_start ht ⟨c, hc, hlt⟩
  have ej : joinL t f = joinC t f c := by unfold joinL; rw [hc]
  rw [ej]
  have ps : 1 ≤ joinS t f c := by
    unfold joinS
    by_cases e : c = 1
    · rw [if_pos e]; omega
    · rw [if_neg e]; exact p1
  have et : ∀ x, nbT t x = nbT (t.1, joinS t f c, some c) x := fun x => by
    have e0 : t = (t.1, t.2.1, some c) := by rw [← hc]
    unfold joinS
    by_cases e : c = 1
    · subst e
      rw [if_pos rfl]
      have h1 := nbT_one (s := t.1) (p := t.2.1) (q := f.1 - t.1) (by omega) (by omega) x
      rw [← h1, ← e0]
    · rw [if_neg e, ← e0]
  have fl : ∀ {d}, f.2.2 = some d → f.1 ≤ f.1 + (d - 1) * f.2.1 := fun {d} hd => by
    have := hf.2.2 d hd
    have : 0 ≤ (d - 1) * f.2.1 := Int.mul_nonneg (by omega) (by omega)
    omega
  unfold joinC
  by_cases j1 : t.1 + c * joinS t f c = f.1
  · rw [if_pos j1]
    by_cases j2 : f.2.1 = joinS t f c
    · rw [if_pos j2]
      refine ⟨fun u hu => ?_, List.pairwise_singleton _ _, fun x => ?_, fun u hu => ?_, fun r hr u hu => ?_, by simp⟩
      · have e : u = _ := List.mem_singleton.mp hu
        subst e
        refine ⟨ht.1, ps, fun n hn => ?_⟩
        have hn : addO c f.2.2 = some n := hn
        cases hk : f.2.2 with
        | none => rw [hk] at hn; cases hn
        | some d =>
          rw [hk] at hn
          have := hf.2.2 d hk
          have z : c + d = n := Option.some.inj hn
          omega
      · show nbT (t.1, joinS t f c, addO c f.2.2) x + 0 = _
        rw [Int.add_zero, nbT_split (c := c) (by omega) (by omega) (fun n hn => ?_) x, et x, j1]
        · have e3 : subO (addO c f.2.2) c = f.2.2 := by
            cases f.2.2 with
            | none => rfl
            | some d => show some (c + d - c) = some d; congr 1; omega
          rw [e3, ← j2]
        · cases hk : f.2.2 with
          | none => rw [hk] at hn; cases hn
          | some d =>
            rw [hk] at hn
            have := hf.2.2 d hk
            have z : c + d = n := Option.some.inj hn
            omega
      · have e : u = _ := List.mem_singleton.mp hu
        subst e
        exact Int.le_refl _
      · have e : u = _ := List.mem_singleton.mp hu
        subst e
        obtain ⟨d, hd, hr⟩ := hr
        refine ⟨c + d, by show addO c f.2.2 = _; rw [hd]; rfl, ?_⟩
        show t.1 + (c + d - 1) * joinS t f c < r.1
        rw [show c + d - 1 = c + (d - 1) by omega, Int.add_mul, ← j2]
        rw [← j2] at j1
        omega
    · rw [if_neg j2]
      have hp := nbT_part hf
      have hpt : ∀ u ∈ partL f 1 f.2.2, OkTr u ∧ f.1 < u.1 ∧ ∀ r, Lt f r → Lt u r := fun u hu => by
        unfold partL at hu
        have h0 := hf.1
        cases hk : f.2.2 with
        | none =>
          rw [hk] at hu
          have e : u = _ := List.mem_singleton.mp hu
          subst e
          refine ⟨⟨by show 0 ≤ f.1 + 1 * f.2.1; omega, q1, fun n hn => by cases hn⟩, by show f.1 < f.1 + 1 * f.2.1; omega, fun r ⟨d, hd, _⟩ => ?_⟩
          rw [hk] at hd
          cases hd
        | some d =>
          rw [hk] at hu
          have hu : u ∈ (if 1 = d then [] else [(f.1 + 1 * f.2.1, f.2.1, some (d - 1))] : List Trn) := hu
          have d1 := hf.2.2 d hk
          by_cases z : 1 = d
          · rw [if_pos z] at hu; simp at hu
          · rw [if_neg z] at hu
            have e : u = _ := List.mem_singleton.mp hu
            subst e
            refine ⟨⟨by show 0 ≤ f.1 + 1 * f.2.1; omega, q1, fun n hn => by have z : d - 1 = n := Option.some.inj hn; omega⟩, by show f.1 < f.1 + 1 * f.2.1; omega, fun r ⟨d', hd, hr⟩ => ?_⟩
            rw [hk] at hd
            cases hd
            refine ⟨d - 1, rfl, ?_⟩
            show f.1 + 1 * f.2.1 + (d - 1 - 1) * f.2.1 < r.1
            rw [show d - 1 - 1 = (d - 1) + -1 by omega, Int.add_mul]
            omega
      refine ⟨fun u hu => ?_, List.pairwise_cons.mpr ⟨fun u hu => ?_, ?_⟩, fun x => ?_, fun u hu => ?_, fun r hr u hu => ?_, by simp⟩
      · rcases List.mem_cons.mp hu with rfl | hu
        · exact ⟨ht.1, ps, fun n hn => by have z : c + 1 = n := Option.some.inj hn; omega⟩
        · exact (hpt u hu).1
      · refine ⟨c + 1, rfl, ?_⟩
        show t.1 + (c + 1 - 1) * joinS t f c < u.1
        rw [Int.add_sub_cancel]
        have := (hpt u hu).2.1
        omega
      · unfold partL
        cases f.2.2 with
        | none => exact List.pairwise_singleton _ _
        | some d =>
          show ((if 1 = d then [] else [(f.1 + 1 * f.2.1, f.2.1, some (d - 1))] : List Trn)).Pairwise Lt
          by_cases z : 1 = d
          · rw [if_pos z]; exact List.Pairwise.nil
          · rw [if_neg z]; exact List.pairwise_singleton _ _
      · show nbT (t.1, joinS t f c, some (c + 1)) x + NB (partL f 1 f.2.2) x = _
        rw [hp x, et x, nbT_split (c := c) (k := some (c + 1)) (by omega) (by omega) (fun n hn => by have z : c + 1 = n := Option.some.inj hn; omega) x, j1]
        have e3 : subO (some (c + 1)) c = some 1 := by show some (c + 1 - c) = some 1; congr 1; omega
        rw [e3, nbT_one (s := f.1) (p := joinS t f c) (q := f.2.1) (by omega) (by omega) x]
        omega
      · rcases List.mem_cons.mp hu with rfl | hu
        · exact Int.le_refl _
        · have := (hpt u hu).2.1
          omega
      · rcases List.mem_cons.mp hu with rfl | hu
        · obtain ⟨d, hd, hr⟩ := hr
          refine ⟨c + 1, rfl, ?_⟩
          show t.1 + (c + 1 - 1) * joinS t f c < r.1
          rw [Int.add_sub_cancel]
          have := fl hd
          omega
        · exact (hpt u hu).2.2 r hr
  · rw [if_neg j1]
    refine ⟨fun u hu => ?_, ?_, fun x => ?_, fun u hu => ?_, fun r hr u hu => ?_, by simp⟩
    · simp only [List.mem_cons, List.mem_nil_iff, or_false] at hu
      rcases hu with rfl | rfl
      · exact ht
      · exact hf
    · exact List.pairwise_cons.mpr ⟨fun u hu => by rw [List.mem_singleton.mp hu]; exact ⟨c, hc, hlt⟩, List.pairwise_singleton _ _⟩
    · show nbT t x + (nbT f x + 0) = _
      omega
    · simp only [List.mem_cons, List.mem_nil_iff, or_false] at hu
      rcases hu with rfl | rfl <;> omega
    · simp only [List.mem_cons, List.mem_nil_iff, or_false] at hu
      rcases hu with rfl | rfl
      · obtain ⟨d, hd, hr⟩ := hr
        have := fl hd
        exact ⟨c, hc, by omega⟩
      · exact hr
theorem plainT_ok {t : Trn} (h : OkTr t) : OkTr (plainT t) ∧ (plainT t).1 = t.1 ∧ (∀ x, nbT (plainT t) x = nbT t x) ∧ (∀ r, Lt t r → Lt (plainT t) r) := by
  unfold plainT
  by_cases c : t.2.2 = some 1
  · rw [if_pos c]
    obtain ⟨s, p, k⟩ := t
    have hp : 1 ≤ p := h.2.1
    have e : k = some 1 := c
    subst e
    refine ⟨⟨h.1, Int.le_refl _, fun n hn => by cases hn; exact Int.le_refl _⟩, rfl, fun x => nbT_one (by decide) (by omega) x, fun r ⟨d, hd, hr⟩ => ?_⟩
    cases hd
    refine ⟨1, rfl, ?_⟩
    show s + (1 - 1) * 1 < r.1
    have hr : s + (1 - 1) * p < r.1 := hr
    simp at hr ⊢
    exact hr
  · rw [if_neg c]
    exact ⟨h, rfl, fun _ => rfl, fun _ z => z⟩
theorem lt_of_start {a t b : Trn} (h : Lt a t) (l : t.1 ≤ b.1) : Lt a b := by
  obtain ⟨c, e, q⟩ := h
  exact ⟨c, e, by omega⟩
theorem nfG_ok : ∀ (r cl : List Trn) (h : Option Trn), Srt (cl ++ h.toList ++ r) → Srt (nfG cl h r) ∧ ∀ x, NB (nfG cl h r) x = NB (cl ++ h.toList ++ r) x
  | [], cl, none, hs => by
    rw [List.append_nil] at hs ⊢
    exact ⟨hs, fun _ => rfl⟩
  | [], cl, some t, hs => by
    rw [List.append_nil] at hs ⊢
    show Srt (cl ++ [plainT t]) ∧ ∀ x, NB (cl ++ [plainT t]) x = NB (cl ++ [t]) x
    have hs : Srt (cl ++ [t]) := hs
    obtain ⟨a1, a2, a3⟩ := List.pairwise_append.mp hs.2
    obtain ⟨q1, q2, q3, q4⟩ := plainT_ok (hs.1 t (List.mem_append_right _ (List.mem_singleton.mpr rfl)))
    refine ⟨⟨fun u hu => ?_, List.pairwise_append.mpr ⟨a1, List.pairwise_singleton _ _, fun u hu v hv => ?_⟩⟩, fun x => ?_⟩
    · rcases List.mem_append.mp hu with hu | hu
      · exact hs.1 u (List.mem_append_left _ hu)
      · rw [List.mem_singleton.mp hu]; exact q1
    · rw [List.mem_singleton.mp hv]
      exact lt_of_start (a3 u hu t (List.mem_singleton.mpr rfl)) (by rw [q2]; exact Int.le_refl _)
    · rw [NB_app, NB_app]
      show _ + (nbT (plainT t) x + 0) = _ + (nbT t x + 0)
      rw [q3]
  | f :: r, cl, none, hs => by
    have e : cl ++ (none : Option Trn).toList ++ f :: r = cl ++ (some f).toList ++ r := by simp
    rw [e] at hs ⊢
    exact nfG_ok r cl (some f) hs
  | f :: r, cl, some t, hs => by
    have e0 : cl ++ (some t).toList ++ f :: r = cl ++ (t :: f :: r) := by simp
    rw [e0] at hs ⊢
    obtain ⟨a1, a2, a3⟩ := List.pairwise_append.mp hs.2
    obtain ⟨b1, b2⟩ := List.pairwise_cons.mp a2
    obtain ⟨c1, c2⟩ := List.pairwise_cons.mp b2
    have ht : OkTr t := hs.1 t (by simp)
    have hf : OkTr f := hs.1 f (by simp)
    have J := joinL_ok ht hf (b1 f (List.mem_cons_self ..))
    have eg : (joinL t f).dropLast ++ ((joinL t f).getLast?).toList = joinL t f := by
      rw [List.getLast?_eq_some_getLast J.ne]
      exact List.dropLast_concat_getLast J.ne
    have e1 : cl ++ (joinL t f).dropLast ++ ((joinL t f).getLast?).toList ++ r = cl ++ (joinL t f ++ r) := by
      rw [List.append_assoc cl, eg, List.append_assoc]
    have hs' : Srt (cl ++ (joinL t f ++ r)) := by
      refine ⟨fun u hu => ?_, List.pairwise_append.mpr ⟨a1, List.pairwise_append.mpr ⟨J.pw, c2, fun u hu v hv => J.hi v (c1 v hv) u hu⟩, fun u hu v hv => ?_⟩⟩
      · rcases List.mem_append.mp hu with hu | hu
        · exact hs.1 u (List.mem_append_left _ hu)
        · rcases List.mem_append.mp hu with hu | hu
          · exact J.ok u hu
          · exact hs.1 u (List.mem_append_right _ (List.mem_cons_of_mem _ (List.mem_cons_of_mem _ hu)))
      · have l := a3 u hu t (List.mem_cons_self ..)
        rcases List.mem_append.mp hv with hv | hv
        · exact lt_of_start l (J.lo v hv)
        · exact a3 u hu v (List.mem_cons_of_mem _ (List.mem_cons_of_mem _ hv))
    rw [← e1] at hs'
    obtain ⟨k1, k2⟩ := nfG_ok r _ _ hs'
    refine ⟨k1, fun x => ?_⟩
    show NB (nfG (cl ++ (joinL t f).dropLast) (joinL t f).getLast? r) x = _
    rw [k2 x, e1, NB_app, NB_app, NB_app, J.nb]
    show _ = NB cl x + (nbT t x + (nbT f x + NB r x))
    omega
theorem nfs_srt {ts : List Trn} (h : Srt ts) : Srt (nfs ts) := (nfG_ok ts [] none (by simpa using h)).1
theorem nfs_nb {ts : List Trn} (h : Srt ts) (x : Int) : NB (nfs ts) x = NB ts x :=
  (nfG_ok ts [] none (by simpa using h)).2 x
theorem nfs_at {ts : List Trn} (h : Srt ts) {i : Int} (i0 : 0 ≤ i) : At (nfs ts) i = At ts i := At_same (nfs_srt h) h (nfs_nb h) i0
theorem tot_of_at {ts us : List Trn} (h : ∀ t ∈ ts, OkTr t) (h' : ∀ t ∈ us, OkTr t) (e : ∀ i, 0 ≤ i → At ts i = At us i) : Tot ts = Tot us := by
  cases q : Tot ts with
  | some n =>
    have n0 := tot_nn h n q
    have := (At_none h n0).mpr ⟨n, q, Int.le_refl _⟩
    rw [e n n0] at this
    obtain ⟨m, e1, e2⟩ := (At_none h' n0).mp this
    have m0 := tot_nn h' m e1
    have := (At_none h' m0).mpr ⟨m, e1, Int.le_refl _⟩
    rw [← e m m0] at this
    obtain ⟨k, e3, e4⟩ := (At_none h m0).mp this
    rw [q] at e3
    cases e3
    rw [e1]
    congr 1
    omega
  | none =>
    cases q2 : Tot us with
    | none => rfl
    | some m =>
      have m0 := tot_nn h' m q2
      have := (At_none h' m0).mpr ⟨m, q2, Int.le_refl _⟩
      rw [← e m m0] at this
      obtain ⟨k, e3, e4⟩ := (At_none h m0).mp this
      rw [q] at e3
      cases e3
theorem nfs_tot {ts : List Trn} (h : Srt ts) : Tot (nfs ts) = Tot ts := tot_of_at (nfs_srt h).1 h.1 fun i i0 => nfs_at h i0
/-! ### trains of the program, with the text as a whole -/
/-! ### trains in the heap -/
def cV : Option Int → V
  | none => .non
  | some c => .int c
def TrV (t : Trn) : List V := [.int t.1, .int t.2.1, cV t.2.2]
def TrAt (H : Hp) (x : V) (t : Trn) : Prop := ∃ a, x = .ref a ∧ H a = some (.tup (TrV t))
abbrev Trs (H : Hp) (xs : List V) (ts : List Trn) : Prop := Paired (TrAt H) xs ts
theorem TrAt.nl {H H' : Hp} (k : NL H H') {x : V} {t : Trn} (h : TrAt H x t) : TrAt H' x t := by
  obtain ⟨a, e, h⟩ := h
  exact ⟨a, e, k _ _ h fun _ z => nomatch z⟩
theorem TrAt.same {H H' : Hp} (k : Same H H') {x : V} {t : Trn} (h : TrAt H x t) : TrAt H' x t := h.nl (NL.of k)
theorem Trs.nl {H H' : Hp} (k : NL H H') {xs : List V} {ts : List Trn} (h : Trs H xs ts) : Trs H' xs ts := L2.Paired.mapP h fun _ _ z => z.nl k
theorem Trs.same {H H' : Hp} (k : Same H H') {xs : List V} {ts : List Trn} (h : Trs H xs ts) : Trs H' xs ts := Trs.nl (NL.of k) h
theorem Trs.len {H : Hp} : ∀ {xs : List V} {ts : List Trn}, Trs H xs ts → xs.length = ts.length
  | _, _, .nil => rfl
  | _, _, .cons _ t => congrArg Nat.succ (Trs.len t)
theorem Trs.get {H : Hp} : ∀ {xs : List V} {ts : List Trn} {i : Nat} {x : V}, Trs H xs ts → xs[i]? = some x → ∃ t, ts[i]? = some t ∧ TrAt H x t
  | _, _, _, _, .nil, e => by simp at e
  | _, _, 0, _, .cons r _, e => by simp at e; subst e; exact ⟨_, rfl, r⟩
  | _, _, i + 1, x, .cons _ t, e => by
    obtain ⟨u, h1, h2⟩ := Trs.get (i := i) (x := x) t (by simpa using e)
    exact ⟨u, by simpa using h1, h2⟩
theorem Trs.app {H : Hp} : ∀ {xs ys : List V} {ts us : List Trn}, Trs H xs ts → Trs H ys us → Trs H (xs ++ ys) (ts ++ us)
  | _, _, _, _, .nil, s => s
  | _, _, _, _, .cons r t, s => .cons r (Trs.app t s)
theorem Trs.take {H : Hp} : ∀ {xs : List V} {ts : List Trn} (n : Nat), Trs H xs ts → Trs H (xs.take n) (ts.take n)
  | _, _, 0, _ => .nil
  | _, _, _ + 1, .nil => .nil
  | _, _, n + 1, .cons r t => .cons r (Trs.take n t)
theorem Trs.drop {H : Hp} : ∀ {xs : List V} {ts : List Trn} (n : Nat), Trs H xs ts → Trs H (xs.drop n) (ts.drop n)
  | _, _, 0, r => r
  | _, _, _ + 1, .nil => .nil
  | _, _, n + 1, .cons _ t => Trs.drop n t
theorem Trs.one {H : Hp} {x : V} {t : Trn} (h : TrAt H x t) : Trs H [x] [t] := .cons h .nil
/-! bounds -/
structure BT (n : Nat) (t : Trn) : Prop where
  s : t.1 ≤ PB n
  p : t.2.1 ≤ PB n
  c : ∀ c, t.2.2 = some c → t.1 + (c - 1) * t.2.1 ≤ PB n
theorem BT.le {n m : Nat} {t : Trn} (b : BT n t) (h : n ≤ m) : BT m t := by
  have := PB_le h
  exact ⟨by have := b.s; omega, by have := b.p; omega, fun c e => by have := b.c c e; omega⟩
theorem BT.cnt {n : Nat} {t : Trn} (b : BT n t) (h : OkTr t) {c : Int} (e : t.2.2 = some c) : c ≤ PB n + 1 := by
  have h1 := b.c c e
  have c1 := h.2.2 c e
  have p1 := h.2.1
  have s0 := h.1
  have : (c - 1) * 1 ≤ (c - 1) * t.2.1 := Int.mul_le_mul_of_nonneg_left p1 (by omega)
  omega
theorem Kd.cV (H : Hp) (k : Option Int) : ∃ n, Kd H (cV k) n := by
  cases k with
  | none => exact ⟨_, .non⟩
  | some c => exact ⟨_, .int c⟩
/-- the built-ins -/
structure Bi (mg : Str → Option Value) : Prop where
  isinstance : mg "isinstance" = none
  int : mg "int" = none
  bool : mg "bool" = none
  max : mg "max" = none
  min : mg "min" = none
  len : mg "len" = none
  list : mg "list" = none
  tuple : mg "tuple" = none
  enumerate : mg "enumerate" = none
  sum : mg "sum" = none
  range : mg "range" = none
/-! promises -/
def lastV (t : Trn) : V := match t.2.2 with
  | none => .non
  | some c => .int (t.1 + (c - 1) * t.2.1)
def spIsTr : Sp := fun vs H Q _ => ∃ x t, vs = [x] ∧ TrAt H x t ∧ OkTr t ∧ Q (.bl true) H
def spLast : Sp := fun vs H Q _ => ∃ x t, vs = [x] ∧ TrAt H x t ∧ OkTr t ∧ BT 5000 t ∧ Q (lastV t) H
def spTb : Sp := fun vs H Q _ => ∃ x t z, vs = [x, .int z] ∧ TrAt H x t ∧ OkTr t ∧ BT 5000 t ∧ Q (.int (nbT t z)) H
def spPart : Sp := fun vs H Q _ => ∃ x t low high, vs = [x, .int low, cV high] ∧ TrAt H x t ∧ CMulW low t.2.1 ∧ ∀ l zs H', H' l = some (.lst zs) → Trs H' zs (partL t low high) → Same H H' → H l = none → Q (.ref l) H'
def spJoin : Sp := fun vs H Q _ => ∃ x t y f c, vs = [x, y] ∧ TrAt H x t ∧ TrAt H y f ∧ OkTr t ∧ OkTr f ∧ BT 5000 t ∧ BT 5000 f ∧ t.2.2 = some c ∧ Lt t f ∧ ∀ l zs H', H' l = some (.lst zs) → Trs H' zs (joinL t f) → Same H H' → H l = none → Q (.ref l) H'
def spPlain : Sp := fun vs H Q _ => ∃ x t, vs = [x] ∧ TrAt H x t ∧ ∀ p, H p = none → Q (.ref p) (upd H p (.tup (TrV (plainT t))))
theorem cV_non {k : Option Int} : (cV k = .non) = (k = none) := by cases k <;> simp [cV]
section
variable {P : Program} {w : World} {K : PySem.W.Frag} {mg : Str → Option Value} {base : Heap} {L : LA}
abbrev N_lasttime : List Str := ["train", "start", "step", "count"]
theorem sc_lasttime : FnScope N_lasttime ["train"] (defScope st_last_time) := ⟨rfl, rfl, rfl, by decide +kernel, rfl, by decide +kernel, by decide +kernel⟩
theorem fn_lasttime (T : LX K mg L) {fd : FuncData} (F : Fun K "last_time" "last_time" st_last_time L.f_last_time fd) : FnOk P w K mg base CX0 1 L.f_last_time fd ["train"] (spLast) := by
  have nd := sc_lasttime.nd
  refine F.ok sc_lasttime (fun vs H Q E h => ?_) (fun cdv A outer S H vs Q E hr h => ?_)
  · obtain ⟨x, t, rfl, _⟩ := h
    rfl
  · obtain ⟨x, t, rfl, ⟨a, rfl, ha⟩, hok, hb, k⟩ := h
    refine ⟨_, (pss_cons (ps_asg (pv 0) (pg_tup rfl (pgs_cons (pg_name (i := 1) nd rfl (Or.inl rfl)) (pgs_cons (pg_name (i := 2) nd rfl (Or.inl rfl)) (pgs_cons (pg_name (i := 3) nd rfl (Or.inl rfl)) pgs_nil)))))
       (pss_cons (ps_if (pt_cmp (pc_isN (pv 3))) (pss_one (ps_ret pe_non)) pss_nil)
       (pss_one (ps_ret (pe_op op_add (pv 1) (pe_op op_mulW (pe_op op_sub (pv 3) pe_int) (pv 2))))))), ?_⟩
    refine ⟨_, rfl, a, _, rfl, SqT.of ha, rfl, _, _, rfl, _, _, rfl, _, _, rfl, rfl, ?_⟩
    cases hk : t.2.2 with
    | none =>
      have e : lastV t = .non := by unfold lastV; rw [hk]
      rw [e] at k
      exact ⟨_, rfl, _, rfl, iteT k⟩
    | some c =>
      have e : lastV t = .int (t.1 + (c - 1) * t.2.1) := by unfold lastV; rw [hk]
      rw [e] at k
      have c1 := hok.2.2 c hk
      have c2 : c ≤ BB + 1 := hb.cnt hok hk
      have b1 := BB1
      have p1 := hok.2.1
      have p2 : t.2.1 ≤ BB := hb.p
      exact ⟨_, rfl, _, rfl, iteF ⟨_, rfl, _, rfl, _, _, rfl, rfl, _, rfl, _, _, rfl, rfl, mulBB (by omega) (by omega) (by omega) (by omega), _, _, rfl, rfl, k⟩⟩
theorem ok_lasttime (T : LX K mg L) : Cal P w K mg base "last_time" 1 L.f_last_time ["train"] (spLast) := T.d_last_time.cal fun fd F => fn_lasttime T F
abbrev N_timesbefore : List Str := ["train", "time", "start", "step", "count", "reached"]
theorem sc_timesbefore : FnScope N_timesbefore ["train", "time"] (defScope st_times_before) := ⟨rfl, rfl, rfl, by decide +kernel, rfl, by decide +kernel, by decide +kernel⟩
theorem fn_timesbefore (T : LX K mg L) {fd : FuncData} (F : Fun K "times_before" "times_before" st_times_before L.f_times_before fd) : FnOk P w K mg base CX0 2 L.f_times_before fd ["train", "time"] (spTb) := by
  have G_stepsto := ok_stepsto (P := P) (w := w) (base := base) T
  have nd := sc_timesbefore.nd
  refine F.ok sc_timesbefore (fun vs H Q E h => ?_) (fun cdv A outer S H vs Q E hr h => ?_)
  · obtain ⟨x, t, z, rfl, _⟩ := h
    rfl
  · obtain ⟨x, t, z, rfl, ⟨a, rfl, ha⟩, hok, hb, k⟩ := h
    refine ⟨_, (pss_cons (ps_asg (pv 0) (pg_tup rfl (pgs_cons (pg_name (i := 2) nd rfl (Or.inl rfl)) (pgs_cons (pg_name (i := 3) nd rfl (Or.inl rfl)) (pgs_cons (pg_name (i := 4) nd rfl (Or.inl rfl)) pgs_nil)))))
       (pss_cons (ps_set (i := 5) nd rfl (Or.inl rfl) (pe_c G_stepsto (hr.mono (by decide)) rfl (pa_cons (pe_op op_sub (pv 1) (pv 2)) (pa_cons (pv 3) pa_nil))))
       (pss_cons (ps_if (pt_cmp (pc_isN (pv 4))) (pss_one (ps_ret (pv 5))) pss_nil)
       (pss_one (ps_ret (pe_callB (call_min2 rfl) (by rfl) T.b_min (by decide +kernel) (pa_cons (pv 5) (pa_cons (pv 4) pa_nil)))))))), ?_⟩
    have p1 := hok.2.1
    refine ⟨_, rfl, a, _, rfl, SqT.of ha, rfl, _, _, rfl, _, _, rfl, _, _, rfl, rfl, ?_⟩
    refine ⟨_, rfl, _, rfl, _, _, rfl, rfl, _, rfl, _, _, rfl, by omega, divBB p1 hb.p, ?_⟩
    cases hk : t.2.2 with
    | none =>
      have e : nbT t z = stepsUp (z - t.1) t.2.1 := by unfold nbT; rw [hk]; rfl
      rw [e] at k
      exact ⟨_, rfl, _, rfl, iteT ⟨_, rfl, k⟩⟩
    | some c =>
      have e : nbT t z = if c < stepsUp (z - t.1) t.2.1 then c else stepsUp (z - t.1) t.2.1 := by unfold nbT; rw [hk]; rfl
      rw [e] at k
      exact ⟨_, rfl, _, rfl, iteF ⟨_, rfl, _, rfl, _, _, rfl, k⟩⟩
theorem ok_timesbefore (T : LX K mg L) : Cal P w K mg base "times_before" 2 L.f_times_before ["train", "time"] (spTb) := T.d_times_before.cal fun fd F => fn_timesbefore T F
abbrev N_partof : List Str := ["train", "low", "high", "start"]
theorem sc_partof : FnScope N_partof ["train", "low", "high"] (defScope st_part_of) := ⟨rfl, rfl, rfl, by decide +kernel, rfl, by decide +kernel, by decide +kernel⟩
theorem fn_partof (T : LX K mg L) {fd : FuncData} (F : Fun K "part_of" "part_of" st_part_of L.f_part_of fd) : FnOk P w K mg base CX0 1 L.f_part_of fd ["train", "low", "high"] (spPart) := by
  have nd := sc_partof.nd
  refine F.ok sc_partof (fun vs H Q E h => ?_) (fun cdv A outer S H vs Q E hr h => ?_)
  · obtain ⟨x, t, low, high, rfl, _⟩ := h
    rfl
  · obtain ⟨x, t, low, high, rfl, ⟨a, rfl, ha⟩, hm, k⟩ := h
    refine ⟨_, (pss_cons (ps_set (i := 3) nd rfl (Or.inl rfl) (pe_op op_add (pe_ix (r := rIxT K) ix_tup (pv 0) pe_int (fun _ _ => rfl)) (pe_op op_mulW (pv 1) (pe_ix (r := rIxT K) ix_tup (pv 0) pe_int (fun _ _ => rfl)))))
       (pss_cons (ps_if (pt_cmp (pc_isN (pv 2))) (pss_one (ps_ret (pe_lst (pa_cons (pe_tup (pa_cons (pv 3) (pa_cons (pe_ix (r := rIxT K) ix_tup (pv 0) pe_int (fun _ _ => rfl)) (pa_cons pe_non pa_nil)))) pa_nil)))) pss_nil)
       (pss_cons (ps_if (pt_cmpR op_eq (pv 1) (pv 2) (nomark _)) (pss_one (ps_ret (pe_lst pa_nil))) pss_nil)
       (pss_one (ps_ret (pe_lst (pa_cons (pe_tup (pa_cons (pv 3) (pa_cons (pe_ix (r := rIxT K) ix_tup (pv 0) pe_int (fun _ _ => rfl)) (pa_cons (pe_op op_sub (pv 2) (pv 1)) pa_nil)))) pa_nil))))))), ?_⟩
    refine ⟨_, rfl, a, _, 0, .int t.1, rfl, rfl, SqT.of ha, rfl, _, rfl, _, rfl, a, _, 1, .int t.2.1, rfl, rfl, SqT.of ha, rfl, _, _, rfl, rfl, hm, _, _, rfl, rfl, ?_⟩
    cases high with
    | none =>
      refine ⟨_, rfl, _, rfl, iteT ⟨_, rfl, _, rfl, a, _, 1, .int t.2.1, rfl, rfl, SqT.of ha, rfl, (by show 3 ≤ sizeLine; decide), fun e he => ⟨(by show 1 ≤ sizeLine; decide), fun l hl => ?_⟩⟩⟩
      exact k l [.ref e] _ upd_same (Trs.one ⟨e, rfl, (Same.upd hl) _ _ upd_same⟩) ((Same.upd he).trans (Same.upd hl)) (by
        cases q : H l with
        | none => rfl
        | some o => rw [(Same.upd he) _ _ q] at hl; cases hl)
    | some h =>
      refine ⟨_, rfl, _, rfl, iteF ⟨_, rfl, _, rfl, rfl, _, rfl, ?_⟩⟩
      refine ite2 (fun c => ?_) (fun c => ?_)
      · have c' : low = h := V.int.inj (of_decide_eq_true c)
        refine ⟨(by show 0 ≤ sizeLine; decide), fun l hl => k l [] _ upd_same ?_ (Same.upd hl) hl⟩
        show Trs _ [] (if low = h then [] else _)
        rw [if_pos c']
        exact .nil
      · have c' : ¬ low = h := fun e => c (decide_eq_true (congrArg V.int e))
        refine ⟨_, rfl, _, rfl, a, _, 1, .int t.2.1, rfl, rfl, SqT.of ha, rfl, _, rfl, _, rfl, _, _, rfl, rfl, (by show 3 ≤ sizeLine; decide), fun e he => ⟨(by show 1 ≤ sizeLine; decide), fun l hl => ?_⟩⟩
        refine k l [.ref e] _ upd_same ?_ ((Same.upd he).trans (Same.upd hl)) (by
          cases q : H l with
          | none => rfl
          | some o => rw [(Same.upd he) _ _ q] at hl; cases hl)
        show Trs _ [.ref e] (if low = h then [] else _)
        rw [if_neg c']
        exact Trs.one ⟨e, rfl, (Same.upd hl) _ _ upd_same⟩
theorem ok_partof (T : LX K mg L) : Cal P w K mg base "part_of" 1 L.f_part_of ["train", "low", "high"] (spPart) := T.d_part_of.cal fun fd F => fn_partof T F
end
/-! ### the normal form is one -/
def NF0 : List Trn → Prop
  | [] => True
  | [_] => True
  | t :: u :: r => (∃ c, t.2.2 = some c ∧ 2 ≤ c ∧ u.1 ≠ t.1 + c * t.2.1) ∧ NF0 (u :: r)
structure NF (ts : List Trn) : Prop where
  go : NF0 ts
  last : ∀ t, ts.getLast? = some t → t.2.2 = some 1 → t.2.1 = 1
theorem NF0.tail {t : Trn} {r : List Trn} (h : NF0 (t :: r)) : NF0 r := by
  cases r with
  | nil => exact True.intro
  | cons u r => exact h.2
theorem nf0_app : ∀ (xs ys zs : List Trn) (u v : Trn), v.1 = u.1 → NF0 (xs ++ u :: ys) → NF0 (v :: zs) → NF0 (xs ++ v :: zs)
  | [], _, _, _, _, _, _, h => h
  | [t], ys, zs, u, v, e, h1, h2 => by
    have h1 : NF0 (t :: u :: ys) := h1
    show NF0 (t :: v :: zs)
    obtain ⟨⟨c, e1, e2, e3⟩, _⟩ := h1
    exact ⟨⟨c, e1, e2, by rw [e]; exact e3⟩, h2⟩
  | t :: t' :: xs, ys, zs, u, v, e, h1, h2 => by
    have h1 : NF0 (t :: t' :: (xs ++ u :: ys)) := h1
    show NF0 (t :: t' :: (xs ++ v :: zs))
    exact ⟨h1.1, nf0_app (t' :: xs) ys zs u v e h1.2 h2⟩
theorem joinL_head {t f : Trn} {c : Int} (hc : t.2.2 = some c) (c1 : 1 ≤ c) : ∃ v zs, joinL t f = v :: zs ∧ v.1 = t.1 ∧ NF0 (v :: zs) ∧ (zs = [] ∨ ∃ u, zs = [u]) := by
  have ej : joinL t f = joinC t f c := by unfold joinL; rw [hc]
  rw [ej]
  unfold joinC
  by_cases j1 : t.1 + c * joinS t f c = f.1
  · rw [if_pos j1]
    by_cases j2 : f.2.1 = joinS t f c
    · rw [if_pos j2]
      exact ⟨_, [], rfl, rfl, True.intro, .inl rfl⟩
    · rw [if_neg j2]
      refine ⟨_, _, rfl, rfl, ?_, ?_⟩
      · unfold partL
        have key : ∀ k : Option Int, NF0 [(t.1, joinS t f c, some (c + 1)), (f.1 + 1 * f.2.1, f.2.1, k)] := fun k => by
          refine ⟨⟨c + 1, rfl, by omega, ?_⟩, True.intro⟩
          show f.1 + 1 * f.2.1 ≠ t.1 + (c + 1) * joinS t f c
          rw [Int.add_mul, Int.one_mul]
          omega
        cases f.2.2 with
        | none => exact key _
        | some d =>
          show NF0 (_ :: (if 1 = d then [] else [(f.1 + 1 * f.2.1, f.2.1, some (d - 1))] : List Trn))
          by_cases z : 1 = d
          · rw [if_pos z]; exact True.intro
          · rw [if_neg z]; exact key _
      · unfold partL
        cases f.2.2 with
        | none => exact .inr ⟨_, rfl⟩
        | some d =>
          by_cases z : 1 = d
          · exact .inl (if_pos z)
          · exact .inr ⟨_, if_neg z⟩
  · rw [if_neg j1]
    refine ⟨t, [f], rfl, rfl, ⟨⟨c, hc, ?_, ?_⟩, True.intro⟩, .inr ⟨_, rfl⟩⟩
    · by_cases e : c = 1
      · subst e
        refine absurd ?_ j1
        unfold joinS
        rw [if_pos rfl, Int.one_mul]
        omega
      · omega
    · by_cases e : c = 1
      · subst e
        refine absurd ?_ j1
        unfold joinS
        rw [if_pos rfl, Int.one_mul]
        omega
      · unfold joinS at j1
        rw [if_neg e] at j1
        exact fun z => j1 z.symm
theorem joinL_split {t f : Trn} {c : Int} (hc : t.2.2 = some c) (c1 : 1 ≤ c) : (joinL t f).dropLast ++ ((joinL t f).getLast?).toList = joinL t f ∧ ((joinL t f).getLast?).isSome = true := by
  obtain ⟨v, zs, e, _⟩ := joinL_head (f := f) hc c1
  have ne : joinL t f ≠ [] := by rw [e]; simp
  rw [List.getLast?_eq_some_getLast ne]
  exact ⟨List.dropLast_concat_getLast ne, rfl⟩
theorem plainT_start (t : Trn) : (plainT t).1 = t.1 := by unfold plainT; split <;> rfl
theorem plainT_one (t : Trn) (h : (plainT t).2.2 = some 1) : (plainT t).2.1 = 1 := by
  unfold plainT at *
  split at h
  · rw [if_pos (by assumption)]
  · rename_i q
    exact absurd h q
/-- the walk keeps the form -/
theorem nfG_nf : ∀ (r cl : List Trn) (h : Option Trn), Srt (cl ++ h.toList ++ r) → NF0 (cl ++ h.toList) → (h = none → cl = []) → NF (nfG cl h r)
  | [], cl, none, _, _, hn => by
    rw [hn rfl]
    exact ⟨True.intro, fun t e => by cases e⟩
  | [], cl, some t, _, hf, _ => by
    refine ⟨?_, fun u e o => ?_⟩
    · show NF0 (cl ++ [plainT t])
      exact nf0_app cl [] [] t (plainT t) (plainT_start t) hf True.intro
    · have e : (cl ++ [plainT t]).getLast? = some u := e
      rw [List.getLast?_append] at e
      have e : plainT t = u := by simpa using e
      subst e
      exact plainT_one t o
  | f :: r, cl, none, hs, hf, hn => by
    have e : cl ++ (none : Option Trn).toList ++ f :: r = cl ++ (some f).toList ++ r := by simp
    rw [e] at hs
    refine nfG_nf r cl (some f) hs ?_ (fun z => by cases z)
    rw [hn rfl]
    exact True.intro
  | f :: r, cl, some t, hs, hf, _ => by
    have e0 : cl ++ (some t).toList ++ f :: r = cl ++ (t :: f :: r) := by simp
    rw [e0] at hs
    obtain ⟨a1, a2, a3⟩ := List.pairwise_append.mp hs.2
    obtain ⟨b1, b2⟩ := List.pairwise_cons.mp a2
    obtain ⟨c1, c2⟩ := List.pairwise_cons.mp b2
    have ht : OkTr t := hs.1 t (by simp)
    have hfo : OkTr f := hs.1 f (by simp)
    have hl := b1 f (List.mem_cons_self ..)
    have J := joinL_ok ht hfo hl
    obtain ⟨c, hc, _⟩ := hl
    have k1 := ht.2.2 c hc
    obtain ⟨eg, es⟩ := joinL_split (f := f) hc k1
    have e1 : cl ++ (joinL t f).dropLast ++ ((joinL t f).getLast?).toList ++ r = cl ++ (joinL t f ++ r) := by
      rw [List.append_assoc cl, eg, List.append_assoc]
    have e2 : cl ++ (joinL t f).dropLast ++ ((joinL t f).getLast?).toList = cl ++ joinL t f := by
      rw [List.append_assoc cl, eg]
    show NF (nfG (cl ++ (joinL t f).dropLast) (joinL t f).getLast? r)
    refine nfG_nf r _ _ ?_ ?_ (fun z => by rw [z] at es; cases es)
    · rw [e1]
      refine ⟨fun u hu => ?_, List.pairwise_append.mpr ⟨a1, List.pairwise_append.mpr ⟨J.pw, c2, fun u hu v hv => J.hi v (c1 v hv) u hu⟩, fun u hu v hv => ?_⟩⟩
      · rcases List.mem_append.mp hu with hu | hu
        · exact hs.1 u (List.mem_append_left _ hu)
        · rcases List.mem_append.mp hu with hu | hu
          · exact J.ok u hu
          · exact hs.1 u (List.mem_append_right _ (List.mem_cons_of_mem _ (List.mem_cons_of_mem _ hu)))
      · have l := a3 u hu t (List.mem_cons_self ..)
        rcases List.mem_append.mp hv with hv | hv
        · exact lt_of_start l (J.lo v hv)
        · exact a3 u hu v (List.mem_cons_of_mem _ (List.mem_cons_of_mem _ hv))
    · rw [e2]
      obtain ⟨v, zs, ev, es', ez, _⟩ := joinL_head (f := f) hc k1
      rw [ev]
      exact nf0_app cl [] zs t v es' hf ez
theorem nfs_nf {ts : List Trn} (h : Srt ts) : NF (nfs ts) := nfG_nf ts [] none (by simpa using h) True.intro fun _ => rfl
theorem At_none_t {t : Trn} {r : List Trn} (e : t.2.2 = none) (i : Int) : At (t :: r) i = some (t.1 + i * t.2.1) := by
  show (match t.2.2 with | none => some (t.1 + i * t.2.1) | some c => if i < c then some (t.1 + i * t.2.1) else At r (i - c)) = _
  rw [e]
theorem At_some_t {t : Trn} {r : List Trn} {c : Int} (e : t.2.2 = some c) (i : Int) : At (t :: r) i = if i < c then some (t.1 + i * t.2.1) else At r (i - c) := by
  show (match t.2.2 with | none => some (t.1 + i * t.2.1) | some c => if i < c then some (t.1 + i * t.2.1) else At r (i - c)) = _
  rw [e]
theorem At_lo {t : Trn} {r : List Trn} {i : Int} (h : ∀ c, t.2.2 = some c → i < c) : At (t :: r) i = some (t.1 + i * t.2.1) := by
  cases e : t.2.2 with
  | none => exact At_none_t e i
  | some c => rw [At_some_t e, if_pos (h c e)]
theorem At_head {t : Trn} {r : List Trn} (h : OkTr t) : At (t :: r) 0 = some t.1 := by
  rw [At_lo fun c e => by have := h.2.2 c e; omega, Int.zero_mul, Int.add_zero]
theorem nf_cut {t : Trn} {r : List Trn} (h : Srt (t :: r)) (n : NF0 (t :: r)) {c : Int} (e : t.2.2 = some c) (y : Int) (ha : At (t :: r) c = some y) : y ≠ t.1 + c * t.2.1 := by
  rw [At_some_t e, if_neg (Int.lt_irrefl c), Int.sub_self] at ha
  cases r with
  | nil => cases ha
  | cons u r =>
    rw [At_head h.tail.head] at ha
    cases ha
    obtain ⟨⟨c', e1, _, e3⟩, _⟩ := n
    rw [e] at e1
    cases e1
    exact e3
theorem nf_two {t u : Trn} {r : List Trn} (n : NF0 (t :: u :: r)) (e : t.2.2 = some 1) : False := by
  obtain ⟨⟨c, e1, e2, _⟩, _⟩ := n
  rw [e] at e1
  cases e1
  exact absurd e2 (by decide)
theorem nf_lone {t u : Trn} {r s : List Trn} (h : Srt (t :: r)) (h' : Srt (u :: s)) (n : NF (t :: r)) (n' : NF (u :: s)) (e : ∀ i, 0 ≤ i → At (t :: r) i = At (u :: s) i) (o : t.2.2 = some 1) : t :: r = u :: s := by
  have h0 : some t.1 = some u.1 := by rw [← At_head (r := r) h.head, ← At_head (r := s) h'.head]; exact e 0 (Int.le_refl _)
  have r0 : r = [] := by
    cases r with
    | nil => rfl
    | cons v r => exact (nf_two n.go o).elim
  subst r0
  have h1 : At (u :: s) 1 = none := by
    rw [← e 1 (by decide), At_some_t o]
    rfl
  cases ek : u.2.2 with
  | none => rw [At_none_t ek] at h1; cases h1
  | some c =>
    rw [At_some_t ek] at h1
    have c1 := h'.head.2.2 c ek
    by_cases q : 1 < c
    · rw [if_pos q] at h1; cases h1
    · have c2 : c = 1 := by omega
      subst c2
      have s0 : s = [] := by
        cases s with
        | nil => rfl
        | cons v s => exact (nf_two n'.go ek).elim
      subst s0
      have p1 := n.last t rfl o
      have p2 := n'.last u rfl ek
      have : t = u := by
        obtain ⟨a, b, k⟩ := t
        obtain ⟨a', b', k'⟩ := u
        have e1 : a = a' := Option.some.inj h0
        have e2 : b = 1 := p1
        have e3 : b' = 1 := p2
        have e4 : k = some 1 := o
        have e5 : k' = some 1 := ek
        rw [e1, e2, e3, e4, e5]
      rw [this]
theorem nf_unique : ∀ {ts us : List Trn}, Srt ts → Srt us → NF ts → NF us → (∀ i, 0 ≤ i → At ts i = At us i) → ts = us
  | [], [], _, _, _, _, _ => rfl
  | [], u :: s, _, h', _, _, e => by
    have := e 0 (Int.le_refl _)
    rw [At_head h'.head] at this
    cases this
  | t :: r, [], h, _, _, _, e => by
    have := e 0 (Int.le_refl _)
    rw [At_head h.head] at this
    cases this
  | t :: r, u :: s, h, h', n, n', e => by
    by_cases o : t.2.2 = some 1
    · exact nf_lone h h' n n' e o
    by_cases o' : u.2.2 = some 1
    · exact (nf_lone h' h n' n (fun i i0 => (e i i0).symm) o').symm
    have h0 : some t.1 = some u.1 := by rw [← At_head (r := r) h.head, ← At_head (r := s) h'.head]; exact e 0 (Int.le_refl _)
    have h0 := Option.some.inj h0
    have g1 : ∀ {t : Trn}, OkTr t → t.2.2 ≠ some 1 → ∀ c, t.2.2 = some c → 1 < c := fun {t} q w c z => by
      have := q.2.2 c z
      by_cases z2 : c = 1
      · subst z2; exact absurd z w
      · omega
    have h1 := e 1 (by decide)
    rw [At_lo (g1 h.head o), At_lo (g1 h'.head o')] at h1
    have hp : t.2.1 = u.2.1 := by have := Option.some.inj h1; omega
    cases ek : t.2.2 with
    | none =>
      cases ek' : u.2.2 with
      | none =>
        have r0 : r = [] := by
          cases r with
          | nil => rfl
          | cons v r =>
            obtain ⟨c, z, _⟩ := h.lt v (List.mem_cons_self ..)
            rw [ek] at z; cases z
        have s0 : s = [] := by
          cases s with
          | nil => rfl
          | cons v s =>
            obtain ⟨c, z, _⟩ := h'.lt v (List.mem_cons_self ..)
            rw [ek'] at z; cases z
        subst r0 s0
        have : t = u := by
          obtain ⟨a, b, k⟩ := t
          obtain ⟨a', b', k'⟩ := u
          have e1 : a = a' := h0
          have e2 : b = b' := hp
          have e4 : k = none := ek
          have e5 : k' = none := ek'
          rw [e1, e2, e4, e5]
        rw [this]
      | some c' =>
        have c1 := h'.head.2.2 c' ek'
        have q := e c' (by omega)
        rw [At_none_t ek] at q
        have := nf_cut h' n'.go ek' _ q.symm
        rw [h0, hp] at this
        exact absurd rfl this
    | some c =>
      have c1 := h.head.2.2 c ek
      have big : ∀ d, u.2.2 = some d → d ≤ c := fun d z => by
        by_cases w : d ≤ c
        · exact w
        · have q := e c (by omega)
          rw [At_lo (t := u) (fun k zk => by rw [z] at zk; cases zk; omega)] at q
          have := nf_cut h n.go ek _ q
          rw [h0, hp] at this
          exact absurd rfl this
      cases ek' : u.2.2 with
      | none =>
        have q := e c (by omega)
        rw [At_none_t ek'] at q
        have := nf_cut h n.go ek _ q
        rw [h0, hp] at this
        exact absurd rfl this
      | some c' =>
        have d1 := big c' ek'
        have c1' := h'.head.2.2 c' ek'
        have d2 : c' = c := by
          by_cases w : c ≤ c'
          · omega
          · have q := e c' (by omega)
            rw [At_lo (t := t) (fun k zk => by rw [ek] at zk; cases zk; omega)] at q
            have := nf_cut h' n'.go ek' _ q.symm
            rw [h0, hp] at this
            exact absurd rfl this
        subst d2
        have tail : ∀ {t : Trn} {r : List Trn}, NF (t :: r) → NF r := fun {t r} q => ⟨q.go.tail, fun v z => q.last v (by
          cases r with
          | nil => cases z
          | cons w r => rw [List.getLast?_cons_cons]; exact z)⟩
        have rs := nf_unique h.tail h'.tail (tail n) (tail n') (fun i i0 => by
          have q := e (c' + i) (by omega)
          rw [At_some_t ek, At_some_t ek', if_neg (by omega), if_neg (by omega), show c' + i - c' = i by omega] at q
          exact q)
        subst rs
        have : t = u := by
          obtain ⟨a, b, k⟩ := t
          obtain ⟨a', b', k'⟩ := u
          have e1 : a = a' := h0
          have e2 : b = b' := hp
          have e4 : k = some c' := ek
          have e5 : k' = some c' := ek'
          rw [e1, e2, e4, e5]
        rw [this]
theorem nfs_iff {ts us : List Trn} (h : Srt ts) (h' : Srt us) : nfs ts = nfs us ↔ ∀ x, NB ts x = NB us x := by
  refine ⟨fun e x => by rw [← nfs_nb h, ← nfs_nb h', e], fun e => ?_⟩
  refine nf_unique (nfs_srt h) (nfs_srt h') (nfs_nf h) (nfs_nf h') fun i i0 => ?_
  rw [nfs_at h i0, nfs_at h' i0]
  exact At_same h h' e i0
theorem nfs_of_nf {ts : List Trn} (h : Srt ts) (n : NF ts) : nfs ts = ts := nf_unique (nfs_srt h) h (nfs_nf h) n fun _ i0 => nfs_at h i0
theorem nfs_idem {ts : List Trn} (h : Srt ts) : nfs (nfs ts) = nfs ts := nfs_of_nf (nfs_srt h) (nfs_nf h)
/-! sizes -/
/-- what the walk holds stays small -/
def BG (n : Nat) (u : Trn) : Prop := (u.2.2 ≠ none → BT n u) ∧ BT (n + 1) u
theorem BG.of {n : Nat} {u : Trn} (h : BT n u) : BG n u := ⟨fun _ => h, h.le (Nat.le_succ n)⟩
theorem joinL_bg {n : Nat} {t f : Trn} (ht : OkTr t) (hf : OkTr f) (hl : Lt t f) (bt : BG n t) (bf : BT n f) : ∀ u ∈ joinL t f, BG n u := by
  obtain ⟨c, hc, hlt⟩ := hl
  have c1 := ht.2.2 c hc
  have p1 := ht.2.1
  have q1 := hf.2.1
  have s0 := ht.1
  have start : t.1 < f.1 := lt_start ht ⟨c, hc, hlt⟩
  have bt' := bt.1 (by rw [hc]; intro z; cases z)
  have b1 := bt'.s
  have b2 := bt'.p
  have f1 := bf.s
  have f2 := bf.p
  have ps : joinS t f c ≤ PB n := by
    unfold joinS
    split <;> omega
  have ej : joinL t f = joinC t f c := by unfold joinL; rw [hc]
  intro u hu
  rw [ej] at hu
  unfold joinC at hu
  by_cases j1 : t.1 + c * joinS t f c = f.1
  · rw [if_pos j1] at hu
    by_cases j2 : f.2.1 = joinS t f c
    · rw [if_pos j2] at hu
      rw [List.mem_singleton.mp hu]
      refine BG.of ⟨b1, ps, fun d hd => ?_⟩
      cases hk : f.2.2 with
      | none =>
        rw [hk] at hd
        cases hd
      | some e =>
        rw [hk] at hd
        have z : c + e = d := Option.some.inj hd
        subst z
        have := bf.c e hk
        show t.1 + (c + e - 1) * joinS t f c ≤ PB n
        rw [show c + e - 1 = c + (e - 1) by omega, Int.add_mul, ← j2]
        rw [← j2] at j1
        omega
    · rw [if_neg j2] at hu
      rcases List.mem_cons.mp hu with rfl | hu
      · refine BG.of ⟨b1, ps, fun d hd => ?_⟩
        have z : c + 1 = d := Option.some.inj hd
        subst z
        show t.1 + (c + 1 - 1) * joinS t f c ≤ PB n
        rw [Int.add_sub_cancel]
        omega
      · unfold partL at hu
        have sc := PB_succ n
        cases hk : f.2.2 with
        | none =>
          rw [hk] at hu
          rw [List.mem_singleton.mp hu]
          exact ⟨fun z => absurd rfl z, ⟨by show f.1 + 1 * f.2.1 ≤ _; omega, by show f.2.1 ≤ _; omega, fun d hd => by cases hd⟩⟩
        | some d =>
          rw [hk] at hu
          have hu : u ∈ (if 1 = d then [] else [(f.1 + 1 * f.2.1, f.2.1, some (d - 1))] : List Trn) := hu
          have d1 := hf.2.2 d hk
          by_cases z : 1 = d
          · rw [if_pos z] at hu; simp at hu
          · rw [if_neg z] at hu
            rw [List.mem_singleton.mp hu]
            have e1 := bf.c d hk
            have e2 : 1 * f.2.1 ≤ (d - 1) * f.2.1 := Int.mul_le_mul_of_nonneg_right (by omega) (by omega)
            refine BG.of ⟨by show f.1 + 1 * f.2.1 ≤ _; omega, f2, fun k hk' => ?_⟩
            have z : d - 1 = k := Option.some.inj hk'
            subst z
            show f.1 + 1 * f.2.1 + (d - 1 - 1) * f.2.1 ≤ PB n
            rw [show d - 1 - 1 = (d - 1) + -1 by omega, Int.add_mul]
            omega
  · rw [if_neg j1] at hu
    simp only [List.mem_cons, List.mem_nil_iff, or_false] at hu
    rcases hu with rfl | rfl
    · exact bt
    · exact BG.of bf
theorem plainT_bg {n : Nat} {t : Trn} (h : BG n t) : BT (n + 1) (plainT t) := by
  unfold plainT
  split
  · rename_i q
    have b := h.2
    refine ⟨b.s, PB_pos _, fun c e => ?_⟩
    cases e
    have := b.c 1 q
    have := b.s
    show t.1 + (1 - 1) * 1 ≤ _
    omega
  · exact h.2
theorem nfs_len_aux : ∀ (r cl : List Trn) (h : Option Trn), Srt (cl ++ h.toList ++ r) → (nfG cl h r).length ≤ cl.length + h.toList.length + r.length
  | [], cl, none, _ => by
    show (cl ++ []).length ≤ _
    simp
  | [], cl, some t, _ => by
    show (cl ++ [plainT t]).length ≤ _
    simp
  | f :: r, cl, none, hs => by
    have e : cl ++ (none : Option Trn).toList ++ f :: r = cl ++ (some f).toList ++ r := by simp
    rw [e] at hs
    have := nfs_len_aux r cl (some f) hs
    show (nfG cl (some f) r).length ≤ _
    simp at this ⊢
    omega
  | f :: r, cl, some t, hs => by
    have e0 : cl ++ (some t).toList ++ f :: r = cl ++ (t :: f :: r) := by simp
    have hs0 := hs
    rw [e0] at hs
    obtain ⟨a1, a2, a3⟩ := List.pairwise_append.mp hs.2
    obtain ⟨b1, b2⟩ := List.pairwise_cons.mp a2
    obtain ⟨c1, c2⟩ := List.pairwise_cons.mp b2
    have ht : OkTr t := hs.1 t (by simp)
    have hfo : OkTr f := hs.1 f (by simp)
    have hl := b1 f (List.mem_cons_self ..)
    have J := joinL_ok ht hfo hl
    obtain ⟨c, hc, _⟩ := hl
    have k1 := ht.2.2 c hc
    obtain ⟨eg, es⟩ := joinL_split (f := f) hc k1
    have e1 : cl ++ (joinL t f).dropLast ++ ((joinL t f).getLast?).toList ++ r = cl ++ (joinL t f ++ r) := by
      rw [List.append_assoc cl, eg, List.append_assoc]
    obtain ⟨v, zs, ev, _, _, ez⟩ := joinL_head (f := f) hc k1
    have hlen : (joinL t f).length ≤ 2 := by
      rw [ev]
      rcases ez with rfl | ⟨u, rfl⟩ <;> simp
    have hl2 : (joinL t f).dropLast.length + ((joinL t f).getLast?).toList.length ≤ 2 := by
      have := congrArg List.length eg
      rw [List.length_append] at this
      omega
    have := nfs_len_aux r (cl ++ (joinL t f).dropLast) (joinL t f).getLast? (by
      rw [e1]
      refine ⟨fun u hu => ?_, List.pairwise_append.mpr ⟨a1, List.pairwise_append.mpr ⟨J.pw, c2, fun u hu v hv => J.hi v (c1 v hv) u hu⟩, fun u hu v hv => ?_⟩⟩
      · rcases List.mem_append.mp hu with hu | hu
        · exact hs.1 u (List.mem_append_left _ hu)
        · rcases List.mem_append.mp hu with hu | hu
          · exact J.ok u hu
          · exact hs.1 u (List.mem_append_right _ (List.mem_cons_of_mem _ (List.mem_cons_of_mem _ hu)))
      · have l := a3 u hu t (List.mem_cons_self ..)
        rcases List.mem_append.mp hv with hv | hv
        · exact lt_of_start l (J.lo v hv)
        · exact a3 u hu v (List.mem_cons_of_mem _ (List.mem_cons_of_mem _ hv)))
    show (nfG (cl ++ (joinL t f).dropLast) (joinL t f).getLast? r).length ≤ _
    rw [List.length_append] at this
    simp only [List.length_cons, Option.toList_some, List.length_nil] at this ⊢
    omega
theorem nfs_len {ts : List Trn} (h : Srt ts) : (nfs ts).length ≤ ts.length := by
  have := nfs_len_aux ts [] none (by simpa using h)
  show (nfG [] none ts).length ≤ _
  simpa using this
/-! ### lists of trains in the heap -/
theorem last_drop (ts : List Trn) : ts.drop (ts.length - 1) = ts.getLast?.toList := by
  induction ts with
  | nil => rfl
  | cons t ts ih =>
    cases ts with
    | nil => rfl
    | cons u ts =>
      rw [List.getLast?_cons_cons, ← ih]
      rfl
theorem Trs.init {H : Hp} {xs : List V} {ts : List Trn} (h : Trs H xs ts) : Trs H (cutV xs none (some (-1))) ts.dropLast := by
  rw [cut_init, List.dropLast_eq_take, h.len]
  exact h.take _
theorem Trs.lastL {H : Hp} {xs : List V} {ts : List Trn} (h : Trs H xs ts) : Trs H (cutV xs (some (-1)) none) ts.getLast?.toList := by
  rw [cut_last, ← last_drop, h.len]
  exact h.drop _
theorem Trs.get2 {H : Hp} {xs : List V} {ts : List Trn} {i : Nat} {t : Trn} (h : Trs H xs ts) (e : ts[i]? = some t) : ∃ x, xs[i]? = some x ∧ TrAt H x t := by
  have hi : i < ts.length := (List.getElem?_eq_some_iff.mp e).1
  have hx : i < xs.length := by rw [h.len]; exact hi
  obtain ⟨u, e1, e2⟩ := h.get (List.getElem?_eq_getElem hx)
  rw [e] at e1
  cases e1
  exact ⟨_, List.getElem?_eq_getElem hx, e2⟩
/-! ### joined and normal_form -/
def ahd : Int → List Trn → List Int
  | _, [] => []
  | n, t :: ts => n :: ahd (n + t.2.2.getD 0) ts
theorem ahd_len : ∀ (ts : List Trn) (n : Int), (ahd n ts).length = ts.length
  | [], _ => rfl
  | t :: ts, n => congrArg Nat.succ (ahd_len ts _)
/-- what is no part of H0, and what is no list, is kept -/
def KO (H0 H H' : Hp) : Prop := ∀ b o, H b = some o → (H0 b = none ∨ ∀ xs, o ≠ .lst xs) → H' b = some o
theorem KO.same {H0 H H' : Hp} (s : Same H H') : KO H0 H H' := fun b o e _ => s b o e
theorem KO.kp {H0 H H' : Hp} {a : Addr} {xs : List V} (k : Kp a H H') (h0 : H0 a ≠ none) (h : H a = some (.lst xs)) : KO H0 H H' := fun b o e q => k b o (fun z => by
  subst z
  rcases q with q | q
  · exact h0 q
  · rw [h] at e
    exact q xs (Option.some.inj e).symm) e
theorem KO.nl {H0 H H' : Hp} (k : KO H0 H H') : NL H H' := fun b o e q => k b o e (.inr q)
theorem KO.trans {H0 H H1 H2 : Hp} (a : KO H0 H H1) (b : KO H0 H1 H2) : KO H0 H H2 := fun c o e q => b c o (a c o e q) q
theorem KO.base {H0 H1 H H' : Hp} (k : KO H0 H H') (s : Same H0 H1) : KO H1 H H' := fun b o e q => k b o e (by
  rcases q with q | q
  · exact .inl (none_of s q)
  · exact .inr q)
theorem firsts_lt {ts : List Trn} (h : Srt ts) : (ts.map fun t => t.1).Pairwise (· < ·) := by
  rw [List.pairwise_map]
  exact h.2.imp_of_mem fun {a b} ha _ l => lt_start (h.1 a ha) l
theorem ahd_ge : ∀ {ts : List Trn}, (∀ t ∈ ts, OkTr t) → ∀ {n : Int} {j : Nat} {v : Int}, (ahd n ts)[j]? = some v → n ≤ v
  | [], _, n, j, v, e => by simp [ahd] at e
  | t :: ts, h, n, 0, v, e => by
    have e : some n = some v := e
    cases e
    exact Int.le_refl _
  | t :: ts, h, n, j + 1, v, e => by
    have e : (ahd (n + t.2.2.getD 0) ts)[j]? = some v := e
    have ih := ahd_ge (fun u hu => h u (List.mem_cons_of_mem _ hu)) e
    have := (h t (List.mem_cons_self ..)).2.2
    cases hk : t.2.2 with
    | none => rw [hk] at ih; have : n + 0 ≤ v := ih; omega
    | some c => rw [hk] at ih; have : n + c ≤ v := ih; have := (h t (List.mem_cons_self ..)).2.2 c hk; omega
theorem ahd_lt : ∀ {ts : List Trn}, Srt ts → ∀ n : Int, (ahd n ts).Pairwise (· < ·)
  | [], _, n => List.Pairwise.nil
  | t :: ts, h, n => by
    refine List.pairwise_cons.mpr ⟨fun v hv => ?_, ahd_lt h.tail _⟩
    obtain ⟨j, hj⟩ := List.getElem?_of_mem hv
    have ge := ahd_ge h.tail.1 hj
    cases ts with
    | nil => simp [ahd] at hv
    | cons u ts =>
      obtain ⟨c, hc, _⟩ := h.lt u (List.mem_cons_self ..)
      have c1 := h.head.2.2 c hc
      have g0 : t.2.2.getD 0 = c := by rw [hc]; rfl
      rw [g0] at ge
      omega
/-- NB by the place -/
theorem nb_at : ∀ {ts : List Trn}, Srt ts → ∀ {n : Int} {k : Nat} {t : Trn} {a x : Int}, ts[k]? = some t → (ahd n ts)[k]? = some a → t.1 < x → (∀ j u, k < j → ts[j]? = some u → x ≤ u.1) → n + NB ts x = a + nbT t x
  | [], _, n, k, t, a, x, e, _, _, _ => by simp at e
  | h :: ts, hs, n, 0, t, a, x, e, ea, l, g => by
    have e : some h = some t := e
    have ea : some n = some a := ea
    cases e
    cases ea
    have z : NB ts x = 0 := NB_zero hs.tail.1 fun u hu => by
      obtain ⟨j, hj⟩ := List.getElem?_of_mem hu
      exact g (j + 1) u (Nat.succ_pos j) hj
    show n + (nbT h x + NB ts x) = _
    omega
  | h :: ts, hs, n, k + 1, t, a, x, e, ea, l, g => by
    have e : ts[k]? = some t := e
    have ea : (ahd (n + h.2.2.getD 0) ts)[k]? = some a := ea
    have ih := nb_at hs.tail e ea l (fun j u hj hu => g (j + 1) u (Nat.succ_lt_succ hj) hu)
    obtain ⟨c, hc, hl⟩ := hs.lt t (List.mem_of_getElem? e)
    have := nbT_all hs.head hc (x := x) (by omega)
    rw [hc] at ih
    have ih : n + c + NB ts x = a + nbT t x := ih
    show n + (nbT h x + NB ts x) = _
    omega
theorem at_at : ∀ {ts : List Trn}, Srt ts → ∀ {n : Int} {k : Nat} {t : Trn} {a i y : Int}, ts[k]? = some t → (ahd n ts)[k]? = some a → a ≤ n + i → (∀ j b, k < j → (ahd n ts)[j]? = some b → n + i < b) → At ts i = some y → y = t.1 + (n + i - a) * t.2.1
  | [], _, n, k, t, a, i, y, e, _, _, _, _ => by simp at e
  | h :: ts, hs, n, 0, t, a, i, y, e, ea, l, g, hy => by
    have e : some h = some t := e
    have ea : some n = some a := ea
    cases e
    cases ea
    have lo : ∀ c, h.2.2 = some c → i < c := fun c hc => by
      by_cases q : i < c
      · exact q
      · rw [At_some_t hc, if_neg q] at hy
        cases ts with
        | nil => cases hy
        | cons u ts =>
          have := g 1 (n + h.2.2.getD 0) (by decide) rfl
          rw [hc] at this
          have : n + i < n + c := this
          omega
    rw [At_lo lo] at hy
    have := Option.some.inj hy
    rw [show n + i - n = i by omega]
    exact this.symm
  | h :: ts, hs, n, k + 1, t, a, i, y, e, ea, l, g, hy => by
    have e : ts[k]? = some t := e
    have ea : (ahd (n + h.2.2.getD 0) ts)[k]? = some a := ea
    obtain ⟨c, hc, hl⟩ := hs.lt t (List.mem_of_getElem? e)
    have ge := ahd_ge hs.tail.1 ea
    have g0 : h.2.2.getD 0 = c := by rw [hc]; rfl
    rw [g0] at ea ge
    rw [At_some_t hc, if_neg (by omega)] at hy
    have ih := at_at hs.tail e ea (i := i - c) (y := y) (by omega) (fun j b hj hb => by
      have := g (j + 1) b (Nat.succ_lt_succ hj) (by show (ahd (n + h.2.2.getD 0) ts)[j]? = some b; rw [g0]; exact hb)
      omega) hy
    rw [show n + i - a = n + c + (i - c) - a by omega]
    exact ih
def memT (ts : List Trn) (x : Int) : Bool := decide (NB ts x < NB ts (x + 1))

/-- the counts of the first i -/
def sumC : List Trn → Int
  | [] => 0
  | t :: ts => t.2.2.getD 0 + sumC ts
theorem sumC_app : ∀ (ts us : List Trn), sumC (ts ++ us) = sumC ts + sumC us
  | [], us => by show sumC us = 0 + sumC us; omega
  | t :: ts, us => by
    show t.2.2.getD 0 + sumC (ts ++ us) = t.2.2.getD 0 + sumC ts + sumC us
    rw [sumC_app ts us]
    omega
theorem ahd_app : ∀ (ts us : List Trn) (n : Int), ahd n (ts ++ us) = ahd n ts ++ ahd (n + sumC ts) us
  | [], us, n => by show ahd n us = [] ++ ahd (n + 0) us; simp
  | t :: ts, us, n => by
    show n :: ahd (n + t.2.2.getD 0) (ts ++ us) = n :: (ahd (n + t.2.2.getD 0) ts ++ ahd (n + (t.2.2.getD 0 + sumC ts)) us)
    rw [ahd_app ts us, Int.add_assoc]
theorem ahd_take {ts : List Trn} {i : Nat} {t : Trn} (h : ts[i]? = some t) : ahd 0 (ts.take (i + 1)) = ahd 0 (ts.take i) ++ [sumC (ts.take i)] := by
  rw [List.take_add_one, h, ahd_app]
  show _ ++ [0 + sumC (ts.take i)] = _
  rw [Int.zero_add]
  all_goals rfl
theorem sumC_take {ts : List Trn} {i : Nat} {t : Trn} (h : ts[i]? = some t) : sumC (ts.take (i + 1)) = sumC (ts.take i) + t.2.2.getD 0 := by
  rw [List.take_add_one, h, sumC_app]
  show _ + (t.2.2.getD 0 + 0) = _
  rw [Int.add_zero]
theorem tot_sum : ∀ {ts : List Trn}, (∀ t ∈ ts, t.2.2 ≠ none) → Tot ts = some (sumC ts)
  | [], _ => rfl
  | t :: ts, h => by
    have h1 := h t (List.mem_cons_self ..)
    have ih := tot_sum (ts := ts) fun u hu => h u (List.mem_cons_of_mem _ hu)
    cases hk : t.2.2 with
    | none => exact absurd hk h1
    | some c =>
      show (match t.2.2 with | none => none | some c => addO c (Tot ts)) = some (t.2.2.getD 0 + sumC ts)
      rw [hk, ih]
      rfl
theorem tot_none : ∀ {ts : List Trn} {t : Trn}, t ∈ ts → t.2.2 = none → Tot ts = none
  | u :: ts, t, hm, e => by
    show (match u.2.2 with | none => none | some c => addO c (Tot ts)) = none
    cases hk : u.2.2 with
    | none => rfl
    | some c =>
      rcases List.mem_cons.mp hm with rfl | hm
      · rw [e] at hk; cases hk
      · show addO c (Tot ts) = none
        rw [tot_none hm e]
        rfl
/-- of sorted trains only the last may go on for ever -/
theorem srt_last {ts : List Trn} (h : Srt ts) {t : Trn} (ht : t ∈ ts) (e : t.2.2 = none) : ts.getLast? = some t := by
  induction ts with
  | nil => simp at ht
  | cons u ts ih =>
    cases ts with
    | nil =>
      have : t = u := by simpa using ht
      rw [this]
      rfl
    | cons v ts =>
      rw [List.getLast?_cons_cons]
      rcases List.mem_cons.mp ht with rfl | ht
      · obtain ⟨c, hc, _⟩ := h.lt v (List.mem_cons_self ..)
        rw [e] at hc
        cases hc
      · exact ih h.tail ht
/-- the first time from x on -/
def nxT (ts : List Trn) (x : Int) : Option Int := At ts (NB ts x)
/-! ### times listed -/
def tmT (t : Trn) (B : Int) : List Int := (List.range (nbT t B).toNat).map fun j => t.1 + t.2.1 * (j : Nat)
def tms (ts : List Trn) (B : Int) : List Int := ts.flatMap fun t => tmT t B
def sgl (xs : List Int) : List Trn := xs.map fun x => (x, 1, some 1)
theorem NB_le_of_at {ts us : List Trn} (h : Srt ts) (h' : Srt us) (e : ∀ i, 0 ≤ i → At ts i = At us i) (x : Int) : NB ts x ≤ NB us x := by
  by_cases q : NB ts x ≤ NB us x
  · exact q
  · have i0 := NB_nn h'.1 x
    have hi : NB us x < NB ts x := by omega
    cases ea : At ts (NB us x) with
    | none =>
      obtain ⟨n, e1, e2⟩ := (At_none h.1 i0).mp ea
      have := NB_tot h.1 e1 x
      omega
    | some y =>
      have l1 := (At_lt h i0 ea x).mp hi
      rw [e _ i0] at ea
      have := (At_lt h' i0 ea x).mpr l1
      omega
theorem NB_same {ts us : List Trn} (h : Srt ts) (h' : Srt us) (e : ∀ i, 0 ≤ i → At ts i = At us i) (x : Int) : NB ts x = NB us x :=
  Int.le_antisymm (NB_le_of_at h h' e x) (NB_le_of_at h' h (fun i i0 => (e i i0).symm) x)
theorem nfs_at_iff {ts us : List Trn} (h : Srt ts) (h' : Srt us) : nfs ts = nfs us ↔ ∀ i, 0 ≤ i → At ts i = At us i :=
  ⟨fun e i i0 => At_same h h' ((nfs_iff h h').mp e) i0, fun e => (nfs_iff h h').mpr (NB_same h h' e)⟩
theorem nbT_nn' (t : Trn) (h : OkTr t) (B : Int) : ((nbT t B).toNat : Int) = nbT t B := by
  have := nbT_nn h B
  omega
theorem tmT_len {t : Trn} (h : OkTr t) (B : Int) : ((tmT t B).length : Int) = nbT t B := by
  unfold tmT
  rw [List.length_map, List.length_range]
  exact nbT_nn' t h B
theorem tms_len {ts : List Trn} (h : ∀ t ∈ ts, OkTr t) (B : Int) : ((tms ts B).length : Int) = NB ts B := by
  induction ts with
  | nil => rfl
  | cons t ts ih =>
    have := tmT_len (h t (List.mem_cons_self ..)) B
    have := ih fun u hu => h u (List.mem_cons_of_mem _ hu)
    show ((tmT t B ++ tms ts B).length : Int) = nbT t B + NB ts B
    rw [List.length_append]
    omega
theorem tmT_get {t : Trn} {B : Int} {j : Nat} (h : (j : Int) < nbT t B) : (tmT t B)[j]? = some (t.1 + j * t.2.1) := by
  unfold tmT
  rw [List.getElem?_map, List.getElem?_range (by omega)]
  show some _ = some _
  rw [Int.mul_comm]
theorem tms_get : ∀ {ts : List Trn}, Srt ts → ∀ {B : Int} {j : Nat}, (j : Int) < NB ts B → (tms ts B)[j]? = At ts j
  | [], _, B, j, hj => by
    have hj : (j : Int) < 0 := hj
    omega
  | t :: ts, h, B, j, hj => by
    have ht := h.head
    have hlen := tmT_len ht B
    have hj : (j : Int) < nbT t B + NB ts B := hj
    show (tmT t B ++ tms ts B)[j]? = _
    by_cases q : (j : Int) < nbT t B
    · rw [List.getElem?_append_left (by omega), tmT_get q, At_lo]
      intro c hc
      have := nbT_le (x := B) hc
      omega
    · have hN : 0 < NB ts B := by omega
      have : ∃ u ∈ ts, u.1 < B := by
        by_cases z : ∃ u ∈ ts, u.1 < B
        · exact z
        · have := NB_zero h.tail.1 (x := B) fun u hu => by
            by_cases w : B ≤ u.1
            · exact w
            · exact absurd ⟨u, hu, by omega⟩ z
          omega
      obtain ⟨u, hu, hB⟩ := this
      obtain ⟨c, hc, hl⟩ := h.lt u hu
      have e := nbT_all ht hc (x := B) (by omega)
      rw [List.getElem?_append_right (by omega), At_some_t hc, if_neg (by omega)]
      have e2 : ((j - (tmT t B).length : Nat) : Int) = j - c := by omega
      rw [tms_get h.tail (by omega), e2]
theorem At_asc {ts : List Trn} (h : Srt ts) {i j y z : Int} (i0 : 0 ≤ i) (hij : i < j) (hy : At ts i = some y) (hz : At ts j = some z) : y < z := by
  have h1 := At_lt h i0 hy (z + 1)
  have h2 := At_lt h (i := j) (by omega) hz (z + 1)
  have h3 := At_lt h i0 hy z
  have h4 := At_lt h (i := j) (by omega) hz z
  have h5 := NB_step h z
  omega
theorem tms_asc {ts : List Trn} (h : Srt ts) (B : Int) : (tms ts B).Pairwise (· < ·) := by
  refine List.pairwise_iff_getElem.mpr fun i j hi hj hij => ?_
  have hl := tms_len h.1 B
  have e1 := tms_get h (B := B) (j := i) (by omega)
  have e2 := tms_get h (B := B) (j := j) (by omega)
  rw [List.getElem?_eq_getElem hi] at e1
  rw [List.getElem?_eq_getElem hj] at e2
  exact At_asc h (by omega) (by omega) e1.symm e2.symm
theorem At_nn {ts : List Trn} (h : Srt ts) {i y : Int} (i0 : 0 ≤ i) (hy : At ts i = some y) : 0 ≤ y := by
  have h1 := At_lt h i0 hy 0
  have h2 : NB ts 0 = 0 := NB_zero h.1 fun t ht => (h.1 t ht).1
  omega
theorem tms_nn {ts : List Trn} (h : Srt ts) (B : Int) : ∀ x ∈ tms ts B, 0 ≤ x := by
  intro x hx
  obtain ⟨j, hj⟩ := List.getElem?_of_mem hx
  have hl := tms_len h.1 B
  have hlt := (List.getElem?_eq_some_iff.mp hj).1
  rw [tms_get h (by omega)] at hj
  exact At_nn h (by omega) hj
theorem tms_lt {ts : List Trn} (h : Srt ts) (B : Int) : ∀ x ∈ tms ts B, x < B := by
  intro x hx
  obtain ⟨j, hj⟩ := List.getElem?_of_mem hx
  have hl := tms_len h.1 B
  have hlt := (List.getElem?_eq_some_iff.mp hj).1
  rw [tms_get h (by omega)] at hj
  exact (At_lt h (by omega) hj B).mp (by omega)
theorem sgl_srt {xs : List Int} (h : xs.Pairwise (· < ·)) (h0 : ∀ x ∈ xs, 0 ≤ x) : Srt (sgl xs) := by
  refine ⟨fun t ht => ?_, ?_⟩
  · obtain ⟨x, hx, rfl⟩ := List.mem_map.mp ht
    exact ⟨h0 x hx, Int.le_refl _, fun c hc => by cases hc; exact Int.le_refl _⟩
  · unfold sgl
    rw [List.pairwise_map]
    exact h.imp fun {a b} l => ⟨1, rfl, by show a + (1 - 1) * 1 < b; omega⟩
theorem sgl_at : ∀ (xs : List Int) (j : Nat), At (sgl xs) j = xs[j]?
  | [], j => rfl
  | x :: xs, 0 => by
    show At ((x, 1, some 1) :: sgl xs) 0 = some x
    rw [At_some_t rfl, if_pos (by decide)]
    show some (x + 0 * 1) = _
    rw [Int.zero_mul, Int.add_zero]
  | x :: xs, j + 1 => by
    show At ((x, 1, some 1) :: sgl xs) ((j + 1 : Nat) : Int) = xs[j]?
    rw [At_some_t rfl, if_neg (by omega), ← sgl_at xs j]
    congr 1
    omega
/-- the times of trains with another step, one time each -/
theorem at_ones {us : List Trn} {xs : List Int} (h : us.map (fun t => (t.1, t.2.2)) = xs.map fun x => (x, some 1)) : ∀ j : Int, 0 ≤ j → At us j = At (sgl xs) j := by
  induction us generalizing xs with
  | nil =>
    cases xs with
    | nil => intro j _; rfl
    | cons x xs => simp at h
  | cons u us ih =>
    cases xs with
    | nil => simp at h
    | cons x xs =>
      intro j j0
      rw [List.map_cons, List.map_cons] at h
      obtain ⟨h1, h2⟩ := List.cons.inj h
      have hk : u.2.2 = some 1 := congrArg Prod.snd h1
      have hx : u.1 = x := congrArg Prod.fst h1
      rw [At_some_t hk]
      show _ = At ((x, 1, some 1) :: sgl xs) j
      rw [At_some_t rfl]
      by_cases q : j < 1
      · have j00 : j = 0 := by omega
        subst j00
        rw [if_pos q, if_pos q]
        show some (u.1 + 0 * u.2.1) = some (x + 0 * 1)
        rw [Int.zero_mul, Int.zero_mul, hx]
      · rw [if_neg q, if_neg q]
        exact ih h2 (j - 1) (by omega)
/-- all times of finite trains, listed -/
theorem nfs_tms {ts : List Trn} (h : Srt ts) {B n : Int} (ht : Tot ts = some n) (hB : NB ts B = n) : nfs (sgl (tms ts B)) = nfs ts := by
  refine (nfs_at_iff (sgl_srt (tms_asc h B) (tms_nn h B)) h).mpr fun i i0 => ?_
  have e : i = ((i.toNat : Nat) : Int) := by omega
  rw [e, sgl_at]
  have hl := tms_len h.1 B
  by_cases q : (i.toNat : Int) < NB ts B
  · exact tms_get h q
  · rw [(At_none h.1 (by omega)).mpr ⟨n, ht, by omega⟩]
    rw [List.getElem?_eq_none_iff]
    omega
theorem NB_full {ts : List Trn} (h : ∀ t ∈ ts, OkTr t) {n B : Int} (ht : Tot ts = some n) (hB : ∀ t ∈ ts, ∀ c, t.2.2 = some c → t.1 + (c - 1) * t.2.1 < B) : NB ts B = n := by
  induction ts generalizing n with
  | nil => cases ht; rfl
  | cons t ts ih =>
    cases hk : t.2.2 with
    | none =>
      have e2 : Tot (t :: ts) = none := by
        show (match t.2.2 with | none => none | some c => addO c (Tot ts)) = _
        rw [hk]
      rw [e2] at ht
      cases ht
    | some c =>
      have e2 : Tot (t :: ts) = addO c (Tot ts) := by
        show (match t.2.2 with | none => none | some c => addO c (Tot ts)) = _
        rw [hk]
      rw [e2] at ht
      cases hT : Tot ts with
      | none => rw [hT] at ht; cases ht
      | some m =>
        rw [hT] at ht
        have z : c + m = n := Option.some.inj ht
        have h1 := nbT_all (h t (List.mem_cons_self ..)) hk (hB t (List.mem_cons_self ..) c hk)
        have h2 := ih (fun u hu => h u (List.mem_cons_of_mem _ hu)) hT fun u hu => hB u (List.mem_cons_of_mem _ hu)
        show nbT t B + NB ts B = n
        omega
/-! one time behind the other -/
def nmS (f : List Trn) (x : Int) : List Trn := match f.getLast? with
  | none => [(x, 1, some 1)]
  | some t => if t.2.2.getD 0 = 1 ∨ x - t.1 - t.2.1 * (t.2.2.getD 0 - 1) = t.2.1 then f.dropLast ++ [(t.1, x - t.1 - t.2.1 * (t.2.2.getD 0 - 1), some (t.2.2.getD 0 + 1))] else f ++ [(x, 1, some 1)]
def nmL (xs : List Int) : List Trn := xs.foldl nmS []
theorem nmS_join {g : List Trn} {t : Trn} {x c : Int} (hc : t.2.2 = some c) : nmS (g ++ [t]) x = g ++ joinL t (x, 1, some 1) := by
  have e1 : (g ++ [t]).getLast? = some t := by simp
  have e2 : (g ++ [t]).dropLast = g := by simp
  have ec : t.2.2.getD 0 = c := by rw [hc]; rfl
  unfold nmS
  rw [e1]
  show (if t.2.2.getD 0 = 1 ∨ x - t.1 - t.2.1 * (t.2.2.getD 0 - 1) = t.2.1 then (g ++ [t]).dropLast ++ [(t.1, x - t.1 - t.2.1 * (t.2.2.getD 0 - 1), some (t.2.2.getD 0 + 1))] else g ++ [t] ++ [(x, 1, some 1)]) = _
  rw [ec, e2]
  have ej : joinL t (x, 1, some 1) = joinC t (x, 1, some 1) c := by unfold joinL; rw [hc]
  rw [ej]
  unfold joinC
  have pc : t.2.1 * (c - 1) = c * t.2.1 - t.2.1 := by rw [Int.mul_sub, Int.mul_one, Int.mul_comm]
  have e0 : (x, 1, some 1).1 = x := rfl
  by_cases c1 : c = 1
  · subst c1
    rw [if_pos (.inl rfl)]
    have es : joinS t (x, 1, some 1) 1 = x - t.1 := by unfold joinS; rw [if_pos rfl]
    rw [es, if_pos (by show t.1 + 1 * (x - t.1) = x; omega)]
    have eg : x - t.1 - t.2.1 * (1 - 1) = x - t.1 := by rw [show (1 : Int) - 1 = 0 by rfl, Int.mul_zero, Int.sub_zero]
    rw [eg]
    by_cases w : (1 : Int) = x - t.1
    · rw [if_pos (show ((x, 1, some 1) : Trn).2.1 = x - t.1 from w)]
      rfl
    · rw [if_neg (show ¬ ((x, 1, some 1) : Trn).2.1 = x - t.1 from w)]
      rfl
  · have es : joinS t (x, 1, some 1) c = t.2.1 := by unfold joinS; rw [if_neg c1]
    rw [es]
    by_cases w : x - t.1 - t.2.1 * (c - 1) = t.2.1
    · rw [if_pos (.inr w), if_pos (show t.1 + c * t.2.1 = x by omega), w]
      by_cases v : (1 : Int) = t.2.1
      · rw [if_pos (show ((x, 1, some 1) : Trn).2.1 = t.2.1 from v)]
        rfl
      · rw [if_neg (show ¬ ((x, 1, some 1) : Trn).2.1 = t.2.1 from v)]
        rfl
    · rw [if_neg (by rintro (q | q); exact c1 q; exact w q), if_neg (show ¬ t.1 + c * t.2.1 = x by omega), List.append_assoc]
      rfl
theorem nmS_nil (x : Int) : nmS [] x = [(x, 1, some 1)] := rfl
theorem joinL_fin {t : Trn} {x c : Int} (hc : t.2.2 = some c) (c1 : 1 ≤ c) (h1 : t.2.2 = some 1 → t.2.1 = 1) : ∀ g la, joinL t (x, 1, some 1) = g ++ [la] → (∃ d, la.2.2 = some d ∧ 1 ≤ d) ∧ (la.2.2 = some 1 → la.2.1 = 1) := by
  intro g la e
  have hm := nmS_join (g := []) (x := x) hc
  rw [List.nil_append, List.nil_append] at hm
  rw [← hm] at e
  unfold nmS at e
  have e1 : ([t] : List Trn).getLast? = some t := rfl
  rw [e1] at e
  have e : (if t.2.2.getD 0 = 1 ∨ x - t.1 - t.2.1 * (t.2.2.getD 0 - 1) = t.2.1 then ([] : List Trn) ++ [(t.1, x - t.1 - t.2.1 * (t.2.2.getD 0 - 1), some (t.2.2.getD 0 + 1))] else [t] ++ [(x, 1, some 1)]) = g ++ [la] := e
  have ec : t.2.2.getD 0 = c := by rw [hc]; rfl
  split at e
  · have := (List.append_inj' e rfl).2
    have z := (List.cons.inj this).1
    rw [← z, ec]
    exact ⟨⟨c + 1, rfl, by omega⟩, fun q => by have z2 : c + 1 = 1 := Option.some.inj q; omega⟩
  · have := (List.append_inj' e rfl).2
    have z := (List.cons.inj this).1
    rw [← z]
    exact ⟨⟨1, rfl, by decide⟩, fun _ => rfl⟩
theorem nfG_sgl : ∀ (xs : List Int) (cl : List Trn) (t : Trn) (c : Int), t.2.2 = some c → 1 ≤ c → (t.2.2 = some 1 → t.2.1 = 1) → nfG cl (some t) (sgl xs) = xs.foldl nmS (cl ++ [t])
  | [], cl, t, c, _, _, h1 => by
    show cl ++ [plainT t] = cl ++ [t]
    unfold plainT
    by_cases q : t.2.2 = some 1
    · rw [if_pos q]
      have e1 := h1 q
      obtain ⟨a, b, k⟩ := t
      have e2 : k = some 1 := q
      have e3 : b = 1 := e1
      rw [e2, e3]
    · rw [if_neg q]
  | x :: xs, cl, t, c, hc, c1, h1 => by
    show nfG (cl ++ (joinL t (x, 1, some 1)).dropLast) (joinL t (x, 1, some 1)).getLast? (sgl xs) = xs.foldl nmS (nmS (cl ++ [t]) x)
    rw [nmS_join hc]
    obtain ⟨v, zs, ev, _⟩ := joinL_head (f := (x, 1, some 1)) hc c1
    have ne : joinL t (x, 1, some 1) ≠ [] := by rw [ev]; simp
    have eg := List.dropLast_concat_getLast ne
    obtain ⟨⟨d, hd, d1⟩, hl⟩ := joinL_fin (x := x) hc c1 h1 _ _ eg.symm
    rw [List.getLast?_eq_some_getLast ne, nfG_sgl xs _ _ d hd d1 hl, List.append_assoc, eg]
theorem nmL_nfs (xs : List Int) : nmL xs = nfs (sgl xs) := by
  cases xs with
  | nil => rfl
  | cons x xs =>
    show xs.foldl nmS [(x, 1, some 1)] = nfG [] (some (x, 1, some 1)) (sgl xs)
    rw [nfG_sgl xs [] (x, 1, some 1) 1 rfl (by decide) fun _ => rfl]
    rfl

/-! ### windows -/
def hiW (t : Trn) : Option Int → Option Int
  | none => t.2.2
  | some a => some (nbT t a)
def wnT (t : Trn) (f : Int) (after : Option Int) : List Trn := partL t (nbT t f) (hiW t after)
def win (ts : List Trn) (f : Int) (after : Option Int) : List Trn := ts.flatMap fun t => wnT t f after
def cx (f : Int) (after : Option Int) (x : Int) : Int := match after with
  | none => if x < f then f else x
  | some a => if x < f then f else if a < x then a else x
theorem cl_mono {d e p : Int} (hp : 0 < p) (h : d ≤ e) : cl d p ≤ cl e p := (cl_le hp).mpr (Int.le_trans h ((cl_le hp).mp (Int.le_refl _)))
theorem nbT_mono {t : Trn} (h : OkTr t) {x y : Int} (l : x ≤ y) : nbT t x ≤ nbT t y := by
  obtain ⟨s, p, k⟩ := t
  have hp : 0 < p := by
    have h2 : 1 ≤ p := h.2.1
    omega
  have c := cl_mono (p := p) hp (show x - s ≤ y - s by omega)
  show minO (stepsUp (x - s) p) k ≤ minO (stepsUp (y - s) p) k
  rw [stepsUp_cl, stepsUp_cl]
  cases k with
  | none =>
    show (if cl (x - s) p > 0 then cl (x - s) p else 0) ≤ (if cl (y - s) p > 0 then cl (y - s) p else 0)
    split <;> split <;> omega
  | some d =>
    show (if d < (if cl (x - s) p > 0 then cl (x - s) p else 0) then d else (if cl (x - s) p > 0 then cl (x - s) p else 0)) ≤ (if d < (if cl (y - s) p > 0 then cl (y - s) p else 0) then d else (if cl (y - s) p > 0 then cl (y - s) p else 0))
    repeat' split
    all_goals omega
theorem NB_mono {ts : List Trn} (h : ∀ t ∈ ts, OkTr t) {x y : Int} (l : x ≤ y) : NB ts x ≤ NB ts y := by
  induction ts with
  | nil => exact Int.le_refl _
  | cons t ts ih =>
    have := nbT_mono (h t (List.mem_cons_self ..)) l
    have := ih fun u hu => h u (List.mem_cons_of_mem _ hu)
    show nbT t x + NB ts x ≤ nbT t y + NB ts y
    omega
theorem wn_nb {t : Trn} (h : OkTr t) {f : Int} {after : Option Int} (hf : ∀ a, after = some a → f ≤ a) (x : Int) : NB (wnT t f after) x = nbT t (cx f after x) - nbT t f := by
  obtain ⟨s, p, k⟩ := t
  have hp : 0 < p := by
    have h2 : 1 ≤ p := h.2.1
    omega
  have n0 := nbT_nn h f
  have low : ∀ z, z ≤ f → nbT (s, p, k) z ≤ nbT (s, p, k) f := fun z hz => nbT_mono h hz
  have e0 : x - (s + nbT (s, p, k) f * p) = x - s - nbT (s, p, k) f * p := by omega
  have one : ∀ (hi : Option Int), nbT (s + nbT (s, p, k) f * p, p, hi) x = minO (if cl (x - s) p - nbT (s, p, k) f > 0 then cl (x - s) p - nbT (s, p, k) f else 0) hi := fun hi => by
    show minO (stepsUp (x - (s + nbT (s, p, k) f * p)) p) hi = _
    rw [e0, stepsUp_cl, cl_sub _ _ _ hp]
  have full : nbT (s, p, k) x = minO (if cl (x - s) p > 0 then cl (x - s) p else 0) k := by
    show minO (stepsUp (x - s) p) k = _
    rw [stepsUp_cl]
  have nx := nbT_nn h x
  cases after with
  | none =>
    have key : nbT (s, p, k) (cx f none x) = if x < f then nbT (s, p, k) f else nbT (s, p, k) x := by
      show nbT (s, p, k) (if x < f then f else x) = _
      split <;> rfl
    rw [key]
    have hl : x < f → nbT (s, p, k) x ≤ nbT (s, p, k) f := fun l => low x (by omega)
    have hg : ¬ x < f → nbT (s, p, k) f ≤ nbT (s, p, k) x := fun l => nbT_mono h (by omega)
    cases k with
    | none =>
      show nbT (s + nbT (s, p, none) f * p, p, none) x + 0 = _
      rw [one none]
      have full : nbT (s, p, none) x = if cl (x - s) p > 0 then cl (x - s) p else 0 := full
      show (if cl (x - s) p - nbT (s, p, none) f > 0 then cl (x - s) p - nbT (s, p, none) f else 0) + 0 = _
      generalize nbT (s, p, none) f = lo at *
      generalize nbT (s, p, none) x = nn at *
      split <;> split <;> (split at full) <;> omega
    | some c =>
      have hle : nbT (s, p, some c) f ≤ c := nbT_le rfl
      show NB (if nbT (s, p, some c) f = c then [] else [(s + nbT (s, p, some c) f * p, p, some (c - nbT (s, p, some c) f))]) x = _
      have full : nbT (s, p, some c) x = if c < (if cl (x - s) p > 0 then cl (x - s) p else 0) then c else (if cl (x - s) p > 0 then cl (x - s) p else 0) := full
      by_cases z : nbT (s, p, some c) f = c
      · rw [if_pos z]
        show (0 : Int) = _
        generalize nbT (s, p, some c) f = lo at *
        generalize nbT (s, p, some c) x = nn at *
        split <;> (split at full) <;> (try split at full) <;> omega
      · rw [if_neg z]
        show nbT (s + nbT (s, p, some c) f * p, p, some (c - nbT (s, p, some c) f)) x + 0 = _
        rw [one]
        show (if c - nbT (s, p, some c) f < (if cl (x - s) p - nbT (s, p, some c) f > 0 then cl (x - s) p - nbT (s, p, some c) f else 0) then c - nbT (s, p, some c) f else (if cl (x - s) p - nbT (s, p, some c) f > 0 then cl (x - s) p - nbT (s, p, some c) f else 0)) + 0 = _
        generalize nbT (s, p, some c) f = lo at *
        generalize nbT (s, p, some c) x = nn at *
        generalize cl (x - s) p = q at *
        by_cases w : x < f
        · have := hl w
          rw [if_pos w]
          repeat' split
          all_goals (repeat' split at full)
          all_goals omega
        · have := hg w
          rw [if_neg w]
          repeat' split
          all_goals (repeat' split at full)
          all_goals omega
  | some a =>
    have hfa := hf a rfl
    have key : nbT (s, p, k) (cx f (some a) x) = if x < f then nbT (s, p, k) f else if a < x then nbT (s, p, k) a else nbT (s, p, k) x := by
      show nbT (s, p, k) (if x < f then f else if a < x then a else x) = _
      split
      · rfl
      · split <;> rfl
    rw [key]
    have hl : x < f → nbT (s, p, k) x ≤ nbT (s, p, k) f := fun l => low x (by omega)
    have hg : ¬ x < f → nbT (s, p, k) f ≤ nbT (s, p, k) x := fun l => nbT_mono h (by omega)
    have ha1 : a < x → nbT (s, p, k) a ≤ nbT (s, p, k) x := fun l => nbT_mono h (by omega)
    have ha2 : ¬ a < x → nbT (s, p, k) x ≤ nbT (s, p, k) a := fun l => nbT_mono h (by omega)
    have hfa2 := nbT_mono h hfa
    have hc : ∀ c, k = some c → nbT (s, p, k) a ≤ c := fun c e => nbT_le e
    show NB (if nbT (s, p, k) f = nbT (s, p, k) a then [] else [(s + nbT (s, p, k) f * p, p, some (nbT (s, p, k) a - nbT (s, p, k) f))]) x = _
    have base : nbT (s, p, k) x ≤ nbT (s, p, k) a → (if cl (x - s) p - nbT (s, p, k) f > 0 then cl (x - s) p - nbT (s, p, k) f else 0) = (if nbT (s, p, k) x - nbT (s, p, k) f > 0 then nbT (s, p, k) x - nbT (s, p, k) f else 0) ∨ nbT (s, p, k) x = nbT (s, p, k) a ∧ nbT (s, p, k) x ≤ cl (x - s) p := fun _ => by
      cases k with
      | none =>
        have full : nbT (s, p, none) x = if cl (x - s) p > 0 then cl (x - s) p else 0 := full
        left
        generalize nbT (s, p, none) f = lo at *
        generalize nbT (s, p, none) x = nn at *
        repeat' split
        all_goals (repeat' split at full)
        all_goals omega
      | some c =>
        have full : nbT (s, p, some c) x = if c < (if cl (x - s) p > 0 then cl (x - s) p else 0) then c else (if cl (x - s) p > 0 then cl (x - s) p else 0) := full
        have := hc c rfl
        generalize nbT (s, p, some c) f = lo at *
        generalize nbT (s, p, some c) x = nn at *
        generalize nbT (s, p, some c) a = na at *
        generalize cl (x - s) p = q at *
        by_cases w : c < q
        · right
          repeat' split at full
          all_goals omega
        · left
          repeat' split
          all_goals (repeat' split at full)
          all_goals omega
    have big : nbT (s, p, k) a ≤ nbT (s, p, k) x → nbT (s, p, k) a ≤ (if cl (x - s) p > 0 then cl (x - s) p else 0) := fun l => by
      cases k with
      | none =>
        have full : nbT (s, p, none) x = if cl (x - s) p > 0 then cl (x - s) p else 0 := full
        omega
      | some c =>
        have full : nbT (s, p, some c) x = if c < (if cl (x - s) p > 0 then cl (x - s) p else 0) then c else (if cl (x - s) p > 0 then cl (x - s) p else 0) := full
        split at full <;> omega
    by_cases z : nbT (s, p, k) f = nbT (s, p, k) a
    · rw [if_pos z]
      show (0 : Int) = _
      generalize nbT (s, p, k) f = lo at *
      generalize nbT (s, p, k) x = nn at *
      generalize nbT (s, p, k) a = na at *
      split
      · omega
      · split <;> omega
    · rw [if_neg z]
      show nbT (s + nbT (s, p, k) f * p, p, some (nbT (s, p, k) a - nbT (s, p, k) f)) x + 0 = _
      rw [one]
      show (if nbT (s, p, k) a - nbT (s, p, k) f < (if cl (x - s) p - nbT (s, p, k) f > 0 then cl (x - s) p - nbT (s, p, k) f else 0) then nbT (s, p, k) a - nbT (s, p, k) f else (if cl (x - s) p - nbT (s, p, k) f > 0 then cl (x - s) p - nbT (s, p, k) f else 0)) + 0 = _
      clear full one e0 key low
      generalize nbT (s, p, k) f = lo at *
      generalize nbT (s, p, k) x = nn at *
      generalize nbT (s, p, k) a = na at *
      generalize cl (x - s) p = q at *
      by_cases w : x < f
      · rw [if_pos w]
        have := hl w
        rcases base (by omega) with b | b
        · rw [b]
          repeat' split
          all_goals omega
        · omega
      · rw [if_neg w]
        have := hg w
        by_cases v : a < x
        · rw [if_pos v]
          have := ha1 v
          have := big this
          repeat' split
          all_goals (repeat' split at *)
          all_goals omega
        · rw [if_neg v]
          have := ha2 v
          rcases base this with b | b
          · rw [b]
            repeat' split
            all_goals omega
          · obtain ⟨b1, b2⟩ := b
            repeat' split
            all_goals omega
theorem win_nb {ts : List Trn} (h : ∀ t ∈ ts, OkTr t) {f : Int} {after : Option Int} (hf : ∀ a, after = some a → f ≤ a) (x : Int) : NB (win ts f after) x = NB ts (cx f after x) - NB ts f := by
  induction ts with
  | nil => rfl
  | cons t ts ih =>
    have h1 := wn_nb (h t (List.mem_cons_self ..)) hf x
    have h2 := ih fun u hu => h u (List.mem_cons_of_mem _ hu)
    show NB (wnT t f after ++ win ts f after) x = nbT t (cx f after x) + NB ts (cx f after x) - (nbT t f + NB ts f)
    rw [NB_app, h1, h2]
    omega

/-! ### windows in the program -/
theorem steps_le' {d p : Int} (hp : 0 < p) : stepsUp d p ≤ if 0 < d then d else 0 := by
  rw [stepsUp_cl]
  have h : cl d p ≤ (if 0 < d then d else 0) := (cl_le hp).mpr (by
    split
    · have : d * 1 ≤ d * p := Int.mul_le_mul_of_nonneg_left (by omega) (by omega)
      omega
    · omega)
  split <;> (try split) <;> (try split at h) <;> omega
/-- the start of the train from its i-th time on -/
theorem part_start {t : Trn} (h : OkTr t) {x i : Int} (hi : nbT t x = i) (h0 : 0 < i) : t.1 + (i - 1) * t.2.1 < x := by
  refine (nbT_lt h (by omega) fun c hc => ?_).mp (by omega)
  have := nbT_le (x := x) hc
  omega
structure WnOk (n : Nat) (t u : Trn) : Prop where
  ok : OkTr u
  bt : BT n u
  lo : t.1 ≤ u.1
  lt : ∀ v, Lt t v → Lt u v
theorem wn_ok {t : Trn} (h : OkTr t) {n m : Nat} (b : BT n t) {f : Int} {after : Option Int} (f0 : 0 ≤ f) (hf : ∀ a, after = some a → f ≤ a) (fm : f ≤ PB m) (am : ∀ a, after = some a → a ≤ PB m) : (∀ u ∈ wnT t f after, WnOk (max n m + 1) t u) ∧ (wnT t f after).length ≤ 1 := by
  have n0 := nbT_nn h f
  have p1 := h.2.1
  have s0 := h.1
  have bs := b.s
  have bp := b.p
  have q1 : PB n ≤ PB (max n m) := PB_le (by omega)
  have q2 : PB m ≤ PB (max n m) := PB_le (by omega)
  have q3 := PB_succ (max n m)
  have q4 := PB_pos (max n m)
  have m0 : 0 ≤ nbT t f * t.2.1 := Int.mul_nonneg n0 (by omega)
  have lowst : nbT t f * t.2.1 < f + t.2.1 ∨ nbT t f = 0 := by
    by_cases z : nbT t f = 0
    · exact .inr z
    · left
      have := part_start h (x := f) rfl (by omega)
      rw [Int.sub_mul, Int.one_mul] at this
      omega
  have st : t.1 + nbT t f * t.2.1 ≤ PB (max n m + 1) := by
    rcases lowst with l | l
    · by_cases z : nbT t f = 0
      · rw [z, Int.zero_mul]; omega
      · have := part_start h (x := f) rfl (by omega)
        rw [Int.sub_mul, Int.one_mul] at this
        omega
    · rw [l, Int.zero_mul]; omega
  unfold wnT partL
  cases hh : hiW t after with
  | none =>
    have hk : t.2.2 = none := by
      cases after with
      | none => exact hh
      | some a => cases hh
    refine ⟨fun u hu => ?_, by show 1 ≤ 1; decide⟩
    rw [List.mem_singleton.mp hu]
    exact ⟨⟨by show 0 ≤ t.1 + _; omega, p1, fun c hc => by cases hc⟩, ⟨st, by show t.2.1 ≤ _; omega, fun c hc => by cases hc⟩, by show t.1 ≤ t.1 + _; omega, fun v ⟨c, hc, _⟩ => by rw [hk] at hc; cases hc⟩
  | some hi =>
    refine ⟨fun u hu => ?_, by show (if nbT t f = hi then [] else [_] : List Trn).length ≤ 1; split <;> simp⟩
    have hu : u ∈ (if nbT t f = hi then [] else [(t.1 + nbT t f * t.2.1, t.2.1, some (hi - nbT t f))] : List Trn) := hu
    have hge : nbT t f ≤ hi ∧ (∀ c, t.2.2 = some c → hi ≤ c) ∧ t.1 + (hi - 1) * t.2.1 ≤ PB (max n m + 1) := by
      cases after with
      | none =>
        have e : t.2.2 = some hi := hh
        have := b.c hi e
        exact ⟨nbT_le e, fun c hc => by rw [e] at hc; cases hc; omega, by omega⟩
      | some a =>
        have e : nbT t a = hi := Option.some.inj hh
        have am' := am a rfl
        have hfa := hf a rfl
        refine ⟨by rw [← e]; exact nbT_mono h hfa, fun c hc => by rw [← e]; exact nbT_le hc, ?_⟩
        by_cases z : 0 < hi
        · have := part_start h e z
          omega
        · have : (hi - 1) * t.2.1 ≤ 0 := Int.mul_nonpos_of_nonpos_of_nonneg (by omega) (by omega)
          omega
    obtain ⟨g1, g2, g3⟩ := hge
    by_cases z : nbT t f = hi
    · rw [if_pos z] at hu; simp at hu
    · rw [if_neg z] at hu
      rw [List.mem_singleton.mp hu]
      have eend : ∀ c : Int, hi - nbT t f = c → t.1 + nbT t f * t.2.1 + (c - 1) * t.2.1 = t.1 + (hi - 1) * t.2.1 := fun c e => by
        subst e
        rw [show hi - nbT t f - 1 = (hi - 1) - nbT t f by omega, Int.sub_mul (hi - 1)]
        omega
      refine ⟨⟨by show 0 ≤ t.1 + _; omega, p1, fun c hc => by have y : hi - nbT t f = c := Option.some.inj hc; omega⟩, ⟨st, by show t.2.1 ≤ _; omega, fun c hc => ?_⟩, by show t.1 ≤ t.1 + _; omega, fun v ⟨c, hc, l⟩ => ?_⟩
      · have y : hi - nbT t f = c := Option.some.inj hc
        show t.1 + nbT t f * t.2.1 + (c - 1) * t.2.1 ≤ _
        rw [eend c y]
        exact g3
      · refine ⟨hi - nbT t f, rfl, ?_⟩
        show t.1 + nbT t f * t.2.1 + (hi - nbT t f - 1) * t.2.1 < v.1
        rw [eend _ rfl]
        have := g2 c hc
        have : (hi - 1) * t.2.1 ≤ (c - 1) * t.2.1 := Int.mul_le_mul_of_nonneg_right (by omega) (by omega)
        omega
theorem win_ok {n m : Nat} {f : Int} {after : Option Int} (f0 : 0 ≤ f) (hf : ∀ a, after = some a → f ≤ a) (fm : f ≤ PB m) (am : ∀ a, after = some a → a ≤ PB m) : ∀ {ts : List Trn}, Srt ts → (∀ t ∈ ts, BT n t) → Srt (win ts f after) ∧ (∀ u ∈ win ts f after, BT (max n m + 1) u) ∧ (win ts f after).length ≤ ts.length
  | [], _, _ => ⟨⟨fun u hu => (by cases hu), List.Pairwise.nil⟩, fun u hu => (by cases hu), Nat.le_refl _⟩
  | t :: ts, hs, hb => by
    obtain ⟨i1, i2, i3⟩ := win_ok f0 hf fm am hs.tail fun u hu => hb u (List.mem_cons_of_mem _ hu)
    obtain ⟨w1, w2⟩ := wn_ok hs.head (hb t (List.mem_cons_self ..)) f0 hf fm am
    have mem : ∀ v ∈ win ts f after, ∃ t' ∈ ts, t'.1 ≤ v.1 := fun v hv => by
      obtain ⟨t', ht', hv'⟩ := List.mem_flatMap.mp hv
      exact ⟨t', ht', ((wn_ok (hs.tail.1 t' ht') (hb t' (List.mem_cons_of_mem _ ht')) f0 hf fm am).1 v hv').lo⟩
    show Srt (wnT t f after ++ win ts f after) ∧ (∀ u ∈ wnT t f after ++ win ts f after, BT (max n m + 1) u) ∧ (wnT t f after ++ win ts f after).length ≤ ts.length + 1
    refine ⟨⟨fun u hu => ?_, List.pairwise_append.mpr ⟨?_, i1.2, fun u hu v hv => ?_⟩⟩, fun u hu => ?_, by rw [List.length_append]; omega⟩
    · rcases List.mem_append.mp hu with hu | hu
      · exact (w1 u hu).ok
      · exact i1.1 u hu
    · cases hw : wnT t f after with
      | nil => exact List.Pairwise.nil
      | cons a l =>
        rw [hw] at w2
        have : l = [] := by
          cases l with
          | nil => rfl
          | cons b l => simp at w2
        rw [this]
        exact List.pairwise_singleton _ _
    · obtain ⟨t', ht', l⟩ := mem v hv
      exact lt_of_start ((w1 u hu).lt t' (hs.lt t' ht')) l
    · rcases List.mem_append.mp hu with hu | hu
      · exact (w1 u hu).bt
      · exact i2 u hu

/-! ### window in the program -/
def spWo : Sp := fun vs H Q _ => ∃ (x : V) (t : Trn) (f : Int) (after : Option Int), vs = [x, .int f, cV after] ∧ TrAt H x t ∧ OkTr t ∧ BT 5000 t ∧ f ≤ PB 4900 ∧ 0 ≤ f ∧ ∀ l zs H', H' l = some (.lst zs) → Trs H' zs (wnT t f after) → Same H H' → H l = none → Q (.ref l) H'
def spWr : Sp := fun vs H Q _ => ∃ a xs ts n m f after, vs = [.ref a, .int f, cV after] ∧ H a = some (.lst xs) ∧ Trs H xs ts ∧ Srt ts ∧ (∀ t ∈ ts, BT n t) ∧ ts.length ≤ 5000 ∧ n ≤ 5000 ∧ 0 ≤ f ∧ (∀ b, after = some b → f ≤ b) ∧ f ≤ PB m ∧ (∀ b, after = some b → b ≤ PB m) ∧ m ≤ 4900 ∧ ∀ l zs H', H' l = some (.lst zs) → Trs H' zs (win ts f after) → Same H H' → H l = none → Q (.ref l) H'
theorem lc2_outer {K : PySem.W.Frag} {a : Addr} {xs : List V} {g : TG} {tt : TT} {wi1 : TI} {g1 : TG} {tt1 : TT} {te : TE} {vs vs1 : List Nat} {σ : L2.St} {H1 : Hp} {D : Addr} {Qd : Hp → Prop} (Pv : Nat → Hp → Prop) (h0 : Pv 0 (upd H1 D (.lst []))) (hl : ∀ i H, i ≤ xs.length → Pv i H → SqL K H a xs)
    (hs : ∀ i x H, xs[i]? = some x → Pv i H → g x (wipe σ vs) H fun σ2 H2 => wipe σ2 vs = wipe σ vs ∧ tt σ2 H2 fun b H3 =>
      if b = true then wi1 σ2 H3 fun J1 H4 => ∃ W1 : Nat → Nat → Hp → Prop, (∃ m, W1 0 m H4) ∧ ∀ j k H, W1 j k H →
        (J1.stop j H ∧ Pv (i + 1) H) ∨ (J1.go j H ∧ ∃ Nx1 : Hp → Prop, (∀ H', Nx1 H' → ∃ k', k' < k ∧ W1 (j + 1) k' H') ∧ ∀ x H', J1.yld j H x H' → g1 x (wipe σ2 vs1) H' fun σ3 H5 => wipe σ3 vs1 = wipe σ2 vs1 ∧ tt1 σ3 H5 fun b H6 =>
          if b = true then te σ3 H6 fun y H7 => ∃ acc, H7 D = some (.lst acc) ∧ acc.length < sizeLine ∧ Nx1 (upd H7 D (.lst (acc ++ [y]))) else Nx1 H6)
      else Pv (i + 1) H3) (hd : ∀ H, Pv xs.length H → Qd H) :
    ∃ W : Nat → Nat → Hp → Prop, (∃ m, W 0 m (upd H1 D (.lst []))) ∧ ∀ i m H, W i m H →
      ((Itl K a).stop i H ∧ Qd H) ∨ ((Itl K a).go i H ∧ ∃ Nx : Hp → Prop, (∀ H', Nx H' → ∃ m', m' < m ∧ W (i + 1) m' H') ∧ ∀ x H', (Itl K a).yld i H x H' → g x (wipe σ vs) H' fun σ2 H2 => wipe σ2 vs = wipe σ vs ∧ tt σ2 H2 fun b H3 =>
        if b = true then wi1 σ2 H3 fun J1 H4 => ∃ W1 : Nat → Nat → Hp → Prop, (∃ m, W1 0 m H4) ∧ ∀ j k H, W1 j k H →
          (J1.stop j H ∧ Nx H) ∨ (J1.go j H ∧ ∃ Nx1 : Hp → Prop, (∀ H', Nx1 H' → ∃ k', k' < k ∧ W1 (j + 1) k' H') ∧ ∀ x H', J1.yld j H x H' → g1 x (wipe σ2 vs1) H' fun σ3 H5 => wipe σ3 vs1 = wipe σ2 vs1 ∧ tt1 σ3 H5 fun b H6 =>
            if b = true then te σ3 H6 fun y H7 => ∃ acc, H7 D = some (.lst acc) ∧ acc.length < sizeLine ∧ Nx1 (upd H7 D (.lst (acc ++ [y]))) else Nx1 H6)
        else Nx H3) := by
  refine ⟨fun i m H => m = xs.length - i ∧ i ≤ xs.length ∧ Pv i H, ⟨xs.length, by simp, Nat.zero_le _, h0⟩, ?_⟩
  rintro i m H ⟨rfl, hi, p⟩
  have q := hl i H hi p
  by_cases hlt : i < xs.length
  · refine .inr ⟨⟨xs, xs[i], q, by simp [hlt]⟩, Pv (i + 1), fun H' p' => ⟨xs.length - (i + 1), by omega, rfl, hlt, p'⟩, fun x H' y => ?_⟩
    obtain ⟨e, y⟩ := y
    subst e
    exact hs i x _ (y xs q) p
  · have e : i = xs.length := by omega
    subst e
    exact .inl ⟨⟨xs, q, Nat.le_refl _⟩, hd H p⟩
theorem lc2_inner {K : PySem.W.Frag} {a : Addr} {xs : List V} {g1 : TG} {tt1 : TT} {te : TE} {vs1 : List Nat} {σ2 : L2.St} {H4 : Hp} {D : Addr} {Nx : Hp → Prop} (Pv : Nat → Hp → Prop) (h0 : Pv 0 H4) (hl : ∀ i H, i ≤ xs.length → Pv i H → SqL K H a xs)
    (hs : ∀ j x H, xs[j]? = some x → Pv j H → g1 x (wipe σ2 vs1) H fun σ3 H5 => wipe σ3 vs1 = wipe σ2 vs1 ∧ tt1 σ3 H5 fun b H6 =>
      if b = true then te σ3 H6 fun y H7 => ∃ acc, H7 D = some (.lst acc) ∧ acc.length < sizeLine ∧ Pv (j + 1) (upd H7 D (.lst (acc ++ [y]))) else Pv (j + 1) H6) (hd : ∀ H, Pv xs.length H → Nx H) :
    ∃ W1 : Nat → Nat → Hp → Prop, (∃ m, W1 0 m H4) ∧ ∀ j k H, W1 j k H →
      ((Itl K a).stop j H ∧ Nx H) ∨ ((Itl K a).go j H ∧ ∃ Nx1 : Hp → Prop, (∀ H', Nx1 H' → ∃ k', k' < k ∧ W1 (j + 1) k' H') ∧ ∀ x H', (Itl K a).yld j H x H' → g1 x (wipe σ2 vs1) H' fun σ3 H5 => wipe σ3 vs1 = wipe σ2 vs1 ∧ tt1 σ3 H5 fun b H6 =>
        if b = true then te σ3 H6 fun y H7 => ∃ acc, H7 D = some (.lst acc) ∧ acc.length < sizeLine ∧ Nx1 (upd H7 D (.lst (acc ++ [y]))) else Nx1 H6) := by
  refine ⟨fun i m H => m = xs.length - i ∧ i ≤ xs.length ∧ Pv i H, ⟨xs.length, by simp, Nat.zero_le _, h0⟩, ?_⟩
  rintro i m H ⟨rfl, hi, p⟩
  have q := hl i H hi p
  by_cases hlt : i < xs.length
  · refine .inr ⟨⟨xs, xs[i], q, by simp [hlt]⟩, Pv (i + 1), fun H' p' => ⟨xs.length - (i + 1), by omega, rfl, hlt, p'⟩, fun x H' y => ?_⟩
    obtain ⟨e, y⟩ := y
    subst e
    exact hs i x _ (y xs q) p
  · have e : i = xs.length := by omega
    subst e
    exact .inl ⟨⟨xs, q, Nat.le_refl _⟩, hd H p⟩
section
variable {P : Program} {w : World} {K : PySem.W.Frag} {mg : Str → Option Value} {base : Heap} {L : LA}
end
/-! ### what a breaker passes -/
def thrL (t : Trn) (wt x : Int) : List Trn := match t.2.2 with
  | none => [(t.1 + nbT t x * t.2.1, stepsUp wt t.2.1 * t.2.1, none)]
  | some c => if nbT t x = c then [] else [(t.1 + nbT t x * t.2.1, stepsUp wt t.2.1 * t.2.1, some (stepsUp (c - nbT t x) (stepsUp wt t.2.1)))]
def lastO (o : Int) (u : Trn) : Int := match u.2.2 with
  | none => o
  | some d => u.1 + (d - 1) * u.2.1
def thnG (wt : Int) : Int → List Trn → List Trn
  | _, [] => []
  | o, t :: r => thrL t wt (o + wt) ++ thnG wt (match thrL t wt (o + wt) with | [] => o | u :: _ => lastO o u) r
theorem stepsUp_pos {d s : Int} (hd : 0 < d) (hs : 0 < s) : stepsUp d s = cl d s ∧ 1 ≤ cl d s := by
  have : 0 < cl d s := (cl_gt hs).mpr (by rw [Int.zero_mul]; exact hd)
  rw [stepsUp_cl, if_pos this]
  exact ⟨rfl, this⟩
/-- of a train: the place behind the i-th time and the wait -/
theorem nbT_next {t : Trn} (h : OkTr t) {wt i : Int} (i0 : 0 ≤ i) (w0 : 1 ≤ wt) : nbT t (t.1 + i * t.2.1 + wt) = minO (i + cl wt t.2.1) t.2.2 := by
  obtain ⟨s, p, k⟩ := t
  have hp : 0 < p := by
    have h2 : 1 ≤ p := h.2.1
    omega
  show minO (stepsUp (s + i * p + wt - s) p) k = minO (i + cl wt p) k
  have e : s + i * p + wt - s = wt - (-i) * p := by rw [Int.neg_mul]; omega
  have c1 := (stepsUp_pos (d := wt) (by omega) hp).2
  rw [e, stepsUp_cl, cl_sub _ _ _ hp, if_pos (by omega)]
  congr 1
  omega
theorem nx_head_in {t : Trn} {r : List Trn} (hs : Srt (t :: r)) {x j : Int} (hj : nbT t x = j) (hc : ∀ c, t.2.2 = some c → j < c) : nxT (t :: r) x = some (t.1 + j * t.2.1) := by
  have j0 : 0 ≤ j := by rw [← hj]; exact nbT_nn hs.head x
  have z : NB r x = 0 := by
    by_cases q : NB r x = 0
    · exact q
    · have : ∃ u ∈ r, u.1 < x := by
        by_cases z : ∃ u ∈ r, u.1 < x
        · exact z
        · exact absurd (NB_zero hs.tail.1 (x := x) fun u hu => by
            by_cases w : x ≤ u.1
            · exact w
            · exact absurd ⟨u, hu, by omega⟩ z) q
      obtain ⟨u, hu, hx⟩ := this
      obtain ⟨c, hc', hl⟩ := hs.lt u hu
      have := nbT_all hs.head hc' (x := x) (by omega)
      have := hc c hc'
      omega
  unfold nxT
  have e : NB (t :: r) x = j := by
    show nbT t x + NB r x = j
    omega
  rw [e, At_lo hc]
theorem nx_tail {t : Trn} {r : List Trn} (hs : Srt (t :: r)) {x c : Int} (hc : t.2.2 = some c) (hj : nbT t x = c) : nxT (t :: r) x = nxT r x := by
  have nn := NB_nn hs.tail.1 x
  unfold nxT
  have e : NB (t :: r) x = c + NB r x := by
    show nbT t x + NB r x = c + NB r x
    rw [hj]
  rw [e, At_some_t hc, if_neg (by omega)]
  congr 1
  omega
theorem nx_ge {ts : List Trn} (h : Srt ts) {x y : Int} (e : nxT ts x = some y) : x ≤ y := by
  have n0 := NB_nn h.1 x
  have := At_lt h n0 e x
  omega
/-- each time but the first is the next one behind the one before and the wait -/
structure Pass (wt o : Int) (ts g : List Trn) : Prop where
  srt : Srt g
  lo : ∀ u ∈ g, o + wt ≤ u.1
  first : At g 0 = nxT ts (o + wt)
  next : ∀ i y, 0 ≤ i → At g i = some y → At g (i + 1) = nxT ts (y + wt)
theorem Pass.ge {wt o : Int} {ts g : List Trn} (h : Pass wt o ts g) {i y : Int} (i0 : 0 ≤ i) (e : At g i = some y) : o + wt ≤ y := by
  have z : NB g (o + wt) = 0 := NB_zero h.srt.1 h.lo
  have := At_lt h.srt i0 e (o + wt)
  omega
theorem At_mono {ts : List Trn} (h : ∀ t ∈ ts, OkTr t) {i j : Int} (i0 : 0 ≤ i) (hij : i ≤ j) (e : At ts i = none) : At ts j = none := by
  obtain ⟨n, h1, h2⟩ := (At_none h i0).mp e
  exact (At_none h (by omega)).mpr ⟨n, h1, by omega⟩
theorem thn_pass {wt : Int} (w0 : 1 ≤ wt) : ∀ {ts : List Trn}, Srt ts → ∀ o : Int, Pass wt o ts (thnG wt o ts)
  | [], _, o => ⟨⟨fun t ht => (by cases ht), List.Pairwise.nil⟩, fun u hu => (by cases hu), rfl, fun i y _ e => (by cases e)⟩
  | t :: r, hs, o => by
    have ok := hs.head
    have hp := ok.2.1
    have n0 := nbT_nn ok (o + wt)
    obtain ⟨e1, c1⟩ := stepsUp_pos (d := wt) (s := t.2.1) (by omega) (by omega)
    have wle : wt ≤ cl wt t.2.1 * t.2.1 := (cl_le (by omega)).mp (Int.le_refl _)
    -- times of t behind its end
    cases hk : t.2.2 with
    | none =>
      have r0 : r = [] := by
        cases r with
        | nil => rfl
        | cons v r =>
          obtain ⟨c, z, _⟩ := hs.lt v (List.mem_cons_self ..)
          rw [hk] at z; cases z
      subst r0
      have eg : thnG wt o [t] = [(t.1 + nbT t (o + wt) * t.2.1, cl wt t.2.1 * t.2.1, none)] := by
        show thrL t wt (o + wt) ++ [] = _
        rw [List.append_nil]
        unfold thrL
        rw [hk, e1]
      rw [eg]
      have sp : 1 ≤ cl wt t.2.1 * t.2.1 := by omega
      have m0 : 0 ≤ nbT t (o + wt) * t.2.1 := Int.mul_nonneg n0 (by omega)
      have fst : At [(t.1 + nbT t (o + wt) * t.2.1, cl wt t.2.1 * t.2.1, none)] 0 = nxT [t] (o + wt) := by
        rw [At_none_t rfl, nx_head_in hs rfl (fun c z => by rw [hk] at z; cases z)]
        show some (t.1 + nbT t (o + wt) * t.2.1 + 0 * _) = _
        rw [Int.zero_mul, Int.add_zero]
      have lo := nx_ge hs (fst.symm.trans (At_none_t rfl 0))
      refine ⟨⟨fun u hu => ?_, List.pairwise_singleton _ _⟩, fun u hu => ?_, fst, fun i y i0 e => ?_⟩
      · rw [List.mem_singleton.mp hu]
        exact ⟨by have := ok.1; show 0 ≤ t.1 + _; omega, sp, fun c z => by cases z⟩
      · rw [List.mem_singleton.mp hu]
        have lo : o + wt ≤ t.1 + nbT t (o + wt) * t.2.1 + 0 * (cl wt t.2.1 * t.2.1) := lo
        rw [Int.zero_mul, Int.add_zero] at lo
        exact lo
      · rw [At_none_t rfl] at e
        have e := Option.some.inj e
        have ey : y = t.1 + (nbT t (o + wt) + i * cl wt t.2.1) * t.2.1 := by
          rw [← e]
          show t.1 + nbT t (o + wt) * t.2.1 + i * (cl wt t.2.1 * t.2.1) = _
          rw [Int.add_mul, Int.mul_assoc]
          omega
        have nn : 0 ≤ nbT t (o + wt) + i * cl wt t.2.1 := by
          have : 0 ≤ i * cl wt t.2.1 := Int.mul_nonneg i0 (by omega)
          omega
        have q := nbT_next ok nn w0
        rw [← ey, hk] at q
        have q : nbT t (y + wt) = nbT t (o + wt) + i * cl wt t.2.1 + cl wt t.2.1 := q
        rw [nx_head_in hs q (fun c z => by rw [hk] at z; cases z), At_none_t rfl]
        show some (t.1 + nbT t (o + wt) * t.2.1 + (i + 1) * (cl wt t.2.1 * t.2.1)) = _
        congr 1
        rw [Int.add_mul, Int.add_mul, Int.add_mul, Int.mul_assoc, Int.one_mul]
        omega
    | some c =>
      have nle := nbT_le (x := o + wt) hk
      have cc := ok.2.2 c hk
      by_cases q : nbT t (o + wt) = c
      · have eg : thnG wt o (t :: r) = thnG wt o r := by
          have e3 : thrL t wt (o + wt) = [] := by
            unfold thrL
            rw [hk]
            exact if_pos q
          show thrL t wt (o + wt) ++ thnG wt (match thrL t wt (o + wt) with | [] => o | u :: _ => lastO o u) r = _
          rw [e3]
          rfl
        rw [eg]
        have ih := thn_pass w0 hs.tail o
        refine ⟨ih.srt, ih.lo, by rw [ih.first, nx_tail hs hk q], fun i y i0 e => ?_⟩
        have ge := ih.ge i0 e
        have : nbT t (y + wt) = c := by
          have h1 := (nbT_lt ok (x := o + wt) (i := c - 1) (by omega) (fun d hd => by rw [hk] at hd; cases hd; omega)).mp (by omega)
          exact nbT_all ok hk (by omega)
        rw [ih.next i y i0 e, nx_tail hs hk this]
      · have lt : nbT t (o + wt) < c := by omega
        have clp : 0 < cl wt t.2.1 := by omega
        obtain ⟨e4, d1⟩ := stepsUp_pos (d := c - nbT t (o + wt)) (s := cl wt t.2.1) (by omega) clp
        obtain ⟨k0, hk0⟩ : ∃ k0, k0 = nbT t (o + wt) := ⟨_, rfl⟩
        obtain ⟨st, hst⟩ : ∃ st, st = cl wt t.2.1 := ⟨_, rfl⟩
        obtain ⟨d, hd⟩ : ∃ d, d = cl (c - k0) st := ⟨_, rfl⟩
        rw [← hk0, ← hst, ← hd] at d1
        have dlo : (d - 1) * st < c - k0 := (cl_gt (by omega)).mp (by rw [← hd]; omega)
        have dhi : c - k0 ≤ d * st := (cl_le (by omega)).mp (by rw [← hd]; exact Int.le_refl _)
        obtain ⟨u, hu⟩ : ∃ u : Trn, u = (t.1 + k0 * t.2.1, st * t.2.1, some d) := ⟨_, rfl⟩
        have eg : thnG wt o (t :: r) = u :: thnG wt (u.1 + (d - 1) * u.2.1) r := by
          have e3 : thrL t wt (o + wt) = [u] := by
            unfold thrL
            rw [hk]
            show (if nbT t (o + wt) = c then [] else _) = _
            rw [if_neg q, e1, e4, ← hk0, ← hst, ← hd, hu]
          show thrL t wt (o + wt) ++ thnG wt (match thrL t wt (o + wt) with | [] => o | u :: _ => lastO o u) r = _
          rw [e3, hu]
          rfl
        rw [eg]
        have ih := thn_pass w0 hs.tail (u.1 + (d - 1) * u.2.1)
        have uk : u.2.2 = some d := by rw [hu]
        have k00 : 0 ≤ k0 := by rw [hk0]; exact n0
        have m0 : 0 ≤ k0 * t.2.1 := Int.mul_nonneg k00 (by omega)
        have okU : OkTr u := by
          rw [hu]
          refine ⟨by have := ok.1; show 0 ≤ t.1 + _; omega, by show 1 ≤ st * t.2.1; rw [hst]; omega, fun z hz => by cases hz; exact d1⟩
        have uy : ∀ j : Int, u.1 + j * u.2.1 = t.1 + (k0 + j * st) * t.2.1 := fun j => by
          rw [hu]
          show t.1 + k0 * t.2.1 + j * (st * t.2.1) = _
          rw [Int.add_mul, Int.mul_assoc]
          omega
        have fst : At (u :: thnG wt (u.1 + (d - 1) * u.2.1) r) 0 = nxT (t :: r) (o + wt) := by
          rw [At_head okU, nx_head_in hs hk0.symm (fun c' hc' => by rw [hk] at hc'; cases hc'; omega), hu]
        have ulo : o + wt ≤ u.1 := by
          have := nx_ge hs (fst.symm.trans (At_head okU))
          exact this
        have tail_all : ∀ z, t.1 + (c - 1) * t.2.1 < z → nbT t z = c := fun z hz => nbT_all ok hk hz
        have lastlt : ∀ v ∈ r, t.1 + (c - 1) * t.2.1 < v.1 := fun v hv => by
          obtain ⟨c', hc', l⟩ := hs.lt v hv
          rw [hk] at hc'
          cases hc'
          exact l
        -- behind the last time of u no time of t comes
        have uend : nbT t (u.1 + (d - 1) * u.2.1 + wt) = c := by
          rw [uy]
          have nn : 0 ≤ k0 + (d - 1) * st := by
            have : 0 ≤ (d - 1) * st := Int.mul_nonneg (by omega) (by omega)
            omega
          rw [nbT_next ok nn w0, hk, ← hst]
          show (if c < k0 + (d - 1) * st + st then c else k0 + (d - 1) * st + st) = c
          have : (d - 1) * st + st = d * st := by rw [Int.sub_mul, Int.one_mul]; omega
          split <;> omega
        refine ⟨⟨fun v hv => ?_, List.pairwise_cons.mpr ⟨fun v hv => ?_, ih.srt.2⟩⟩, fun v hv => ?_, fst, fun i y i0 e => ?_⟩
        · rcases List.mem_cons.mp hv with rfl | hv
          · exact okU
          · exact ih.srt.1 v hv
        · exact ⟨d, uk, by have := ih.lo v hv; omega⟩
        · rcases List.mem_cons.mp hv with rfl | hv
          · exact ulo
          · have := ih.lo v hv
            have : 0 ≤ (d - 1) * u.2.1 := Int.mul_nonneg (by omega) (by have := okU.2.1; omega)
            omega
        · rw [At_some_t uk] at e
          by_cases hi : i < d
          · rw [if_pos hi] at e
            have ey := Option.some.inj e
            have nn : 0 ≤ k0 + i * st := by
              have : 0 ≤ i * st := Int.mul_nonneg i0 (by omega)
              omega
            have hq := nbT_next ok nn w0
            rw [← uy, ey, hk, ← hst] at hq
            have hq : nbT t (y + wt) = if c < k0 + i * st + st then c else k0 + i * st + st := hq
            by_cases hi2 : i + 1 < d
            · have lt2 : k0 + i * st + st < c := by
                have : (i + 1) * st ≤ (d - 1) * st := Int.mul_le_mul_of_nonneg_right (by omega) (by omega)
                rw [Int.add_mul, Int.one_mul] at this
                omega
              rw [if_neg (by omega)] at hq
              rw [nx_head_in hs hq (fun c' hc' => by rw [hk] at hc'; cases hc'; exact lt2), At_some_t uk, if_pos hi2, uy]
              congr 3
              rw [Int.add_mul, Int.one_mul]
              omega
            · have ei : i = d - 1 := by omega
              subst ei
              have hq2 : nbT t (y + wt) = c := by rw [← ey]; exact uend
              rw [nx_tail hs hk hq2, At_some_t uk, if_neg (by omega), ← ey]
              have := ih.first
              rw [← this]
              congr 1
              omega
          · rw [if_neg hi] at e
            have ge := ih.ge (by omega) e
            have hq : nbT t (y + wt) = c := by
              have h1 : t.1 + (c - 1) * t.2.1 < u.1 + (d - 1) * u.2.1 + wt := (nbT_lt ok (by omega) (fun d' hd' => by rw [hk] at hd'; cases hd'; omega)).mp (by rw [uend]; omega)
              exact tail_all _ (by omega)
            have nx := ih.next (i - d) y (by omega) e
            rw [nx_tail hs hk hq, At_some_t uk, if_neg (by omega), ← nx]
            congr 1
            omega

/-! ### thinned in the program -/
structure ThrOk (N n : Nat) (t u : Trn) : Prop where
  ok : OkTr u
  bt : BT N u
  hi : ∀ d, u.2.2 = some d → u.1 + (d - 1) * u.2.1 ≤ PB n ∧ 0 ≤ u.1 + (d - 1) * u.2.1
  en : u.2.2 = none → t.2.2 = none
theorem nbT_le_pb {t : Trn} (h : OkTr t) {z : Int} {n : Nat} (hz : z ≤ PB n) : nbT t z ≤ PB n := by
  have s0 := h.1
  have p1 := h.2.1
  have h1 := steps_le' (d := z - t.1) (p := t.2.1) (by omega)
  have h3 : nbT t z ≤ stepsUp (z - t.1) t.2.1 := by
    unfold nbT
    cases t.2.2 with
    | none => exact Int.le_refl _
    | some c => show (if c < stepsUp (z - t.1) t.2.1 then c else stepsUp (z - t.1) t.2.1) ≤ _; split <;> omega
  have := PB_pos n
  split at h1 <;> omega
theorem stride_lt {wt p : Int} (w0 : 1 ≤ wt) (hp : 0 < p) : stepsUp wt p * p < wt + p ∧ 1 ≤ stepsUp wt p ∧ stepsUp wt p ≤ wt := by
  obtain ⟨e1, c1⟩ := stepsUp_pos (d := wt) (s := p) (by omega) hp
  have h := (cl_gt (d := wt) (s := p) (n := cl wt p - 1) hp).mp (by omega)
  have h2 := steps_le' (d := wt) hp
  rw [if_pos (by omega)] at h2
  rw [Int.sub_mul, Int.one_mul] at h
  exact ⟨by rw [e1]; omega, by rw [e1]; exact c1, h2⟩
theorem thr_ok {t : Trn} (h : OkTr t) {n m : Nat} (b : BT n t) {wt z : Int} (w0 : 1 ≤ wt) (wm : wt ≤ PB m) (zm : z ≤ PB (max n m + 1)) : (∀ u ∈ thrL t wt z, ThrOk (max n m + 2) n t u) ∧ (thrL t wt z).length ≤ 1 := by
  have n0 := nbT_nn h z
  have p1 := h.2.1
  have s0 := h.1
  have bs := b.s
  have bp := b.p
  have q1 : PB n ≤ PB (max n m) := PB_le (by omega)
  have q2 : PB m ≤ PB (max n m) := PB_le (by omega)
  have q3 := PB_succ (max n m)
  have q5 : PB (max n m + 2) = PB (max n m + 1) + PB (max n m + 1) := PB_succ (max n m + 1)
  have q4 := PB_pos (max n m)
  have m0 : 0 ≤ nbT t z * t.2.1 := Int.mul_nonneg n0 (by omega)
  obtain ⟨st1, st2, st3⟩ := stride_lt (p := t.2.1) w0 (by omega)
  have st4 : 1 ≤ stepsUp wt t.2.1 * t.2.1 := by
    have : 1 * 1 ≤ stepsUp wt t.2.1 * t.2.1 := Int.mul_le_mul st2 p1 (by decide) (by omega)
    omega
  have st : t.1 + nbT t z * t.2.1 ≤ PB (max n m + 2) := by
    by_cases y : nbT t z = 0
    · rw [y, Int.zero_mul]; omega
    · have := part_start h (x := z) rfl (by omega)
      rw [Int.sub_mul, Int.one_mul] at this
      omega
  unfold thrL
  cases hk : t.2.2 with
  | none =>
    refine ⟨fun u hu => ?_, by show 1 ≤ 1; decide⟩
    rw [List.mem_singleton.mp hu]
    exact ⟨⟨by show 0 ≤ t.1 + _; omega, st4, fun c hc => by cases hc⟩, ⟨st, by show stepsUp wt t.2.1 * t.2.1 ≤ _; omega, fun c hc => by cases hc⟩, fun d hd => (by cases hd), fun _ => hk⟩
  | some c =>
    refine ⟨fun u hu => ?_, by show (if nbT t z = c then [] else [_] : List Trn).length ≤ 1; split <;> simp⟩
    have hu : u ∈ (if nbT t z = c then [] else [(t.1 + nbT t z * t.2.1, stepsUp wt t.2.1 * t.2.1, some (stepsUp (c - nbT t z) (stepsUp wt t.2.1)))] : List Trn) := hu
    have hle := nbT_le (x := z) hk
    by_cases y : nbT t z = c
    · rw [if_pos y] at hu; simp at hu
    · rw [if_neg y] at hu
      rw [List.mem_singleton.mp hu]
      obtain ⟨e4, d1⟩ := stepsUp_pos (d := c - nbT t z) (s := stepsUp wt t.2.1) (by omega) (by omega)
      have dlo : (cl (c - nbT t z) (stepsUp wt t.2.1) - 1) * stepsUp wt t.2.1 < c - nbT t z := (cl_gt (by omega)).mp (by omega)
      have hc1 := b.c c hk
      have key : ∀ d, stepsUp (c - nbT t z) (stepsUp wt t.2.1) = d → t.1 + nbT t z * t.2.1 + (d - 1) * (stepsUp wt t.2.1 * t.2.1) ≤ PB n ∧ 0 ≤ t.1 + nbT t z * t.2.1 + (d - 1) * (stepsUp wt t.2.1 * t.2.1) := fun d hd => by
        rw [e4] at hd
        rw [hd] at dlo d1
        have e : (d - 1) * (stepsUp wt t.2.1 * t.2.1) = ((d - 1) * stepsUp wt t.2.1) * t.2.1 := by rw [Int.mul_assoc]
        have nn : 0 ≤ (d - 1) * stepsUp wt t.2.1 := Int.mul_nonneg (by omega) (by omega)
        have l1 : (nbT t z + (d - 1) * stepsUp wt t.2.1) * t.2.1 ≤ (c - 1) * t.2.1 := Int.mul_le_mul_of_nonneg_right (by omega) (by omega)
        have l2 : 0 ≤ ((d - 1) * stepsUp wt t.2.1) * t.2.1 := Int.mul_nonneg nn (by omega)
        rw [Int.add_mul] at l1
        rw [e]
        omega
      refine ⟨⟨by show 0 ≤ t.1 + _; omega, st4, fun d hd => ?_⟩, ⟨st, by show stepsUp wt t.2.1 * t.2.1 ≤ _; omega, fun d hd => ?_⟩, fun d hd => key d (Option.some.inj hd), fun q => by cases q⟩
      · have e : stepsUp (c - nbT t z) (stepsUp wt t.2.1) = d := Option.some.inj hd
        omega
      · have := (key d (Option.some.inj hd)).1
        show t.1 + nbT t z * t.2.1 + (d - 1) * (stepsUp wt t.2.1 * t.2.1) ≤ _
        omega
def thnO (wt : Int) : Int → List Trn → Int
  | o, [] => o
  | o, t :: r => thnO wt (match thrL t wt (o + wt) with | [] => o | u :: _ => lastO o u) r
theorem thnG_app (wt : Int) : ∀ (a b : List Trn) (o : Int), thnG wt o (a ++ b) = thnG wt o a ++ thnG wt (thnO wt o a) b
  | [], b, o => rfl
  | t :: a, b, o => by
    show thrL t wt (o + wt) ++ thnG wt _ (a ++ b) = thrL t wt (o + wt) ++ thnG wt _ a ++ thnG wt (thnO wt _ a) b
    rw [thnG_app wt a b, List.append_assoc]
    all_goals rfl
theorem thnO_app (wt : Int) : ∀ (a b : List Trn) (o : Int), thnO wt o (a ++ b) = thnO wt (thnO wt o a) b
  | [], b, o => rfl
  | t :: a, b, o => by
    show thnO wt _ (a ++ b) = thnO wt (thnO wt _ a) b
    exact thnO_app wt a b _
theorem thn_bd {n m : Nat} {wt : Int} (w0 : 1 ≤ wt) (wm : wt ≤ PB m) : ∀ {ts : List Trn}, (∀ t ∈ ts, OkTr t) → (∀ t ∈ ts, BT n t) → ∀ {o : Int}, 0 ≤ o → o ≤ PB (max n m) →
    (∀ u ∈ thnG wt o ts, BT (max n m + 2) u) ∧ (thnG wt o ts).length ≤ ts.length ∧ 0 ≤ thnO wt o ts ∧ thnO wt o ts ≤ PB (max n m)
  | [], _, _, o, o0, o1 => ⟨fun u hu => (by cases hu), Nat.le_refl _, o0, o1⟩
  | t :: ts, h, hb, o, o0, o1 => by
    have q1 : PB n ≤ PB (max n m) := PB_le (by omega)
    have q2 : PB m ≤ PB (max n m) := PB_le (by omega)
    have q3 := PB_succ (max n m)
    obtain ⟨k1, k2⟩ := thr_ok (h t (List.mem_cons_self ..)) (hb t (List.mem_cons_self ..)) w0 wm (z := o + wt) (by omega)
    obtain ⟨o', ho'⟩ : ∃ o', o' = (match thrL t wt (o + wt) with | [] => o | u :: _ => lastO o u) := ⟨_, rfl⟩
    have ob : 0 ≤ o' ∧ o' ≤ PB (max n m) := by
      rw [ho']
      cases e : thrL t wt (o + wt) with
      | nil => exact ⟨o0, o1⟩
      | cons u l =>
        show 0 ≤ lastO o u ∧ lastO o u ≤ _
        have ku := k1 u (by rw [e]; exact List.mem_cons_self ..)
        unfold lastO
        cases hu : u.2.2 with
        | none => exact ⟨o0, o1⟩
        | some d =>
          have := ku.hi d hu
          exact ⟨this.2, by show u.1 + (d - 1) * u.2.1 ≤ _; omega⟩
    obtain ⟨i1, i2, i3, i4⟩ := thn_bd w0 wm (fun u hu => h u (List.mem_cons_of_mem _ hu)) (fun u hu => hb u (List.mem_cons_of_mem _ hu)) ob.1 ob.2
    have eg : thnG wt o (t :: ts) = thrL t wt (o + wt) ++ thnG wt o' ts := by rw [ho']; rfl
    have eo : thnO wt o (t :: ts) = thnO wt o' ts := by rw [ho']; rfl
    rw [eg, eo]
    refine ⟨fun u hu => ?_, by rw [List.length_append]; show _ ≤ ts.length + 1; omega, i3, i4⟩
    rcases List.mem_append.mp hu with hu | hu
    · exact (k1 u hu).bt
    · exact i1 u hu
def spTr : Sp := fun vs H Q _ => ∃ (x : V) (t : Trn) (wt z : Int), vs = [x, .int wt, .int z] ∧ TrAt H x t ∧ OkTr t ∧ BT 5000 t ∧ 1 ≤ wt ∧ wt ≤ PB 4900 ∧ z ≤ PB 4900 ∧ ∀ l zs H', H' l = some (.lst zs) → Trs H' zs (thrL t wt z) → Same H H' → H l = none → Q (.ref l) H'
def spTs : Sp := fun vs H Q _ => ∃ a xs ts n m wt tm, vs = [.ref a, .int wt, .int tm] ∧ H a = some (.lst xs) ∧ Trs H xs ts ∧ Srt ts ∧ (∀ t ∈ ts, BT n t) ∧ ts.length ≤ 5000 ∧ n ≤ 5000 ∧ 1 ≤ wt ∧ 0 ≤ tm ∧ wt ≤ PB m ∧ tm ≤ PB m ∧ max n m + 3 ≤ 4900 ∧ ∀ l zs H', H' l = some (.lst zs) → Trs H' zs (thnG wt tm ts) → (∀ u ∈ thnG wt tm ts, BT (max n m + 2) u) → (thnG wt tm ts).length ≤ ts.length → Same H H' → H l = none → Q (.ref l) H'
section
variable {P : Program} {w : World} {K : PySem.W.Frag} {mg : Str → Option Value} {base : Heap} {L : LA}
abbrev N_thinnedrun : List Str := ["train", "wait", "time", "start", "step", "count", "skipped", "stride"]
theorem sc_thinnedrun : FnScope N_thinnedrun ["train", "wait", "time"] (defScope st_thinned_run) := ⟨rfl, rfl, rfl, by decide +kernel, rfl, by decide +kernel, by decide +kernel⟩
theorem fn_thinnedrun (T : LX K mg L) {fd : FuncData} (F : Fun K "thinned_run" "thinned_run" st_thinned_run L.f_thinned_run fd) : FnOk P w K mg base CX0 3 L.f_thinned_run fd ["train", "wait", "time"] (spTr) := by
  have G_timesbefore := ok_timesbefore (P := P) (w := w) (base := base) T
  have G_stepsto := ok_stepsto (P := P) (w := w) (base := base) T
  have nd := sc_thinnedrun.nd
  refine F.ok sc_thinnedrun (fun vs H Q E h => ?_) (fun cdv A outer S H vs Q E hr h => ?_)
  · obtain ⟨x, t, wt, z, rfl, _⟩ := h
    rfl
  · obtain ⟨x, t, wt, z, rfl, ⟨b, rfl, hb⟩, ok, bt, w0, wm, zm, k⟩ := h
    refine ⟨_, (pss_cons (ps_asg (pv 0) (pg_tup rfl (pgs_cons (pg_name (i := 3) nd rfl (Or.inl rfl)) (pgs_cons (pg_name (i := 4) nd rfl (Or.inl rfl)) (pgs_cons (pg_name (i := 5) nd rfl (Or.inl rfl)) pgs_nil)))))
       (pss_cons (ps_set (i := 6) nd rfl (Or.inl rfl) (pe_c G_timesbefore (hr.mono (by decide)) rfl (pa_cons (pv 0) (pa_cons (pv 2) pa_nil))))
       (pss_cons (ps_set (i := 7) nd rfl (Or.inl rfl) (pe_c G_stepsto (hr.mono (by decide)) rfl (pa_cons (pv 1) (pa_cons (pv 4) pa_nil))))
       (pss_cons (ps_if (pt_cmp (pc_isN (pv 5))) (pss_one (ps_ret (pe_lst (pa_cons (pe_tup (pa_cons (pe_op op_add (pv 3) (pe_op op_mulW (pv 6) (pv 4))) (pa_cons (pe_op op_mulW (pv 7) (pv 4)) (pa_cons pe_non pa_nil)))) pa_nil)))) pss_nil)
       (pss_cons (ps_if (pt_cmpR op_eq (pv 6) (pv 5) (nomark _)) (pss_one (ps_ret (pe_lst pa_nil))) pss_nil)
       (pss_one (ps_ret (pe_lst (pa_cons (pe_tup (pa_cons (pe_op op_add (pv 3) (pe_op op_mulW (pv 6) (pv 4))) (pa_cons (pe_op op_mulW (pv 7) (pv 4)) (pa_cons (pe_c G_stepsto (hr.mono (by decide)) rfl (pa_cons (pe_op op_sub (pv 5) (pv 6)) (pa_cons (pv 7) pa_nil))) pa_nil)))) pa_nil))))))))), ?_⟩
    have p1 := ok.2.1
    have s0 := ok.1
    have n0 := nbT_nn ok z
    have n1 : nbT t z ≤ BB := Int.le_trans (nbT_le_pb ok zm) (PB_le (by decide))
    have p2 : t.2.1 ≤ BB := bt.p
    have b1 := BB1
    obtain ⟨st1, st2, st3⟩ := stride_lt (p := t.2.1) w0 (by omega)
    have w1 : wt ≤ BB := Int.le_trans wm (PB_le (by decide))
    have cm1 : CMulW (nbT t z) t.2.1 := mulBB n0 (by omega) (by omega) (by omega)
    have cm2 : CMulW (stepsUp wt t.2.1) t.2.1 := mulBB (by omega) (by omega) (by omega) (by omega)
    refine ⟨_, rfl, b, _, rfl, SqT.of hb, rfl, _, _, rfl, _, _, rfl, _, _, rfl, rfl, ?_⟩
    refine ⟨_, rfl, _, rfl, _, t, z, rfl, ⟨b, rfl, hb⟩, ok, bt, ?_⟩
    refine ⟨_, rfl, _, rfl, _, _, rfl, by omega, divBB p1 p2, ?_⟩
    unfold thrL at k
    cases hk : t.2.2 with
    | none =>
      rw [hk] at k
      refine ⟨_, rfl, _, rfl, iteT ⟨_, rfl, _, rfl, _, rfl, _, _, rfl, rfl, cm1, _, _, rfl, rfl, _, rfl, _, rfl, _, _, rfl, rfl, cm2, (by show 3 ≤ sizeLine; decide), fun e he => ⟨(by show 1 ≤ sizeLine; decide), fun l hl => ?_⟩⟩⟩
      exact k l _ _ upd_same (Trs.one ⟨e, rfl, (Same.upd hl) _ _ upd_same⟩) ((Same.upd he).trans (Same.upd hl)) (none_of (Same.upd he) hl)
    | some c =>
      rw [hk] at k
      have k : ∀ l zs H', H' l = some (.lst zs) → Trs H' zs (if nbT t z = c then [] else [(t.1 + nbT t z * t.2.1, stepsUp wt t.2.1 * t.2.1, some (stepsUp (c - nbT t z) (stepsUp wt t.2.1)))]) → Same H H' → H l = none → Q (.ref l) H' := k
      refine ⟨_, rfl, _, rfl, iteF ⟨_, rfl, _, rfl, rfl, _, rfl, ?_⟩⟩
      refine ite2 (fun q => ?_) (fun q => ?_)
      · have q' : nbT t z = c := V.int.inj (of_decide_eq_true q)
        rw [if_pos q'] at k
        exact ⟨(by show 0 ≤ sizeLine; decide), fun l hl => k l _ _ upd_same .nil (Same.upd hl) hl⟩
      · have q' : ¬ nbT t z = c := fun e => q (decide_eq_true (by rw [e]; rfl))
        rw [if_neg q'] at k
        refine ⟨_, rfl, _, rfl, _, rfl, _, _, rfl, rfl, cm1, _, _, rfl, rfl, _, rfl, _, rfl, _, _, rfl, rfl, cm2, _, rfl, _, rfl, _, _, rfl, rfl, _, rfl, _, _, rfl, by omega, divBB st2 (by omega), (by show 3 ≤ sizeLine; decide), fun e he => ⟨(by show 1 ≤ sizeLine; decide), fun l hl => ?_⟩⟩
        exact k l _ _ upd_same (Trs.one ⟨e, rfl, (Same.upd hl) _ _ upd_same⟩) ((Same.upd he).trans (Same.upd hl)) (none_of (Same.upd he) hl)
theorem ok_thinnedrun (T : LX K mg L) : Cal P w K mg base "thinned_run" 3 L.f_thinned_run ["train", "wait", "time"] (spTr) := T.d_thinned_run.cal fun fd F => fn_thinnedrun T F
abbrev N_thinnedruns : List Str := ["trains", "wait", "time", "passed", "opened", "train", "part"]
theorem sc_thinnedruns : FnScope N_thinnedruns ["trains", "wait", "time"] (defScope st_thinned_runs) := ⟨rfl, rfl, rfl, by decide +kernel, rfl, by decide +kernel, by decide +kernel⟩
theorem fn_thinnedruns (T : LX K mg L) {fd : FuncData} (F : Fun K "thinned_runs" "thinned_runs" st_thinned_runs L.f_thinned_runs fd) : FnOk P w K mg base CX0 4 L.f_thinned_runs fd ["trains", "wait", "time"] (spTs) := by
  have G_thinnedrun := ok_thinnedrun (P := P) (w := w) (base := base) T
  have G_lasttime := ok_lasttime (P := P) (w := w) (base := base) T
  have nd := sc_thinnedruns.nd
  refine F.ok sc_thinnedruns (fun vs H Q E h => ?_) (fun cdv A outer S H vs Q E hr h => ?_)
  · obtain ⟨RR, xs, ts, n, m, wt, tm, rfl, _⟩ := h
    rfl
  · obtain ⟨RR, xs, ts, n, m, wt, tm, rfl, h2, h3, hs, bt, hRl, n5, w0, t0, wm, tmm, nm, k⟩ := h
    refine ⟨_, (pss_cons (ps_set (i := 3) nd rfl (Or.inl rfl) (pe_lst pa_nil))
       (pss_cons (ps_set (i := 4) nd rfl (Or.inl rfl) (pv 2))
       (pss_cons (ps_for PassesOwn.never rfl (pi_list (pv 0)) (pg_name (i := 5) nd rfl (Or.inl rfl)) (pss_cons (ps_set (i := 6) nd rfl (Or.inl rfl) (pe_c G_thinnedrun (hr.mono (by decide)) rfl (pa_cons (pv 5) (pa_cons (pv 1) (pa_cons (pe_op op_add (pv 4) (pv 1)) pa_nil)))))
       (pss_cons (ps_expr (pe_bm PySem.F.plainAttrs_list PySem.F.slot_list_extend PySem.F.type_list_extend mt_extend (pv 3) (pa_cons (pv 6) pa_nil)))
       (pss_one (ps_if (pt_truth (pv 6) (fun _ => rfl)) (pss_one (ps_set (i := 4) nd rfl (Or.inl rfl) (pe_c G_lasttime (hr.mono (by decide)) rfl (pa_cons (pe_ix (r := rIxL K) ix_list (pv 6) pe_int (fun _ _ => rfl)) pa_nil)))) pss_nil)))))
       (pss_one (ps_ret (pv 3)))))), ?_⟩
    have hxl := h3.len
    have q2 : PB m ≤ PB (max n m) := PB_le (by omega)
    have q3 := PB_succ (max n m)
    have bd : ∀ i, (∀ u ∈ thnG wt tm (ts.take i), BT (max n m + 2) u) ∧ (thnG wt tm (ts.take i)).length ≤ (ts.take i).length ∧ 0 ≤ thnO wt tm (ts.take i) ∧ thnO wt tm (ts.take i) ≤ PB (max n m) := fun i =>
      thn_bd w0 wm (fun u hu => hs.1 u (List.mem_of_mem_take hu)) (fun u hu => bt u (List.mem_of_mem_take hu)) t0 (by omega)
    refine ⟨(by show 0 ≤ sizeLine; decide), fun l1 hl1 => ⟨_, rfl, ?_⟩⟩
    have s1 : Same H (upd H l1 (.lst [])) := Same.upd hl1
    refine ⟨_, rfl, RR, rfl, ⟨_, SqL.of (s1 _ _ h2)⟩, ?_⟩
    refine for_list (K := K) (a := RR) (xs := xs) (fun i σ H2 => ∃ v4 ws, ∃ v5 v6 : Option V, σ = [some (.ref RR), some (.int wt), some (.int tm), some (.ref l1), some v4, v5, v6] ∧ (v4 = .int (thnO wt tm (ts.take i)) ∨ i = ts.length) ∧ H2 l1 = some (.lst ws) ∧ Trs H2 ws (thnG wt tm (ts.take i)) ∧ Same H H2)
      ⟨.int tm, [], none, none, rfl, .inl rfl, upd_same, .nil, s1⟩ (fun i σ H2 _ ⟨_, _, _, _, _, _, _, _, s2⟩ => SqL.of (s2 _ _ h2)) ?_ ?_
    · rintro i x σ H2 hxi ⟨v4, ws, v5, v6, rfl, hv4, hl12, tw, s2⟩
      obtain ⟨t, ht, hxt⟩ := h3.get hxi
      have htm := List.mem_of_getElem? ht
      have hj := (List.getElem?_eq_some_iff.mp ht).1
      have e4 : v4 = .int (thnO wt tm (ts.take i)) := by
        rcases hv4 with e | e
        · exact e
        · omega
      subst e4
      obtain ⟨_, b2, b3, b4⟩ := bd i
      have ok := hs.1 t htm
      obtain ⟨k1, k2⟩ := thr_ok ok (bt t htm) w0 wm (z := thnO wt tm (ts.take i) + wt) (by omega)
      have wm2 : wt ≤ PB 4900 := Int.le_trans wm (PB_le (by omega))
      have zm : thnO wt tm (ts.take i) + wt ≤ PB 4900 := Int.le_trans (show _ ≤ PB (max n m + 1) by omega) (PB_le (by omega))
      refine ⟨_, rfl, _, rfl, _, rfl, _, rfl, _, _, rfl, rfl, x, t, _, _, rfl, hxt.same s2, ok, (bt t htm).le n5, w0, wm2, zm, fun l zs H3 hl tz s3 nl => ?_⟩
      have nll : l ≠ l1 := (ne_of_none hl12 nl).symm
      have hl13 := s3 _ _ hl12
      have wl := tw.len
      have zl := tz.len
      rw [List.length_take] at b2
      refine ⟨_, rfl, .inl ⟨rfl, _, SqL.of hl13⟩, _, rfl, l1, l, ws, zs, rfl, rfl, hl13, hl, small2 (by omega), ?_⟩
      have n4 := NL.upd (o := .lst (ws ++ zs)) hl13
      have hl4 : (upd H3 l1 (.lst (ws ++ zs))) l = some (.lst zs) := by rw [upd_ne nll]; exact hl
      have tz4 := tz.nl n4
      have tw4 := (tw.same s3).nl n4
      have s4 : Same H (upd H3 l1 (.lst (ws ++ zs))) := fun b o e => by
        rw [upd_ne (ne_of_none e hl1)]
        exact s3 _ _ (s2 _ _ e)
      have tnx : ts.take (i + 1) = ts.take i ++ [t] := by rw [List.take_add_one, ht]; rfl
      have eg : thnG wt tm (ts.take (i + 1)) = thnG wt tm (ts.take i) ++ thrL t wt (thnO wt tm (ts.take i) + wt) := by
        rw [tnx, thnG_app]
        show _ ++ (thrL t wt (thnO wt tm (ts.take i) + wt) ++ []) = _
        rw [List.append_nil]
      have eo : thnO wt tm (ts.take (i + 1)) = (match thrL t wt (thnO wt tm (ts.take i) + wt) with | [] => thnO wt tm (ts.take i) | u :: _ => lastO (thnO wt tm (ts.take i)) u) := by
        rw [tnx, thnO_app]
        rfl
      cases hth : thrL t wt (thnO wt tm (ts.take i) + wt) with
      | nil =>
        rw [hth] at eg eo tz4
        have z0 : zs = [] := by
          have := tz4.len
          simpa using this
        subst z0
        refine ⟨_, rfl, false, .inl ⟨[], SqL.of hl4, rfl⟩, iteF ?_⟩
        refine ⟨_, ws, _, _, rfl, .inl (by rw [eo]), ?_, ?_, s4⟩
        · rw [upd_same, List.append_nil]
        · rw [eg, List.append_nil (thnG wt tm (ts.take i))]
          exact tw4
      | cons u rest =>
        have r0 : rest = [] := by
          rw [hth] at k2
          cases rest with
          | nil => rfl
          | cons _ _ => simp at k2
        subst r0
        rw [hth] at eg eo tz4
        obtain ⟨y, z0, hy⟩ : ∃ y, zs = [y] ∧ TrAt (upd H3 l1 (.lst (ws ++ zs))) y u := by
          have tz5 := tz4
          cases zs with
          | nil => cases tz5
          | cons y tl =>
            cases tz5 with
            | cons r tl2 =>
              cases tl2
              exact ⟨y, rfl, r⟩
        subst z0
        have ku := k1 u (by rw [hth]; exact List.mem_cons_self ..)
        refine ⟨_, rfl, true, .inl ⟨[y], SqL.of hl4, rfl⟩, iteT ⟨_, rfl, l, _, 0, y, rfl, rfl, SqL.of hl4, rfl, y, u, rfl, hy, ku.ok, ku.bt.le (by omega), ?_⟩⟩
        refine ⟨_, _, _, _, rfl, ?_, upd_same, by rw [eg]; exact tw4.app tz4, s4⟩
        unfold lastV
        cases hu : u.2.2 with
        | none =>
          right
          have := srt_last hs htm (ku.en hu)
          rw [List.getLast?_eq_getElem?] at this
          have h1 := hs.2
          by_cases q : i + 1 = ts.length
          · exact q
          · have hn : i + 1 < ts.length := by omega
            have hu1 : ts[i]'(by omega) = t := (List.getElem?_eq_some_iff.mp ht).2
            obtain ⟨c, hc, _⟩ := (List.pairwise_iff_getElem.mp h1) i (i + 1) (by omega) hn (by omega)
            rw [hu1, ku.en hu] at hc
            cases hc
        | some d =>
          left
          rw [eo]
          show V.int (u.1 + (d - 1) * u.2.1) = .int (lastO (thnO wt tm (ts.take i)) u)
          unfold lastO
          rw [hu]
    · rintro σ H2 ⟨v4, ws, v5, v6, rfl, hv4, hl12, tw, s2⟩
      rw [hxl, List.take_length] at tw
      have b := bd ts.length
      rw [List.take_length] at b
      exact ⟨_, rfl, k l1 ws H2 hl12 tw b.1 b.2.1 s2 hl1⟩
theorem ok_thinnedruns (T : LX K mg L) : Cal P w K mg base "thinned_runs" 4 L.f_thinned_runs ["trains", "wait", "time"] (spTs) := T.d_thinned_runs.cal fun fd F => fn_thinnedruns T F
end
/-! ### rows in the heap -/
/-! ### breakers and rows -/
abbrev Tri := Int × Int × Int
def TriV (t : Tri) : List V := [.int t.1, .int t.2.1, .int t.2.2]
def BrAt (H : Hp) (x : V) (t : Tri) : Prop := ∃ a, x = .ref a ∧ H a = some (.tup (TriV t))
def OkT (t : Tri) : Prop := 1 ≤ t.1 ∧ t.1 ≤ 1000000000000 ∧ 1 ≤ t.2.1 ∧ t.2.1 ≤ 1000000000000000000000000000000 ∧ 1 ≤ t.2.2 ∧ t.2.2 ≤ 1000000000000
abbrev Brs (H : Hp) (xs : List V) (ts : List Tri) : Prop := Paired (BrAt H) xs ts
theorem BrAt.nl {H H' : Hp} (k : NL H H') {x : V} {t : Tri} (h : BrAt H x t) : BrAt H' x t := by
  obtain ⟨a, e, h⟩ := h
  exact ⟨a, e, k _ _ h fun _ z => nomatch z⟩
theorem Brs.nl {H H' : Hp} (k : NL H H') {xs : List V} {ts : List Tri} (h : Brs H xs ts) : Brs H' xs ts := L2.Paired.mapP h fun _ _ z => z.nl k
theorem Brs.len {H : Hp} : ∀ {xs : List V} {ts : List Tri}, Brs H xs ts → xs.length = ts.length
  | _, _, .nil => rfl
  | _, _, .cons _ t => congrArg Nat.succ (Brs.len t)
theorem Brs.get {H : Hp} : ∀ {xs : List V} {ts : List Tri} {i : Nat} {x : V}, Brs H xs ts → xs[i]? = some x → ∃ t, ts[i]? = some t ∧ BrAt H x t
  | _, _, _, _, .nil, e => by simp at e
  | _, _, 0, _, .cons r _, e => by simp at e; subst e; exact ⟨_, rfl, r⟩
  | _, _, i + 1, x, .cons _ t, e => by
    obtain ⟨u, h1, h2⟩ := Brs.get (i := i) (x := x) t (by simpa using e)
    exact ⟨u, by simpa using h1, h2⟩
theorem Brs.app {H : Hp} : ∀ {xs ys : List V} {ts us : List Tri}, Brs H xs ts → Brs H ys us → Brs H (xs ++ ys) (ts ++ us)
  | _, _, _, _, .nil, s => s
  | _, _, _, _, .cons r t, s => .cons r (Brs.app t s)
theorem Brs.rev {H : Hp} : ∀ {xs : List V} {ts : List Tri}, Brs H xs ts → Brs H xs.reverse ts.reverse
  | _, _, .nil => .nil
  | _, _, .cons r t => by
    rw [List.reverse_cons, List.reverse_cons]
    exact Brs.app (Brs.rev t) (.cons r .nil)
theorem Brs.take {H : Hp} : ∀ {xs : List V} {ts : List Tri} (n : Nat), Brs H xs ts → Brs H (xs.take n) (ts.take n)
  | _, _, 0, _ => .nil
  | _, _, _ + 1, .nil => .nil
  | _, _, n + 1, .cons r t => .cons r (Brs.take n t)
theorem Brs.drop {H : Hp} : ∀ {xs : List V} {ts : List Tri} (n : Nat), Brs H xs ts → Brs H (xs.drop n) (ts.drop n)
  | _, _, 0, r => r
  | _, _, _ + 1, .nil => .nil
  | _, _, n + 1, .cons _ t => Brs.drop n t
/-! the attributes of a row, as __init__ stores them -/
theorem k1 : ¬ (("breakers" : Str) = "step") := by decide +kernel
theorem k2 : ¬ (("breakers" : Str) = "phase") := by decide +kernel
theorem k3 : ¬ (("step" : Str) = "phase") := by decide +kernel
def rowF (T : Addr) (st ph : Int) : List (Str × V) := putF "phase" (.int ph) (putF "step" (.int st) (putF "breakers" (.ref T) []))
theorem rowF_b (T : Addr) (st ph : Int) : (rowF T st ph).lookup ("breakers" : Str) = some (.ref T) := by
  unfold rowF
  rw [lookup_putF, if_neg k2, lookup_putF, if_neg k1, lookup_putF, if_pos rfl]
theorem rowF_s (T : Addr) (st ph : Int) : (rowF T st ph).lookup ("step" : Str) = some (.int st) := by
  unfold rowF
  rw [lookup_putF, if_neg k3, lookup_putF, if_pos rfl]
theorem rowF_p (T : Addr) (st ph : Int) : (rowF T st ph).lookup ("phase" : Str) = some (.int ph) := by
  unfold rowF
  rw [lookup_putF, if_pos rfl]
theorem rowF_no (T : Addr) (st ph : Int) {m : Str} (h1 : ¬ m = "phase") (h2 : ¬ m = "step") (h3 : ¬ m = "breakers") : (rowF T st ph).lookup m = none := by
  unfold rowF
  rw [lookup_putF, if_neg h1, lookup_putF, if_neg h2, lookup_putF, if_neg h3]
  all_goals rfl
/-- a Row stands at p -/
structure RowAt (C : Addr) (H : Hp) (p T : Addr) (xs : List V) (ts : List Tri) (st ph : Int) : Prop where
  ob : ∃ dx, H p = some (.ins C dx (rowF T st ph))
  tp : H T = some (.tup xs)
  br : Brs H xs ts
  ok : ∀ t ∈ ts, OkT t
  ln : ts.length ≤ 12
  s0 : 1 ≤ st
  s1 : st ≤ 1000000000000000000000000000000
  p0 : 0 ≤ ph
  p1 : ph ≤ 1000000000000000000000000000000
theorem RowAt.nl {C : Addr} {H H' : Hp} {p T : Addr} {xs : List V} {ts : List Tri} {st ph : Int} (R : RowAt C H p T xs ts st ph) (k : NL H H') : RowAt C H' p T xs ts st ph := by
  obtain ⟨dx, h⟩ := R.ob
  exact ⟨⟨dx, k _ _ h fun _ z => nomatch z⟩, k _ _ R.tp fun _ z => (nomatch z), R.br.nl k, R.ok, R.ln, R.s0, R.s1, R.p0, R.p1⟩
/-! ### promises -/
def spIsBr : Sp := fun vs H Q _ => ∃ x t, vs = [x] ∧ BrAt H x t ∧ OkT t ∧ Q (.bl true) H
def spRChk : Sp := fun vs H Q _ => ∃ a xs ts pt, vs = [.ref a, .str pt] ∧ H a = some (.lst xs) ∧ Brs H xs ts ∧ (∀ t ∈ ts, OkT t) ∧ ts.length ≤ 12 ∧ ∀ H', Same H H' → Q .non H'
def spRStep : Sp := fun vs H Q _ => ∃ st : Int, vs = [.int st] ∧ 1 ≤ st ∧ st ≤ 1000000000000000000000000000000 ∧ Q .non H
def spRInit (C : Addr) : Sp := fun vs H Q _ => ∃ p a st ph xs ts dx, vs = [.ref p, .ref a, .int st, .int ph] ∧ H p = some (.ins C dx []) ∧ H a = some (.lst xs) ∧ Brs H xs ts ∧ (∀ t ∈ ts, OkT t) ∧ ts.length ≤ 12 ∧
  (1 ≤ st ∧ st ≤ 1000000000000000000000000000000 ∧ 0 ≤ ph ∧ ph ≤ 1000000000000000000000000000000) ∧ ∀ T H', RowAt C H' p T xs ts st ph → Kp p H H' → Q .non H'
def spRBl (C : Addr) : Sp := fun vs H Q _ => ∃ p T xs ts st ph, vs = [.ref p] ∧ RowAt C H p T xs ts st ph ∧ ∀ l H', H l = none → H' = upd H l (.lst xs) → Q (.ref l) H'
def spRSt (C : Addr) : Sp := fun vs H Q _ => ∃ p T xs ts st ph, vs = [.ref p] ∧ RowAt C H p T xs ts st ph ∧ Q (.int st) H
def spRPh (C : Addr) : Sp := fun vs H Q _ => ∃ p T xs ts st ph, vs = [.ref p] ∧ RowAt C H p T xs ts st ph ∧ Q (.int ph) H
def spRLen (C : Addr) : Sp := fun vs H Q _ => ∃ p T xs ts st ph, vs = [.ref p] ∧ RowAt C H p T xs ts st ph ∧ Q (.int xs.length) H
def spRGet (C : Addr) : Sp := fun vs H Q _ => ∃ p T xs ts st ph i x, vs = [.ref p, .int i] ∧ RowAt C H p T xs ts st ph ∧ 0 ≤ i ∧ atI xs i = some x ∧ i < xs.length ∧ Q x H
def spRCon (C : Addr) : Sp := fun vs H Q _ => ∃ p T xs ts st ph x n, vs = [.ref p, x] ∧ RowAt C H p T xs ts st ph ∧ Kd H x n ∧ Q (.bl (isI x && (decide (ph ≤ toI x) && decide ((toI x - ph) % st = 0)))) H
def spRRt (C : Addr) : Sp := fun vs H Q _ => ∃ p T xs ts st ph i, vs = [.ref p, .int i] ∧ RowAt C H p T xs ts st ph ∧ 0 ≤ i ∧ i ≤ BB ∧ Q (.int (ph + i * st)) H
def spRFr (C : Addr) : Sp := fun vs H Q _ => ∃ p T xs ts st ph i, vs = [.ref p, .int i] ∧ RowAt C H p T xs ts st ph ∧ 0 ≤ i ∧ Q (.int (stepsUp (i - ph) st)) H
theorem row_made {C : Addr} {H : Hp} {Q : Addr → Hp → Prop} {a : Addr} {st ph : Int} {xs : List V} {ts : List Tri} (ha : H a = some (.lst xs)) (hb : Brs H xs ts) (ho : ∀ t ∈ ts, OkT t) (hl : ts.length ≤ 12)
    (bd : 1 ≤ st ∧ st ≤ 1000000000000000000000000000000 ∧ 0 ≤ ph ∧ ph ≤ 1000000000000000000000000000000) (k : ∀ p T H', RowAt C H' p T xs ts st ph → Same H H' → H p = none → Q p H') :
    ∀ x dx, H x = none → H dx = none → dx ≠ x → spRInit C [.ref x, .ref a, .int st, .int ph] (upd (upd H dx (.own x)) x (.ins C dx [])) (fun v H3 => v = .non ∧ Q x H3) E0 := by
  intro x dx hx hd hne
  have s0 : Same H (upd (upd H dx (.own x)) x (.ins C dx [])) := fun b o e => by
    rw [upd_ne (ne_of_none e hx), upd_ne (ne_of_none e hd)]
    exact e
  refine ⟨x, a, st, ph, xs, ts, dx, rfl, upd_same, s0 _ _ ha, hb.nl (NL.of s0), ho, hl, bd, fun T H' R kp => ⟨rfl, k x T H' R (fun b o e => kp b o (ne_of_none e hx) (s0 b o e)) hx⟩⟩
abbrev RDat := List Tri × Int × Int
/-- what == is asked of -/
inductive EqOf (C : Addr) (H : Hp) (d : RDat) : V → Bool → Prop where
  | row {q U : Addr} {ys : List V} {us : List Tri} {st ph : Int} (R : RowAt C H q U ys us st ph) : EqOf C H d (.ref q) (decide (d = (us, st, ph)))
  | non : EqOf C H d .non false
  | lst {a : Addr} {xs : List V} (e : H a = some (.lst xs)) : EqOf C H d (.ref a) false
  | tup {a : Addr} {xs : List V} (e : H a = some (.tup xs)) : EqOf C H d (.ref a) false
theorem EqOf.nl {C : Addr} {H H' : Hp} {d : RDat} {v : V} {b : Bool} (h : EqOf C H d v b) (k : Same H H') : EqOf C H' d v b := by
  cases h with
  | row R => exact .row (R.nl (NL.of k))
  | non => exact .non
  | lst e => exact .lst (k _ _ e)
  | tup e => exact .tup (k _ _ e)
/-- breakers as data -/
def triD (t : Tri) : PyData := .tuple [.int t.1, .int t.2.1, .int t.2.2]
theorem Brs.dp {K : PySem.W.Frag} {H : Hp} : ∀ {xs : List V} {ts : List Tri}, Brs H xs ts → DpAll K H xs (ts.map triD)
  | _, _, .nil => .nil
  | _, _, .cons ⟨a, e, h⟩ t => by
    subst e
    exact .cons (.tup (SqT.of h) (.cons (.int _) (.cons (.int _) (.cons (.int _) .nil)))) (Brs.dp t)
theorem triD_eq (t u : Tri) : PyData.eqv (triD t) (triD u) = decide (t = u) := by
  obtain ⟨a, b, c⟩ := t
  obtain ⟨a', b', c'⟩ := u
  simp only [triD, PyData.eqv, PyData.eqvAll, Bool.and_true]
  rw [Bool.eq_iff_iff]
  simp [Prod.ext_iff]
theorem triDs_eq : ∀ ts us : List Tri, PyData.eqvAll (ts.map triD) (us.map triD) = decide (ts = us)
  | [], [] => by simp [PyData.eqvAll]
  | [], _ :: _ => by simp [PyData.eqvAll]
  | _ :: _, [] => by simp [PyData.eqvAll]
  | t :: ts, u :: us => by
    rw [List.map_cons, List.map_cons, PyData.eqvAll, triD_eq, triDs_eq ts us, Bool.eq_iff_iff]
    simp
theorem canAll : ∀ ts : List Tri, PyData.canLayAll0 (ts.map triD) = true
  | [] => by simp [PyData.canLayAll0]
  | t :: ts => by
    rw [List.map_cons, PyData.canLayAll0, canAll ts]
    simp [triD, PyData.canLay0, PyData.canLayAll0]
theorem depAll : ∀ ts : List Tri, PyData.depthAll (ts.map triD) ≤ 10
  | [] => by simp [PyData.depthAll]
  | t :: ts => by
    have := depAll ts
    rw [List.map_cons, PyData.depthAll]
    have h2 : (triD t).depth ≤ 10 := by simp [triD, PyData.depth, PyData.depthAll]
    omega
theorem shT (ts : List Tri) : SeqAt.shaped (.tuple (ts.map triD)) = true := by
  refine Bool.and_eq_true_iff.mpr ⟨?_, decide_eq_true ?_⟩
  · rw [PyData.canLay0]
    exact canAll ts
  · have := depAll ts
    rw [PyData.depth]
    omega

theorem wide200 {i j : Int} (h1 : i.natAbs < 2 ^ 200) (h2 : j.natAbs < 2 ^ 200) : CMulW i j := wide_mul h1 h2 (by decide) (by decide) (by decide)
theorem lt200 {i : Int} (h0 : 0 ≤ i) (h : i ≤ 1000000000000000000000000000000) : i.natAbs < 2 ^ 200 := Nat.lt_of_le_of_lt (show i.natAbs ≤ 1000000000000000000000000000000 by omega) (by decide)
theorem log200 {i : Int} (h0 : 1 ≤ i) (h : i ≤ 1000000000000000000000000000000) : i.natAbs.log2 < 9000 := (wide_div (by omega : 0 < i) (lt200 (by omega) h) (by decide) (by decide) (i := 0)).2
theorem st_bb {s : Int} (h : s ≤ 1000000000000000000000000000000) : s ≤ BB := Int.le_trans h (Int.le_trans (PB_of (n := 100) (by decide +kernel)) (PB_le (by decide)))
theorem k6_pos {P : Prop} {q : Prop} [Decidable P] [Decidable q] (h : P) (h' : q) : (decide P && decide q) = true := by rw [decide_eq_true h, decide_eq_true h']; rfl
section
variable {P : Program} {w : World} {K : PySem.W.Frag} {mg : Str → Option Value} {base : Heap} {L : LA}
abbrev N_isbreaker : List Str := ["value", "failures", "wait", "successes"]
theorem sc_isbreaker : FnScope N_isbreaker ["value"] (defScope st_is_breaker) := ⟨rfl, rfl, rfl, by decide +kernel, rfl, by decide +kernel, by decide +kernel⟩
theorem fn_isbreaker (T : LX K mg L) {fd : FuncData} (F : Fun K "is_breaker" "is_breaker" st_is_breaker L.f_is_breaker fd) : FnOk P w K mg base CX0 3 L.f_is_breaker fd ["value"] (spIsBr) := by
  have G_iswithin := ok_iswithin (P := P) (w := w) (base := base) T
  obtain ⟨tk_MOST_COUNT, c_MOST_COUNT⟩ := T.n_MOST_COUNT
  obtain ⟨tk_MOST_TIME, c_MOST_TIME⟩ := T.n_MOST_TIME
  have nd := sc_isbreaker.nd
  refine F.ok sc_isbreaker (fun vs H Q E h => ?_) (fun cdv A outer S H vs Q E hr h => ?_)
  · obtain ⟨x, t, rfl, _⟩ := h
    rfl
  · obtain ⟨x, t, rfl, ⟨a, rfl, ha⟩, ⟨h1, h2, h3, h4, h5, h6⟩, k⟩ := h
    refine ⟨_, (pss_cons (ps_if (PW.pt (pw_or (pt_not (pt_val (pe_callB call_isi (by rfl) T.b_isinstance (by decide +kernel) (pa_cons (pv 0) (pa_cons (pe_bltn (by rfl) T.b_tuple (by decide +kernel : bootBuiltins "tuple" = some (.type "tuple")) (v := .ty "tuple") rfl) pa_nil))))) (pw_or1 (pt_cmpR op_ne (pe_callB call_len_seq (by rfl) T.b_len PySem.boot_len (pa_cons (pv 0) pa_nil)) pe_int (nomark _))))) (pss_one (ps_ret pe_bl)) pss_nil)
       (pss_cons (ps_asg (pv 0) (pg_tup rfl (pgs_cons (pg_name (i := 1) nd rfl (Or.inl rfl)) (pgs_cons (pg_name (i := 2) nd rfl (Or.inl rfl)) (pgs_cons (pg_name (i := 3) nd rfl (Or.inl rfl)) pgs_nil)))))
       (pss_one (ps_ret (pe_and (pe_c G_iswithin (hr.mono (by decide)) rfl (pa_cons (pv 1) (pa_cons pe_int (pa_cons (pe_gI c_MOST_COUNT) pa_nil)))) (pe_and (pe_c G_iswithin (hr.mono (by decide)) rfl (pa_cons (pv 2) (pa_cons pe_int (pa_cons (pe_gI c_MOST_TIME) pa_nil)))) (pe_one (pe_c G_iswithin (hr.mono (by decide)) rfl (pa_cons (pv 3) (pa_cons pe_int (pa_cons (pe_gI c_MOST_COUNT) pa_nil))))))))))), ?_⟩
    refine ⟨_, rfl, _, .ty "tuple", _, _, _, rfl, .ty "tuple", (Kd.tup ha).ty, (Kd.tup ha).kit "tuple" _ (.inr ⟨by decide, by decide, rfl⟩), _, rfl, iteF ?_⟩
    refine ⟨_, rfl, a, _, rfl, .inr (SqT.of ha), rfl, _, rfl, iteF ?_⟩
    refine ⟨_, rfl, a, _, rfl, SqT.of ha, rfl, _, _, rfl, _, _, rfl, _, _, rfl, rfl, ?_⟩
    refine ⟨_, rfl, _, _, _, _, rfl, .int _, _, rfl, ?_⟩
    have e1 : (decide ((1 : Int) ≤ t.1) && decide (t.1 ≤ 1000000000000)) = true := k6_pos h1 h2
    have e2 : (decide ((1 : Int) ≤ t.2.1) && decide (t.2.1 ≤ 1000000000000000000000000000000)) = true := k6_pos h3 h4
    have e3 : (decide ((1 : Int) ≤ t.2.2) && decide (t.2.2 ≤ 1000000000000)) = true := k6_pos h5 h6
    show if (decide ((1 : Int) ≤ t.1) && decide (t.1 ≤ 1000000000000)) = true then _ else _
    rw [e1]
    refine iteT ?_
    refine ⟨_, rfl, _, _, _, _, rfl, .int _, _, rfl, ?_⟩
    show if (decide ((1 : Int) ≤ t.2.1) && decide (t.2.1 ≤ 1000000000000000000000000000000)) = true then _ else _
    rw [e2]
    refine iteT ?_
    refine ⟨_, rfl, _, _, _, _, rfl, .int _, ?_⟩
    show Q (.bl (decide ((1 : Int) ≤ t.2.2) && decide (t.2.2 ≤ 1000000000000))) H
    rw [e3]
    exact k
theorem ok_isbreaker (T : LX K mg L) : Cal P w K mg base "is_breaker" 3 L.f_is_breaker ["value"] (spIsBr) := T.d_is_breaker.cal fun fd F => fn_isbreaker T F
abbrev N_checkbreakers : List Str := ["breakers", "part", "at", "breaker"]
theorem sc_checkbreakers : FnScope N_checkbreakers ["breakers", "part"] (defScope st_check_breakers) := ⟨rfl, rfl, rfl, by decide +kernel, rfl, by decide +kernel, by decide +kernel⟩
theorem fn_checkbreakers (T : LX K mg L) {fd : FuncData} (F : Fun K "check_breakers" "check_breakers" st_check_breakers L.f_check_breakers fd) : FnOk P w K mg base CX0 4 L.f_check_breakers fd ["breakers", "part"] (spRChk) := by
  obtain ⟨tk_MOST_BREAKERS, c_MOST_BREAKERS⟩ := T.n_MOST_BREAKERS
  have G_isbreaker := ok_isbreaker (P := P) (w := w) (base := base) T
  have nd := sc_checkbreakers.nd
  refine F.ok sc_checkbreakers (fun vs H Q E h => ?_) (fun cdv A outer S H vs Q E hr h => ?_)
  · obtain ⟨a, xs, ts, pt, rfl, _⟩ := h
    rfl
  · obtain ⟨a, xs, ts, pt, rfl, ha, hb, ho, hl, k⟩ := h
    refine ⟨_, (pss_cons (ps_if (PW.pt (pw_or (pt_not (pt_val (pe_callB call_isi (by rfl) T.b_isinstance (by decide +kernel) (pa_cons (pv 0) (pa_cons (pe_bltn (by rfl) T.b_list (by decide +kernel : bootBuiltins "list" = some (.type "list")) (v := .ty "list") rfl) pa_nil))))) (pw_or1 (pt_cmpR op_gt (pe_callB call_len_seq (by rfl) T.b_len PySem.boot_len (pa_cons (pv 0) pa_nil)) (pe_gI c_MOST_BREAKERS) (nomark _))))) (pss_one (ps_never)) pss_nil)
       (pss_one (ps_for PassesOwn.never rfl (pi_enum (by rfl) T.b_enumerate (pa_cons (pv 0) pa_nil)) (pg_tup rfl (pgs_cons (pg_name (i := 2) nd rfl (Or.inl rfl)) (pgs_cons (pg_name (i := 3) nd rfl (Or.inl rfl)) pgs_nil))) (pss_one (ps_if (pt_not (pt_val (pe_c G_isbreaker (hr.mono (by decide)) rfl (pa_cons (pv 3) pa_nil)))) (pss_one (ps_never)) pss_nil))))), ?_⟩
    refine ⟨_, rfl, _, .ty "list", _, _, _, rfl, .ty "list", (Kd.lst ha).ty, (Kd.lst ha).kit "list" _ (.inr ⟨by decide, by decide, rfl⟩), _, rfl, iteF ?_⟩
    refine ⟨_, rfl, a, _, rfl, .inl (SqL.of ha), _, _, rfl, rfl, _, rfl, ?_⟩
    have hn : ¬ ((12 : Int) < (xs.length : Nat)) := by rw [hb.len]; omega
    rw [decide_eq_false hn]
    refine iteF ?_
    refine ⟨_, rfl, a, xs, rfl, SqL.of ha, for_enum (K := K) (a := a) (xs := xs) (fun i σ H2 => ∃ u v : Option V, σ = [some (.ref a), some (.str pt), u, v] ∧ Same H H2) ⟨none, none, rfl, Same.refl H⟩ (fun i σ H2 _ ⟨_, _, _, s2⟩ => SqL.of (s2 _ _ ha)) ?_ ?_⟩
    · rintro i x T' σ H2 hx ⟨u, v, rfl, s2⟩ hT
      obtain ⟨t, ht, hbr⟩ := hb.get hx
      have s3 : Same H (upd H2 T' (.tup [.int (i : Nat), x])) := s2.trans (Same.upd hT)
      refine ⟨T', _, rfl, SqT.of upd_same, rfl, _, _, rfl, _, _, rfl, rfl, ?_⟩
      refine ⟨_, rfl, x, t, rfl, hbr.nl (NL.of s3), ho t (List.mem_of_getElem? ht), _, rfl, iteF ?_⟩
      exact ⟨_, _, rfl, s3⟩
    · rintro σ H2 ⟨u, v, rfl, s2⟩
      exact k H2 s2
theorem ok_checkbreakers (T : LX K mg L) : Cal P w K mg base "check_breakers" 4 L.f_check_breakers ["breakers", "part"] (spRChk) := T.d_check_breakers.cal fun fd F => fn_checkbreakers T F
abbrev N_checkstep : List Str := ["step"]
theorem sc_checkstep : FnScope N_checkstep ["step"] (defScope st_check_step) := ⟨rfl, rfl, rfl, by decide +kernel, rfl, by decide +kernel, by decide +kernel⟩
theorem fn_checkstep (T : LX K mg L) {fd : FuncData} (F : Fun K "check_step" "check_step" st_check_step L.f_check_step fd) : FnOk P w K mg base CX0 3 L.f_check_step fd ["step"] (spRStep) := by
  have G_iswithin := ok_iswithin (P := P) (w := w) (base := base) T
  obtain ⟨tk_MOST_TIME, c_MOST_TIME⟩ := T.n_MOST_TIME
  have nd := sc_checkstep.nd
  refine F.ok sc_checkstep (fun vs H Q E h => ?_) (fun cdv A outer S H vs Q E hr h => ?_)
  · obtain ⟨st, rfl, _⟩ := h
    rfl
  · obtain ⟨st, rfl, b1, b2, k⟩ := h
    refine ⟨_, (pss_one (ps_if (pt_not (pt_val (pe_c G_iswithin (hr.mono (by decide)) rfl (pa_cons (pv 0) (pa_cons pe_int (pa_cons (pe_gI c_MOST_TIME) pa_nil)))))) (pss_one (ps_never)) pss_nil)), ?_⟩
    have e1 : (decide ((1 : Int) ≤ st) && decide (st ≤ 1000000000000000000000000000000)) = true := k6_pos b1 b2
    refine ⟨_, rfl, _, _, _, _, rfl, .int _, _, rfl, ?_⟩
    show if (!(decide ((1 : Int) ≤ st) && decide (st ≤ 1000000000000000000000000000000))) = true then _ else _
    rw [e1]
    exact iteF k
theorem ok_checkstep (T : LX K mg L) : Cal P w K mg base "check_step" 3 L.f_check_step ["step"] (spRStep) := T.d_check_step.cal fun fd F => fn_checkstep T F
abbrev N_Rowinit : List Str := ["self", "breakers", "step", "phase"]
theorem sc_Rowinit : FnScope N_Rowinit ["self", "breakers", "step", "phase"] (defScope st_Row_init) := ⟨rfl, rfl, rfl, by decide +kernel, rfl, by decide +kernel, by decide +kernel⟩
theorem fn_Rowinit (T : LX K mg L) {fd : FuncData} (F : Fun K "__init__" "Row.__init__" st_Row_init L.i_Row fd) : FnOk P w K mg base CX0 5 L.i_Row fd ["self", "breakers", "step", "phase"] (spRInit L.c_Row) := by
  have G_checkbreakers := ok_checkbreakers (P := P) (w := w) (base := base) T
  have G_checkstep := ok_checkstep (P := P) (w := w) (base := base) T
  have G_iswithin := ok_iswithin (P := P) (w := w) (base := base) T
  obtain ⟨tk_MOST_TIME, c_MOST_TIME⟩ := T.n_MOST_TIME
  have nd := sc_Rowinit.nd
  refine F.ok sc_Rowinit (fun vs H Q E h => ?_) (fun cdv A outer S H vs Q E hr h => ?_)
  · obtain ⟨p, a, st, ph, xs, ts, dx, rfl, _⟩ := h
    rfl
  · obtain ⟨p, a, st, ph, xs, ts, dx, rfl, hp, ha, hb, ho, hl, ⟨b1, b2, b3, b4⟩, k⟩ := h
    refine ⟨_, (pss_cons (ps_expr (pe_c G_checkbreakers (hr.mono (by decide)) rfl (pa_cons (pv 1) (pa_cons pe_str pa_nil))))
       (pss_cons (ps_expr (pe_c G_checkstep (hr.mono (by decide)) rfl (pa_cons (pv 2) pa_nil)))
       (pss_cons (ps_if (pt_not (pt_val (pe_c G_iswithin (hr.mono (by decide)) rfl (pa_cons (pv 3) (pa_cons pe_int (pa_cons (pe_gI c_MOST_TIME) pa_nil)))))) (pss_one (ps_never)) pss_nil)
       (pss_cons (ps_fld (pv 0) (pe_callTy call_tuple_of (by rfl) T.b_tuple (by decide +kernel) (pa_cons (pv 1) pa_nil)) rfl)
       (pss_cons (ps_fld (pv 0) (pv 2) rfl)
       (pss_one (ps_fld (pv 0) (pv 3) rfl))))))), ?_⟩
    refine ⟨_, rfl, a, xs, ts, _, rfl, ha, hb, ho, hl, fun H1 s1 => ?_⟩
    have e2 : (decide ((0 : Int) ≤ ph) && decide (ph ≤ 1000000000000000000000000000000)) = true := k6_pos b3 b4
    refine ⟨_, rfl, _, rfl, b1, b2, ?_⟩
    refine ⟨_, rfl, _, _, _, _, rfl, .int _, _, rfl, ?_⟩
    show if (!(decide ((0 : Int) ≤ ph) && decide (ph ≤ 1000000000000000000000000000000))) = true then _ else _
    rw [e2]
    refine iteF ?_
    have hp1 := s1 _ _ hp
    refine ⟨_, rfl, a, xs, rfl, .inl ⟨SqL.of (s1 _ _ ha), fun l hl' => ?_⟩⟩
    have npl : p ≠ l := ne_of_none hp1 hl'
    refine ⟨_, rfl, p, L.c_Row, dx, [], rfl, (by rw [upd_ne npl]; exact hp1), T.cf_Row.cl, T.nf_Row_breakers, (by show 0 < 1000; decide), ?_⟩
    refine ⟨_, rfl, _, rfl, p, L.c_Row, dx, _, rfl, upd_same, T.cf_Row.cl, T.nf_Row_step, Nat.lt_of_le_of_lt (putF_len _ _ [] (Nat.le_refl 0)) (by decide), ?_⟩
    refine ⟨_, rfl, _, rfl, p, L.c_Row, dx, _, rfl, upd_same, T.cf_Row.cl, T.nf_Row_phase, Nat.lt_of_le_of_lt (putF_len _ _ _ (putF_len _ _ [] (Nat.le_refl 0))) (by decide), ?_⟩
    refine k l _ ⟨⟨dx, upd_same⟩, ?_, ?_, ho, hl, b1, b2, b3, b4⟩ ?_
    · rw [upd_ne npl.symm, upd_ne npl.symm, upd_ne npl.symm, upd_same]
    · refine L2.Paired.mapP hb fun x t ⟨b, e, h⟩ => ⟨b, e, ?_⟩
      have nbp : b ≠ p := ne_of h hp (by intro z; cases z)
      have h1 := s1 _ _ h
      rw [upd_ne nbp, upd_ne nbp, upd_ne nbp, upd_ne (ne_of_none h1 hl')]
      exact h1
    · intro b o n e
      have h1 := s1 _ _ e
      rw [upd_ne n, upd_ne n, upd_ne n, upd_ne (ne_of_none h1 hl')]
      exact h1
abbrev N_Rowbreakerlist : List Str := ["self"]
theorem sc_Rowbreakerlist : FnScope N_Rowbreakerlist ["self"] (defScope st_Row_breaker_list) := ⟨rfl, rfl, rfl, by decide +kernel, rfl, by decide +kernel, by decide +kernel⟩
theorem fn_Rowbreakerlist (T : LX K mg L) {fd : FuncData} (F : Fun K "breaker_list" "Row.breaker_list" st_Row_breaker_list L.m_Row_breaker_list fd) : FnOk P w K mg base CX0 1 L.m_Row_breaker_list fd ["self"] (spRBl L.c_Row) := by
  have nd := sc_Rowbreakerlist.nd
  refine F.ok sc_Rowbreakerlist (fun vs H Q E h => ?_) (fun cdv A outer S H vs Q E hr h => ?_)
  · obtain ⟨p, B, xs, ts, st, ph, rfl, _⟩ := h
    rfl
  · obtain ⟨p, B, xs, ts, st, ph, rfl, R, k⟩ := h
    refine ⟨_, (pss_one (ps_ret (pe_callTy call_list_of (by rfl) T.b_list (by decide +kernel) (pa_cons (pe_fld (pv 0) rfl) pa_nil)))), ?_⟩
    obtain ⟨dx, hp⟩ := R.ob
    exact ⟨_, rfl, p, L.c_Row, dx, _, _, rfl, hp, T.cf_Row.cl, T.nf_Row_breakers, rowF_b _ _ _, B, xs, rfl, .inr (SqT.of R.tp), fun l hl' => k l _ hl' rfl⟩
theorem ok_Rowbreakerlist (T : LX K mg L) : Met P w K mg base L.c_Row "breaker_list" 1 L.m_Row_breaker_list ["self"] (spRBl L.c_Row) := T.mm_Row_breaker_list.met fun fd F => fn_Rowbreakerlist T F
abbrev N_Rowsteplength : List Str := ["self"]
theorem sc_Rowsteplength : FnScope N_Rowsteplength ["self"] (defScope st_Row_step_length) := ⟨rfl, rfl, rfl, by decide +kernel, rfl, by decide +kernel, by decide +kernel⟩
theorem fn_Rowsteplength (T : LX K mg L) {fd : FuncData} (F : Fun K "step_length" "Row.step_length" st_Row_step_length L.m_Row_step_length fd) : FnOk P w K mg base CX0 1 L.m_Row_step_length fd ["self"] (spRSt L.c_Row) := by
  have nd := sc_Rowsteplength.nd
  refine F.ok sc_Rowsteplength (fun vs H Q E h => ?_) (fun cdv A outer S H vs Q E hr h => ?_)
  · obtain ⟨p, B, xs, ts, st, ph, rfl, _⟩ := h
    rfl
  · obtain ⟨p, B, xs, ts, st, ph, rfl, R, k⟩ := h
    refine ⟨_, (pss_one (ps_ret (pe_fld (pv 0) rfl))), ?_⟩
    obtain ⟨dx, hp⟩ := R.ob
    exact ⟨_, rfl, p, L.c_Row, dx, _, _, rfl, hp, T.cf_Row.cl, T.nf_Row_step, rowF_s _ _ _, k⟩
theorem ok_Rowsteplength (T : LX K mg L) : Met P w K mg base L.c_Row "step_length" 1 L.m_Row_step_length ["self"] (spRSt L.c_Row) := T.mm_Row_step_length.met fun fd F => fn_Rowsteplength T F
abbrev N_Rowlen : List Str := ["self"]
theorem sc_Rowlen : FnScope N_Rowlen ["self"] (defScope st_Row_len) := ⟨rfl, rfl, rfl, by decide +kernel, rfl, by decide +kernel, by decide +kernel⟩
theorem fn_Rowlen (T : LX K mg L) {fd : FuncData} (F : Fun K "__len__" "Row.__len__" st_Row_len L.m_Row_len fd) : FnOk P w K mg base CX0 1 L.m_Row_len fd ["self"] (spRLen L.c_Row) := by
  have nd := sc_Rowlen.nd
  refine F.ok sc_Rowlen (fun vs H Q E h => ?_) (fun cdv A outer S H vs Q E hr h => ?_)
  · obtain ⟨p, B, xs, ts, st, ph, rfl, _⟩ := h
    rfl
  · obtain ⟨p, B, xs, ts, st, ph, rfl, R, k⟩ := h
    refine ⟨_, (pss_one (ps_ret (pe_callB call_len_seq (by rfl) T.b_len PySem.boot_len (pa_cons (pe_fld (pv 0) rfl) pa_nil)))), ?_⟩
    obtain ⟨dx, hp⟩ := R.ob
    exact ⟨_, rfl, p, L.c_Row, dx, _, _, rfl, hp, T.cf_Row.cl, T.nf_Row_breakers, rowF_b _ _ _, B, xs, rfl, .inr (SqT.of R.tp), k⟩
theorem ok_Rowlen (T : LX K mg L) : Met P w K mg base L.c_Row "__len__" 1 L.m_Row_len ["self"] (spRLen L.c_Row) := T.mm_Row_len.met fun fd F => fn_Rowlen T F
abbrev N_Rowgetitem : List Str := ["self", "at"]
theorem sc_Rowgetitem : FnScope N_Rowgetitem ["self", "at"] (defScope st_Row_getitem) := ⟨rfl, rfl, rfl, by decide +kernel, rfl, by decide +kernel, by decide +kernel⟩
theorem fn_Rowgetitem (T : LX K mg L) {fd : FuncData} (F : Fun K "__getitem__" "Row.__getitem__" st_Row_getitem L.m_Row_getitem fd) : FnOk P w K mg base CX0 3 L.m_Row_getitem fd ["self", "at"] (spRGet L.c_Row) := by
  have G_iswithin := ok_iswithin (P := P) (w := w) (base := base) T
  have nd := sc_Rowgetitem.nd
  refine F.ok sc_Rowgetitem (fun vs H Q E h => ?_) (fun cdv A outer S H vs Q E hr h => ?_)
  · obtain ⟨p, B, xs, ts, st, ph, i, x, rfl, _⟩ := h
    rfl
  · obtain ⟨p, B, xs, ts, st, ph, i, x, rfl, R, i0, hx, i1, k⟩ := h
    refine ⟨_, (pss_cons (ps_if (pt_not (pt_val (pe_c G_iswithin (hr.mono (by decide)) rfl (pa_cons (pv 1) (pa_cons pe_int (pa_cons (pe_op op_sub (pe_callB call_len_seq (by rfl) T.b_len PySem.boot_len (pa_cons (pe_fld (pv 0) rfl) pa_nil)) pe_int) pa_nil)))))) (pss_one (ps_never)) pss_nil)
       (pss_one (ps_ret (pe_ix (r := rIxT K) ix_tup (pe_fld (pv 0) rfl) (pv 1) (fun _ _ => rfl))))), ?_⟩
    obtain ⟨dx, hp⟩ := R.ob
    refine ⟨_, rfl, _, rfl, p, L.c_Row, dx, _, _, rfl, hp, T.cf_Row.cl, T.nf_Row_breakers, rowF_b _ _ _, B, xs, rfl, .inr (SqT.of R.tp), _, _, rfl, rfl, _, _, _, _, rfl, .int _, _, rfl, ?_⟩
    have e1 : (decide ((0 : Int) ≤ i) && decide (i ≤ (xs.length : Int) - 1)) = true := k6_pos i0 (by omega)
    show if (!(decide ((0 : Int) ≤ i) && decide (i ≤ (xs.length : Int) - 1))) = true then _ else _
    rw [e1]
    refine iteF ?_
    exact ⟨_, rfl, p, L.c_Row, dx, _, _, rfl, hp, T.cf_Row.cl, T.nf_Row_breakers, rowF_b _ _ _, _, rfl, B, xs, i, x, rfl, rfl, SqT.of R.tp, hx, k⟩
theorem ok_Rowgetitem (T : LX K mg L) : Met P w K mg base L.c_Row "__getitem__" 3 L.m_Row_getitem ["self", "at"] (spRGet L.c_Row) := T.mm_Row_getitem.met fun fd F => fn_Rowgetitem T F
abbrev N_Rowcontains : List Str := ["self", "x"]
theorem sc_Rowcontains : FnScope N_Rowcontains ["self", "x"] (defScope st_Row_contains) := ⟨rfl, rfl, rfl, by decide +kernel, rfl, by decide +kernel, by decide +kernel⟩
theorem fn_Rowcontains (T : LX K mg L) {fd : FuncData} (F : Fun K "__contains__" "Row.__contains__" st_Row_contains L.m_Row_contains fd) : FnOk P w K mg base CX0 3 L.m_Row_contains fd ["self", "x"] (spRCon L.c_Row) := by
  have G_isatleast := ok_isatleast (P := P) (w := w) (base := base) T
  have nd := sc_Rowcontains.nd
  refine F.ok sc_Rowcontains (fun vs H Q E h => ?_) (fun cdv A outer S H vs Q E hr h => ?_)
  · obtain ⟨p, B, xs, ts, st, ph, x, n, rfl, _⟩ := h
    rfl
  · obtain ⟨p, B, xs, ts, st, ph, x, n, rfl, R, hx, k⟩ := h
    refine ⟨_, (pss_one (ps_ret (pe_and (pe_c G_isatleast (hr.mono (by decide)) rfl (pa_cons (pv 1) (pa_cons (pe_fld (pv 0) rfl) pa_nil))) (pe_one (pe_cmpR op_eq (pe_op op_mod (pe_op op_sub (pv 1) (pe_fld (pv 0) rfl)) (pe_fld (pv 0) rfl)) pe_int (nomark _)))))), ?_⟩
    obtain ⟨dx, hp⟩ := R.ob
    have s0 := R.s0
    refine ⟨_, rfl, _, rfl, p, L.c_Row, dx, _, _, rfl, hp, T.cf_Row.cl, T.nf_Row_phase, rowF_p _ _ _, x, n, _, rfl, hx, _, rfl, ?_⟩
    refine ite2 (fun c => ?_) (fun c => ?_)
    · cases x with
      | int i =>
        have c' : decide (ph ≤ i) = true := c
        have k' : Q (.bl (decide (ph ≤ i) && decide ((i - ph) % st = 0))) H := k
        rw [c', Bool.true_and] at k'
        refine ⟨_, rfl, _, rfl, p, L.c_Row, dx, _, _, rfl, hp, T.cf_Row.cl, T.nf_Row_phase, rowF_p _ _ _, _, _, rfl, rfl, _, rfl, p, L.c_Row, dx, _, _, rfl, hp, T.cf_Row.cl, T.nf_Row_step, rowF_s _ _ _, _, _, rfl, rfl, by omega, rfl, ?_⟩
        have e : decide (V.int ((i - ph) % st) = V.int 0) = decide ((i - ph) % st = 0) := by rw [dec_int]; rfl
        rw [e]
        exact k'
      | _ => exact absurd (show false = true from c) Bool.false_ne_true
    · cases x with
      | int i =>
        have c' : decide (ph ≤ i) = false := by
          have c2 : ¬ (decide (ph ≤ i) = true) := c
          simpa using c2
        have k' : Q (.bl (decide (ph ≤ i) && decide ((i - ph) % st = 0))) H := k
        rw [c', Bool.false_and] at k'
        exact k'
      | _ => exact k
theorem ok_Rowcontains (T : LX K mg L) : Met P w K mg base L.c_Row "__contains__" 3 L.m_Row_contains ["self", "x"] (spRCon L.c_Row) := T.mm_Row_contains.met fun fd F => fn_Rowcontains T F
abbrev N_requesttime : List Str := ["row", "number"]
theorem sc_requesttime : FnScope N_requesttime ["row", "number"] (defScope st_request_time) := ⟨rfl, rfl, rfl, by decide +kernel, rfl, by decide +kernel, by decide +kernel⟩
theorem fn_requesttime (T : LX K mg L) {fd : FuncData} (F : Fun K "request_time" "request_time" st_request_time L.f_request_time fd) : FnOk P w K mg base CX0 3 L.f_request_time fd ["row", "number"] (spRRt L.c_Row) := by
  have G_isatleast := ok_isatleast (P := P) (w := w) (base := base) T
  have nd := sc_requesttime.nd
  refine F.ok sc_requesttime (fun vs H Q E h => ?_) (fun cdv A outer S H vs Q E hr h => ?_)
  · obtain ⟨p, B, xs, ts, st, ph, i, rfl, _⟩ := h
    rfl
  · obtain ⟨p, B, xs, ts, st, ph, i, rfl, R, i0, iw, k⟩ := h
    refine ⟨_, (pss_cons (ps_if (pt_not (pt_val (pe_c G_isatleast (hr.mono (by decide)) rfl (pa_cons (pv 1) (pa_cons pe_int pa_nil))))) (pss_one (ps_never)) pss_nil)
       (pss_one (ps_ret (pe_op op_add (pe_fld (pv 0) rfl) (pe_op op_mulW (pv 1) (pe_fld (pv 0) rfl)))))), ?_⟩
    obtain ⟨dx, hp⟩ := R.ob
    have s0 := R.s0
    have s1 := st_bb R.s1
    refine ⟨_, rfl, _, _, _, rfl, .int _, _, rfl, ?_⟩
    show if (!(decide ((0 : Int) ≤ i))) = true then _ else _
    rw [decide_eq_true i0]
    refine iteF ?_
    exact ⟨_, rfl, p, L.c_Row, dx, _, _, rfl, hp, T.cf_Row.cl, T.nf_Row_phase, rowF_p _ _ _, _, rfl, _, rfl, p, L.c_Row, dx, _, _, rfl, hp, T.cf_Row.cl, T.nf_Row_step, rowF_s _ _ _, _, _, rfl, rfl, mulBB i0 (by have := BB1; omega) (by omega) (by have := BB1; omega), _, _, rfl, rfl, k⟩
theorem ok_requesttime (T : LX K mg L) : Cal P w K mg base "request_time" 3 L.f_request_time ["row", "number"] (spRRt L.c_Row) := T.d_request_time.cal fun fd F => fn_requesttime T F
abbrev N_firstrequest : List Str := ["row", "time"]
theorem sc_firstrequest : FnScope N_firstrequest ["row", "time"] (defScope st_first_request) := ⟨rfl, rfl, rfl, by decide +kernel, rfl, by decide +kernel, by decide +kernel⟩
theorem fn_firstrequest (T : LX K mg L) {fd : FuncData} (F : Fun K "first_request" "first_request" st_first_request L.f_first_request fd) : FnOk P w K mg base CX0 3 L.f_first_request fd ["row", "time"] (spRFr L.c_Row) := by
  have G_stepsto := ok_stepsto (P := P) (w := w) (base := base) T
  have G_isatleast := ok_isatleast (P := P) (w := w) (base := base) T
  have nd := sc_firstrequest.nd
  refine F.ok sc_firstrequest (fun vs H Q E h => ?_) (fun cdv A outer S H vs Q E hr h => ?_)
  · obtain ⟨p, B, xs, ts, st, ph, i, rfl, _⟩ := h
    rfl
  · obtain ⟨p, B, xs, ts, st, ph, i, rfl, R, i0, k⟩ := h
    refine ⟨_, (pss_cons (ps_if (pt_not (pt_val (pe_c G_isatleast (hr.mono (by decide)) rfl (pa_cons (pv 1) (pa_cons pe_int pa_nil))))) (pss_one (ps_never)) pss_nil)
       (pss_one (ps_ret (pe_c G_stepsto (hr.mono (by decide)) rfl (pa_cons (pe_op op_sub (pv 1) (pe_fld (pv 0) rfl)) (pa_cons (pe_fld (pv 0) rfl) pa_nil)))))), ?_⟩
    obtain ⟨dx, hp⟩ := R.ob
    have s0 := R.s0
    have s1 := st_bb R.s1
    refine ⟨_, rfl, _, _, _, rfl, .int _, _, rfl, ?_⟩
    show if (!(decide ((0 : Int) ≤ i))) = true then _ else _
    rw [decide_eq_true i0]
    refine iteF ?_
    exact ⟨_, rfl, _, rfl, p, L.c_Row, dx, _, _, rfl, hp, T.cf_Row.cl, T.nf_Row_phase, rowF_p _ _ _, _, _, rfl, rfl, _, rfl, p, L.c_Row, dx, _, _, rfl, hp, T.cf_Row.cl, T.nf_Row_step, rowF_s _ _ _, _, _, rfl, by omega, divBB s0 s1, k⟩
theorem ok_firstrequest (T : LX K mg L) : Cal P w K mg base "first_request" 3 L.f_first_request ["row", "time"] (spRFr L.c_Row) := T.d_first_request.cal fun fd F => fn_firstrequest T F
end
section
variable {X : Cx} {L : LA}
theorem row_fn {K : PySem.W.Frag} {mg : Str → Option Value} (T : LX K mg L) : ∃ fd, Fun K "__init__" "Row.__init__" st_Row_init L.i_Row fd ∧ FunD K "__init__" "Row.__init__" (defArgs st_Row_init) (defBody st_Row_init) (defScope st_Row_init) [] [("phase", .int 0)] L.i_Row fd := by
  obtain ⟨fd, F⟩ := T.in_Row
  refine ⟨fd, ?_, F⟩
  obtain ⟨oc, od, dV, kV, doc, pm, an, cdv, ct, osl, rfl, lk, hcd, hD, hK⟩ := F.ex
  rcases hD with ⟨_, rfl⟩ | ⟨e, _⟩
  · exact ⟨⟨oc, od, kV, doc, pm, an, cdv, ct, osl, rfl, lk, hcd⟩, F.kp⟩
  · exact absurd rfl e
theorem row_k1 {K : PySem.W.Frag} {mg : Str → Option Value} (T : LX K mg L) : ∃ fd, Fun K "__init__" "Row.__init__" st_Row_init L.i_Row fd ∧ KBn K fd ["self", "breakers", "step", "phase"] 3 ["phase"] (fun us ws => us ++ ws) (fun us ws => us ++ ws) := by
  obtain ⟨fd, F, FD⟩ := row_fn T
  obtain ⟨mv, h⟩ := FD.kbinds0 (ps := ["self", "breakers", "step", "phase"]) 3 ["phase"] [] (fun us _ ws => us ++ ws) (by simp) (by simp) (fun r1 _ r3 => r1.append r3) (fun D doc pm an cdv ct us mv ws h1 h2 h3 => by
    match us, h1, ws, h3, mv, h2 with
    | [_, _, _], _, [_], _, [], _ => rfl)
  exact ⟨fd, F, h⟩
theorem row_k2 {K : PySem.W.Frag} {mg : Str → Option Value} (T : LX K mg L) : ∃ fd ds, Fun K "__init__" "Row.__init__" st_Row_init L.i_Row fd ∧ Vals [.int 0] ds ∧ Binds K fd ["self", "breakers", "step", "phase"] ds := by
  obtain ⟨fd, F, FD⟩ := row_fn T
  obtain ⟨ds, h1, h2⟩ := FD.binds0 (ps := ["self", "breakers", "step", "phase"]) 3 (by simp) rfl (fun D doc pm an cdv ct us ks h1 h2 => by
    match us, h1, ks, h2 with
    | [_, _, _], _, [_], _ => exact ⟨_, _, _, _, _, _, rfl, rfl, rfl⟩)
  exact ⟨fd, ds, F, h1, h2⟩
/-- Row(e, s, phase=f) -/
theorem pe_mkRow_p_phase (T : LX X.K X.mg L) (hr : Room 6 X.A) {p pos : Pos} {e e2 : Expr} {kws : List Keyword} {t tk : TA} (hg : Gl X "Row") (ha : PA X [e, e2] t) (hkw : PK X kws tk)
    (hall : (backToKw pos (keywordEach kws X.env)).all (·.1.isSome) = true := by rfl) (hks : (backToKw pos (keywordEach kws X.env)).filterMap (·.1) = (["phase"] : List Str) := by rfl)
    (he : starEach (e :: [e2]) X.env = (false, eval e X.env) :: starEach [e2] X.env := by rfl) (hpl : ((backTo pos (starEach (e :: [e2]) X.env)).any (·.1) || (backToKw pos (keywordEach kws X.env)).any (·.1.isNone)) = false := by rfl) :
    PE X (.Call (.Name "Row" p) (e :: [e2]) kws pos) (tMakeK L.c_Row 2 1 (spRInit L.c_Row) (fun us ws => us ++ ws) E0 t tk) := by
  obtain ⟨fd, F, b⟩ := row_k1 T
  exact pe_makeK T.mk_Row (fn_Rowinit T F) hr hg T.gc_Row b pass0 ha hkw hall hks (by decide) he hpl
/-- Row(e, s) -/
theorem pe_mkRow (T : LX X.K X.mg L) (hr : Room 6 X.A) {p pos : Pos} {e e2 : Expr} {t : TA} (hg : Gl X "Row") (ha : PA X [e, e2] t)
    (he : starEach (e :: [e2]) X.env = (false, eval e X.env) :: starEach [e2] X.env := by rfl) (hpl : (backTo pos (starEach [e2] X.env)).any (·.1) = false := by rfl) :
    PE X (.Call (.Name "Row" p) (e :: [e2]) [] pos) (tMake L.c_Row (spRInit L.c_Row) [.int 0] E0 t) := by
  obtain ⟨fd, ds, F, hv, b⟩ := row_k2 T
  exact pe_make T.mk_Row (fn_Rowinit T F) hr hg T.gc_Row b hv pass0 ha (by decide) he hpl
end
theorem PB_add (n m : Nat) : PB n * PB m = PB (n + m) := by
  unfold PB
  rw [Int.pow_add]
theorem PB_mul {i j : Int} {n m : Nat} (i0 : 0 ≤ i) (hi : i ≤ PB n) (j0 : 0 ≤ j) (hj : j ≤ PB m) : i * j ≤ PB (n + m) := by
  rw [← PB_add]
  exact Int.mul_le_mul hi hj j0 (by omega)
/-! ### lists of ints as data; what the law asks of told times -/
def intsD (ns : List Int) : PyData := .list (ns.map PyData.int)
theorem ints_dp {K : PySem.W.Frag} {H : Hp} : ∀ ns : List Int, DpAll K H (ns.map V.int) (ns.map PyData.int)
  | [] => .nil
  | n :: ns => .cons (.int n) (ints_dp ns)
theorem canInts : ∀ ns : List Int, PyData.canLayAll0 (ns.map PyData.int) = true
  | [] => by simp [PyData.canLayAll0]
  | n :: ns => by rw [List.map_cons, PyData.canLayAll0, canInts ns]; simp [PyData.canLay0]
theorem depInts : ∀ ns : List Int, PyData.depthAll (ns.map PyData.int) ≤ 10
  | [] => by simp [PyData.depthAll]
  | n :: ns => by
    have := depInts ns
    rw [List.map_cons, PyData.depthAll]
    have h2 : (PyData.int n).depth ≤ 10 := by simp [PyData.depth]
    omega
theorem shInts (ns : List Int) : SeqAt.shaped (intsD ns) = true := by
  refine Bool.and_eq_true_iff.mpr ⟨?_, decide_eq_true ?_⟩
  · unfold intsD
    rw [PyData.canLay0]
    exact canInts ns
  · have := depInts ns
    unfold intsD
    rw [PyData.depth]
    omega
theorem eqInts1 : ∀ ns ms : List Int, PyData.eqvAll (ns.map PyData.int) (ms.map PyData.int) = decide (ns = ms)
  | [], [] => by simp [PyData.eqvAll]
  | [], _ :: _ => by simp [PyData.eqvAll]
  | _ :: _, [] => by simp [PyData.eqvAll]
  | n :: ns, m :: ms => by
    rw [List.map_cons, List.map_cons, PyData.eqvAll, eqInts1 ns ms, Bool.eq_iff_iff]
    simp [PyData.eqv]
theorem eqInts (ns ms : List Int) : PyData.eqv (intsD ns) (intsD ms) = decide (ns = ms) := by
  unfold intsD
  rw [PyData.eqv]
  exact eqInts1 ns ms
theorem Dp.ints {K : PySem.W.Frag} {H : Hp} {a : Addr} {ns : List Int} (h : H a = some (.lst (ns.map V.int))) : Dp K H (.ref a) (intsD ns) := .lst (SqL.of h) (ints_dp ns)
theorem NB_le_self {ts : List Trn} (h : Srt ts) (x : Nat) : NB ts (x : Int) ≤ x := by
  induction x with
  | zero =>
    have : NB ts 0 = 0 := NB_zero h.1 fun t ht => (h.1 t ht).1
    show NB ts 0 ≤ 0
    omega
  | succ x ih =>
    have := NB_step h (x : Int)
    have e : ((x + 1 : Nat) : Int) = (x : Int) + 1 := by omega
    rw [e]
    omega
/-- the times below B -/
theorem win_at0 {g : List Trn} (h : Srt g) {B : Int} (B0 : 0 ≤ B) (hw : Srt (win g 0 (some B))) {i : Int} (i0 : 0 ≤ i) : At (win g 0 (some B)) i = if i < NB g B then At g i else none := by
  have z0 : NB g 0 = 0 := NB_zero h.1 fun t ht => (h.1 t ht).1
  have nb : ∀ x, NB (win g 0 (some B)) x = NB g (cx 0 (some B) x) := fun x => by
    rw [win_nb h.1 (fun a e => by cases e; exact B0) x, z0, Int.sub_zero]
  by_cases q : i < NB g B
  · rw [if_pos q]
    cases e : At g i with
    | none =>
      obtain ⟨n, h1, h2⟩ := (At_none h.1 i0).mp e
      have := NB_tot h.1 h1 B
      omega
    | some y =>
      have yB := (At_lt h i0 e B).mp q
      have y0 := At_nn h i0 e
      obtain ⟨e1, e2⟩ := (At_iff h i0).mp e
      refine (At_iff hw i0).mpr ⟨?_, ?_⟩
      · rw [nb]
        have : cx 0 (some B) y = y := by show (if y < 0 then 0 else if B < y then B else y) = y; rw [if_neg (by omega), if_neg (by omega)]
        rw [this, e1]
      · rw [nb]
        have : cx 0 (some B) (y + 1) = y + 1 := by show (if y + 1 < 0 then 0 else if B < y + 1 then B else y + 1) = y + 1; rw [if_neg (by omega), if_neg (by omega)]
        rw [this, e2]
  · rw [if_neg q]
    cases e : At (win g 0 (some B)) i with
    | none => rfl
    | some y =>
      obtain ⟨_, e2⟩ := (At_iff hw i0).mp e
      rw [nb] at e2
      have := NB_mono h.1 (show cx 0 (some B) (y + 1) ≤ B by
        show (if y + 1 < 0 then 0 else if B < y + 1 then B else y + 1) ≤ B
        split
        · exact B0
        · split <;> omega)
      omega
def spHd (ts : List Trn) (c : Int) : List Trn := match At ts c with
  | none => win ts 0 none
  | some y => win ts 0 (some y)
def spTail (ts : List Trn) (c : Int) : List Trn := match At ts c with
  | none => []
  | some y => win ts y none
def lastE (t : Trn) : Option Int := t.2.2.map fun c => t.1 + (c - 1) * t.2.1
def behB (ts us : List Trn) : Bool := match ts.getLast?, us.head? with
  | some t, some u => match lastE t with
    | none => false
    | some e => decide (e < u.1)
  | _, _ => true
theorem lastV_e (t : Trn) : lastV t = cV (lastE t) := by
  unfold lastV lastE
  cases t.2.2 <;> rfl
theorem beh_srt {ts us : List Trn} (hs : Srt ts) (hs' : Srt us) (h : behB ts us = true) : Srt (ts ++ us) := by
  refine ⟨fun t ht => ?_, List.pairwise_append.mpr ⟨hs.2, hs'.2, fun t ht u hu => ?_⟩⟩
  · rcases List.mem_append.mp ht with ht | ht
    · exact hs.1 t ht
    · exact hs'.1 t ht
  · unfold behB at h
    cases hl : ts.getLast? with
    | none => rw [List.getLast?_eq_none_iff.mp hl] at ht; cases ht
    | some la =>
      cases hh : us.head? with
      | none => rw [List.head?_eq_none_iff.mp hh] at hu; cases hu
      | some fi =>
        rw [hl, hh] at h
        have h : (match lastE la with | none => false | some e => decide (e < fi.1)) = true := h
        cases hc : la.2.2 with
        | none =>
          unfold lastE at h
          rw [hc] at h
          cases h
        | some c =>
          unfold lastE at h
          rw [hc] at h
          have hlt : la.1 + (c - 1) * la.2.1 < fi.1 := of_decide_eq_true h
          have hfi : fi.1 ≤ u.1 := by
            cases us with
            | nil => cases hu
            | cons v r =>
              cases hh
              rcases List.mem_cons.mp hu with rfl | hu
              · exact Int.le_refl _
              · exact Int.le_of_lt (lt_start hs'.head (hs'.lt u hu))
          obtain ⟨ini, rfl⟩ := List.getLast?_eq_some_iff.mp hl
          rcases List.mem_append.mp ht with ht | ht
          · obtain ⟨d, hd, hl2⟩ := (List.pairwise_append.mp hs.2).2.2 t ht la (List.mem_singleton.mpr rfl)
            have ok := hs.1 la (List.mem_append_right _ (List.mem_singleton.mpr rfl))
            have c1 := ok.2.2 c hc
            have := Int.mul_nonneg (show 0 ≤ c - 1 by omega) (show 0 ≤ la.2.1 by have := ok.2.1; omega)
            exact ⟨d, hd, by omega⟩
          · rw [List.mem_singleton.mp ht]
            exact ⟨c, hc, by omega⟩
/-! ### next_time -/
theorem nx_none {ts : List Trn} (h : Srt ts) (x : Int) : nxT ts x = none ↔ Tot ts = some (NB ts x) := by
  have n0 := NB_nn h.1 x
  unfold nxT
  rw [At_none h.1 n0]
  constructor
  · rintro ⟨n, e, l⟩
    have := NB_tot h.1 e x
    rw [e]
    congr 1
    omega
  · intro e
    exact ⟨_, e, Int.le_refl _⟩
theorem NB_le_pb {ts : List Trn} (h : Srt ts) {x : Int} {n : Nat} (hx : x ≤ PB n) : NB ts x ≤ PB n := by
  have p := PB_pos n
  have h1 := NB_le_self h (PB n).toNat
  have e : (((PB n).toNat : Nat) : Int) = PB n := by omega
  rw [e] at h1
  exact Int.le_trans (NB_mono h.1 hx) h1
theorem At_le {n a : Nat} : ∀ {ts : List Trn}, (∀ t ∈ ts, OkTr t) → (∀ t ∈ ts, BT n t) → ∀ {i y : Int}, 0 ≤ i → i ≤ PB a → At ts i = some y → y ≤ PB (n + a + 1)
  | [], _, _, i, y, _, _, e => by cases e
  | t :: ts, h, hb, i, y, i0, ia, e => by
    have ok := h t (List.mem_cons_self ..)
    have b := hb t (List.mem_cons_self ..)
    have bs := b.s
    have m := PB_mul i0 ia (show 0 ≤ t.2.1 by have := ok.2.1; omega) b.p
    have q1 : PB n ≤ PB (n + a) := PB_le (by omega)
    have q2 := PB_succ (n + a)
    have q3 : PB (a + n) = PB (n + a) := by rw [Nat.add_comm]
    by_cases c : ∀ c, t.2.2 = some c → i < c
    · rw [At_lo c] at e
      have := Option.some.inj e
      omega
    · cases hk : t.2.2 with
      | none => exact absurd (fun c hc => by rw [hk] at hc; cases hc) c
      | some d =>
        have hd : ¬ i < d := fun l => c fun c hc => by rw [hk] at hc; cases hc; exact l
        rw [At_some_t hk, if_neg hd] at e
        have := ok.2.2 d hk
        exact At_le (fun u hu => h u (List.mem_cons_of_mem _ hu)) (fun u hu => hb u (List.mem_cons_of_mem _ hu)) (by omega) (by omega) e
theorem tot_le {n : Nat} {ts : List Trn} (h : Srt ts) (hb : ∀ t ∈ ts, BT n t) {N : Int} (e : Tot ts = some N) : N ≤ PB (n + 1) := by
  have hf : ∀ t ∈ ts, t.2.2 ≠ none := fun t ht q => by rw [tot_none ht q] at e; cases e
  have p := PB_pos n
  have q := PB_succ n
  have := NB_full h.1 e (B := PB (n + 1)) fun t ht c hc => by
    have := (hb t ht).c c hc
    omega
  rw [← this]
  exact NB_le_pb h (Int.le_refl _)
/-! ### times that are in both of two trains -/
def inT (t : Trn) (x : Int) : Prop := ∃ i, 0 ≤ i ∧ (∀ c, t.2.2 = some c → i < c) ∧ x = t.1 + i * t.2.1
def inL (ts : List Trn) (x : Int) : Prop := ∃ t ∈ ts, inT t x
theorem in_nb {t : Trn} (h : OkTr t) (x : Int) : inT t x ↔ nbT t x < nbT t (x + 1) := by
  have n0 := nbT_nn h x
  have p1 := h.2.1
  constructor
  · rintro ⟨i, i0, hc, rfl⟩
    have a := (nbT_lt h i0 hc (x := t.1 + i * t.2.1 + 1)).mpr (by omega)
    have b : ¬ i < nbT t (t.1 + i * t.2.1) := fun z => by have := (nbT_lt h i0 hc).mp z; omega
    omega
  · intro z
    have hc : ∀ c, t.2.2 = some c → nbT t x < c := fun c e => by
      have := nbT_le (x := x + 1) e
      omega
    have a := (nbT_lt h n0 hc (x := x + 1)).mp z
    have b : ¬ t.1 + nbT t x * t.2.1 < x := fun y => by
      have := (nbT_lt h n0 hc).mpr y
      omega
    exact ⟨nbT t x, n0, hc, by omega⟩
theorem in_mem : ∀ {ts : List Trn}, (∀ t ∈ ts, OkTr t) → ∀ x, inL ts x ↔ NB ts x < NB ts (x + 1)
  | [], _, x => ⟨fun ⟨_, h, _⟩ => (by cases h), fun h => absurd h (Int.lt_irrefl _)⟩
  | t :: r, h, x => by
    have ih := in_mem (ts := r) (fun u hu => h u (List.mem_cons_of_mem _ hu)) x
    have h1 := in_nb (h t (List.mem_cons_self ..)) x
    have m1 := nbT_mono (h t (List.mem_cons_self ..)) (x := x) (y := x + 1) (by omega)
    have m2 := NB_mono (ts := r) (fun u hu => h u (List.mem_cons_of_mem _ hu)) (x := x) (y := x + 1) (by omega)
    have e : inL (t :: r) x ↔ inT t x ∨ inL r x := ⟨fun ⟨u, hu, k⟩ => by
        rcases List.mem_cons.mp hu with rfl | hu
        · exact .inl k
        · exact .inr ⟨u, hu, k⟩, fun k => by
        rcases k with k | ⟨u, hu, k⟩
        · exact ⟨t, List.mem_cons_self .., k⟩
        · exact ⟨u, List.mem_cons_of_mem _ hu, k⟩⟩
    show inL (t :: r) x ↔ nbT t x + NB r x < nbT t (x + 1) + NB r (x + 1)
    rw [e, h1, ih]
    omega
theorem in_cons {t : Trn} {r : List Trn} {x : Int} : inL (t :: r) x ↔ inT t x ∨ inL r x := ⟨fun ⟨u, hu, k⟩ => by
    rcases List.mem_cons.mp hu with rfl | hu
    · exact .inl k
    · exact .inr ⟨u, hu, k⟩, fun k => by
    rcases k with k | ⟨u, hu, k⟩
    · exact ⟨t, List.mem_cons_self .., k⟩
    · exact ⟨u, List.mem_cons_of_mem _ hu, k⟩⟩
theorem in_app {a b : List Trn} {x : Int} : inL (a ++ b) x ↔ inL a x ∨ inL b x := by
  constructor
  · rintro ⟨u, hu, k⟩
    rcases List.mem_append.mp hu with hu | hu
    · exact .inl ⟨u, hu, k⟩
    · exact .inr ⟨u, hu, k⟩
  · rintro (⟨u, hu, k⟩ | ⟨u, hu, k⟩)
    · exact ⟨u, List.mem_append_left _ hu, k⟩
    · exact ⟨u, List.mem_append_right _ hu, k⟩
theorem in_ge {t : Trn} (h : OkTr t) {x : Int} (k : inT t x) : t.1 ≤ x := by
  obtain ⟨i, i0, _, rfl⟩ := k
  have := Int.mul_nonneg i0 (show 0 ≤ t.2.1 by have := h.2.1; omega)
  omega
theorem in_le {t : Trn} (h : OkTr t) {x c : Int} (hc : t.2.2 = some c) (k : inT t x) : x ≤ t.1 + (c - 1) * t.2.1 := by
  obtain ⟨i, i0, hi, rfl⟩ := k
  have := hi c hc
  have := Int.mul_le_mul_of_nonneg_right (show i ≤ c - 1 by omega) (show 0 ≤ t.2.1 by have := h.2.1; omega)
  omega
theorem in_first {t : Trn} (h : OkTr t) : inT t t.1 := ⟨0, Int.le_refl _, fun c e => by have := h.2.2 c e; omega, by omega⟩
theorem in_last {t : Trn} (h : OkTr t) {c : Int} (hc : t.2.2 = some c) : inT t (t.1 + (c - 1) * t.2.1) :=
  ⟨c - 1, by have := h.2.2 c hc; omega, fun d e => by rw [hc] at e; cases e; omega, rfl⟩
theorem in_big {t : Trn} (h : OkTr t) (e : t.2.2 = none) (B : Int) : ∃ x, B < x ∧ inT t x := by
  have s0 := h.1
  have p1 := h.2.1
  refine ⟨t.1 + (if 0 ≤ B then B + 1 else 1) * t.2.1, ?_, _, by split <;> omega, fun c hc => (by rw [e] at hc; cases hc), rfl⟩
  split
  · have := Int.mul_le_mul_of_nonneg_left p1 (show 0 ≤ B + 1 by omega)
    omega
  · omega
/-- the same times, the same numbers of times -/
theorem nb_of_in {ts us : List Trn} (h : Srt ts) (h' : Srt us) (e : ∀ x, inL ts x ↔ inL us x) : ∀ x, NB ts x = NB us x := by
  have z : ∀ n : Nat, NB ts (n : Int) = NB us (n : Int) := fun n => by
    induction n with
    | zero =>
      rw [NB_zero h.1 (x := ((0 : Nat) : Int)) fun t ht => (h.1 t ht).1, NB_zero h'.1 (x := ((0 : Nat) : Int)) fun t ht => (h'.1 t ht).1]
    | succ n ih =>
      have a := in_mem h.1 (n : Int)
      have b := in_mem h'.1 (n : Int)
      have c := NB_step h (n : Int)
      have d := NB_step h' (n : Int)
      have m1 := NB_mono h.1 (x := (n : Int)) (y := n + 1) (by omega)
      have m2 := NB_mono h'.1 (x := (n : Int)) (y := n + 1) (by omega)
      have q : NB ts (n : Int) < NB ts ((n : Int) + 1) ↔ NB us (n : Int) < NB us ((n : Int) + 1) := a.symm.trans ((e n).trans b)
      rw [Int.natCast_succ]
      by_cases y : NB ts (n : Int) < NB ts ((n : Int) + 1)
      · have := q.mp y
        omega
      · have : ¬ NB us (n : Int) < NB us ((n : Int) + 1) := fun w => y (q.mpr w)
        omega
  intro x
  by_cases x0 : 0 ≤ x
  · obtain ⟨n, rfl⟩ : ∃ n : Nat, x = n := ⟨x.toNat, by omega⟩
    exact z n
  · rw [NB_zero h.1 fun t ht => by have := (h.1 t ht).1; omega, NB_zero h'.1 fun t ht => by have := (h'.1 t ht).1; omega]
theorem in_of_nb {ts us : List Trn} (h : Srt ts) (h' : Srt us) (e : ∀ x, NB ts x = NB us x) (x : Int) : inL ts x ↔ inL us x := by
  rw [in_mem h.1, in_mem h'.1, e, e]
theorem in_one {m : Trn} {x : Int} : inL [m] x ↔ inT m x := by
  rw [in_cons]
  exact ⟨fun h => by
    rcases h with h | ⟨_, h, _⟩
    · exact h
    · exact (nomatch h), fun h => Or.inl h⟩
theorem in_nil {x : Int} : ¬ inL [] x := fun ⟨_, h, _⟩ => nomatch h
/-! ### Euclid -/
structure Euc (p q d f : Int) : Prop where
  d1 : 1 ≤ d
  dp : d ∣ p
  dq : d ∣ q
  bz : ∃ k, f * p = d + k * q
  fb : -q ≤ f ∧ f ≤ q
structure EuS (p q d r f g : Int) : Prop where
  d1 : 1 ≤ d
  r0 : 0 ≤ r
  db : d ≤ p ∨ d ≤ q
  rb : r ≤ q
  bf : ∃ k, f * p = d + k * q
  bg : ∃ k, g * p = r + k * q
  dv : ∀ z, z ∣ d → z ∣ r → z ∣ p ∧ z ∣ q
  sg : ∃ e a b : Int, (e = 1 ∨ e = -1) ∧ 0 ≤ a ∧ 0 ≤ b ∧ f = e * a ∧ g = -(e * b) ∧ b * d + a * r = q ∧ a ≤ q ∧ b ≤ q
theorem eus_start {p q : Int} (hp : 1 ≤ p) (hq : 1 ≤ q) : EuS p q p q 1 0 :=
  ⟨hp, by omega, .inl (Int.le_refl _), Int.le_refl _, ⟨0, by omega⟩, ⟨-1, by omega⟩, fun z a b => ⟨a, b⟩, 1, 1, 0, .inl rfl, by decide, by decide, by decide, by decide, by omega, hq, by omega⟩
theorem eus_step {p q d r f g : Int} (h : EuS p q d r f g) (hr : 0 < r) : EuS p q r (d % r) g (f - d / r * g) := by
  obtain ⟨d1, r0, db, rb, ⟨k1, b1⟩, ⟨k2, b2⟩, dv, e, a, b, he, a0, b0, rfl, rfl, hq, al, bl⟩ := h
  have m0 := Int.emod_nonneg d (show r ≠ 0 by omega)
  have ml := Int.emod_lt_of_pos d hr
  have dm := Int.mul_ediv_add_emod d r
  have q0 : 0 ≤ d / r := Int.ediv_nonneg (by omega) r0
  have ee : e * e = 1 := by rcases he with rfl | rfl <;> decide
  have qb : 0 ≤ d / r * b := Int.mul_nonneg q0 b0
  generalize hQ : d / r = Q at *
  generalize hM : d % r = M at *
  have hd : d = r * Q + M := dm.symm
  have hN : (a + Q * b) * r + b * M = q := by
    rw [← hq, hd, Int.mul_add, Int.add_mul, show b * (r * Q) = Q * b * r by rw [Int.mul_comm b, Int.mul_comm r Q, Int.mul_assoc, Int.mul_comm r b, ← Int.mul_assoc]]
    omega
  refine ⟨by omega, m0, .inr (by omega), by omega, ⟨k2, b2⟩, ⟨k1 - Q * k2, ?_⟩, ?_, -e, b, a + Q * b, ?_, b0, by omega, ?_, ?_, ?_, bl, ?_⟩
  · have : (e * a - Q * -(e * b)) * p = e * a * p - Q * (-(e * b) * p) := by rw [Int.sub_mul, Int.mul_assoc Q]
    rw [this, b1, b2, hd, Int.mul_add, Int.sub_mul, Int.mul_comm r Q, Int.mul_assoc Q k2 q]
    omega
  · intro z zr zm
    have zd : z ∣ d := by rw [hd]; exact Int.dvd_add (Int.dvd_trans zr (Int.dvd_mul_right r Q)) zm
    exact dv z zd zr
  · rcases he with rfl | rfl
    · exact .inr rfl
    · exact .inl rfl
  · rw [Int.neg_mul]
  · rw [Int.neg_mul, Int.neg_neg, Int.mul_add, Int.mul_neg, Int.sub_neg, Int.mul_left_comm Q e b]
  · exact hN
  · have h1 := Int.mul_le_mul_of_nonneg_left (show (1 : Int) ≤ r by omega) (show 0 ≤ a + Q * b by omega)
    have h2 := Int.mul_nonneg b0 m0
    omega
theorem eus_end {p q d f g : Int} (hp : 1 ≤ p) (hq : 1 ≤ q) (h : EuS p q d 0 f g) : Euc p q d f := by
  obtain ⟨d1, r0, db, rb, b1, ⟨k2, b2⟩, dv, e, a, b, he, a0, b0, rfl, rfl, _, al, bl⟩ := h
  have z := dv d (Int.dvd_refl _) (Int.dvd_zero _)
  refine ⟨d1, z.1, z.2, b1, ?_⟩
  rcases he with rfl | rfl <;> omega
theorem EuS.gbd {p q d r f g : Int} (h : EuS p q d r f g) : -q ≤ g ∧ g ≤ q ∧ -q ≤ f ∧ f ≤ q := by
  obtain ⟨e, a, b, he, a0, b0, rfl, rfl, _, al, bl⟩ := h.sg
  rcases he with rfl | rfl <;> omega
/-! ### windows and splits as sets of times -/
theorem in_win2 {g : List Trn} (h : Srt g) {f : Int} {after : Option Int} (f0 : 0 ≤ f) (hf : ∀ a, after = some a → f ≤ a) (hw : Srt (win g f after)) (x : Int) : inL (win g f after) x ↔ inL g x ∧ f ≤ x ∧ ∀ a, after = some a → x < a := by
  rw [in_mem hw.1, in_mem h.1]
  have nb := fun y => win_nb h.1 (f := f) (after := after) hf y
  rw [nb, nb]
  have mono := fun {a b : Int} (l : a ≤ b) => NB_mono h.1 l
  cases after with
  | none =>
    have e1 : ∀ y, cx f none y = if y < f then f else y := fun _ => rfl
    rw [e1, e1]
    by_cases x0 : x < f
    · rw [if_pos x0]
      by_cases x1 : x + 1 < f
      · rw [if_pos x1]
        exact ⟨fun z => by omega, fun z => by omega⟩
      · rw [if_neg x1, show x + 1 = f by omega]
        exact ⟨fun z => by omega, fun z => by omega⟩
    · rw [if_neg x0, if_neg (show ¬ (x + 1 < f) by omega)]
      exact ⟨fun z => ⟨by omega, by omega, fun a e => by cases e⟩, fun z => by have := z.1; omega⟩
  | some a =>
    have fa := hf a rfl
    have e1 : ∀ y, cx f (some a) y = if y < f then f else if a < y then a else y := fun _ => rfl
    rw [e1, e1]
    by_cases x0 : x < f
    · rw [if_pos x0]
      by_cases x1 : x + 1 < f
      · rw [if_pos x1]
        exact ⟨fun z => by omega, fun z => by omega⟩
      · have x2 : ¬ (a < x + 1) := by omega
        rw [if_neg x1, if_neg x2, show x + 1 = f by omega]
        exact ⟨fun z => by omega, fun z => by omega⟩
    · have x1 : ¬ (x + 1 < f) := by omega
      rw [if_neg x0, if_neg x1]
      by_cases xa : x < a
      · have q1 : ¬ (a < x) := by omega
        have q2 : ¬ (a < x + 1) := by omega
        rw [if_neg q1, if_neg q2]
        exact ⟨fun z => ⟨by omega, by omega, fun b e => by cases e; exact xa⟩, fun z => by have := z.1; omega⟩
      · rw [if_pos (show a < x + 1 by omega)]
        refine ⟨fun z => ?_, fun z => absurd (z.2.2 a rfl) xa⟩
        exfalso
        by_cases xe : a < x
        · rw [if_pos xe] at z
          omega
        · rw [if_neg xe, show x = a by omega] at z
          omega
theorem in_nfs {g : List Trn} (h : Srt g) (x : Int) : inL (nfs g) x ↔ inL g x := in_of_nb (nfs_srt h) h (nfs_nb h) x
/-- the times of the two parts of a split -/
theorem in_spHd {g : List Trn} (h : Srt g) {c : Int} (c0 : 0 ≤ c) (hw : Srt (spHd g c)) (x : Int) : inL (spHd g c) x ↔ inL g x ∧ NB g x < c ∨ inL g x ∧ At g c = none := by
  unfold spHd at hw ⊢
  cases e : At g c with
  | none =>
    rw [e] at hw
    show inL (win g 0 none) x ↔ _
    rw [in_win2 h (Int.le_refl _) (fun a e => by cases e) hw]
    constructor
    · rintro ⟨a, _⟩
      exact .inr ⟨a, rfl⟩
    · rintro (⟨⟨t, ht, k⟩, _⟩ | ⟨⟨t, ht, k⟩, _⟩) <;> exact ⟨⟨t, ht, k⟩, by have := in_ge (h.1 t ht) k; have := (h.1 t ht).1; omega, fun a e => by cases e⟩
  | some y =>
    rw [e] at hw
    have y0 := At_nn h c0 e
    show inL (win g 0 (some y)) x ↔ _
    rw [in_win2 h (Int.le_refl _) (fun a e => by cases e; exact y0) hw]
    have lt := At_lt h c0 e
    constructor
    · rintro ⟨a, _, b⟩
      refine .inl ⟨a, ?_⟩
      have h1 := b y rfl
      have h2 := lt x
      have h3 := lt y
      have m := NB_mono h.1 (show x ≤ y by omega)
      have h4 := (in_mem h.1 x).mp a
      have m2 := NB_mono h.1 (show x + 1 ≤ y by omega)
      omega
    · rintro (⟨a, b⟩ | ⟨_, b⟩)
      · refine ⟨a, ?_, fun z e => ?_⟩
        · obtain ⟨t, ht, k⟩ := a
          have := in_ge (h.1 t ht) k
          have := (h.1 t ht).1
          omega
        · cases e
          have h4 := (in_mem h.1 x).mp a
          have h5 := NB_step h x
          by_cases z : x < y
          · exact z
          · have h2 := (At_iff h c0).mp e
            have m := NB_mono h.1 (show y ≤ x by omega)
            omega
      · cases b
theorem in_idx {g : List Trn} (h : Srt g) {c : Int} (c0 : 0 ≤ c) (e : At g c = none) {x : Int} (k : inL g x) : NB g x < c := by
  obtain ⟨N, hT, hN⟩ := (At_none h.1 c0).mp e
  have h1 := (in_mem h.1 x).mp k
  have h2 := NB_tot h.1 hT (x + 1)
  omega
theorem in_hd {g : List Trn} (h : Srt g) {c : Int} (c0 : 0 ≤ c) (hw : Srt (spHd g c)) (x : Int) : inL (spHd g c) x ↔ inL g x ∧ NB g x < c := by
  rw [in_spHd h c0 hw]
  exact ⟨fun z => z.elim id fun ⟨a, b⟩ => ⟨a, in_idx h c0 b a⟩, .inl⟩
theorem in_tl {g : List Trn} (h : Srt g) {c : Int} (c0 : 0 ≤ c) (hw : Srt (spTail g c)) (x : Int) : inL (spTail g c) x ↔ inL g x ∧ c ≤ NB g x := by
  unfold spTail at hw ⊢
  cases e : At g c with
  | none =>
    refine ⟨fun z => absurd z in_nil, fun ⟨a, b⟩ => ?_⟩
    have := in_idx h c0 e a
    omega
  | some y =>
    rw [e] at hw
    have y0 := At_nn h c0 e
    show inL (win g y none) x ↔ _
    rw [in_win2 h y0 (fun a e => by cases e) hw]
    have h2 := (At_iff h c0).mp e
    constructor
    · rintro ⟨a, b, _⟩
      have m := NB_mono h.1 b
      exact ⟨a, by omega⟩
    · rintro ⟨a, b⟩
      refine ⟨a, ?_, fun z e => by cases e⟩
      have h4 := (in_mem h.1 x).mp a
      by_cases z : y ≤ x
      · exact z
      · have m := NB_mono h.1 (show x + 1 ≤ y by omega)
        omega
theorem sp_srt {g : List Trn} {n a : Nat} (h : Srt g) (hb : ∀ t ∈ g, BT n t) {c : Int} (c0 : 0 ≤ c) (ca : c ≤ PB a) : Srt (spHd g c) ∧ Srt (spTail g c) := by
  unfold spHd spTail
  cases e : At g c with
  | none =>
    exact ⟨(win_ok (n := n) (m := 0) (Int.le_refl _) (fun a e => by cases e) (by have := PB_pos 0; omega) (fun a e => by cases e) h hb).1, fun t ht => (by cases ht), List.Pairwise.nil⟩
  | some y =>
    have y0 := At_nn h c0 e
    have y1 := At_le h.1 hb c0 ca e
    exact ⟨(win_ok (n := n) (m := n + a + 1) (Int.le_refl _) (fun a e => by cases e; exact y0) (by have := PB_pos (n + a + 1); omega) (fun a e => by cases e; exact y1) h hb).1,
      (win_ok (n := n) (m := n + a + 1) y0 (fun a e => by cases e) y1 (fun a e => by cases e) h hb).1⟩
/-- all times of the one are before all of the other -/
theorem beh_of {g k : List Trn} (hg : Srt g) (hk : Srt k) (h : ∀ x y, inL g x → inL k y → x < y) : behB g k = true := by
  unfold behB
  cases hl : g.getLast? with
  | none => rfl
  | some la =>
    cases hh : k.head? with
    | none => rfl
    | some fi =>
      have m1 : la ∈ g := List.mem_of_getLast? hl
      have m2 : fi ∈ k := List.mem_of_head? hh
      have ok := hg.1 la m1
      have h2 := in_first (hk.1 fi m2)
      show (match lastE la with | none => false | some e => decide (e < fi.1)) = true
      cases hc : la.2.2 with
      | none =>
        obtain ⟨x, hx, hi⟩ := in_big ok hc fi.1
        have := h x fi.1 ⟨la, m1, hi⟩ ⟨fi, m2, h2⟩
        omega
      | some c =>
        unfold lastE
        rw [hc]
        exact decide_eq_true (h _ _ ⟨la, m1, in_last ok hc⟩ ⟨fi, m2, h2⟩)
theorem same_nfs {g k : List Trn} (hg : Srt g) (hk : Srt k) (h : ∀ x, inL g x ↔ inL k x) : nfs g = nfs k := (nfs_iff hg hk).mpr (nb_of_in hg hk h)
/-- the two parts of a split, put together -/
theorem split_join {g : List Trn} {n a : Nat} (h : Srt g) (hb : ∀ t ∈ g, BT n t) {c : Int} (c0 : 0 ≤ c) (ca : c ≤ PB a) : behB (nfs (spHd g c)) (nfs (spTail g c)) = true ∧ nfs (nfs (spHd g c) ++ nfs (spTail g c)) = nfs g := by
  obtain ⟨s1, s2⟩ := sp_srt h hb c0 ca
  have be : behB (nfs (spHd g c)) (nfs (spTail g c)) = true := beh_of (nfs_srt s1) (nfs_srt s2) fun x y hx hy => by
    rw [in_nfs s1, in_hd h c0 s1] at hx
    rw [in_nfs s2, in_tl h c0 s2] at hy
    by_cases z : x < y
    · exact z
    · have := NB_mono h.1 (show y ≤ x by omega)
      omega
  refine ⟨be, same_nfs (beh_srt (nfs_srt s1) (nfs_srt s2) be) h fun x => ?_⟩
  rw [in_app, in_nfs s1, in_nfs s2, in_hd h c0 s1, in_tl h c0 s2]
  constructor
  · rintro (⟨a, _⟩ | ⟨a, _⟩) <;> exact a
  · intro a
    by_cases z : NB g x < c
    · exact .inl ⟨a, z⟩
    · exact .inr ⟨a, by omega⟩
/-- windows side by side -/
theorem win_join {g : List Trn} (h : Srt g) {f m : Int} {after : Option Int} (f0 : 0 ≤ f) (fm : f ≤ m) (hm : ∀ a, after = some a → m ≤ a) (h1 : Srt (win g f (some m))) (h2 : Srt (win g m after)) (h3 : Srt (win g f after)) :
    behB (nfs (win g f (some m))) (nfs (win g m after)) = true ∧ nfs (nfs (win g f (some m)) ++ nfs (win g m after)) = nfs (win g f after) := by
  have i1 := in_win2 h f0 (after := some m) (fun a e => by cases e; exact fm) h1
  have i2 := in_win2 h (show 0 ≤ m by omega) hm h2
  have i3 := in_win2 h f0 (fun a e => by have := hm a e; omega) h3
  have be : behB (nfs (win g f (some m))) (nfs (win g m after)) = true := beh_of (nfs_srt h1) (nfs_srt h2) fun x y hx hy => by
    rw [in_nfs h1, i1] at hx
    rw [in_nfs h2, i2] at hy
    have := hx.2.2 m rfl
    omega
  refine ⟨be, same_nfs (beh_srt (nfs_srt h1) (nfs_srt h2) be) h3 fun x => ?_⟩
  rw [in_app, in_nfs h1, in_nfs h2, i1, i2, i3]
  constructor
  · rintro (⟨a, b, c⟩ | ⟨a, b, c⟩)
    · have := c m rfl
      exact ⟨a, b, fun z e => by have := hm z e; omega⟩
    · exact ⟨a, by omega, c⟩
  · rintro ⟨a, b, c⟩
    by_cases z : x < m
    · exact .inl ⟨a, b, fun w e => by cases e; exact z⟩
    · exact .inr ⟨a, by omega, c⟩
theorem tot_iff {g : List Trn} (h : ∀ t ∈ g, OkTr t) {N : Int} (N0 : 0 ≤ N) (h1 : At g N = none) (h2 : ∀ i, 0 ≤ i → i < N → At g i ≠ none) : Tot g = some N := by
  obtain ⟨m, hm, l⟩ := (At_none h N0).mp h1
  have m0 := tot_nn h m hm
  by_cases z : m < N
  · exact absurd ((At_none h m0).mpr ⟨m, hm, Int.le_refl _⟩) (h2 m m0 z)
  · rw [hm, show m = N by omega]
theorem tot_win0 {g : List Trn} (h : Srt g) {B : Int} (B0 : 0 ≤ B) (hw : Srt (win g 0 (some B))) : Tot (win g 0 (some B)) = some (NB g B) := by
  have n0 := NB_nn h.1 B
  refine tot_iff hw.1 n0 ?_ fun i i0 il => ?_
  · rw [win_at0 h B0 hw n0, if_neg (by omega)]
  · rw [win_at0 h B0 hw i0, if_pos il]
    intro e
    obtain ⟨m, hm, l⟩ := (At_none h.1 i0).mp e
    have := NB_tot h.1 hm B
    omega
theorem at_winN {g : List Trn} (h : Srt g) {f : Int} (f0 : 0 ≤ f) (hw : Srt (win g f none)) {i : Int} (i0 : 0 ≤ i) : At (win g f none) i = At g (i + NB g f) := by
  have n0 := NB_nn h.1 f
  have nb := fun y => win_nb h.1 (f := f) (after := none) (fun a e => by cases e) y
  have e1 : ∀ y, cx f none y = if y < f then f else y := fun _ => rfl
  have key : ∀ z, At (win g f none) i = some z ↔ At g (i + NB g f) = some z := fun z => by
    rw [At_iff hw i0, At_iff h (by omega), nb, nb, e1, e1]
    by_cases x0 : z < f
    · rw [if_pos x0]
      have m := NB_mono h.1 (show z + 1 ≤ f by omega)
      have m2 := NB_mono h.1 (show z ≤ z + 1 by omega)
      by_cases x1 : z + 1 < f
      · rw [if_pos x1]
        omega
      · rw [if_neg x1]
        have : z + 1 = f := by omega
        rw [this]
        rw [this] at m2
        omega
    · rw [if_neg x0, if_neg (show ¬ (z + 1 < f) by omega)]
      omega
  cases e : At g (i + NB g f) with
  | some z => exact (key z).mpr e
  | none =>
    cases e2 : At (win g f none) i with
    | none => rfl
    | some z => rw [(key z).mp e2] at e; cases e
theorem tot_winN {g : List Trn} (h : Srt g) {f : Int} (f0 : 0 ≤ f) (hw : Srt (win g f none)) : Tot (win g f none) = match Tot g with | none => none | some N => some (N - NB g f) := by
  have n0 := NB_nn h.1 f
  cases hT : Tot g with
  | none =>
    show _ = none
    cases e : Tot (win g f none) with
    | none => rfl
    | some m =>
      have m0 := tot_nn hw.1 m e
      have := (At_none hw.1 m0).mpr ⟨m, e, Int.le_refl _⟩
      rw [at_winN h f0 hw m0] at this
      obtain ⟨k, hk, _⟩ := (At_none h.1 (by omega)).mp this
      rw [hT] at hk
      cases hk
  | some N =>
    have l := NB_tot h.1 hT f
    refine tot_iff hw.1 (by omega) ?_ fun i i0 il => ?_
    · rw [at_winN h f0 hw (by omega)]
      exact (At_none h.1 (by omega)).mpr ⟨N, hT, by omega⟩
    · rw [at_winN h f0 hw i0]
      intro e
      obtain ⟨k, hk, hl⟩ := (At_none h.1 (by omega)).mp e
      rw [hT] at hk
      cases hk
      omega
theorem tot_hd {g : List Trn} (h : Srt g) {c : Int} (c0 : 0 ≤ c) (hw : Srt (spHd g c)) : Tot (spHd g c) = match Tot g with | none => some c | some N => some (if N < c then N else c) := by
  unfold spHd at hw ⊢
  cases e : At g c with
  | none =>
    rw [e] at hw
    obtain ⟨N, hT, hN⟩ := (At_none h.1 c0).mp e
    have z := tot_winN h (Int.le_refl 0) hw
    rw [hT] at z
    show Tot (win g 0 none) = _
    rw [z, hT]
    have n0 : NB g 0 = 0 := NB_zero h.1 fun t ht => (h.1 t ht).1
    show some (N - NB g 0) = some (if N < c then N else c)
    rw [n0]
    congr 1
    split <;> omega
  | some y =>
    rw [e] at hw
    have y0 := At_nn h c0 e
    have hy := ((At_iff h c0).mp e).1
    show Tot (win g 0 (some y)) = _
    rw [tot_win0 h y0 hw, hy]
    cases hT : Tot g with
    | none => rfl
    | some N =>
      show some c = some (if N < c then N else c)
      have : ¬ N ≤ c := fun l => by
        rw [(At_none h.1 c0).mpr ⟨N, hT, l⟩] at e
        cases e
      rw [if_neg (by omega)]
theorem tot_tl {g : List Trn} (h : Srt g) {c : Int} (c0 : 0 ≤ c) (hw : Srt (spTail g c)) : Tot (spTail g c) = match Tot g with | none => none | some N => some (if N - c > 0 then N - c else 0) := by
  unfold spTail at hw ⊢
  cases e : At g c with
  | none =>
    obtain ⟨N, hT, hN⟩ := (At_none h.1 c0).mp e
    rw [hT]
    show some 0 = some (if N - c > 0 then N - c else 0)
    rw [if_neg (by omega)]
  | some y =>
    rw [e] at hw
    have y0 := At_nn h c0 e
    have hy := ((At_iff h c0).mp e).1
    show Tot (win g y none) = _
    rw [tot_winN h y0 hw, hy]
    cases hT : Tot g with
    | none => rfl
    | some N =>
      show some (N - c) = some (if N - c > 0 then N - c else 0)
      have : ¬ N ≤ c := fun l => by
        rw [(At_none h.1 c0).mpr ⟨N, hT, l⟩] at e
        cases e
      rw [if_pos (by omega)]
/-! ### the first times, and the others -/
def tkn (t : Trn) (l : Int) : Int := minO l t.2.2
def divH : List Trn → Int → List Trn
  | [], _ => []
  | t :: r, l => partL t 0 (some (tkn t l)) ++ divH r (l - tkn t l)
def divT : List Trn → Int → List Trn
  | [], _ => []
  | t :: r, l => partL t (tkn t l) t.2.2 ++ divT r (l - tkn t l)
theorem nbT_0 {t : Trn} (h : OkTr t) {y : Int} (l : y ≤ t.1) : nbT t y = 0 := by
  have h1 := nbT_nn h y
  have h2 := nbT_lt h (x := y) (Int.le_refl 0) (fun c hc => by have := h.2.2 c hc; omega)
  rw [Int.zero_mul] at h2
  omega
theorem wn_div {t : Trn} (h : OkTr t) {y : Int} (k : Int) (hk : nbT t y = k) : wnT t 0 (some y) = partL t 0 (some k) ∧ wnT t y none = partL t k t.2.2 := by
  have h0 : nbT t 0 = 0 := nbT_0 h h.1
  refine ⟨?_, ?_⟩
  · show partL t (nbT t 0) (some (nbT t y)) = _
    rw [h0, hk]
  · show partL t (nbT t y) t.2.2 = _
    rw [hk]
theorem div_zero : ∀ {ts : List Trn} {y : Int}, (∀ t ∈ ts, OkTr t) → (∀ t ∈ ts, y ≤ t.1) → divH ts 0 = win ts 0 (some y) ∧ divT ts 0 = win ts y none ∧ divH ts 0 = [] ∧ (divT ts 0).length ≤ ts.length
  | [], y, _, _ => ⟨rfl, rfl, rfl, Nat.le_refl _⟩
  | t :: r, y, h, l => by
    have ok := h t (List.mem_cons_self ..)
    have tk : tkn t 0 = 0 := by
      unfold tkn
      cases hc : t.2.2 with
      | none => rfl
      | some c =>
        have := ok.2.2 c hc
        show (if c < 0 then c else 0) = 0
        rw [if_neg (by omega)]
    obtain ⟨i1, i2, i3, i4⟩ := div_zero (ts := r) (y := y) (fun u hu => h u (List.mem_cons_of_mem _ hu)) (fun u hu => l u (List.mem_cons_of_mem _ hu))
    obtain ⟨w1, w2⟩ := wn_div ok 0 (nbT_0 ok (l t (List.mem_cons_self ..)))
    have e0 : partL t 0 (some 0) = [] := rfl
    refine ⟨?_, ?_, ?_, ?_⟩
    · show partL t 0 (some (tkn t 0)) ++ divH r (0 - tkn t 0) = wnT t 0 (some y) ++ win r 0 (some y)
      rw [tk, w1, Int.sub_zero, i1]
    · show partL t (tkn t 0) t.2.2 ++ divT r (0 - tkn t 0) = wnT t y none ++ win r y none
      rw [tk, w2, Int.sub_zero, i2]
    · show partL t 0 (some (tkn t 0)) ++ divH r (0 - tkn t 0) = []
      rw [tk, Int.sub_zero, i3, e0]
      rfl
    · show (partL t (tkn t 0) t.2.2 ++ divT r (0 - tkn t 0)).length ≤ r.length + 1
      rw [tk, Int.sub_zero, List.length_append]
      have : (partL t 0 t.2.2).length ≤ 1 := by
        unfold partL
        cases t.2.2 with
        | none => exact Nat.le_refl _
        | some c => show (if 0 = c then [] else _).length ≤ 1; split <;> simp
      omega
theorem part1 (t : Trn) (a : Int) (b : Option Int) : (partL t a b).length ≤ 1 := by
  unfold partL
  cases b with
  | none => exact Nat.le_refl _
  | some c => show (if a = c then [] else _).length ≤ 1; split <;> simp
theorem At_ge : ∀ {ts : List Trn}, (∀ t ∈ ts, OkTr t) → ∀ {i y : Int}, 0 ≤ i → At ts i = some y → ∃ u ∈ ts, u.1 ≤ y
  | [], _, i, y, _, e => by cases e
  | t :: r, h, i, y, i0, e => by
    have ok := h t (List.mem_cons_self ..)
    cases hc : t.2.2 with
    | none =>
      rw [At_none_t hc] at e
      cases e
      exact ⟨t, List.mem_cons_self .., by have := Int.mul_nonneg i0 (show 0 ≤ t.2.1 by have := ok.2.1; omega); omega⟩
    | some c =>
      rw [At_some_t hc] at e
      split at e
      · cases e
        exact ⟨t, List.mem_cons_self .., by have := Int.mul_nonneg i0 (show 0 ≤ t.2.1 by have := ok.2.1; omega); omega⟩
      · obtain ⟨u, hu, l⟩ := At_ge (fun u hu => h u (List.mem_cons_of_mem _ hu)) (show 0 ≤ i - c by omega) e
        exact ⟨u, List.mem_cons_of_mem _ hu, l⟩
theorem div_win : ∀ {ts : List Trn}, Srt ts → ∀ {c y : Int}, 0 ≤ c → At ts c = some y → divH ts c = win ts 0 (some y) ∧ divT ts c = win ts y none ∧ (divH ts c).length + (divT ts c).length ≤ ts.length + 1
  | [], _, c, y, _, e => by cases e
  | t :: r, hs, c, y, c0, e => by
    have ok := hs.head
    have p1 := ok.2.1
    by_cases hlo : ∀ k, t.2.2 = some k → c < k
    · rw [At_lo hlo] at e
      have e := (Option.some.inj e).symm
      have tk : tkn t c = c := by
        unfold tkn
        cases hc : t.2.2 with
        | none => rfl
        | some k =>
          have := hlo k hc
          show (if k < c then k else c) = c
          rw [if_neg (by omega)]
      have nb : nbT t y = c := by
        have h1 := nbT_nn ok y
        have h2 := nbT_lt ok (x := y) c0 hlo
        have a1 : ¬ c < nbT t y := fun z => by have := h2.mp z; omega
        by_cases z : c = 0
        · omega
        · have h3 := nbT_lt ok (x := y) (i := c - 1) (by omega) (fun k hk => by have := hlo k hk; omega)
          have a2 : t.1 + (c - 1) * t.2.1 < y := by
            rw [e, Int.sub_mul, Int.one_mul]
            omega
          have := h3.mpr a2
          omega
      obtain ⟨w1, w2⟩ := wn_div ok c nb
      obtain ⟨i1, i2, i3, i4⟩ := div_zero (ts := r) (y := y) (fun u hu => hs.1 u (List.mem_cons_of_mem _ hu)) (fun u hu => by
        obtain ⟨k, hk, l⟩ := hs.lt u hu
        have := hlo k hk
        have : c * t.2.1 ≤ (k - 1) * t.2.1 := Int.mul_le_mul_of_nonneg_right (by omega) (by omega)
        omega)
      refine ⟨?_, ?_, ?_⟩
      · show partL t 0 (some (tkn t c)) ++ divH r (c - tkn t c) = wnT t 0 (some y) ++ win r 0 (some y)
        rw [tk, w1, Int.sub_self, i1]
      · show partL t (tkn t c) t.2.2 ++ divT r (c - tkn t c) = wnT t y none ++ win r y none
        rw [tk, w2, Int.sub_self, i2]
      · show (partL t 0 (some (tkn t c)) ++ divH r (c - tkn t c)).length + (partL t (tkn t c) t.2.2 ++ divT r (c - tkn t c)).length ≤ r.length + 1 + 1
        rw [tk, Int.sub_self, i3, List.length_append, List.length_append]
        have h1 := part1 t 0 (some c)
        have h2 := part1 t c t.2.2
        have h3 : ([] : List Trn).length = 0 := rfl
        omega
    · obtain ⟨k, hk, kc⟩ : ∃ k, t.2.2 = some k ∧ k ≤ c := by
        cases hc : t.2.2 with
        | none => exact absurd (fun k hk => by rw [hc] at hk; cases hk) hlo
        | some k => exact ⟨k, rfl, Int.not_lt.mp fun z => hlo fun k' hk' => by rw [hc] at hk'; cases hk'; exact z⟩
      have k1 := ok.2.2 k hk
      rw [At_some_t hk, if_neg (by omega)] at e
      have tk : tkn t c = k := by
        unfold tkn
        rw [hk]
        show (if k < c then k else c) = k
        split <;> omega
      obtain ⟨u, hu, ul⟩ := At_ge (fun u hu => hs.1 u (List.mem_cons_of_mem _ hu)) (show 0 ≤ c - k by omega) e
      obtain ⟨k', hk', l⟩ := hs.lt u hu
      rw [hk] at hk'
      cases hk'
      have nb : nbT t y = k := by
        have h1 := nbT_le (x := y) hk
        have h3 := nbT_lt ok (x := y) (i := k - 1) (by omega) (fun k' hk' => by rw [hk] at hk'; cases hk'; omega)
        have := h3.mpr (by omega)
        omega
      obtain ⟨w1, w2⟩ := wn_div ok k nb
      obtain ⟨i1, i2, i3⟩ := div_win hs.tail (show 0 ≤ c - k by omega) e
      refine ⟨?_, ?_, ?_⟩
      · show partL t 0 (some (tkn t c)) ++ divH r (c - tkn t c) = wnT t 0 (some y) ++ win r 0 (some y)
        rw [tk, w1, i1]
      · show partL t (tkn t c) t.2.2 ++ divT r (c - tkn t c) = wnT t y none ++ win r y none
        rw [tk, w2, i2]
      · show (partL t 0 (some (tkn t c)) ++ divH r (c - tkn t c)).length + (partL t (tkn t c) t.2.2 ++ divT r (c - tkn t c)).length ≤ r.length + 1 + 1
        rw [tk, List.length_append, List.length_append]
        have h1 := part1 t 0 (some k)
        have h2 : (partL t k t.2.2).length = 0 := by
          rw [hk]
          show (if k = k then [] else _).length = 0
          rw [if_pos rfl]
          rfl
        omega
/-! ### what a breaker passes -/
theorem at_in {g : List Trn} (h : Srt g) {i y : Int} (i0 : 0 ≤ i) (e : At g i = some y) : inL g y := by
  obtain ⟨e1, e2⟩ := (At_iff h i0).mp e
  exact (in_mem h.1 y).mpr (by omega)
theorem in_at {g : List Trn} (h : Srt g) {x : Int} (k : inL g x) : At g (NB g x) = some x := by
  have h1 := (in_mem h.1 x).mp k
  have h2 := NB_step h x
  exact (At_iff h (NB_nn h.1 x)).mpr ⟨rfl, by omega⟩
theorem at_le {g : List Trn} (h : Srt g) {i j x y : Int} (i0 : 0 ≤ i) (ij : i ≤ j) (ex : At g i = some x) (ey : At g j = some y) : x ≤ y := by
  have h1 := (At_iff h i0).mp ex
  have h2 := (At_iff h (by omega)).mp ey
  by_cases z : x ≤ y
  · exact z
  · have := NB_mono h.1 (show y + 1 ≤ x by omega)
    omega
theorem at_lt {g : List Trn} (h : Srt g) {i j x y : Int} (i0 : 0 ≤ i) (ij : i < j) (ex : At g i = some x) (ey : At g j = some y) : x < y := by
  have h1 := (At_iff h i0).mp ex
  have h2 := (At_iff h (by omega)).mp ey
  by_cases z : x < y
  · exact z
  · have := NB_mono h.1 (show y + 1 ≤ x + 1 by omega)
    omega
theorem at_end {g : List Trn} (h : Srt g) (hT : Tot g = none) {i : Int} (i0 : 0 ≤ i) : ∃ y, At g i = some y := by
  cases e : At g i with
  | some y => exact ⟨y, rfl⟩
  | none =>
    obtain ⟨n, hn, _⟩ := (At_none h.1 i0).mp e
    rw [hT] at hn
    cases hn
theorem tot_end {g : List Trn} (h : Srt g) (ha : ∀ i : Nat, At g (i : Int) ≠ none) : Tot g = none := by
  cases e : Tot g with
  | none => rfl
  | some n =>
    have n0 := tot_nn h.1 n e
    have := (At_none h.1 n0).mpr ⟨n, e, Int.le_refl _⟩
    rw [show n = ((n.toNat : Nat) : Int) by omega] at this
    exact absurd this (ha _)
theorem nx_end {g : List Trn} (h : Srt g) (hT : Tot g = none) (x : Int) : ∃ y, nxT g x = some y := at_end h hT (NB_nn h.1 x)
theorem nx_iff {g : List Trn} (h : Srt g) {x y : Int} : nxT g x = some y ↔ inL g y ∧ x ≤ y ∧ ∀ z, inL g z → x ≤ z → y ≤ z := by
  have n0 := NB_nn h.1 x
  have fw : ∀ {y}, nxT g x = some y → inL g y ∧ x ≤ y ∧ ∀ z, inL g z → x ≤ z → y ≤ z := fun {y} e => by
    have e' : At g (NB g x) = some y := e
    refine ⟨at_in h n0 e', nx_ge h e, fun z hz hx => ?_⟩
    have h1 := NB_mono h.1 hx
    exact at_le h n0 h1 e' (in_at h hz)
  refine ⟨fw, fun ⟨k, l, m⟩ => ?_⟩
  have ey := in_at h k
  have h1 := NB_mono h.1 l
  by_cases z : NB g x = NB g y
  · show At g (NB g x) = some y
    rw [z]
    exact ey
  · cases e : nxT g x with
    | none =>
      have e' : At g (NB g x) = none := e
      obtain ⟨n, hn, l2⟩ := (At_none h.1 n0).mp e'
      have := (At_none h.1 (NB_nn h.1 y)).mpr ⟨n, hn, by omega⟩
      rw [ey] at this
      cases this
    | some v =>
      obtain ⟨a, b, _⟩ := fw e
      have := m v a b
      have e' : At g (NB g x) = some v := e
      have := at_lt h n0 (show NB g x < NB g y by omega) e' ey
      omega
theorem thn_in {wt o : Int} {ts g : List Trn} (ht : Srt ts) (p : Pass wt o ts g) {x : Int} (k : inL g x) : inL ts x ∧ o + wt ≤ x := by
  have e := in_at p.srt k
  have n0 := NB_nn p.srt.1 x
  refine ⟨?_, p.ge n0 e⟩
  by_cases z : NB g x = 0
  · rw [z, p.first] at e
    exact ((nx_iff ht).mp e).1
  · obtain ⟨v, hv⟩ : ∃ v, At g (NB g x - 1) = some v := by
      cases q : At g (NB g x - 1) with
      | some v => exact ⟨v, rfl⟩
      | none =>
        obtain ⟨n, hn, l2⟩ := (At_none p.srt.1 (by omega)).mp q
        rw [(At_none p.srt.1 n0).mpr ⟨n, hn, by omega⟩] at e
        cases e
    have := p.next (NB g x - 1) v (by omega) hv
    rw [show NB g x - 1 + 1 = NB g x by omega, e] at this
    exact ((nx_iff ht).mp this.symm).1
theorem thn_end {wt o : Int} {ts g : List Trn} (ht : Srt ts) (hT : Tot ts = none) (p : Pass wt o ts g) : Tot g = none := by
  refine tot_end p.srt fun i => ?_
  induction i with
  | zero =>
    obtain ⟨y, hy⟩ := nx_end ht hT (o + wt)
    show At g 0 ≠ none
    rw [p.first, hy]
    exact fun z => nomatch z
  | succ i ih =>
    cases e : At g (i : Int) with
    | none => exact absurd e ih
    | some v =>
      obtain ⟨y, hy⟩ := nx_end ht hT (v + wt)
      have := p.next (i : Int) v (by omega) e
      rw [show ((i + 1 : Nat) : Int) = (i : Int) + 1 by omega, this, hy]
      exact fun z => nomatch z
def passG (ts : List Trn) (nd wt o : Int) : List Trn := divH ts nd ++ thnG wt o (divT ts nd)
structure RunOk (n k : Nat) (fr : Int) (ts : List Trn) : Prop where
  srt : Srt ts
  bt : ∀ t ∈ ts, BT n t
  ln : ts.length ≤ k
  en : Tot ts = none
  hd : At ts 0 = some fr
structure PassOk (ts g : List Trn) (o wt : Int) : Prop where
  sub : ∀ x, inL g x → inL ts x
  low : ∀ x, x ≤ o → inL ts x → inL g x
  op : inL g o
  nxt : ∀ x, inL g x → o ≤ x → nxT g (x + 1) = nxT ts (x + wt)
theorem in_lt_last {t : Trn} (h : OkTr t) {c : Int} (hc : t.2.2 = some c) : inT t (t.1 + (c - 1) * t.2.1) := ⟨c - 1, by have := h.2.2 c hc; omega, fun c' e => by rw [hc] at e; cases e; omega, rfl⟩
theorem pass_ok {n k : Nat} {fr : Int} {ts : List Trn} (R : RunOk n k fr ts) {nd wt : Int} (n1 : 1 ≤ nd) (n2 : nd ≤ PB 40) (w1 : 1 ≤ wt) (w2 : wt ≤ PB 100) (hn : 100 ≤ n) :
    ∃ o y, At ts (nd - 1) = some o ∧ At ts nd = some y ∧ 0 ≤ o ∧ o ≤ PB (n + 41) ∧ y ≤ PB (n + 41) ∧ fr ≤ o ∧ RunOk (n + 44) (k + 1) fr (passG ts nd wt o) ∧ PassOk ts (passG ts nd wt o) o wt ∧
      Srt (divT ts nd) ∧ (∀ t ∈ divT ts nd, BT (n + 42) t) ∧ (divT ts nd).length ≤ k + 1 ∧ divH ts nd ≠ [] ∧ (∀ t, (divH ts nd).getLast? = some t → OkTr t ∧ BT (n + 42) t ∧ lastV t = .int o) ∧ Srt (divH ts nd) ∧ (divH ts nd).length ≤ k + 1 ∧ NB ts o = nd - 1 := by
  obtain ⟨o, ho⟩ := at_end R.srt R.en (show 0 ≤ nd - 1 by omega)
  obtain ⟨y, hy⟩ := at_end R.srt R.en (show 0 ≤ nd by omega)
  have o0 := At_nn R.srt (by omega) ho
  have y0 := At_nn R.srt (by omega) hy
  have oy := at_lt R.srt (show 0 ≤ nd - 1 by omega) (by omega) ho hy
  have o1 : o ≤ PB (n + 41) := At_le R.srt.1 R.bt (a := 40) (by omega) (by omega) ho
  have y1 : y ≤ PB (n + 41) := At_le R.srt.1 R.bt (a := 40) (by omega) n2 hy
  have fo := at_le R.srt (Int.le_refl 0) (by omega) R.hd ho
  obtain ⟨d1, d2, d3⟩ := div_win R.srt (show 0 ≤ nd by omega) hy
  have hT := tot_winN R.srt (f := y) (by omega)
  obtain ⟨sh, bh, lh⟩ := win_ok (n := n) (m := n + 41) (f := 0) (after := some y) (Int.le_refl 0) (fun a e => by cases e; exact y0) (by have := PB_pos (n + 41); omega) (fun a e => by cases e; exact y1) R.srt R.bt
  obtain ⟨st, bt, lt⟩ := win_ok (n := n) (m := n + 41) (f := y) (after := none) y0 (fun a e => by cases e) y1 (fun a e => by cases e) R.srt R.bt
  have ih : ∀ x, inL (divH ts nd) x ↔ inL ts x ∧ x < y := fun x => by
    rw [d1, in_win2 R.srt (Int.le_refl 0) (fun a e => by cases e; exact y0) sh]
    constructor
    · rintro ⟨a, _, b⟩
      exact ⟨a, b y rfl⟩
    · rintro ⟨a, b⟩
      obtain ⟨u, hu, z⟩ := a
      have z0 := in_ge (R.srt.1 u hu) z
      have u0 := (R.srt.1 u hu).1
      exact ⟨⟨u, hu, z⟩, by omega, fun c e => by cases e; exact b⟩
  have it : ∀ x, inL (divT ts nd) x ↔ inL ts x ∧ y ≤ x := fun x => by
    rw [d2, in_win2 R.srt y0 (fun a e => by cases e) st]
    exact ⟨fun ⟨a, b, _⟩ => ⟨a, b⟩, fun ⟨a, b⟩ => ⟨a, b, fun c e => by cases e⟩⟩
  have hle : ∀ x, inL ts x → x < y → x ≤ o := fun x hx l => by
    have e := in_at R.srt hx
    have h2 := (At_iff R.srt (by omega)).mp hy
    have h3 := (in_mem R.srt.1 x).mp hx
    have h4 := NB_mono R.srt.1 (show x + 1 ≤ y by omega)
    exact at_le R.srt (NB_nn R.srt.1 x) (by omega) e ho
  have io : inL ts o := at_in R.srt (by omega) ho
  rw [← d2] at st bt lt hT
  rw [← d1] at sh bh lh
  rw [R.en] at hT
  have hT : Tot (divT ts nd) = none := hT st
  have P := thn_pass w1 st o
  have tb := thn_bd (n := n + 42) (m := n + 42) w1 (Int.le_trans w2 (PB_le (by omega))) st.1 (fun t ht => (bt t ht).le (by omega)) o0 (Int.le_trans o1 (PB_le (by omega)))
  rw [Nat.max_self] at tb
  have sg : Srt (passG ts nd wt o) := by
    refine ⟨fun t ht => ?_, List.pairwise_append.mpr ⟨sh.2, P.srt.2, fun t ht u hu => ?_⟩⟩
    · rcases List.mem_append.mp ht with ht | ht
      · exact sh.1 t ht
      · exact P.srt.1 t ht
    · have hu2 := P.lo u hu
      cases hc : t.2.2 with
      | some c =>
        have q := (ih _).mp ⟨t, ht, in_lt_last (sh.1 t ht) hc⟩
        have := hle _ q.1 q.2
        exact ⟨c, hc, by omega⟩
      | none =>
        have q := (ih (t.1 + y * t.2.1)).mp ⟨t, ht, y, y0, (fun c e => by rw [hc] at e; cases e), rfl⟩
        have t1 := (sh.1 t ht).2.1
        have t0 := (sh.1 t ht).1
        have : y * 1 ≤ y * t.2.1 := Int.mul_le_mul_of_nonneg_left t1 y0
        omega
  have inG : ∀ x, inL (passG ts nd wt o) x ↔ inL (divH ts nd) x ∨ inL (thnG wt o (divT ts nd)) x := fun x => in_app
  have low : ∀ x, x ≤ o → inL ts x → inL (passG ts nd wt o) x := fun x l h => (inG x).mpr (.inl ((ih x).mpr ⟨h, by omega⟩))
  have tg := thn_end st hT P
  have eg : ∀ x, inL (passG ts nd wt o) x → o < x → inL (thnG wt o (divT ts nd)) x := fun x h l => by
    rcases (inG x).mp h with h | h
    · have q := (ih x).mp h
      have := hle x q.1 q.2
      omega
    · exact h
  have nxe : ∀ z, o < z → nxT (divT ts nd) z = nxT ts z := fun z oz => by
    obtain ⟨v, hv⟩ := nx_end R.srt R.en z
    rw [hv]
    obtain ⟨a, b, c⟩ := (nx_iff R.srt).mp hv
    refine (nx_iff st).mpr ⟨(it v).mpr ⟨a, ?_⟩, b, fun w hw l => c w ((it w).mp hw).1 l⟩
    by_cases q : y ≤ v
    · exact q
    · have := hle v a (by omega)
      omega
  refine ⟨o, y, ho, hy, o0, o1, y1, fo, ⟨sg, ?_, ?_, ?_, ?_⟩, ⟨?_, low, low o (Int.le_refl _) io, ?_⟩, st, fun t ht => ?_, ?_, ?_, ?_, sh, ?_, ?_⟩
  · intro t ht
    rcases List.mem_append.mp ht with ht | ht
    · exact (bh t ht).le (by omega)
    · exact (tb.1 t ht).le (by omega)
  · show (divH ts nd ++ _).length ≤ _
    rw [List.length_append]
    have := tb.2.1
    have := R.ln
    omega
  · refine tot_end sg fun i => ?_
    intro e
    obtain ⟨m, hm, l⟩ := (At_none sg.1 (by omega)).mp e
    obtain ⟨v, hv⟩ := at_end P.srt tg (show 0 ≤ m by exact tot_nn sg.1 m hm)
    have m0 := tot_nn sg.1 m hm
    have k1 : inL (passG ts nd wt o) v := (inG v).mpr (.inr (at_in P.srt m0 hv))
    have h1 := NB_tot sg.1 hm (v + 1)
    have e1 : NB (passG ts nd wt o) (v + 1) = NB (divH ts nd) (v + 1) + NB (thnG wt o (divT ts nd)) (v + 1) := NB_app _ _ _
    have e2 := NB_nn sh.1 (v + 1)
    have e3 := (At_iff P.srt m0).mp hv
    omega
  · have k1 := low fr fo (at_in R.srt (Int.le_refl 0) R.hd)
    have e := in_at sg k1
    have h0 : NB (passG ts nd wt o) fr = 0 := by
      have n0 := NB_nn sg.1 fr
      by_cases z : NB (passG ts nd wt o) fr = 0
      · exact z
      · obtain ⟨v, hv⟩ : ∃ v, At (passG ts nd wt o) 0 = some v := by
          cases q : At (passG ts nd wt o) 0 with
          | some v => exact ⟨v, rfl⟩
          | none =>
            obtain ⟨m, hm, l⟩ := (At_none sg.1 (Int.le_refl 0)).mp q
            have := NB_tot sg.1 hm fr
            omega
        have h5 := at_lt sg (Int.le_refl 0) (show 0 < NB (passG ts nd wt o) fr by omega) hv e
        have h6 : inL ts v := by
          rcases (inG v).mp (at_in sg (Int.le_refl 0) hv) with h | h
          · exact ((ih v).mp h).1
          · exact ((it v).mp (thn_in st P h).1).1
        have := at_le R.srt (Int.le_refl 0) (NB_nn R.srt.1 v) R.hd (in_at R.srt h6)
        omega
    rw [h0] at e
    exact e
  · intro x h
    rcases (inG x).mp h with h | h
    · exact ((ih x).mp h).1
    · exact ((it x).mp (thn_in st P h).1).1
  · intro x hx ox
    obtain ⟨z, hz⟩ := nx_end R.srt R.en (x + wt)
    obtain ⟨z1, z2, z3⟩ := (nx_iff R.srt).mp hz
    have key : inL (thnG wt o (divT ts nd)) z ∧ ∀ w, inL (thnG wt o (divT ts nd)) w → x < w → z ≤ w := by
      by_cases c : o < x
      · have hxt := eg x hx c
        have e := in_at P.srt hxt
        have n0 := NB_nn P.srt.1 x
        have e2 := P.next _ x n0 e
        rw [nxe _ (by omega), hz] at e2
        refine ⟨at_in P.srt (by omega) e2, fun w hw xw => ?_⟩
        have h3 := (in_mem P.srt.1 x).mp hxt
        have h4 := NB_mono P.srt.1 (show x + 1 ≤ w by omega)
        exact at_le P.srt (by omega) (by omega) e2 (in_at P.srt hw)
      · have : x = o := by omega
        subst this
        have e2 := P.first
        rw [nxe _ (by omega), hz] at e2
        exact ⟨at_in P.srt (Int.le_refl 0) e2, fun w hw xw => at_le P.srt (Int.le_refl 0) (NB_nn P.srt.1 w) e2 (in_at P.srt hw)⟩
    rw [hz]
    exact (nx_iff sg).mpr ⟨(inG z).mpr (.inr key.1), by omega, fun w hw l => key.2 w (eg w hw (by omega)) (by omega)⟩
  · exact (bt t ht).le (by omega)
  · have := R.ln
    have := List.length_append (as := divH ts nd) (bs := divT ts nd)
    omega
  · intro e
    have := (ih o).mpr ⟨io, oy⟩
    rw [e] at this
    obtain ⟨u, hu, _⟩ := this
    cases hu
  · intro t ht
    have hm : t ∈ divH ts nd := by
      obtain ⟨ini, e⟩ := List.getLast?_eq_some_iff.mp ht
      rw [e]
      exact List.mem_append_right _ (List.mem_singleton.mpr rfl)
    refine ⟨sh.1 t hm, (bh t hm).le (by omega), ?_⟩
    cases hc : t.2.2 with
    | none =>
      have q := (ih (t.1 + y * t.2.1)).mp ⟨t, hm, y, y0, (fun c e => by rw [hc] at e; cases e), rfl⟩
      have t1 := (sh.1 t hm).2.1
      have t0 := (sh.1 t hm).1
      have : y * 1 ≤ y * t.2.1 := Int.mul_le_mul_of_nonneg_left t1 y0
      omega
    | some c =>
      have q := (ih _).mp ⟨t, hm, in_lt_last (sh.1 t hm) hc⟩
      have l1 := hle _ q.1 q.2
      obtain ⟨u, hu, ho2⟩ := (ih o).mpr ⟨io, oy⟩
      have l2 : o ≤ t.1 + (c - 1) * t.2.1 := by
        obtain ⟨ini, e⟩ := List.getLast?_eq_some_iff.mp ht
        rw [e] at hu sh
        rcases List.mem_append.mp hu with hu | hu
        · obtain ⟨c', hc', l⟩ := (List.pairwise_append.mp sh.2).2.2 u hu t (List.mem_singleton.mpr rfl)
          obtain ⟨i, i0, hi, e⟩ := ho2
          have := hi c' hc'
          have ok := sh.1 u (List.mem_append_left _ hu)
          have ok2 := sh.1 t (List.mem_append_right _ (List.mem_singleton.mpr rfl))
          have : i * u.2.1 ≤ (c' - 1) * u.2.1 := Int.mul_le_mul_of_nonneg_right (by omega) (by have := ok.2.1; omega)
          have := Int.mul_nonneg (show 0 ≤ c - 1 by have := ok2.2.2 c hc; omega) (show 0 ≤ t.2.1 by have := ok2.2.1; omega)
          omega
        · rw [List.mem_singleton.mp hu] at ho2
          obtain ⟨i, i0, hi, e⟩ := ho2
          have := hi c hc
          have ok2 := sh.1 t (List.mem_append_right _ (List.mem_singleton.mpr rfl))
          have : i * t.2.1 ≤ (c - 1) * t.2.1 := Int.mul_le_mul_of_nonneg_right (by omega) (by have := ok2.2.1; omega)
          omega
      unfold lastV
      rw [hc]
      show V.int (t.1 + (c - 1) * t.2.1) = .int o
      congr 1
      omega
  · have := R.ln
    omega
  · exact ((At_iff R.srt (by omega)).mp ho).1
/-! ### states of breakers, and data of them -/
abbrev StD := Str × Int
def StAt (H : Hp) (x : V) (s : StD) : Prop := ∃ a, x = .ref a ∧ H a = some (.tup [.str s.1, .int s.2])
abbrev Sts (H : Hp) (xs : List V) (ss : List StD) : Prop := Paired (StAt H) xs ss
theorem StAt.nl {H H' : Hp} (k : NL H H') {x : V} {d : StD} (h : StAt H x d) : StAt H' x d := by
  obtain ⟨a, e, h⟩ := h
  exact ⟨a, e, k _ _ h fun _ z => nomatch z⟩
theorem Sts.nl {H H' : Hp} (k : NL H H') {xs : List V} {ss : List StD} (h : Sts H xs ss) : Sts H' xs ss := L2.Paired.mapP h fun _ _ z => z.nl k
theorem paired_len {α β : Type} {F : α → β → Prop} : ∀ {xs : List α} {ys : List β}, Paired F xs ys → xs.length = ys.length
  | _, _, .nil => rfl
  | _, _, .cons _ p => by rw [List.length_cons, List.length_cons, paired_len p]
theorem paired_get {α β : Type} {F : α → β → Prop} : ∀ {xs : List α} {ys : List β} {i : Nat} {x : α}, Paired F xs ys → xs[i]? = some x → ∃ y, ys[i]? = some y ∧ F x y
  | _, _, i, x, .nil, e => by cases e
  | _, _, 0, x, .cons h _, e => by cases e; exact ⟨_, rfl, h⟩
  | _, _, i + 1, x, .cons _ p, e => paired_get (i := i) p e
theorem paired_get2 {α β : Type} {F : α → β → Prop} : ∀ {xs : List α} {ys : List β} {i : Nat} {y : β}, Paired F xs ys → ys[i]? = some y → ∃ x, xs[i]? = some x ∧ F x y
  | _, _, i, x, .nil, e => by cases e
  | _, _, 0, x, .cons h _, e => by cases e; exact ⟨_, rfl, h⟩
  | _, _, i + 1, x, .cons _ p, e => paired_get2 (i := i) p e
theorem paired_app {α β : Type} {F : α → β → Prop} : ∀ {xs us : List α} {ys vs : List β}, Paired F xs ys → Paired F us vs → Paired F (xs ++ us) (ys ++ vs)
  | _, _, _, _, .nil, q => q
  | _, _, _, _, .cons h p, q => .cons h (paired_app p q)
theorem StAt.same {H H' : Hp} (s : Same H H') {x : V} {d : StD} (h : StAt H x d) : StAt H' x d := by
  obtain ⟨a, e, h⟩ := h
  exact ⟨a, e, s _ _ h⟩
theorem Sts.same {H H' : Hp} (s : Same H H') {xs : List V} {ss : List StD} (h : Sts H xs ss) : Sts H' xs ss := L2.Paired.mapP h fun _ _ z => z.same s
/-- the breaker passes a request at t -/
def psB (b : Tri) (s : StD) (t : Int) : Prop := s.1 = "open" → b.2.1 ≤ t - s.2
def hfS (s : StD) : StD := if s.1 = "open" then ("half", 0) else s
def okS (b : Tri) (s : StD) : StD := if (hfS s).1 = "half" ∧ (hfS s).2 + 1 < b.2.2 then ("half", (hfS s).2 + 1) else ("closed", 0)
def badS (b : Tri) (s : StD) (t : Int) : StD := if (hfS s).1 = "closed" ∧ (hfS s).2 + 1 < b.1 then ("closed", (hfS s).2 + 1) else ("open", t)
theorem sC_O : ¬ (("closed" : Str) = "open") := by decide +kernel
theorem sH_O : ¬ (("half" : Str) = "open") := by decide +kernel
theorem sO_C : ¬ (("open" : Str) = "closed") := by decide +kernel
theorem sH_C : ¬ (("half" : Str) = "closed") := by decide +kernel
theorem sC_H : ¬ (("closed" : Str) = "half") := by decide +kernel
theorem sO_H : ¬ (("open" : Str) = "half") := by decide +kernel
theorem hf_closed (n : Int) : hfS (("closed" : Str), n) = (("closed" : Str), n) := if_neg sC_O
theorem hf_half (n : Int) : hfS (("half" : Str), n) = (("half" : Str), n) := if_neg sH_O
theorem hf_open (n : Int) : hfS (("open" : Str), n) = (("half" : Str), 0) := if_pos rfl
/-- what is told of a request that k of n breakers pass -/
def outV (n k : Nat) (inS : Bool) : List V := if k < n then [.str "rejected", .int k] else if inS then [.str "failed"] else [.str "served"]
def okW (s : StD) : Prop := s.1 = "closed" ∨ s.1 = "open" ∨ s.1 = "half"
def stD (s : StD) : PyData := .tuple [.str s.1, .int s.2]
theorem Sts.dp {K : PySem.W.Frag} {H : Hp} : ∀ {xs : List V} {ss : List StD}, Sts H xs ss → DpAll K H xs (ss.map stD)
  | _, _, .nil => .nil
  | _, _, .cons ⟨a, e, h⟩ t => by
    subst e
    exact .cons (.tup (SqT.of h) (.cons (.str _) (.cons (.int _) .nil))) (Sts.dp t)
theorem stD_eq (s u : StD) : PyData.eqv (stD s) (stD u) = decide (s = u) := by
  obtain ⟨a, b⟩ := s
  obtain ⟨a', b'⟩ := u
  simp only [stD, PyData.eqv, PyData.eqvAll, Bool.and_true]
  rw [Bool.eq_iff_iff]
  simp [Prod.ext_iff]
theorem stDs_eq : ∀ ss us : List StD, PyData.eqvAll (ss.map stD) (us.map stD) = decide (ss = us)
  | [], [] => by simp [PyData.eqvAll]
  | [], _ :: _ => by simp [PyData.eqvAll]
  | _ :: _, [] => by simp [PyData.eqvAll]
  | t :: ts, u :: us => by
    rw [List.map_cons, List.map_cons, PyData.eqvAll, stD_eq, stDs_eq ts us, Bool.eq_iff_iff]
    simp
theorem sok_W {s : StD} (h : okW s) : PyData.strOk s.1 = true := by
  obtain ⟨a, b⟩ := s
  rcases h with h | h | h
  · have h : a = "closed" := h
    subst h
    show PyData.strOk "closed" = true
    decide +kernel
  · have h : a = "open" := h
    subst h
    show PyData.strOk "open" = true
    decide +kernel
  · have h : a = "half" := h
    subst h
    show PyData.strOk "half" = true
    decide +kernel
theorem canSts : ∀ {ss : List StD}, (∀ s ∈ ss, okW s) → PyData.canLayAll0 (ss.map stD) = true
  | [], _ => by simp [PyData.canLayAll0]
  | t :: ts, h => by
    rw [List.map_cons, PyData.canLayAll0, canSts fun s hs => h s (List.mem_cons_of_mem _ hs)]
    simp [stD, PyData.canLay0, PyData.canLayAll0, sok_W (h t (List.mem_cons_self ..))]
theorem depSts : ∀ ss : List StD, PyData.depthAll (ss.map stD) ≤ 10
  | [] => by simp [PyData.depthAll]
  | t :: ts => by
    have := depSts ts
    rw [List.map_cons, PyData.depthAll]
    have h2 : (stD t).depth ≤ 10 := by simp [stD, PyData.depth, PyData.depthAll]
    omega
theorem shSts {ss : List StD} (h : ∀ s ∈ ss, okW s) : SeqAt.shaped (.list (ss.map stD)) = true := by
  refine Bool.and_eq_true_iff.mpr ⟨?_, decide_eq_true ?_⟩
  · rw [PyData.canLay0]
    exact canSts h
  · have := depSts ss
    rw [PyData.depth]
    omega
theorem Sts.dpl {K : PySem.W.Frag} {H : Hp} {l : Addr} {ys : List V} {ss : List StD} (h : H l = some (.lst ys)) (s : Sts H ys ss) : Dp K H (.ref l) (.list (ss.map stD)) := .lst (SqL.of h) s.dp
theorem eqSts (ss us : List StD) : PyData.eqv (.list (ss.map stD)) (.list (us.map stD)) = decide (ss = us) := by
  rw [PyData.eqv]
  exact stDs_eq ss us
/-! ### the states before all requests -/
theorem sts_rep {H : Hp} {t : Addr} {d : StD} (h : H t = some (.tup [.str d.1, .int d.2])) : ∀ n : Nat, Sts H (List.replicate n (V.ref t)) (List.replicate n d)
  | 0 => .nil
  | n + 1 => .cons ⟨t, rfl, h⟩ (sts_rep h n)
def spClosed : Sp := fun vs H Q _ => ∃ n : Nat, vs = [.int n] ∧ n ≤ 100 ∧ ∀ l ys H', H' l = some (.lst ys) → Sts H' ys (List.replicate n ("closed", 0)) → Same H H' → H l = none → Q (.ref l) H'
section
variable {P : Program} {w : World} {K : PySem.W.Frag} {mg : Str → Option Value} {base : Heap} {L : LA}
abbrev N_closedstates : List Str := ["number"]
theorem sc_closedstates : FnScope N_closedstates ["number"] (defScope st_closed_states) := ⟨rfl, rfl, rfl, by decide +kernel, rfl, by decide +kernel, by decide +kernel⟩
theorem fn_closedstates (T : LX K mg L) {fd : FuncData} (F : Fun K "closed_states" "closed_states" st_closed_states L.f_closed_states fd) : FnOk P w K mg base CX0 3 L.f_closed_states fd ["number"] (spClosed) := by
  have nd := sc_closedstates.nd
  refine F.ok sc_closedstates (fun vs H Q E h => ?_) (fun cdv A outer S H vs Q E hr h => ?_)
  · obtain ⟨n, rfl, _⟩ := h
    rfl
  · obtain ⟨n, rfl, hn, k⟩ := h
    refine ⟨_, (pss_one (ps_ret (pe_op op_rep (pe_lst (pa_cons (pe_tup (pa_cons pe_str (pa_cons pe_int pa_nil))) pa_nil)) (pv 0)))), ?_⟩
    refine ⟨(by show 2 ≤ sizeLine; decide), fun t ht => ⟨(by show 1 ≤ sizeLine; decide), fun l hl => ?_⟩⟩
    have s1 := Same.upd (o := .tup [.str "closed", .int 0]) ht
    have s2 := s1.trans (Same.upd (o := .lst [.ref t]) hl)
    refine ⟨_, rfl, ?_⟩
    refine ⟨l, _, [.ref t], rfl, rfl, upd_same, by omega, by omega, small2 (by rw [Int.toNat_natCast]; show 1 * n ≤ 100000; omega), fun r hr => ?_⟩
    have s3 := s2.trans (Same.upd (o := .lst (List.replicate (n : Int).toNat [V.ref t]).flatten) hr)
    refine k r _ _ upd_same ?_ s3 (none_of s2 hr)
    rw [Int.toNat_natCast, List.flatten_replicate_singleton]
    have ht3 : (upd (upd (upd H t (.tup [.str "closed", .int 0])) l (.lst [.ref t])) r (.lst (List.replicate n (V.ref t)))) t = some (.tup [.str "closed", .int 0]) := by
      have h1 : (upd (upd H t (.tup [.str "closed", .int 0])) l (.lst [.ref t])) t = some (.tup [.str "closed", .int 0]) := (Same.upd hl) _ _ upd_same
      rw [upd_ne (ne_of_none h1 hr)]
      exact h1
    exact sts_rep ht3 n
theorem ok_closedstates (T : LX K mg L) : Cal P w K mg base "closed_states" 3 L.f_closed_states ["number"] (spClosed) := T.d_closed_states.cal fun fd F => fn_closedstates T F
end
/-! ### what no change of an older list can touch -/
def Fr (H0 H : Hp) : Hp := fun b => match H b with
  | some (.lst xs) => (match H0 b with
    | none => some (.lst xs)
    | some _ => none)
  | o => o
theorem Fr.nol {H0 H : Hp} {b : Addr} {o : HO} (h : H b = some o) (n : ∀ xs, o ≠ .lst xs) : Fr H0 H b = some o := by
  unfold Fr
  rw [h]
  cases o with
  | lst xs => exact absurd rfl (n xs)
  | _ => rfl
theorem Fr.new {H0 H : Hp} {b : Addr} (h : H0 b = none) : Fr H0 H b = H b := by
  unfold Fr
  cases e : H b with
  | none => rfl
  | some o =>
    cases o with
    | lst xs =>
      show (match H0 b with | none => some (HO.lst xs) | some _ => none) = _
      rw [h]
    | _ => rfl
theorem Fr.inv {H0 H : Hp} {b : Addr} {o : HO} (h : Fr H0 H b = some o) : H b = some o ∧ (H0 b = none ∨ ∀ xs, o ≠ .lst xs) := by
  unfold Fr at h
  cases e : H b with
  | none => rw [e] at h; cases h
  | some u =>
    rw [e] at h
    cases u with
    | lst xs =>
      have h : (match H0 b with | none => some (HO.lst xs) | some _ => none) = some o := h
      cases q : H0 b with
      | none => rw [q] at h; cases h; exact ⟨rfl, .inl rfl⟩
      | some z => rw [q] at h; cases h
    | _ => cases h; exact ⟨rfl, .inr fun xs z => nomatch z⟩
theorem Fr.of {H0 H : Hp} {b : Addr} {o : HO} (h : H b = some o) (n : H0 b = none ∨ ∀ xs, o ≠ .lst xs) : Fr H0 H b = some o := by
  rcases n with n | n
  · rw [Fr.new n]; exact h
  · exact Fr.nol h n
theorem Fr.le {H0 H : Hp} : Same (Fr H0 H) H := fun b o e => (Fr.inv e).1
theorem Fr.ko {H0 H H' : Hp} (k : KO H0 H H') : Same (Fr H0 H) (Fr H0 H') := fun b o e => by
  obtain ⟨h, n⟩ := Fr.inv e
  exact Fr.of (k b o h n) n
theorem Fr.same {H0 H H' : Hp} (s : Same H H') : Same (Fr H0 H) (Fr H0 H') := Fr.ko (KO.same s)
theorem Fr.kp {H0 H H' : Hp} {a : Addr} {xs : List V} (k : Kp a H H') (h : H0 a ≠ none) (ha : H a = some (.lst xs)) : Same (Fr H0 H) (Fr H0 H') := Fr.ko (KO.kp k h ha)
theorem Fr.base' {H0 H1 H : Hp} (s : ∀ b, H1 b = none → H0 b = none) : Same (Fr H1 H) (Fr H0 H) := fun b o e => by
  obtain ⟨h, n⟩ := Fr.inv e
  exact Fr.of h (n.elim (fun n => .inl (s b n)) .inr)
theorem Fr.base {H0 H1 H : Hp} (s : Same H0 H1) : Same (Fr H1 H) (Fr H0 H) := Fr.base' fun b h => none_of s h
theorem Fr.nl {H0 H H' : Hp} (k : NL H H') : NL (Fr H0 H) (Fr H0 H') := fun b o e n => Fr.nol (k b o (Fr.le b o e) n) n
/-! ### states, lists of trains, and spells in the heap -/
def RunAt (H : Hp) (x : V) (ts : List Trn) : Prop := ∃ a xs, x = .ref a ∧ H a = some (.lst xs) ∧ Trs H xs ts
abbrev Rns (H : Hp) (xs : List V) (rs : List (List Trn)) : Prop := Paired (RunAt H) xs rs
theorem RunAt.same {H H' : Hp} (s : Same H H') {x : V} {ts : List Trn} (h : RunAt H x ts) : RunAt H' x ts := by
  obtain ⟨a, xs, e, h, t⟩ := h
  exact ⟨a, xs, e, s _ _ h, t.same s⟩
theorem Rns.same {H H' : Hp} (s : Same H H') {xs : List V} {rs : List (List Trn)} (h : Rns H xs rs) : Rns H' xs rs := L2.Paired.mapP h fun _ _ z => z.same s
/-- what is kept of a spell -/
structure SpD where
  first : Int
  rcv : Option Int
  bg : List StD
  rs : List (List Trn)
  op : List (Option Int)
def spF (f : Int) (r : Option Int) (aB aR aO : Addr) : List (Str × V) := putF "opened" (.ref aO) (putF "runs" (.ref aR) (putF "begun" (.ref aB) (putF "recovered" (cV r) (putF "first" (.int f) []))))
theorem spF_first (f : Int) (r : Option Int) (aB aR aO : Addr) : (spF f r aB aR aO).lookup ("first" : Str) = some (.int f) := by
  unfold spF
  rw [lookup_putF, if_neg (by decide +kernel), lookup_putF, if_neg (by decide +kernel), lookup_putF, if_neg (by decide +kernel), lookup_putF, if_neg (by decide +kernel), lookup_putF, if_pos rfl]
theorem spF_rcv (f : Int) (r : Option Int) (aB aR aO : Addr) : (spF f r aB aR aO).lookup ("recovered" : Str) = some (cV r) := by
  unfold spF
  rw [lookup_putF, if_neg (by decide +kernel), lookup_putF, if_neg (by decide +kernel), lookup_putF, if_neg (by decide +kernel), lookup_putF, if_pos rfl]
theorem spF_bg (f : Int) (r : Option Int) (aB aR aO : Addr) : (spF f r aB aR aO).lookup ("begun" : Str) = some (.ref aB) := by
  unfold spF
  rw [lookup_putF, if_neg (by decide +kernel), lookup_putF, if_neg (by decide +kernel), lookup_putF, if_pos rfl]
theorem spF_rs (f : Int) (r : Option Int) (aB aR aO : Addr) : (spF f r aB aR aO).lookup ("runs" : Str) = some (.ref aR) := by
  unfold spF
  rw [lookup_putF, if_neg (by decide +kernel), lookup_putF, if_pos rfl]
theorem spF_op (f : Int) (r : Option Int) (aB aR aO : Addr) : (spF f r aB aR aO).lookup ("opened" : Str) = some (.ref aO) := by
  unfold spF
  rw [lookup_putF, if_pos rfl]
structure SpAt (C : Addr) (H : Hp) (p aB aR aO : Addr) (xB xR : List V) (d : SpD) : Prop where
  ob : ∃ dx, H p = some (.ins C dx (spF d.first d.rcv aB aR aO))
  hB : H aB = some (.lst xB)
  sB : Sts H xB d.bg
  hR : H aR = some (.lst xR)
  sR : Rns H xR d.rs
  hO : H aO = some (.lst (d.op.map cV))
theorem SpAt.same {C : Addr} {H H' : Hp} {p aB aR aO : Addr} {xB xR : List V} {d : SpD} (h : SpAt C H p aB aR aO xB xR d) (s : Same H H') : SpAt C H' p aB aR aO xB xR d := by
  obtain ⟨dx, e⟩ := h.ob
  exact ⟨⟨dx, s _ _ e⟩, s _ _ h.hB, h.sB.same s, s _ _ h.hR, h.sR.same s, s _ _ h.hO⟩
def SpV (C : Addr) (H : Hp) (x : V) (d : SpD) : Prop := ∃ p aB aR aO xB xR, x = .ref p ∧ SpAt C H p aB aR aO xB xR d
theorem SpV.same {C : Addr} {H H' : Hp} {x : V} {d : SpD} (h : SpV C H x d) (s : Same H H') : SpV C H' x d := by
  obtain ⟨p, aB, aR, aO, xB, xR, e, h⟩ := h
  exact ⟨p, aB, aR, aO, xB, xR, e, h.same s⟩
abbrev SpVs (C : Addr) (H : Hp) (xs : List V) (ds : List SpD) : Prop := Paired (SpV C H) xs ds
theorem SpVs.same {C : Addr} {H H' : Hp} {xs : List V} {ds : List SpD} (h : SpVs C H xs ds) (s : Same H H') : SpVs C H' xs ds := L2.Paired.mapP h fun _ _ z => z.same s
theorem st_turn {H Hb Hc : Hp} {D1 tp : Addr} {ys : List V} {ss : List StD} {d : StD} (hD : Hc D1 = some (.lst ys)) (ty : Sts (Fr H Hc) ys ss) (sc : Same Hb Hc) (hb : Hb D1 = none) (h0 : Same H Hb) (htp : Hc tp = none) (hl : ys.length ≤ 1000) :
    ∃ acc, (upd Hc tp (.tup [.str d.1, .int d.2])) D1 = some (.lst acc) ∧ acc.length < sizeLine ∧ ∃ ys', (upd (upd Hc tp (.tup [.str d.1, .int d.2])) D1 (.lst (acc ++ [.ref tp]))) D1 = some (.lst ys') ∧
      Sts (Fr H (upd (upd Hc tp (.tup [.str d.1, .int d.2])) D1 (.lst (acc ++ [.ref tp])))) ys' (ss ++ [d]) ∧ Same Hb (upd (upd Hc tp (.tup [.str d.1, .int d.2])) D1 (.lst (acc ++ [.ref tp]))) := by
  have s1 := Same.upd (o := .tup [.str d.1, .int d.2]) htp
  have hD1 := s1 _ _ hD
  have n2 := NL.upd (o := .lst (ys ++ [.ref tp])) hD1
  refine ⟨ys, hD1, small1 (by omega), _, upd_same, ?_, fun b o e => ?_⟩
  · refine paired_app ((ty.same (Fr.same s1)).nl (Fr.nl n2)) (.cons ⟨tp, rfl, ?_⟩ .nil)
    rw [Fr.new (none_of (h0.trans sc) htp)]
    exact n2 _ _ upd_same fun _ z => nomatch z
  · rw [upd_ne (ne_of_none e hb)]
    exact s1 _ _ (sc _ _ e)
/-! ### promises of the runs -/
def spDiv : Sp := fun vs H Q _ => ∃ a xs ts c y n m, vs = [.ref a, .int c] ∧ H a = some (.lst xs) ∧ Trs H xs ts ∧ Srt ts ∧ (∀ t ∈ ts, BT n t) ∧ ts.length ≤ 5000 ∧ n ≤ 4900 ∧ 0 ≤ c ∧ c ≤ PB m ∧ m ≤ 4000 ∧ At ts c = some y ∧
  ∀ t l1 l2 z1 z2 H', H' t = some (.tup [.ref l1, .ref l2]) → H' l1 = some (.lst z1) → Trs H' z1 (divH ts c) → H' l2 = some (.lst z2) → Trs H' z2 (divT ts c) → Same H H' → H t = none → H l1 = none → H l2 = none → Q (.ref t) H'
def spNb : Sp := fun vs H Q _ => ∃ a xs ts z, vs = [.ref a, .int z] ∧ H a = some (.lst xs) ∧ Trs H xs ts ∧ (∀ t ∈ ts, OkTr t) ∧ (∀ t ∈ ts, BT 5000 t) ∧ ts.length ≤ 5000 ∧ ∀ H', Same H H' → Q (.int (NB ts z)) H'
def spTf : Sp := fun vs H Q _ => ∃ a xs ts z n y, vs = [.ref a, .int z] ∧ H a = some (.lst xs) ∧ Trs H xs ts ∧ Srt ts ∧ (∀ t ∈ ts, BT n t) ∧ n ≤ 4900 ∧ z ≤ PB 4900 ∧ ts.length ≤ 5000 ∧ nxT ts z = some y ∧ Q (.int y) H
theorem NB_sum : ∀ (ts : List Trn) (z : Int), NB ts z = (ts.map fun t => nbT t z).sum
  | [], _ => rfl
  | t :: r, z => by
    show nbT t z + NB r z = _
    rw [NB_sum r z, List.map_cons, List.sum_cons]
def dvR : List Trn → Int → Int
  | [], l => l
  | t :: r, l => dvR r (l - tkn t l)
theorem tkn_le {t : Trn} (h : OkTr t) {l : Int} (l0 : 0 ≤ l) : 0 ≤ tkn t l ∧ tkn t l ≤ l := by
  unfold tkn
  cases hc : t.2.2 with
  | none => exact ⟨l0, Int.le_refl _⟩
  | some c =>
    have := h.2.2 c hc
    show 0 ≤ (if c < l then c else l) ∧ (if c < l then c else l) ≤ l
    split <;> omega
theorem dvR_le : ∀ {ts : List Trn}, (∀ t ∈ ts, OkTr t) → ∀ {l : Int}, 0 ≤ l → 0 ≤ dvR ts l ∧ dvR ts l ≤ l
  | [], _, l, l0 => ⟨l0, Int.le_refl _⟩
  | t :: r, h, l, l0 => by
    have tk := tkn_le (h t (List.mem_cons_self ..)) l0
    have ih := dvR_le (ts := r) (fun u hu => h u (List.mem_cons_of_mem _ hu)) (l := l - tkn t l) (by omega)
    show 0 ≤ dvR r (l - tkn t l) ∧ dvR r (l - tkn t l) ≤ l
    omega
theorem dvR_app : ∀ (a b : List Trn) (l : Int), dvR (a ++ b) l = dvR b (dvR a l)
  | [], _, _ => rfl
  | t :: a, b, l => dvR_app a b _
theorem divH_app : ∀ (a b : List Trn) (l : Int), divH (a ++ b) l = divH a l ++ divH b (dvR a l)
  | [], _, _ => rfl
  | t :: a, b, l => by
    show partL t 0 (some (tkn t l)) ++ divH (a ++ b) _ = partL t 0 (some (tkn t l)) ++ divH a _ ++ divH b _
    rw [divH_app a b, List.append_assoc]
    rfl
theorem divT_app : ∀ (a b : List Trn) (l : Int), divT (a ++ b) l = divT a l ++ divT b (dvR a l)
  | [], _, _ => rfl
  | t :: a, b, l => by
    show partL t (tkn t l) t.2.2 ++ divT (a ++ b) _ = partL t (tkn t l) t.2.2 ++ divT a _ ++ divT b _
    rw [divT_app a b, List.append_assoc]
    rfl
section
variable {P : Program} {w : World} {K : PySem.W.Frag} {mg : Str → Option Value} {base : Heap} {L : LA}
abbrev N_timefrom : List Str := ["trains", "time", "train", "before"]
theorem sc_timefrom : FnScope N_timefrom ["trains", "time"] (defScope st_time_from) := ⟨rfl, rfl, rfl, by decide +kernel, rfl, by decide +kernel, by decide +kernel⟩
theorem fn_timefrom (T : LX K mg L) {fd : FuncData} (F : Fun K "time_from" "time_from" st_time_from L.f_time_from fd) : FnOk P w K mg base CX0 4 L.f_time_from fd ["trains", "time"] (spTf) := by
  have G_timesbefore := ok_timesbefore (P := P) (w := w) (base := base) T
  have nd := sc_timefrom.nd
  refine F.ok sc_timefrom (fun vs H Q E h => ?_) (fun cdv A outer S H vs Q E hr h => ?_)
  · obtain ⟨a, xs, ts, z, n, y, rfl, _⟩ := h
    rfl
  · obtain ⟨a, xs, ts, z, n, y, rfl, ha, hx, hs, bt, n4, zb, hl, e, k⟩ := h
    refine ⟨_, (pss_cons (ps_for PassesOwn.never rfl (pi_list (pv 0)) (pg_name (i := 2) nd rfl (Or.inl rfl)) (pss_cons (ps_set (i := 3) nd rfl (Or.inl rfl) (pe_c G_timesbefore (hr.mono (by decide)) rfl (pa_cons (pv 2) (pa_cons (pv 1) pa_nil))))
       (pss_one (ps_if (PW.pt (pw_or (pt_cmp (pc_isN (pe_ix (r := rIxT K) ix_tup (pv 2) pe_int (fun _ _ => rfl)))) (pw_or1 (pt_cmpR op_lt (pv 3) (pe_ix (r := rIxT K) ix_tup (pv 2) pe_int (fun _ _ => rfl)) (nomark _))))) (pss_one (ps_ret (pe_op op_add (pe_ix (r := rIxT K) ix_tup (pv 2) pe_int (fun _ _ => rfl)) (pe_op op_mulW (pv 3) (pe_ix (r := rIxT K) ix_tup (pv 2) pe_int (fun _ _ => rfl)))))) pss_nil))))
       (pss_one (ps_ret pe_non))), ?_⟩
    refine ⟨_, rfl, a, rfl, ⟨_, SqL.of ha⟩, ?_⟩
    refine for_list (K := K) (a := a) (xs := xs) (fun i σ H2 => ∃ v2 v3 : Option V, σ = [some (.ref a), some (.int z), v2, v3] ∧ H2 = H ∧ nxT (ts.drop i) z = some y) ⟨none, none, rfl, rfl, e⟩ (fun i σ H2 _ ⟨_, _, _, e2, _⟩ => by rw [e2]; exact SqL.of ha) ?_ ?_
    · rintro i x σ H2 hxi ⟨v2, v3, rfl, rfl, ei⟩
      obtain ⟨t, ht, hxt⟩ := hx.get hxi
      have htm := List.mem_of_getElem? ht
      have hj := (List.getElem?_eq_some_iff.mp ht).1
      have dr : ts.drop i = t :: ts.drop (i + 1) := by
        rw [List.drop_eq_getElem_cons hj]
        congr 1
        exact (List.getElem?_eq_some_iff.mp ht).2
      rw [dr] at ei
      have sd : Srt (t :: ts.drop (i + 1)) := by
        rw [← dr]
        exact ⟨fun u hu => hs.1 u (List.mem_of_mem_drop hu), hs.2.sublist (List.drop_sublist _ _)⟩
      have ok := hs.1 t htm
      have b5 := (bt t htm).le (show n ≤ 5000 by omega)
      obtain ⟨b, rfl, hb⟩ := hxt
      refine ⟨_, rfl, _, rfl, .ref b, t, z, rfl, ⟨b, rfl, hb⟩, ok, b5, ?_⟩
      refine ⟨_, rfl, b, _, 2, cV t.2.2, rfl, rfl, SqT.of hb, rfl, ?_⟩
      have p1 := ok.2.1
      have p2 : t.2.1 ≤ BB := b5.p
      have n0 := nbT_nn ok z
      have nB : nbT t z ≤ BB := Int.le_trans (nbT_le_pb ok zb) (PB_le (by decide))
      have b1 := BB1
      have cm : CMulW (nbT t z) t.2.1 := mulBB n0 (by omega) (by omega) (by omega)
      cases hc : t.2.2 with
      | none =>
        rw [nx_head_in sd rfl (fun c e => by rw [hc] at e; cases e)] at ei
        cases ei
        exact ⟨_, rfl, iteT ⟨_, rfl, b, _, 0, .int t.1, rfl, rfl, SqT.of hb, rfl, _, rfl, _, rfl, b, _, 1, .int t.2.1, rfl, rfl, SqT.of hb, rfl, _, _, rfl, rfl, cm, _, _, rfl, rfl, k⟩⟩
      | some c =>
        refine ⟨_, rfl, iteF ⟨_, rfl, _, rfl, b, _, 2, .int c, rfl, rfl, SqT.of hb, (by show some (cV t.2.2) = _; rw [hc]; rfl), _, _, rfl, rfl, _, rfl, ?_⟩⟩
        refine ite2 (fun q => ?_) (fun q => ?_)
        · have q' : nbT t z < c := of_decide_eq_true q
          rw [nx_head_in sd rfl (fun c' e => by rw [hc] at e; cases e; exact q')] at ei
          cases ei
          exact ⟨_, rfl, b, _, 0, .int t.1, rfl, rfl, SqT.of hb, rfl, _, rfl, _, rfl, b, _, 1, .int t.2.1, rfl, rfl, SqT.of hb, rfl, _, _, rfl, rfl, cm, _, _, rfl, rfl, k⟩
        · have q' : ¬ nbT t z < c := fun h => q (decide_eq_true h)
          have := nbT_le (x := z) hc
          rw [nx_tail sd hc (by omega)] at ei
          exact ⟨_, _, rfl, rfl, ei⟩
    · rintro σ H2 ⟨v2, v3, rfl, rfl, ei⟩
      rw [hx.len, List.drop_length] at ei
      cases ei
theorem ok_timefrom (T : LX K mg L) : Cal P w K mg base "time_from" 4 L.f_time_from ["trains", "time"] (spTf) := T.d_time_from.cal fun fd F => fn_timefrom T F
abbrev N_dividedruns : List Str := ["trains", "count", "head", "tail", "left", "train", "taken"]
theorem sc_dividedruns : FnScope N_dividedruns ["trains", "count"] (defScope st_divided_runs) := ⟨rfl, rfl, rfl, by decide +kernel, rfl, by decide +kernel, by decide +kernel⟩
theorem fn_dividedruns (T : LX K mg L) {fd : FuncData} (F : Fun K "divided_runs" "divided_runs" st_divided_runs L.f_divided_runs fd) : FnOk P w K mg base CX0 4 L.f_divided_runs fd ["trains", "count"] (spDiv) := by
  have G_partof := ok_partof (P := P) (w := w) (base := base) T
  have nd := sc_dividedruns.nd
  refine F.ok sc_dividedruns (fun vs H Q E h => ?_) (fun cdv A outer S H vs Q E hr h => ?_)
  · obtain ⟨a, xs, ts, c, y, n, m, rfl, _⟩ := h
    rfl
  · obtain ⟨a, xs, ts, c, y, n, m, rfl, ha, hx, hs, bt, hl, n4, c0, cm, m4, e, k⟩ := h
    refine ⟨_, (pss_cons (ps_set (i := 2) nd rfl (Or.inl rfl) (pe_lst pa_nil))
       (pss_cons (ps_set (i := 3) nd rfl (Or.inl rfl) (pe_lst pa_nil))
       (pss_cons (ps_set (i := 4) nd rfl (Or.inl rfl) (pv 1))
       (pss_cons (ps_for PassesOwn.never rfl (pi_list (pv 0)) (pg_name (i := 5) nd rfl (Or.inl rfl)) (C8.pss_cut (ps_set (i := 6) nd rfl (Or.inl rfl) (pe_ifExp (pt_cmp (pc_isN (pe_ix (r := rIxT K) ix_tup (pv 5) pe_int (fun _ _ => rfl)))) (pv 4) (pe_callB (call_min2 rfl) (by rfl) T.b_min (by decide +kernel) (pa_cons (pv 4) (pa_cons (pe_ix (r := rIxT K) ix_tup (pv 5) pe_int (fun _ _ => rfl)) pa_nil)))))
       (pss_cons (ps_expr (pe_bm PySem.F.plainAttrs_list PySem.F.slot_list_extend PySem.F.type_list_extend mt_extend (pv 2) (pa_cons (pe_c G_partof (hr.mono (by decide)) rfl (pa_cons (pv 5) (pa_cons pe_int (pa_cons (pv 6) pa_nil)))) pa_nil)))
       (pss_cons (ps_expr (pe_bm PySem.F.plainAttrs_list PySem.F.slot_list_extend PySem.F.type_list_extend mt_extend (pv 3) (pa_cons (pe_c G_partof (hr.mono (by decide)) rfl (pa_cons (pv 5) (pa_cons (pv 6) (pa_cons (pe_ix (r := rIxT K) ix_tup (pv 5) pe_int (fun _ _ => rfl)) pa_nil)))) pa_nil)))
       (pss_one (ps_set (i := 4) nd rfl (Or.inl rfl) (pe_op op_sub (pv 4) (pv 6))))))))
       (pss_one (ps_ret (pe_tup (pa_cons (pv 2) (pa_cons (pv 3) pa_nil))))))))), ?_⟩
    refine ⟨(by show 0 ≤ sizeLine; decide), fun l1 hl1 => ⟨(by show 0 ≤ sizeLine; decide), fun l2 hl2 => ⟨_, rfl, ?_⟩⟩⟩
    have s1 := Same.upd (o := .lst []) hl1
    have s2 := s1.trans (Same.upd (o := .lst []) hl2)
    have n12 : l1 ≠ l2 := ne_of_none (upd_same (H := H) (a := l1) (o := .lst [])) hl2
    have hl2H : H l2 = none := none_of s1 hl2
    refine ⟨_, rfl, a, rfl, ⟨_, SqL.of (s2 _ _ ha)⟩, ?_⟩
    refine for_list (K := K) (a := a) (xs := xs) (fun i σ H2 => ∃ v5 v6, ∃ z1 z2 : List V, σ = [some (.ref a), some (.int c), some (.ref l1), some (.ref l2), some (.int (dvR (ts.take i) c)), v5, v6] ∧ H2 l1 = some (.lst z1) ∧ Trs H2 z1 (divH (ts.take i) c) ∧ H2 l2 = some (.lst z2) ∧ Trs H2 z2 (divT (ts.take i) c) ∧ Same H H2 ∧ z1.length ≤ i ∧ z2.length ≤ i)
      ⟨none, none, [], [], rfl, by rw [upd_ne n12, upd_same], .nil, upd_same, .nil, s2, Nat.le_refl _, Nat.le_refl _⟩ (fun i σ H2 _ ⟨_, _, _, _, _, _, _, _, _, s, _⟩ => SqL.of (s _ _ ha)) ?_ ?_
    · rintro i x σ H2 hxi ⟨v5, v6, z1, z2, rfl, h1, t1, h2, t2, s3, zl1, zl2⟩
      obtain ⟨t, ht, hxt⟩ := hx.get hxi
      have htm := List.mem_of_getElem? ht
      have hj := (List.getElem?_eq_some_iff.mp ht).1
      have ok := hs.1 t htm
      have tnx : ts.take (i + 1) = ts.take i ++ [t] := by rw [List.take_add_one, ht]; rfl
      obtain ⟨l, hlf⟩ : ∃ l, l = dvR (ts.take i) c := ⟨_, rfl⟩
      have l0 : 0 ≤ l ∧ l ≤ c := by rw [hlf]; exact dvR_le (fun u hu => hs.1 u (List.mem_of_mem_take hu)) c0
      rw [← hlf]
      have tk := tkn_le ok l0.1
      obtain ⟨b, rfl, hb⟩ := hxt.same s3
      refine ⟨fun σ' H' => σ' = [some (.ref a), some (.int c), some (.ref l1), some (.ref l2), some (.int l), some (.ref b), some (.int (tkn t l))] ∧ H' = H2, ?_, ?_⟩
      · refine ⟨_, rfl, b, _, 2, cV t.2.2, rfl, rfl, SqT.of hb, rfl, ?_⟩
        unfold tkn
        cases hc : t.2.2 with
        | none => exact ⟨_, rfl, iteT ⟨_, rfl, rfl, rfl⟩⟩
        | some k' => exact ⟨_, rfl, iteF ⟨_, rfl, _, rfl, b, _, 2, .int k', rfl, rfl, SqT.of hb, (by show some (cV t.2.2) = _; rw [hc]; rfl), l, k', rfl, rfl, rfl⟩⟩
      rintro σ' H' ⟨rfl, rfl⟩
      have p1 := ok.2.1
      have b5 := bt t htm
      have p2 : t.2.1 ≤ BB := Int.le_trans b5.p (PB_le (by omega))
      have b1 := BB1
      have tB : tkn t l ≤ BB := Int.le_trans (Int.le_trans tk.2 (Int.le_trans l0.2 cm)) (PB_le (by omega))
      refine ⟨_, rfl, .inl ⟨rfl, _, SqL.of h1⟩, _, rfl, _, rfl, .ref b, t, 0, some (tkn t l), rfl, ⟨b, rfl, hb⟩, mulBB (Int.le_refl 0) (by omega) (by omega) (by omega), fun q zs H3 hq tz s4 nq => ⟨l1, q, z1, zs, rfl, rfl, s4 _ _ h1, hq, small2 (by have := tz.len; have := part1 t 0 (some (tkn t l)); omega), ?_⟩⟩
      have zsl : zs.length ≤ 1 := by rw [tz.len]; exact part1 _ _ _
      have hb3 := s4 _ _ hb
      have n1 := NL.upd (o := .lst (z1 ++ zs)) (s4 _ _ h1)
      have h2' : (upd H3 l1 (.lst (z1 ++ zs))) l2 = some (.lst z2) := by rw [upd_ne n12.symm]; exact s4 _ _ h2
      have hb4 : (upd H3 l1 (.lst (z1 ++ zs))) b = some (.tup (TrV t)) := n1 _ _ hb3 fun _ z => nomatch z
      refine ⟨_, rfl, .inl ⟨rfl, _, SqL.of h2'⟩, _, rfl, _, rfl, _, rfl, b, _, 2, cV t.2.2, rfl, rfl, SqT.of hb4, rfl, .ref b, t, tkn t l, t.2.2, rfl, ⟨b, rfl, hb4⟩, mulBB tk.1 (by omega) (by omega) (by omega), fun q2 zs2 H4 hq2 tz2 s5 nq2 => ⟨l2, q2, z2, zs2, rfl, rfl, s5 _ _ h2', hq2, small2 (by have := tz2.len; have := part1 t (tkn t l) t.2.2; omega), ?_⟩⟩
      have zsl2 : zs2.length ≤ 1 := by rw [tz2.len]; exact part1 _ _ _
      have n2 := NL.upd (o := .lst (z2 ++ zs2)) (s5 _ _ h2')
      refine ⟨_, rfl, _, rfl, _, _, rfl, rfl, ?_⟩
      have e1 : divH (ts.take (i + 1)) c = divH (ts.take i) c ++ partL t 0 (some (tkn t l)) := by
        rw [tnx, divH_app, ← hlf]
        show _ ++ (partL t 0 (some (tkn t l)) ++ []) = _
        rw [List.append_nil]
      have e2 : divT (ts.take (i + 1)) c = divT (ts.take i) c ++ partL t (tkn t l) t.2.2 := by
        rw [tnx, divT_app, ← hlf]
        show _ ++ (partL t (tkn t l) t.2.2 ++ []) = _
        rw [List.append_nil]
      have e3 : dvR (ts.take (i + 1)) c = l - tkn t l := by
        rw [tnx, dvR_app, ← hlf]
        rfl
      rw [e1, e2, e3]
      refine ⟨_, _, z1 ++ zs, z2 ++ zs2, rfl, ?_, ?_, upd_same, ?_, fun u o e => ?_, by rw [List.length_append]; omega, by rw [List.length_append]; omega⟩
      · rw [upd_ne n12]
        exact s5 _ _ upd_same
      · exact ((((t1.same s4).app tz).nl n1).same s5).nl n2
      · exact ((((t2.same s4).nl n1).same s5).app tz2).nl n2
      · rw [upd_ne (ne_of_none e hl2H)]
        refine s5 _ _ ?_
        rw [upd_ne (ne_of_none e hl1)]
        exact s4 _ _ (s3 _ _ e)
    · rintro σ H2 ⟨v5, v6, z1, z2, rfl, h1, t1, h2, t2, s3, zl1, zl2⟩
      rw [hx.len, List.take_length] at t1 t2
      refine ⟨_, rfl, _, rfl, (by show 2 ≤ sizeLine; decide), fun tp htp => ?_⟩
      have s4 := Same.upd (o := .tup [.ref l1, .ref l2]) htp
      exact k tp l1 l2 z1 z2 _ upd_same (s4 _ _ h1) (t1.same s4) (s4 _ _ h2) (t2.same s4) (s3.trans s4) (none_of s3 htp) hl1 hl2H
theorem ok_dividedruns (T : LX K mg L) : Cal P w K mg base "divided_runs" 4 L.f_divided_runs ["trains", "count"] (spDiv) := T.d_divided_runs.cal fun fd F => fn_dividedruns T F
end
/-! ### spells as data -/
abbrev Out := Int × Option Int
def OtAt (H : Hp) (x : V) (o : Out) : Prop := ∃ a, x = .ref a ∧ H a = some (.tup [.int o.1, cV o.2])
abbrev Ots (H : Hp) (xs : List V) (os : List Out) : Prop := Paired (OtAt H) xs os
theorem OtAt.same {H H' : Hp} (s : Same H H') {x : V} {d : Out} (h : OtAt H x d) : OtAt H' x d := by
  obtain ⟨a, e, h⟩ := h
  exact ⟨a, e, s _ _ h⟩
theorem OtAt.nl {H H' : Hp} (s : NL H H') {x : V} {d : Out} (h : OtAt H x d) : OtAt H' x d := by
  obtain ⟨a, e, h⟩ := h
  exact ⟨a, e, s _ _ h fun _ z => nomatch z⟩
theorem Ots.same {H H' : Hp} (s : Same H H') {xs : List V} {os : List Out} (h : Ots H xs os) : Ots H' xs os := L2.Paired.mapP h fun _ _ z => z.same s
theorem Ots.nl {H H' : Hp} (s : NL H H') {xs : List V} {os : List Out} (h : Ots H xs os) : Ots H' xs os := L2.Paired.mapP h fun _ _ z => z.nl s
/-- a list or a tuple -/
def SqE (H : Hp) (a : Addr) (xs : List V) : Prop := H a = some (.tup xs) ∨ H a = some (.lst xs)
theorem SqE.same {H H' : Hp} (s : Same H H') {a : Addr} {xs : List V} (h : SqE H a xs) : SqE H' a xs := h.elim (fun h => .inl (s _ _ h)) fun h => .inr (s _ _ h)
theorem SqE.ix {K : PySem.W.Frag} {H : Hp} {a : Addr} {xs : List V} {i : Int} {v : V} {Q : VK} (h : SqE H a xs) (e : atI xs i = some v) (k : Q v H) : rIx K (.ref a) (.int i) H Q := by
  rcases h with h | h
  · exact .inr (.inl ⟨a, xs, i, v, rfl, rfl, SqT.of h, e, k⟩)
  · exact .inl ⟨a, xs, i, v, rfl, rfl, SqL.of h, e, k⟩
theorem SqE.sq {K : PySem.W.Frag} {H : Hp} {a : Addr} {xs : List V} (h : SqE H a xs) : SqL K H a xs ∨ SqT K H a xs := h.elim (fun h => .inr (SqT.of h)) fun h => .inl (SqL.of h)
def ndOf (b : Tri) (s : StD) : Int := if s.1 = "closed" then b.1 else 1
def recM (g : List Trn) : List Out → Option Int × Nat
  | [] => (none, 0)
  | (b, e) :: os => match e with
    | none => (none, 1)
    | some e => match os with
      | [] => (nxT g e, 1)
      | (b2, e2) :: os' => if (nxT g e).getD 0 < b2 then (nxT g e, 1) else ((recM g ((b2, e2) :: os')).1, (recM g ((b2, e2) :: os')).2 + 1)
def chR : List Tri → List StD → List Trn → List (List Trn)
  | b :: bs, s :: ss, ts => match At ts (ndOf b s - 1) with
    | some o => ts :: chR bs ss (passG ts (ndOf b s) b.2.1 o)
    | none => [ts]
  | _, _, ts => [ts]
def chO : List Tri → List StD → List Trn → List Int
  | b :: bs, s :: ss, ts => match At ts (ndOf b s - 1) with
    | some o => o :: chO bs ss (passG ts (ndOf b s) b.2.1 o)
    | none => []
  | _, _, _ => []
/-- what reaches the service -/
def chL : List Tri → List StD → List Trn → List Trn
  | b :: bs, s :: ss, ts => match At ts (ndOf b s - 1) with
    | some o => chL bs ss (passG ts (ndOf b s) b.2.1 o)
    | none => ts
  | _, _, ts => ts
def cutO (r : Option Int) (o : Int) : Option Int := match r with
  | none => some o
  | some r => if o < r then some o else none
def spellD (bs : List Tri) (stp fr : Int) (bg : List StD) (os : List Out) : SpD :=
  ⟨fr, (recM (chL bs bg [(fr, stp, none)]) os).1, bg, chR bs bg [(fr, stp, none)], (chO bs bg [(fr, stp, none)]).map (cutO (recM (chL bs bg [(fr, stp, none)]) os).1)⟩
def spellN (bs : List Tri) (stp fr : Int) (bg : List StD) (os : List Out) : Nat := (recM (chL bs bg [(fr, stp, none)]) os).2
def stB (suc : Int) (b : Tri) (o : Option Int) : StD := if o.isSome = true ∧ suc < b.2.2 then ("half", suc) else ("closed", 0)
def stBeh (bs : List Tri) (stp : Int) (d : SpD) (x : Int) : List StD := List.zipWith (stB ((x - d.rcv.getD 0) / stp + 1)) bs d.op
def spM (bs : List Tri) (stp ph : Int) : Nat → Option SpD → List Out → List SpD
  | 0, _, _ => []
  | _ + 1, _, [] => []
  | n + 1, pv, (b, e) :: os =>
    if (match e with | none => false | some e => decide (e ≤ ph + stepsUp (b - ph) stp * stp)) = true then spM bs stp ph n pv os
    else
      spellD bs stp (ph + stepsUp (b - ph) stp * stp) (match pv with | none => List.replicate bs.length ("closed", 0) | some d => stBeh bs stp d (ph + stepsUp (b - ph) stp * stp - 1)) ((b, e) :: os)
        :: spM bs stp ph n (some (spellD bs stp (ph + stepsUp (b - ph) stp * stp) (match pv with | none => List.replicate bs.length ("closed", 0) | some d => stBeh bs stp d (ph + stepsUp (b - ph) stp * stp - 1)) ((b, e) :: os)))
          (((b, e) :: os).drop (spellN bs stp (ph + stepsUp (b - ph) stp * stp) (match pv with | none => List.replicate bs.length ("closed", 0) | some d => stBeh bs stp d (ph + stepsUp (b - ph) stp * stp - 1)) ((b, e) :: os)))
theorem Trs.endL {H : Hp} {xs : List V} {ini : List Trn} {la : Trn} (h : Trs H xs (ini ++ [la])) : ∃ xi x, xs = xi ++ [x] ∧ TrAt H x la := by
  have hl := h.len
  rw [List.length_append] at hl
  have hl : xs.length = ini.length + 1 := hl
  have e : (ini ++ [la])[ini.length]? = some la := by rw [List.getElem?_append_right (Nat.le_refl _), Nat.sub_self]; rfl
  obtain ⟨x, hx, hb⟩ := h.get2 e
  refine ⟨xs.take ini.length, x, ?_, hb⟩
  have := List.take_add_one (l := xs) (i := ini.length)
  rw [hx, ← hl, List.take_length] at this
  exact this
/-! promises -/
def spPassed : Sp := fun vs H Q _ => ∃ a x y xs ts b s n k fr o, vs = [.ref a, x, y] ∧ H a = some (.lst xs) ∧ Trs H xs ts ∧ BrAt H x b ∧ OkT b ∧ StAt H y s ∧ RunOk n k fr ts ∧ 100 ≤ n ∧ n ≤ 3000 ∧ k ≤ 100 ∧ At ts (ndOf b s - 1) = some o ∧
  ∀ t l zs H', H' t = some (.tup [.ref l, .int o]) → H' l = some (.lst zs) → Trs H' zs (passG ts (ndOf b s) b.2.1 o) → Same H H' → H t = none → H l = none → Q (.ref t) H'
def spRec : Sp := fun vs H Q _ => ∃ a q xs ts ys os n k fr, ∃ at' : Nat, vs = [.ref a, .ref q, .int at'] ∧ H a = some (.lst xs) ∧ Trs H xs ts ∧ RunOk n k fr ts ∧ n ≤ 4900 ∧ k ≤ 100 ∧ SqE H q ys ∧ Ots H ys os ∧ (∀ o ∈ os, ∀ e, o.2 = some e → e ≤ PB 4900) ∧ at' < os.length ∧
  ∀ t H', H' t = some (.tup [cV (recM ts (os.drop at')).1, .int (at' + (recM ts (os.drop at')).2 : Nat)]) → Same H H' → H t = none → Q (.ref t) H'
section
variable {P : Program} {w : World} {K : PySem.W.Frag} {mg : Str → Option Value} {base : Heap} {L : LA}
abbrev N_passedruns : List Str := ["runs", "breaker", "state", "failures", "wait", "successes", "needed", "head", "tail", "opening"]
theorem sc_passedruns : FnScope N_passedruns ["runs", "breaker", "state"] (defScope st_passed_runs) := ⟨rfl, rfl, rfl, by decide +kernel, rfl, by decide +kernel, by decide +kernel⟩
theorem fn_passedruns (T : LX K mg L) {fd : FuncData} (F : Fun K "passed_runs" "passed_runs" st_passed_runs L.f_passed_runs fd) : FnOk P w K mg base CX0 5 L.f_passed_runs fd ["runs", "breaker", "state"] (spPassed) := by
  have G_dividedruns := ok_dividedruns (P := P) (w := w) (base := base) T
  have G_lasttime := ok_lasttime (P := P) (w := w) (base := base) T
  have G_thinnedruns := ok_thinnedruns (P := P) (w := w) (base := base) T
  have nd := sc_passedruns.nd
  refine F.ok sc_passedruns (fun vs H Q E h => ?_) (fun cdv A outer S H vs Q E hr h => ?_)
  · obtain ⟨a, x, y, xs, ts, b, s, n, k, fr, o, rfl, _⟩ := h
    rfl
  · obtain ⟨a, x, y, xs, ts, b, s, n, k, fr, o, rfl, ha, hx, ⟨ab, rfl, hb⟩, okb, ⟨as, rfl, hs⟩, R, n1, n2, k1, ho, kk⟩ := h
    refine ⟨_, (pss_cons (ps_asg (pv 1) (pg_tup rfl (pgs_cons (pg_name (i := 3) nd rfl (Or.inl rfl)) (pgs_cons (pg_name (i := 4) nd rfl (Or.inl rfl)) (pgs_cons (pg_name (i := 5) nd rfl (Or.inl rfl)) pgs_nil)))))
       (C8.pss_cut (ps_set (i := 6) nd rfl (Or.inl rfl) (pe_ifExp (pt_cmpR op_eq (pe_ix (r := rIxT K) ix_tup (pv 2) pe_int (fun _ _ => rfl)) pe_str (nomark _)) (pv 3) pe_int))
       (pss_cons (ps_asg (pe_c G_dividedruns (hr.mono (by decide)) rfl (pa_cons (pv 0) (pa_cons (pv 6) pa_nil))) (pg_tup rfl (pgs_cons (pg_name (i := 7) nd rfl (Or.inl rfl)) (pgs_cons (pg_name (i := 8) nd rfl (Or.inl rfl)) pgs_nil))))
       (pss_cons (ps_set (i := 9) nd rfl (Or.inl rfl) (pe_c G_lasttime (hr.mono (by decide)) rfl (pa_cons (pe_ix (r := rIxL K) ix_list (pv 7) (pe_un un_neg pe_int) (fun _ _ => rfl)) pa_nil)))
       (pss_one (ps_ret (pe_tup (pa_cons (pe_op op_cat (pv 7) (pe_c G_thinnedruns (hr.mono (by decide)) rfl (pa_cons (pv 8) (pa_cons (pv 4) (pa_cons (pv 9) pa_nil))))) (pa_cons (pv 9) pa_nil))))))))), ?_⟩
    refine ⟨_, rfl, ab, _, rfl, SqT.of hb, rfl, _, _, rfl, _, _, rfl, _, _, rfl, rfl, ?_⟩
    obtain ⟨o1, o2, o3, o4, o5, o6⟩ := okb
    have nd1 : 1 ≤ ndOf b s ∧ ndOf b s ≤ 1000000000000 := by unfold ndOf; split <;> omega
    have e40 : (1000000000000 : Int) ≤ PB 40 := PB_of (by decide +kernel)
    have e100 : (1000000000000000000000000000000 : Int) ≤ PB 100 := PB_of (by decide +kernel)
    refine ⟨fun σ' H' => σ' = [some (.ref a), some (.ref ab), some (.ref as), some (.int b.1), some (.int b.2.1), some (.int b.2.2), some (.int (ndOf b s)), none, none, none] ∧ H' = H, ?_, ?_⟩
    · refine ⟨_, rfl, as, _, 0, .str s.1, rfl, rfl, SqT.of hs, rfl, ?_⟩
      unfold ndOf
      refine ⟨rfl, _, rfl, ite2 (fun q => ?_) (fun q => ?_)⟩
      · have q' : s.1 = "closed" := V.str.inj (of_decide_eq_true q)
        rw [if_pos q']
        exact ⟨_, rfl, rfl, rfl⟩
      · have q' : ¬ s.1 = "closed" := fun e => q (decide_eq_true (congrArg V.str e))
        rw [if_neg q']
        exact ⟨rfl, rfl⟩
    rintro σ' H' ⟨rfl, rfl⟩
    obtain ⟨o', y, ho', hy, o0, oB, yB, fo, RG, PG, sT, bT, lT, hne, hlast, sH, lH, nbo⟩ := pass_ok R nd1.1 (Int.le_trans nd1.2 e40) o3 (Int.le_trans o4 e100) n1
    rw [ho] at ho'
    cases ho'
    refine ⟨_, rfl, _, rfl, a, xs, ts, ndOf b s, y, n, 40, rfl, ha, hx, R.srt, R.bt, by have := R.ln; omega, by omega, by omega, Int.le_trans nd1.2 e40, by decide, hy, fun t l1 l2 z1 z2 H1 ht h1 t1 h2 t2 s1 nt nl1 nl2 => ?_⟩
    refine ⟨t, _, rfl, SqT.of ht, rfl, _, _, rfl, _, _, rfl, rfl, ?_⟩
    obtain ⟨ini, la, hla⟩ : ∃ ini la, divH ts (ndOf b s) = ini ++ [la] := ⟨_, _, (List.dropLast_concat_getLast hne).symm⟩
    obtain ⟨k1', k2', k3'⟩ := hlast la (by rw [hla, List.getLast?_concat])
    have t1' := t1
    rw [hla] at t1'
    obtain ⟨zi, x, rfl, hxa⟩ := t1'.endL
    have z1l := t1.len
    have z2l := t2.len
    have lR := R.ln
    refine ⟨_, rfl, 1, rfl, l1, _, -1, x, rfl, rfl, SqL.of h1, atI_last zi _, x, la, rfl, hxa, k1', k2'.le (by omega), ?_⟩
    rw [k3']
    refine ⟨_, rfl, _, rfl, _, rfl, _, rfl, l2, z2, divT ts (ndOf b s), n + 42, n + 42, b.2.1, o, rfl, h2, t2, sT, bT, by omega, by omega, o3, o0, Int.le_trans (Int.le_trans o4 e100) (PB_le (by omega)), Int.le_trans oB (PB_le (by omega)), by omega, fun l zs H3 hl tz bz lz s3 nl => ?_⟩
    have zl := tz.len
    have h1' := s3 _ _ h1
    refine ⟨l1, l, _, zs, rfl, rfl, h1', hl, small2 (by omega), fun r hr => ?_⟩
    have s4 := Same.upd (o := .lst ((zi ++ [x]) ++ zs)) hr
    refine ⟨_, rfl, (by show 2 ≤ sizeLine; decide), fun tp htp => ?_⟩
    have s5 := Same.upd (o := .tup [.ref r, .int o]) htp
    have s13 := s1.trans s3
    exact kk tp r _ _ upd_same (s5 _ _ upd_same) ((((t1.same s3).app tz).same s4).same s5) ((s13.trans s4).trans s5) (none_of (s13.trans s4) htp) (none_of s13 hr)
theorem ok_passedruns (T : LX K mg L) : Cal P w K mg base "passed_runs" 5 L.f_passed_runs ["runs", "breaker", "state"] (spPassed) := T.d_passed_runs.cal fun fd F => fn_passedruns T F
abbrev N_recovery : List Str := ["runs", "outages", "at", "following", "end", "time"]
theorem sc_recovery : FnScope N_recovery ["runs", "outages", "at"] (defScope st_recovery) := ⟨rfl, rfl, rfl, by decide +kernel, rfl, by decide +kernel, by decide +kernel⟩
theorem fn_recovery (T : LX K mg L) {fd : FuncData} (F : Fun K "recovery" "recovery" st_recovery L.f_recovery fd) : FnOk P w K mg base CX0 5 L.f_recovery fd ["runs", "outages", "at"] (spRec) := by
  have G_timefrom := ok_timefrom (P := P) (w := w) (base := base) T
  have nd := sc_recovery.nd
  refine F.ok sc_recovery (fun vs H Q E h => ?_) (fun cdv A outer S H vs Q E hr h => ?_)
  · obtain ⟨a, q, xs, ts, ys, os, n, k, fr, at', rfl, _⟩ := h
    rfl
  · obtain ⟨a, q, xs, ts, ys, os, n, k, fr, at', rfl, ha, hx, R, n4, k1, hq, hy, hb, hat, kk⟩ := h
    refine ⟨_, (pss_cons (ps_set (i := 3) nd rfl (Or.inl rfl) (pv 2))
       (pss_one (ps_while PassesOwn.never (pt_val pe_bl) (pss_cons (ps_set (i := 4) nd rfl (Or.inl rfl) (pe_ix (r := rIxT K) ix_tup (pe_ix (r := rIx K) ix_seq (pv 1) (pv 3) (fun _ _ => rfl)) pe_int (fun _ _ => rfl)))
       (pss_cons (ps_aug (i := 3) nd rfl (Or.inl rfl) pe_int ip_add)
       (pss_cons (ps_if (pt_cmp (pc_isN (pv 4))) (pss_one (ps_ret (pe_tup (pa_cons pe_non (pa_cons (pv 3) pa_nil))))) pss_nil)
       (pss_cons (ps_set (i := 5) nd rfl (Or.inl rfl) (pe_c G_timefrom (hr.mono (by decide)) rfl (pa_cons (pv 0) (pa_cons (pv 4) pa_nil))))
       (pss_one (ps_if (PW.pt (pw_or (pt_cmpR op_eq (pv 3) (pe_callB call_len_seq (by rfl) T.b_len PySem.boot_len (pa_cons (pv 1) pa_nil)) (nomark _)) (pw_or1 (pt_cmpR op_lt (pv 5) (pe_ix (r := rIxT K) ix_tup (pe_ix (r := rIx K) ix_seq (pv 1) (pv 3) (fun _ _ => rfl)) pe_int (fun _ _ => rfl)) (nomark _))))) (pss_one (ps_ret (pe_tup (pa_cons (pv 5) (pa_cons (pv 3) pa_nil))))) pss_nil))))))))), ?_⟩
    refine ⟨_, rfl, ?_⟩
    have yl := paired_len hy
    refine while_by (fun σ H2 => ∃ f : Nat, ∃ v4 v5 : Option V, σ = [some (.ref a), some (.ref q), some (.int at'), some (.int f), v4, v5] ∧ H2 = H ∧ f < os.length ∧ (recM ts (os.drop at')).1 = (recM ts (os.drop f)).1 ∧ at' + (recM ts (os.drop at')).2 = f + (recM ts (os.drop f)).2) (fun σ _ => match σ with | [_, _, _, some (.int f), _, _] => (os.length - f).toNat | _ => 0)
      ⟨at', none, none, rfl, rfl, hat, rfl, rfl⟩ ?_ (fun σ H Q Q' m h => ?_)
    · rintro σ H2 ⟨f, v4, v5, rfl, rfl, hf, e1, e2⟩
      refine ⟨_, rfl, iteT ?_⟩
      obtain ⟨x, hxf⟩ : ∃ x, ys[f]? = some x := ⟨_, List.getElem?_eq_getElem (by omega)⟩
      obtain ⟨⟨b, e⟩, hof, hot⟩ := paired_get hy hxf
      obtain ⟨c, rfl, hc⟩ := hot
      have dr : os.drop f = (b, e) :: os.drop (f + 1) := by
        rw [List.drop_eq_getElem_cons hf]
        congr 1
        exact (List.getElem?_eq_some_iff.mp hof).2
      refine ⟨_, rfl, _, rfl, hq.ix (atI_nat hxf) ⟨c, _, 1, cV e, rfl, rfl, SqT.of hc, rfl, ?_⟩⟩
      rw [dr] at e1 e2
      have fin : ∀ (tp : Addr) (v : V) (n : Int) (r : Option Int), H2 tp = none → (recM ts ((b, e) :: os.drop (f + 1))).1 = r → n = f + 1 → (recM ts ((b, e) :: os.drop (f + 1))).2 = 1 → v = cV r → Q (.ref tp) (upd H2 tp (.tup [v, .int n])) := fun tp v n r htp er en e3 ev => by
        refine kk tp _ ?_ (Same.upd htp) htp
        rw [upd_same, e1, e2, er, e3, ev, en]
        rfl
      refine ⟨_, rfl, _, _, rfl, rfl, ?_⟩
      cases e with
      | none => exact ⟨_, rfl, _, rfl, iteT ⟨_, rfl, (by show 2 ≤ sizeLine; decide), fun tp htp => fin tp _ _ none htp rfl rfl rfl rfl⟩⟩
      | some z =>
        obtain ⟨y, hy2⟩ := nx_end R.srt R.en z
        refine ⟨_, rfl, _, rfl, iteF ⟨_, rfl, _, rfl, a, xs, ts, z, n, y, rfl, ha, hx, R.srt, R.bt, n4, hb _ (List.mem_of_getElem? hof) z rfl, by have := R.ln; omega, hy2, ?_⟩⟩
        refine ⟨_, rfl, _, rfl, q, ys, rfl, hq.sq, rfl, _, rfl, ?_⟩
        refine ite2 (fun c1 => ?_) (fun c1 => ?_)
        · have c2 : (f : Int) + 1 = ys.length := V.int.inj (of_decide_eq_true c1)
          have d1 : os.drop (f + 1) = [] := List.drop_eq_nil_of_le (by omega)
          refine ⟨_, rfl, _, rfl, (by show 2 ≤ sizeLine; decide), fun tp htp => fin tp _ _ (some y) htp ?_ rfl ?_ rfl⟩
          · rw [d1]
            exact hy2
          · rw [d1]
            rfl
        · have c2 : ¬ (f : Int) + 1 = ys.length := fun z => c1 (decide_eq_true (congrArg V.int z))
          have hf1 : f + 1 < os.length := by omega
          obtain ⟨x2, hxf2⟩ : ∃ x, ys[f + 1]? = some x := ⟨_, List.getElem?_eq_getElem (by omega)⟩
          obtain ⟨⟨b2, e2'⟩, hof2, hot2⟩ := paired_get hy hxf2
          obtain ⟨c2', rfl, hc2⟩ := hot2
          have dr2 : os.drop (f + 1) = (b2, e2') :: os.drop (f + 2) := by
            rw [List.drop_eq_getElem_cons hf1]
            congr 1
            exact (List.getElem?_eq_some_iff.mp hof2).2
          have hix : atI ys ((f : Int) + 1) = some (V.ref c2') := atI_nat (j := f + 1) hxf2
          refine ⟨_, rfl, _, rfl, _, rfl, hq.ix hix ⟨c2', _, 0, .int b2, rfl, rfl, SqT.of hc2, rfl, _, _, rfl, rfl, _, rfl, ?_⟩⟩
          refine ite2 (fun c3 => ?_) (fun c3 => ?_)
          · have c4 : y < b2 := of_decide_eq_true c3
            have er : recM ts ((b, some z) :: os.drop (f + 1)) = (nxT ts z, 1) := by
              rw [dr2]
              show (if (nxT ts z).getD 0 < b2 then _ else _) = _
              rw [hy2]
              exact if_pos c4
            exact ⟨_, rfl, _, rfl, (by show 2 ≤ sizeLine; decide), fun tp htp => fin tp _ _ (some y) htp (by rw [er]; exact hy2) rfl (by rw [er]) rfl⟩
          · have c4 : ¬ y < b2 := fun z => c3 (decide_eq_true z)
            have er : recM ts ((b, some z) :: os.drop (f + 1)) = ((recM ts (os.drop (f + 1))).1, (recM ts (os.drop (f + 1))).2 + 1) := by
              rw [dr2]
              show (if (nxT ts z).getD 0 < b2 then _ else _) = _
              rw [hy2]
              exact if_neg c4
            rw [er] at e1 e2
            refine ⟨⟨f + 1, _, _, rfl, rfl, hf1, e1, by omega⟩, ?_⟩
            show ((os.length : Int) - ((f : Int) + 1)).toNat < ((os.length : Int) - f).toNat
            omega
    · obtain ⟨b, e, h⟩ := h
      exact ⟨b, e, m _ _ h⟩
theorem ok_recovery (T : LX K mg L) : Cal P w K mg base "recovery" 5 L.f_recovery ["runs", "outages", "at"] (spRec) := T.d_recovery.cal fun fd F => fn_recovery T F
end
/-! ### a spell is made -/
def spSInit (C : Addr) : Sp := fun vs H Q _ => ∃ p f r aB aR aO dx, vs = [.ref p, .int f, cV r, .ref aB, .ref aR, .ref aO] ∧ H p = some (.ins C dx []) ∧ ∀ H', H' p = some (.ins C dx (spF f r aB aR aO)) → Kp p H H' → Q .non H'
def spBeh (C CS : Addr) : Sp := fun vs H Q _ => ∃ p B xs ts st ph x d r z, vs = [.ref p, x, .int z] ∧ RowAt C H p B xs ts st ph ∧ SpV CS H x d ∧ d.rcv = some r ∧ d.op.length = ts.length ∧ ∀ l ys H', H' l = some (.lst ys) → Sts (Fr H H') ys (stBeh ts st d z) → Same H H' → H l = none → Q (.ref l) H'
def spSpell (C CS : Addr) : Sp := fun vs H Q _ => ∃ p B xs ts st ph q ys os fr, ∃ (at' n0 : Nat) (bl : Addr) (bz : List V) (bg : List StD) (H0 : Hp), vs = [.ref p, .int fr, .ref bl, .ref q, .int at'] ∧ RowAt C H p B xs ts st ph ∧ (∀ b, H b = none → H0 b = none) ∧ Fr H0 H bl = some (.lst bz) ∧ Sts (Fr H0 H) bz bg ∧ bg.length = ts.length ∧
  SqE H q ys ∧ Ots H ys os ∧ (∀ o ∈ os, ∀ e, o.2 = some e → e ≤ PB 4900) ∧ at' < os.length ∧ 0 ≤ fr ∧ fr ≤ PB n0 ∧ 104 ≤ n0 ∧ n0 ≤ 2000 ∧
  ∀ t p2 H', H' t = some (.tup [.ref p2, .int (at' + spellN ts st fr bg (os.drop at') : Nat)]) → SpV CS (Fr H0 H') (.ref p2) (spellD ts st fr bg (os.drop at')) → Same H H' → H t = none → Q (.ref t) H'
section
variable {P : Program} {w : World} {K : PySem.W.Frag} {mg : Str → Option Value} {base : Heap} {L : LA}
abbrev N_Spellinit : List Str := ["self", "first", "recovered", "begun", "runs", "opened"]
theorem sc_Spellinit : FnScope N_Spellinit ["self", "first", "recovered", "begun", "runs", "opened"] (defScope st_Spell_init) := ⟨rfl, rfl, rfl, by decide +kernel, rfl, by decide +kernel, by decide +kernel⟩
theorem fn_Spellinit (T : LX K mg L) {fd : FuncData} (F : Fun K "__init__" "Spell.__init__" st_Spell_init L.i_Spell fd) : FnOk P w K mg base CX0 1 L.i_Spell fd ["self", "first", "recovered", "begun", "runs", "opened"] (spSInit L.c_Spell) := by
  have nd := sc_Spellinit.nd
  refine F.ok sc_Spellinit (fun vs H Q E h => ?_) (fun cdv A outer S H vs Q E hr h => ?_)
  · obtain ⟨p, f, r, aB, aR, aO, dx, rfl, _⟩ := h
    rfl
  · obtain ⟨p, f, r, aB, aR, aO, dx, rfl, hp, k⟩ := h
    refine ⟨_, (pss_cons (ps_fld (pv 0) (pv 1) rfl)
       (pss_cons (ps_fld (pv 0) (pv 2) rfl)
       (pss_cons (ps_fld (pv 0) (pv 3) rfl)
       (pss_cons (ps_fld (pv 0) (pv 4) rfl)
       (pss_one (ps_fld (pv 0) (pv 5) rfl)))))), ?_⟩
    have z1 := putF_len "first" (.int f) [] (Nat.le_refl 0)
    have z2 := putF_len "recovered" (cV r) _ z1
    have z3 := putF_len "begun" (.ref aB) _ z2
    have z4 := putF_len "runs" (.ref aR) _ z3
    refine ⟨_, rfl, _, rfl, p, L.c_Spell, dx, [], rfl, hp, T.cf_Spell.cl, T.nf_Spell_first, (by show 0 < 1000; decide), ?_⟩
    refine ⟨_, rfl, _, rfl, p, L.c_Spell, dx, _, rfl, upd_same, T.cf_Spell.cl, T.nf_Spell_recovered, Nat.lt_of_le_of_lt z1 (by decide), ?_⟩
    refine ⟨_, rfl, _, rfl, p, L.c_Spell, dx, _, rfl, upd_same, T.cf_Spell.cl, T.nf_Spell_begun, Nat.lt_of_le_of_lt z2 (by decide), ?_⟩
    refine ⟨_, rfl, _, rfl, p, L.c_Spell, dx, _, rfl, upd_same, T.cf_Spell.cl, T.nf_Spell_runs, Nat.lt_of_le_of_lt z3 (by decide), ?_⟩
    refine ⟨_, rfl, _, rfl, p, L.c_Spell, dx, _, rfl, upd_same, T.cf_Spell.cl, T.nf_Spell_opened, Nat.lt_of_le_of_lt z4 (by decide), ?_⟩
    exact k _ upd_same fun b o n e => by
      rw [upd_ne n, upd_ne n, upd_ne n, upd_ne n, upd_ne n]
      exact e
abbrev N_statesbehind : List Str := ["row", "spell", "time", "successes", "breaker", "opening"]
theorem sc_statesbehind : FnScope N_statesbehind ["row", "spell", "time"] (defScope st_states_behind) := ⟨rfl, rfl, rfl, by decide +kernel, rfl, by decide +kernel, by decide +kernel⟩
theorem fn_statesbehind (T : LX K mg L) {fd : FuncData} (F : Fun K "states_behind" "states_behind" st_states_behind L.f_states_behind fd) : FnOk P w K mg base CX0 3 L.f_states_behind fd ["row", "spell", "time"] (spBeh L.c_Row L.c_Spell) := by
  have G_Rowsteplength := ok_Rowsteplength (P := P) (w := w) (base := base) T
  have G_Rowbreakerlist := ok_Rowbreakerlist (P := P) (w := w) (base := base) T
  have nd := sc_statesbehind.nd
  refine F.ok sc_statesbehind (fun vs H Q E h => ?_) (fun cdv A outer S H vs Q E hr h => ?_)
  · obtain ⟨p, B, xs, ts, st, ph, x, d, r, z, rfl, _⟩ := h
    rfl
  · obtain ⟨p, B, xs, ts, st, ph, x, d, r, z, rfl, R, ⟨px, aB, aR, aO, xB, xR, rfl, Sx⟩, hr', hl, k⟩ := h
    refine ⟨_, (pss_cons (ps_set (i := 3) nd rfl (Or.inr rfl) (pe_op op_add (pe_op op_fdivW (pe_op op_sub (pv 2) (pe_fld (pv 1) rfl)) (G_Rowsteplength.p_m0 T.cf_Row.cl (hr.mono (by decide)) (pv 0))) pe_int))
       (pss_one (ps_ret (pe_lc (own := [("breaker", 4), ("opening", 5)]) (g := gTup K 2 (gCons (gName 4) (gCons (gName 5) (gNil)))) (tt := tYes) rfl nd (pi_zip (by rfl) T.b_zip (pa_cons (G_Rowbreakerlist.p_m0 T.cf_Row.cl (hr.mono (by decide)) (pv 0)) (pa_cons (pe_fld (pv 1) rfl) pa_nil))) (blkOk_by (own := [("breaker", 4), ("opening", 5)]) (N := N_statesbehind) (sc := defScope st_states_behind) (by decide +kernel)) (fun _ _ _ _ _ => pg_tup rfl (pgs_cons (pg_name (i := 4) nd rfl (Or.inl rfl)) (pgs_cons (pg_name (i := 5) nd rfl (Or.inl rfl)) pgs_nil))) (fun _ _ _ _ _ => pts_nil) (fun _ _ _ _ _ => (pe_ifExp (PW.pt (pw_and (pt_cmp (pc_notN (pv 5))) (pw_and1 (pt_cmpR op_lt (pv 3) (pe_ix (r := rIxT K) ix_tup (pv 4) pe_int (fun _ _ => rfl)) (nomark _))))) (pe_tup (pa_cons pe_str (pa_cons (pv 3) pa_nil))) (pe_tup (pa_cons pe_str (pa_cons pe_int pa_nil))))))))), ?_⟩
    obtain ⟨dx, hp⟩ := R.ob
    obtain ⟨dy, hpx⟩ := Sx.ob
    rw [hr'] at hpx
    have s0 := R.s0
    refine ⟨_, rfl, _, rfl, px, L.c_Spell, dy, _, _, rfl, hpx, T.cf_Spell.cl, T.nf_Spell_recovered, spF_rcv _ _ _ _ _, _, _, rfl, rfl, ?_⟩
    obtain ⟨suc, hsuc⟩ : ∃ suc, suc = (z - r) / st + 1 := ⟨_, rfl⟩
    have hsuc' : suc = (z - (some r).getD 0) / st + 1 := hsuc
    refine ⟨_, rfl, p, dx, _, rfl, hp, rowF_no _ _ _ (by decide +kernel) (by decide +kernel) (by decide +kernel), p, B, xs, ts, st, ph, rfl, R, _, _, rfl, rfl, ⟨by omega, divBB s0 (st_bb R.s1)⟩, _, _, rfl, rfl, ?_⟩
    refine ⟨_, rfl, p, dx, _, rfl, hp, rowF_no _ _ _ (by decide +kernel) (by decide +kernel) (by decide +kernel), p, B, xs, ts, st, ph, rfl, R, fun l1 H1 hl1 e1 => ?_⟩
    subst e1
    have s1 := Same.upd (o := .lst xs) hl1
    have hO1 := s1 _ _ Sx.hO
    have hpx1 := s1 _ _ hpx
    refine ⟨_, rfl, px, L.c_Spell, dy, _, _, rfl, hpx1, T.cf_Spell.cl, T.nf_Spell_opened, spF_op _ _ _ _ _, l1, aO, xs, d.op.map cV, rfl, SqL.of upd_same, SqL.of hO1, fun D1 hD1 => ?_⟩
    have xl := R.br.len
    refine lc_zip (K := K) (a := l1) (b := aO) (xs := xs) (ys := d.op.map cV) (by rw [List.length_map]; omega) (fun j Hc => ∃ ys, Hc D1 = some (.lst ys) ∧ Sts (Fr H Hc) ys ((stBeh ts st d z).take j) ∧ Same (upd H l1 (.lst xs)) Hc) ⟨[], upd_same, .nil, Same.upd hD1⟩ (fun j Hc ⟨_, _, _, s⟩ => ⟨SqL.of (s _ _ upd_same), SqL.of (s _ _ hO1)⟩) ?_ ?_
    · rintro j x y T1 Hc hx hy ⟨ys, hD, ty, sc⟩ hT1
      obtain ⟨b, hb, hbx⟩ := R.br.get hx
      obtain ⟨o, ho, rfl⟩ : ∃ o, d.op[j]? = some o ∧ y = cV o := by
        rw [List.getElem?_map] at hy
        cases q : d.op[j]? with
        | none => rw [q] at hy; cases hy
        | some o => rw [q] at hy; cases hy; exact ⟨o, rfl, rfl⟩
      have hj := (List.getElem?_eq_some_iff.mp hb).1
      have s2 := sc.trans (Same.upd (o := .tup [x, cV o]) hT1)
      have yl := paired_len ty
      rw [List.length_take] at yl
      have R12 := R.ln
      have hbx2 := hbx.nl (NL.of (s1.trans s2))
      obtain ⟨ab, rfl, hab⟩ := hbx2
      refine ⟨T1, _, rfl, SqT.of upd_same, rfl, _, _, rfl, _, _, rfl, rfl, ?_⟩
      have etk : (stBeh ts st d z).take (j + 1) = (stBeh ts st d z).take j ++ [stB suc b o] := by
        rw [List.take_add_one]
        congr 1
        unfold stBeh
        rw [List.getElem?_zipWith, hb, ho, hr', ← hsuc']
        rfl
      rw [etk]
      have sT := Same.upd (o := .tup [.ref ab, cV o]) hT1
      have hD' := sT _ _ hD
      have ty' := ty.same (Fr.same sT)
      have bl12 : ys.length ≤ 1000 := by omega
      refine ⟨rfl, tYes_of ?_⟩
      cases o with
      | none =>
        refine ⟨_, rfl, _, rfl, iteF ⟨(by show 2 ≤ sizeLine; decide), fun tp htp => ?_⟩⟩
        exact st_turn (d := ("closed", 0)) hD' ty' s2 hD1 s1 htp bl12
      | some v =>
        refine ⟨_, rfl, _, rfl, iteT ⟨_, rfl, _, rfl, ab, _, 2, .int b.2.2, rfl, rfl, SqT.of hab, rfl, _, _, rfl, rfl, _, rfl, ?_⟩⟩
        refine ite2 (fun c => ⟨_, rfl, (by show 2 ≤ sizeLine; decide), fun tp htp => ?_⟩) (fun c => ⟨(by show 2 ≤ sizeLine; decide), fun tp htp => ?_⟩)
        · have c' : suc < b.2.2 := by rw [hsuc]; exact of_decide_eq_true c
          have e : stB suc b (some v) = (("half" : Str), suc) := if_pos ⟨rfl, c'⟩
          rw [e, hsuc]
          exact st_turn (d := ("half", (z - r) / st + 1)) hD' ty' s2 hD1 s1 htp bl12
        · have c' : ¬ suc < b.2.2 := by rw [hsuc]; exact fun q => c (decide_eq_true q)
          have e : stB suc b (some v) = (("closed" : Str), 0) := if_neg fun q => c' q.2
          rw [e]
          exact st_turn (d := ("closed", 0)) hD' ty' s2 hD1 s1 htp bl12
    rintro Hc ⟨ys, hD, ty, sc⟩
    rw [List.length_map, hl, List.take_of_length_le (by unfold stBeh; rw [List.length_zipWith]; omega)] at ty
    exact k D1 ys Hc hD ty (s1.trans sc) (none_of s1 hD1)
theorem ok_statesbehind (T : LX K mg L) : Cal P w K mg base "states_behind" 3 L.f_states_behind ["row", "spell", "time"] (spBeh L.c_Row L.c_Spell) := T.d_states_behind.cal fun fd F => fn_statesbehind T F
end
section
variable {X : Cx} {L : LA}
/-- Spell(..) -/
theorem pe_mkSpell (T : LX X.K X.mg L) (hr : Room 2 X.A) {p pos : Pos} {e : Expr} {es : List Expr} {t : TA} (hg : Gl X "Spell") (ha : PA X (e :: es) t)
    (he : starEach (e :: es) X.env = (false, eval e X.env) :: starEach es X.env := by rfl) (hpl : (backTo pos (starEach es X.env)).any (·.1) = false := by rfl) :
    PE X (.Call (.Name "Spell" p) (e :: es) [] pos) (tMake L.c_Spell (spSInit L.c_Spell) [] E0 t) := by
  obtain ⟨fd, F, b⟩ := T.in_Spell
  exact pe_make T.mk_Spell (fn_Spellinit T F) hr hg T.gc_Spell b .nil pass0 ha (by decide) he hpl
end
theorem spell_made {C : Addr} {H : Hp} {Q : Addr → Hp → Prop} {f : Int} {r : Option Int} {aB aR aO : Addr} (k : ∀ p dx H', H' p = some (.ins C dx (spF f r aB aR aO)) → Same H H' → H p = none → Q p H') :
    ∀ x dx, H x = none → H dx = none → dx ≠ x → spSInit C [.ref x, .int f, cV r, .ref aB, .ref aR, .ref aO] (upd (upd H dx (.own x)) x (.ins C dx [])) (fun v H3 => v = .non ∧ Q x H3) E0 := by
  intro x dx hx hd hne
  have s0 : Same H (upd (upd H dx (.own x)) x (.ins C dx [])) := fun b o e => by
    rw [upd_ne (ne_of_none e hx), upd_ne (ne_of_none e hd)]
    exact e
  exact ⟨x, f, r, aB, aR, aO, dx, rfl, upd_same, fun H' R kp => ⟨rfl, k x dx H' R (fun b o e => kp b o (ne_of_none e hx) (s0 b o e)) hx⟩⟩
theorem paired_last {α β : Type} {F : α → β → Prop} {xs : List α} {ys : List β} {y : β} (h : Paired F xs (ys ++ [y])) : ∃ xi x, xs = xi ++ [x] ∧ F x y := by
  have hl := paired_len h
  rw [List.length_append] at hl
  have hl : xs.length = ys.length + 1 := hl
  have e : (ys ++ [y])[ys.length]? = some y := by rw [List.getElem?_append_right (Nat.le_refl _), Nat.sub_self]; rfl
  obtain ⟨x, hx, hb⟩ := paired_get2 h e
  refine ⟨xs.take ys.length, x, ?_, hb⟩
  have := List.take_add_one (l := xs) (i := ys.length)
  rw [hx, ← hl, List.take_length] at this
  exact this
section
variable {P : Program} {w : World} {K : PySem.W.Frag} {mg : Str → Option Value} {base : Heap} {L : LA}
abbrev N_spellfrom : List Str := ["row", "first", "begun", "outages", "at", "runs", "openings", "breaker", "state", "passed", "opening", "recovered", "following", "opened"]
theorem sc_spellfrom : FnScope N_spellfrom ["row", "first", "begun", "outages", "at"] (defScope st_spell_from) := ⟨rfl, rfl, rfl, by decide +kernel, rfl, by decide +kernel, by decide +kernel⟩
theorem fn_spellfrom (T : LX K mg L) {fd : FuncData} (F : Fun K "spell_from" "spell_from" st_spell_from L.f_spell_from fd) : FnOk P w K mg base CX0 6 L.f_spell_from fd ["row", "first", "begun", "outages", "at"] (spSpell L.c_Row L.c_Spell) := by
  have G_Rowbreakerlist := ok_Rowbreakerlist (P := P) (w := w) (base := base) T
  have G_recovery := ok_recovery (P := P) (w := w) (base := base) T
  have G_passedruns := ok_passedruns (P := P) (w := w) (base := base) T
  have G_Rowsteplength := ok_Rowsteplength (P := P) (w := w) (base := base) T
  have nd := sc_spellfrom.nd
  refine F.ok sc_spellfrom (fun vs H Q E h => ?_) (fun cdv A outer S H vs Q E hr h => ?_)
  · obtain ⟨p, B, xs, ts, st, ph, q, ys, os, fr, at', n0, bl, bz, bg, H0, rfl, _⟩ := h
    rfl
  · obtain ⟨p, B, xs, ts, st, ph, q, ys, os, fr, at', n0, bl, bz, bg, H0, rfl, R, h0, hbl, hbz, bgl, hq, hy, hb, hat, f0, f1, n01, n02, kk⟩ := h
    refine ⟨_, (pss_cons (ps_set (i := 5) nd rfl (Or.inl rfl) (pe_lst (pa_cons (pe_lst (pa_cons (pe_tup (pa_cons (pv 1) (pa_cons (G_Rowsteplength.p_m0 T.cf_Row.cl (hr.mono (by decide)) (pv 0)) (pa_cons pe_non pa_nil)))) pa_nil)) pa_nil)))
       (pss_cons (ps_set (i := 6) nd rfl (Or.inl rfl) (pe_lst pa_nil))
       (pss_cons (ps_for PassesOwn.never rfl (pi_zip (by rfl) T.b_zip (pa_cons (G_Rowbreakerlist.p_m0 T.cf_Row.cl (hr.mono (by decide)) (pv 0)) (pa_cons (pv 2) pa_nil))) (pg_tup rfl (pgs_cons (pg_name (i := 7) nd rfl (Or.inl rfl)) (pgs_cons (pg_name (i := 8) nd rfl (Or.inl rfl)) pgs_nil))) (pss_cons (ps_asg (pe_c G_passedruns (hr.mono (by decide)) rfl (pa_cons (pe_ix (r := rIxL K) ix_list (pv 5) (pe_un un_neg pe_int) (fun _ _ => rfl)) (pa_cons (pv 7) (pa_cons (pv 8) pa_nil)))) (pg_tup rfl (pgs_cons (pg_name (i := 9) nd rfl (Or.inl rfl)) (pgs_cons (pg_name (i := 10) nd rfl (Or.inl rfl)) pgs_nil))))
       (pss_cons (ps_expr (pe_bm PySem.F.plainAttrs_list PySem.F.slot_list_append PySem.F.type_list_append mt_append (pv 5) (pa_cons (pv 9) pa_nil)))
       (pss_one (ps_expr (pe_bm PySem.F.plainAttrs_list PySem.F.slot_list_append PySem.F.type_list_append mt_append (pv 6) (pa_cons (pv 10) pa_nil)))))))
       (pss_cons (ps_asg (pe_c G_recovery (hr.mono (by decide)) rfl (pa_cons (pe_ix (r := rIxL K) ix_list (pv 5) (pe_un un_neg pe_int) (fun _ _ => rfl)) (pa_cons (pv 3) (pa_cons (pv 4) pa_nil)))) (pg_tup rfl (pgs_cons (pg_name (i := 11) nd rfl (Or.inr rfl)) (pgs_cons (pg_name (i := 12) nd rfl (Or.inl rfl)) pgs_nil))))
       (pss_cons (ps_setLc (i := 13) (own := [("opening", 10)]) (g := gName 10) (tt := tYes) rfl nd rfl rfl (sw_true rfl rfl rfl (by decide +kernel)) (pi_list (pv 6)) (blkOk_by (own := [("opening", 10)]) (N := N_spellfrom) (sc := defScope st_spell_from) (by decide +kernel)) (fun _ _ _ _ _ => pg_name (i := 10) nd rfl (Or.inl rfl)) (fun _ _ _ _ _ => pts_nil) (fun _ _ _ _ _ => (pe_ifExp (PW.pt (pw_or (pt_cmp (pc_isN (pv 11))) (pw_or1 (pt_cmpR op_lt (pv 10) (pv 11) (nomark _))))) (pv 10) pe_non)))
       (pss_one (ps_ret (pe_tup (pa_cons (pe_mkSpell T (hr.mono (by decide)) rfl (pa_cons (pv 1) (pa_cons (pv 11) (pa_cons (pv 2) (pa_cons (pv 5) (pa_cons (pv 13) pa_nil)))))) (pa_cons (pv 12) pa_nil)))))))))), ?_⟩
    obtain ⟨dx, hp⟩ := R.ob
    refine ⟨_, rfl, _, rfl, p, dx, _, rfl, hp, rowF_no _ _ _ (by decide +kernel) (by decide +kernel) (by decide +kernel), p, B, xs, ts, st, ph, rfl, R, (by show 3 ≤ sizeLine; decide), fun t1 ht1 => ⟨(by show 1 ≤ sizeLine; decide), fun l1 hl1 => ⟨(by show 1 ≤ sizeLine; decide), fun l2 hl2 => ?_⟩⟩⟩
    refine ⟨(by show 0 ≤ sizeLine; decide), fun l3 hl3 => ?_⟩
    have sa := Same.upd (o := .tup [.int fr, .int st, .non]) ht1
    have sb := sa.trans (Same.upd (o := .lst [.ref t1]) hl1)
    have sc := sb.trans (Same.upd (o := .lst [.ref l1]) hl2)
    have sd := sc.trans (Same.upd (o := .lst []) hl3)
    have nl2 := none_of sb hl2
    have nl3 := none_of sc hl3
    have nl1 := none_of sa hl1
    have h12 : l1 ≠ l2 := ne_of_none (upd_same (a := l1)) hl2
    have h23 : l2 ≠ l3 := ne_of_none (upd_same (a := l2)) hl3
    have h13 : l1 ≠ l3 := ne_of_none (by rw [upd_ne h12]; exact upd_same) hl3
    have Rd := R.nl (NL.of sd)
    obtain ⟨dx2, hp2⟩ := Rd.ob
    refine ⟨_, rfl, p, dx2, _, rfl, hp2, rowF_no _ _ _ (by decide +kernel) (by decide +kernel) (by decide +kernel), p, B, xs, ts, st, ph, rfl, Rd, fun l4 H4 hl4 e4 => ?_⟩
    subst e4
    obtain ⟨ts0, hts0⟩ : ∃ ts0 : List Trn, ts0 = [(fr, st, none)] := ⟨_, rfl⟩
    have se := sd.trans (Same.upd (o := .lst xs) hl4)
    generalize hH4 : upd (upd (upd (upd (upd H t1 (.tup [.int fr, .int st, .non])) l1 (.lst [.ref t1])) l2 (.lst [.ref l1])) l3 (.lst [])) l4 (.lst xs) = H4 at se ⊢
    have g2 : H4 l2 = some (.lst [.ref l1]) := by
      rw [← hH4]
      refine (Same.upd hl4) _ _ ?_
      rw [upd_ne h23]
      exact upd_same
    have g3 : H4 l3 = some (.lst []) := by
      rw [← hH4]
      exact (Same.upd hl4) _ _ upd_same
    have g4 : H4 l4 = some (.lst xs) := by
      rw [← hH4]
      exact upd_same
    have g1 : H4 l1 = some (.lst [.ref t1]) := by
      rw [← hH4]
      refine (Same.upd hl4) _ _ ?_
      rw [upd_ne h13, upd_ne h12]
      exact upd_same
    have gt : H4 t1 = some (.tup [.int fr, .int st, .non]) := by
      have h1 := (Same.upd (o := .lst [.ref t1]) hl1) _ _ (upd_same (H := H) (a := t1) (o := .tup [.int fr, .int st, .non]))
      have h2 := (Same.upd (o := .lst [.ref l1]) hl2) _ _ h1
      have h3 := (Same.upd (o := .lst []) hl3) _ _ h2
      rw [← hH4]
      exact (Same.upd hl4) _ _ h3
    have hbl0 : H bl = some (.lst bz) := Fr.le _ _ hbl
    have nl4 : l4 ≠ l2 := fun z => by
      rw [z] at hl4
      rw [upd_ne h23, upd_same] at hl4
      cases hl4
    have nl43 : l4 ≠ l3 := fun z => by
      rw [z, upd_same] at hl4
      cases hl4
    have nb2 : bl ≠ l2 := ne_of_none hbl0 nl2
    have nb3 : bl ≠ l3 := ne_of_none hbl0 nl3
    -- the base: what stood before, and the two lists
    obtain ⟨Hx, hHx⟩ : ∃ Hx : Hp, Hx = upd (upd H l2 (.lst [])) l3 (.lst []) := ⟨_, rfl⟩
    have x2 : Hx l2 ≠ none := by rw [hHx, upd_ne h23, upd_same]; exact fun z => nomatch z
    have x3 : Hx l3 ≠ none := by rw [hHx, upd_same]; exact fun z => nomatch z
    have sx : Same H Hx := fun b o e => by
      rw [hHx, upd_ne (ne_of_none e nl3), upd_ne (ne_of_none e nl2)]
      exact e
    have xnew : ∀ {b}, b ≠ l2 → b ≠ l3 → H b = none → Hx b = none := fun n1 n2 e => by rw [hHx, upd_ne n2, upd_ne n1]; exact e
    have xlen := R.br.len
    have R12 := R.ln
    have bzl := paired_len hbz
    have e40 : (1000000000000000000000000000000 : Int) ≤ PB 104 := PB_of (by decide +kernel)
    have R0 : RunOk n0 1 fr ts0 := by
      rw [hts0]
      refine ⟨⟨fun t ht => ?_, List.pairwise_singleton _ _⟩, fun t ht => ?_, Nat.le_refl _, rfl, ?_⟩
      · rw [List.mem_singleton.mp ht]
        exact ⟨f0, R.s0, fun c e => nomatch e⟩
      · rw [List.mem_singleton.mp ht]
        exact ⟨f1, Int.le_trans R.s1 (Int.le_trans e40 (PB_le n01)), fun c e => nomatch e⟩
      · show some (fr + 0 * st) = some fr
        rw [Int.zero_mul, Int.add_zero]
    have t12 : t1 ≠ l2 := fun z => by
      rw [z, g2] at gt
      cases gt
    have t13 : t1 ≠ l3 := fun z => by
      rw [z, g3] at gt
      cases gt
    have it0 : TrAt (Fr Hx H4) (.ref t1) (fr, st, none) := ⟨t1, rfl, by rw [Fr.new (xnew t12 t13 ht1)]; exact gt⟩
    have i1 : RunAt (Fr Hx H4) (.ref l1) ts0 := ⟨l1, [.ref t1], rfl, by rw [Fr.new (xnew h12 h13 nl1)]; exact g1, by rw [hts0]; exact .cons it0 .nil⟩
    have i0 : Rns (Fr Hx H4) [.ref l1] [ts0] := .cons i1 .nil
    refine ⟨_, rfl, l4, bl, xs, bz, rfl, SqL.of g4, SqL.of (se _ _ hbl0), ?_⟩
    refine RZ.for_zipL (K := K) (a := l4) (b := bl) (xs := xs) (ys := bz) (by omega) (fun i σ H2 => ∃ v7 v8 v9 v10 : Option V, ∃ zR zO, ∃ (Rr : List (List Trn)) (g : List Trn) (O : List Int),
        σ = [some (.ref p), some (.int fr), some (.ref bl), some (.ref q), some (.int at'), some (.ref l2), some (.ref l3), v7, v8, v9, v10, none, none, none] ∧
        H2 l2 = some (.lst zR) ∧ Rns (Fr Hx H2) zR (Rr ++ [g]) ∧ H2 l3 = some (.lst zO) ∧ zO = O.map V.int ∧ O.length = i ∧ Rr.length = i ∧
        chR ts bg ts0 = Rr ++ chR (ts.drop i) (bg.drop i) g ∧ chO ts bg ts0 = O ++ chO (ts.drop i) (bg.drop i) g ∧ chL ts bg ts0 = chL (ts.drop i) (bg.drop i) g ∧
        RunOk (n0 + 44 * i) (1 + i) fr g ∧ Same H H2 ∧ H2 l4 = some (.lst xs))
      ⟨none, none, none, none, [.ref l1], [], [], ts0, [], rfl, g2, i0, g3, rfl, rfl, rfl, rfl, rfl, rfl, R0, se, g4⟩
      (fun i σ H2 ⟨_, _, _, _, _, _, _, _, _, _, _, _, _, _, _, _, _, _, _, _, s, h4⟩ => ⟨SqL.of h4, SqL.of (s _ _ hbl0)⟩) ?_ ?_
    · rintro i x y T1 σ H2 hx hy' ⟨v7, v8, v9, v10, zR, zO, Rr, g, O, rfl, h2, hR, h3, rfl, ol, rl, c1, c2, c3, RG, s2, h4⟩ hT1
      obtain ⟨b, hbb, hbx⟩ := R.br.get hx
      obtain ⟨s, hss, hsx⟩ := paired_get hbz hy'
      have hi := (List.getElem?_eq_some_iff.mp hbb).1
      have sT := Same.upd (o := .tup [x, y]) hT1
      have okb := R.ok b (List.mem_of_getElem? hbb)
      obtain ⟨zi, lg, rfl, ga, gx, rfl, hga, hgx⟩ : ∃ zi lg, zR = zi ++ [lg] ∧ RunAt (Fr Hx H2) lg g := paired_last hR
      have hga2 := sT _ _ (Fr.le _ _ hga)
      have hgx2 := (Trs.same Fr.le hgx).same sT
      have n100 : 100 ≤ n0 + 44 * i := by omega
      have ndl : 1 ≤ ndOf b s ∧ ndOf b s ≤ 1000000000000 := by unfold ndOf; obtain ⟨o1, o2, _⟩ := okb; split <;> omega
      obtain ⟨o, y2, ho, hy2, o0, oB, yB, fo, RG2, PG, _⟩ := pass_ok RG ndl.1 (Int.le_trans ndl.2 (PB_of (n := 40) (by decide +kernel))) okb.2.2.1 (Int.le_trans okb.2.2.2.1 (PB_of (n := 100) (by decide +kernel))) n100
      have s2T := s2.trans sT
      refine ⟨T1, _, rfl, SqT.of upd_same, rfl, _, _, rfl, _, _, rfl, rfl, ?_⟩
      refine ⟨_, rfl, 1, rfl, l2, _, -1, .ref ga, rfl, rfl, SqL.of (sT _ _ h2), atI_last zi _, _, rfl, _, rfl, ga, x, y, gx, g, b, s, n0 + 44 * i, 1 + i, fr, o, rfl, hga2, hgx2, hbx.nl (NL.of s2T), okb, (Sts.same Fr.le hbz |> fun _ => hsx.same (Fr.le.trans s2T)), RG, n100, by omega, by omega, ho, fun t l zs H6 ht hl tz s6 nt nl => ?_⟩
      refine ⟨t, _, rfl, SqT.of ht, rfl, _, _, rfl, _, _, rfl, rfl, ?_⟩
      have h26 := s6 _ _ (sT _ _ h2)
      have h36 := s6 _ _ (sT _ _ h3)
      have zl := paired_len hR
      rw [List.length_append, List.length_append] at zl
      have zl : zi.length + 1 = Rr.length + 1 := zl
      refine ⟨_, rfl, .inl ⟨rfl, _, SqL.of h26⟩, _, rfl, l2, _, _, rfl, rfl, h26, small1 (by rw [List.length_append]; show zi.length + 1 ≤ 100000; omega), ?_⟩
      obtain ⟨H7, hH7⟩ : ∃ H7 : Hp, H7 = upd H6 l2 (.lst ((zi ++ [.ref ga]) ++ [.ref l])) := ⟨_, rfl⟩
      rw [← hH7]
      have h37 : H7 l3 = some (.lst (O.map V.int)) := by rw [hH7, upd_ne h23.symm]; exact h36
      have h27 : H7 l2 = some (.lst ((zi ++ [.ref ga]) ++ [.ref l])) := by rw [hH7]; exact upd_same
      have k7 : Kp l2 H6 H7 := by rw [hH7]; exact Kp.upd
      refine ⟨_, rfl, .inl ⟨rfl, _, SqL.of h37⟩, _, rfl, l3, _, _, rfl, rfl, h37, small1 (by rw [List.length_map]; omega), ?_⟩
      have k8 : Kp l3 H7 (upd H7 l3 (.lst (O.map V.int ++ [.int o]))) := Kp.upd
      have nl6 : H l = none := none_of s2T nl
      have nlx : Hx l = none := xnew (ne_of_none (sT _ _ h2) nl |>.symm) (ne_of_none (sT _ _ h3) nl |>.symm) nl6
      have ll2 : l ≠ l2 := (ne_of_none (sT _ _ h2) nl).symm
      have ll3 : l ≠ l3 := (ne_of_none (sT _ _ h3) nl).symm
      have sF : Same (Fr Hx H6) (Fr Hx (upd H7 l3 (.lst (O.map V.int ++ [.int o])))) := (Fr.kp k7 x2 h26).trans (Fr.kp k8 x3 h37)
      have hl8 : (upd H7 l3 (.lst (O.map V.int ++ [.int o]))) l = some (.lst zs) := k8 _ _ ll3 (k7 _ _ ll2 hl)
      have tz6 : Trs (Fr Hx H6) zs (passG g (ndOf b s) b.2.1 o) := by
        exact L2.Paired.mapP tz fun u v ⟨a, e, h⟩ => ⟨a, e, Fr.nol h fun _ z => nomatch z⟩
      have dts : ts.drop i = b :: ts.drop (i + 1) := by
        rw [List.drop_eq_getElem_cons hi]
        congr 1
        exact (List.getElem?_eq_some_iff.mp hbb).2
      have dbg : bg.drop i = s :: bg.drop (i + 1) := by
        rw [List.drop_eq_getElem_cons (show i < bg.length by omega)]
        congr 1
        exact (List.getElem?_eq_some_iff.mp hss).2
      rw [dts, dbg] at c1 c2 c3
      have q1 : chR (b :: ts.drop (i + 1)) (s :: bg.drop (i + 1)) g = g :: chR (ts.drop (i + 1)) (bg.drop (i + 1)) (passG g (ndOf b s) b.2.1 o) := by
        show (match At g (ndOf b s - 1) with | some o => _ | none => _) = _
        rw [ho]
      have q2 : chO (b :: ts.drop (i + 1)) (s :: bg.drop (i + 1)) g = o :: chO (ts.drop (i + 1)) (bg.drop (i + 1)) (passG g (ndOf b s) b.2.1 o) := by
        show (match At g (ndOf b s - 1) with | some o => _ | none => _) = _
        rw [ho]
      have q3 : chL (b :: ts.drop (i + 1)) (s :: bg.drop (i + 1)) g = chL (ts.drop (i + 1)) (bg.drop (i + 1)) (passG g (ndOf b s) b.2.1 o) := by
        show (match At g (ndOf b s - 1) with | some o => _ | none => _) = _
        rw [ho]
      refine ⟨_, _, _, _, _, _, Rr ++ [g], passG g (ndOf b s) b.2.1 o, O ++ [o], rfl, ?_, paired_app (((hR.same (Fr.same sT)).same (Fr.same s6)).same sF) (.cons ⟨l, zs, rfl, by rw [Fr.new nlx]; exact hl8, tz6.same sF⟩ .nil), upd_same, by rw [List.map_append]; rfl, by rw [List.length_append]; show O.length + 1 = _; omega, by rw [List.length_append]; show Rr.length + 1 = _; omega, ?_, ?_, ?_, ?_, ?_, ?_⟩
      · rw [upd_ne h23]
        exact h27
      · rw [c1, q1, List.append_assoc]
        rfl
      · rw [c2, q2, List.append_assoc]
        rfl
      · rw [c3, q3]
      · rw [show n0 + 44 * (i + 1) = n0 + 44 * i + 44 by omega, show 1 + (i + 1) = 1 + i + 1 by omega]
        exact RG2
      · intro u w e
        exact k8 _ _ (ne_of_none e nl3) (k7 _ _ (ne_of_none e nl2) (s6 _ _ (s2T _ _ e)))
      · exact k8 _ _ nl43 (k7 _ _ nl4 (s6 _ _ (sT _ _ h4)))
    · rintro σ H2 ⟨v7, v8, v9, v10, zR, zO, Rr, g, O, rfl, h2, hR, h3, rfl, ol, rl, c1, c2, c3, RG, s2, h4⟩
      have d1 : ts.drop xs.length = [] := List.drop_eq_nil_of_le (by omega)
      rw [d1] at c1 c2 c3
      have c1 : chR ts bg ts0 = Rr ++ [g] := c1
      have c2 : chO ts bg ts0 = O ++ [] := c2
      have c3 : chL ts bg ts0 = g := c3
      rw [List.append_nil] at c2
      obtain ⟨zi, lg, rfl, ga, gx, rfl, hga, hgx⟩ : ∃ zi lg, zR = zi ++ [lg] ∧ RunAt (Fr Hx H2) lg g := paired_last hR
      have hga2 := Fr.le _ _ hga
      have hgx2 := Trs.same Fr.le hgx
      refine ⟨_, rfl, 1, rfl, l2, _, -1, .ref ga, rfl, rfl, SqL.of h2, atI_last zi _, _, rfl, _, rfl, ga, q, gx, g, ys, os, _, _, fr, at', rfl, hga2, hgx2, RG, by omega, by omega, hq.same s2, hy.same s2, hb, hat, fun t H3 ht s3 nt => ?_⟩
      obtain ⟨rc, hrc⟩ : ∃ rc, rc = (recM g (os.drop at')).1 := ⟨_, rfl⟩
      rw [← hrc] at ht
      refine ⟨t, _, rfl, SqT.of ht, rfl, _, _, rfl, _, _, rfl, rfl, ?_⟩
      have h33 := s3 _ _ h3
      refine ⟨_, rfl, l3, rfl, ⟨_, SqL.of h33⟩, fun D1 hD1 => ?_⟩
      refine lc_list (K := K) (a := l3) (xs := O.map V.int) (fun j Hc => Hc D1 = some (.lst (((O.take j).map (cutO rc)).map cV)) ∧ Same H3 Hc) ⟨upd_same, Same.upd hD1⟩ (fun j Hc _ ⟨_, s⟩ => SqL.of (s _ _ h33)) ?_ ?_
      · rintro j y Hc hy2 ⟨hD, sc2⟩
        obtain ⟨o, ho, rfl⟩ : ∃ o, O[j]? = some o ∧ y = .int o := by
          rw [List.getElem?_map] at hy2
          cases q : O[j]? with
          | none => rw [q] at hy2; cases hy2
          | some o => rw [q] at hy2; cases hy2; exact ⟨o, rfl, rfl⟩
        have hj := (List.getElem?_eq_some_iff.mp ho).1
        refine ⟨rfl, tYes_of ?_⟩
        have fin : ∃ acc, Hc D1 = some (.lst acc) ∧ acc.length < sizeLine ∧ (upd Hc D1 (.lst (acc ++ [cV (cutO rc o)]))) D1 = some (.lst (((O.take (j + 1)).map (cutO rc)).map cV)) ∧ Same H3 (upd Hc D1 (.lst (acc ++ [cV (cutO rc o)]))) := by
          refine ⟨_, hD, small1 (by rw [List.length_map, List.length_map, List.length_take]; omega), ?_, fun u w e => ?_⟩
          · rw [upd_same, List.take_add_one, ho, List.map_append, List.map_append]
            rfl
          · rw [upd_ne (ne_of_none e hD1)]
            exact sc2 _ _ e
        clear hrc
        cases rc with
        | none => exact ⟨_, rfl, _, rfl, iteT ⟨_, rfl, fin⟩⟩
        | some r =>
          refine ⟨_, rfl, _, rfl, iteF ⟨_, rfl, _, rfl, _, _, rfl, rfl, _, rfl, ?_⟩⟩
          refine ite2 (fun c => ?_) (fun c => ?_)
          · have e : cutO (some r) o = some o := if_pos (of_decide_eq_true c)
            rw [e] at fin
            exact ⟨_, rfl, fin⟩
          · have e : cutO (some r) o = none := if_neg fun z => c (decide_eq_true z)
            rw [e] at fin
            exact fin
      rintro H5 ⟨hD, s5⟩
      rw [List.length_map, List.take_length] at hD
      refine ⟨_, rfl, _, rfl, _, rfl, _, rfl, _, rfl, ?_⟩
      refine spell_made (f := fr) (r := rc) (aB := bl) (aR := l2) (aO := D1) fun p2 dx3 H6 h6 s6 n6 => ?_
      refine ⟨_, rfl, (by show 2 ≤ sizeLine; decide), fun tp htp => ?_⟩
      have s7 := Same.upd (o := .tup [.ref p2, .int (at' + (recM g (os.drop at')).2 : Nat)]) htp
      have s37 := ((s3.trans s5).trans s6).trans s7
      have s5H := (s2.trans s3).trans s5
      have s27 := s2.trans s37
      have eD : spellD ts st fr bg (os.drop at') = ⟨fr, rc, bg, Rr ++ [g], O.map (cutO rc)⟩ := by
        unfold spellD
        rw [← hts0, c1, c2, c3, ← hrc]
      have eN : spellN ts st fr bg (os.drop at') = (recM g (os.drop at')).2 := by
        unfold spellN
        rw [← hts0, c3]
      refine kk tp p2 _ (by rw [eN]; exact upd_same) ?_ s27 (none_of (s5H.trans s6) htp)
      rw [eD]
      refine ⟨p2, bl, l2, D1, bz, zi ++ [.ref ga], rfl, ⟨dx3, Fr.nol (s7 _ _ h6) fun _ z => nomatch z⟩, Fr.same s27 _ _ hbl, hbz.same (Fr.same s27), ?_, ?_, ?_⟩
      · exact Fr.of (s37 _ _ h2) (.inl (h0 _ nl2))
      · exact (hR.same (Fr.same s37)).same (Fr.base' fun b e => h0 b (none_of sx e))
      · exact Fr.of (s7 _ _ (s6 _ _ hD)) (.inl (h0 _ (none_of (s2.trans s3) hD1)))
theorem ok_spellfrom (T : LX K mg L) : Cal P w K mg base "spell_from" 6 L.f_spell_from ["row", "first", "begun", "outages", "at"] (spSpell L.c_Row L.c_Spell) := T.d_spell_from.cal fun fd F => fn_spellfrom T F
end
/-! ### the spells of a row -/
theorem ch_ok : ∀ {bs : List Tri} {bg : List StD} {n k : Nat} {fr : Int} {ts : List Trn}, RunOk n k fr ts → bg.length = bs.length → (∀ b ∈ bs, OkT b) → 100 ≤ n → (chO bs bg ts).length = bs.length ∧ RunOk (n + 44 * bs.length) (k + bs.length) fr (chL bs bg ts)
  | [], bg, n, k, fr, ts, R, _, _, _ => ⟨by cases bg <;> rfl, by
    have e : chL [] bg ts = ts := by cases bg <;> rfl
    rw [e]
    exact R⟩
  | b :: bs, [], n, k, fr, ts, R, hl, _, _ => by cases hl
  | b :: bs, s :: ss, n, k, fr, ts, R, hl, ho, hn => by
    have okb := ho b (List.mem_cons_self ..)
    have ndl : 1 ≤ ndOf b s ∧ ndOf b s ≤ 1000000000000 := by unfold ndOf; obtain ⟨o1, o2, _⟩ := okb; split <;> omega
    obtain ⟨o, y2, h1, hy2, o0, oB, yB, fo, RG2, _⟩ := pass_ok R ndl.1 (Int.le_trans ndl.2 (PB_of (n := 40) (by decide +kernel))) okb.2.2.1 (Int.le_trans okb.2.2.2.1 (PB_of (n := 100) (by decide +kernel))) hn
    obtain ⟨i1, i2⟩ := ch_ok (bs := bs) (bg := ss) RG2 (by simpa using hl) (fun u hu => ho u (List.mem_cons_of_mem _ hu)) (by omega)
    have e1 : chO (b :: bs) (s :: ss) ts = o :: chO bs ss (passG ts (ndOf b s) b.2.1 o) := by
      show (match At ts (ndOf b s - 1) with | some o => _ | none => _) = _
      rw [h1]
    have e2 : chL (b :: bs) (s :: ss) ts = chL bs ss (passG ts (ndOf b s) b.2.1 o) := by
      show (match At ts (ndOf b s - 1) with | some o => _ | none => _) = _
      rw [h1]
    rw [e1, e2]
    refine ⟨by rw [List.length_cons, List.length_cons, i1], ?_⟩
    rw [show n + 44 * (b :: bs).length = n + 44 + 44 * bs.length by rw [List.length_cons]; omega, show k + (b :: bs).length = k + 1 + bs.length by rw [List.length_cons]; omega]
    exact i2
theorem rec_ok {g : List Trn} : ∀ {l : List Out}, l ≠ [] → 1 ≤ (recM g l).2 ∧ (recM g l).2 ≤ l.length
  | [], h => absurd rfl h
  | [(b, none)], _ => ⟨Nat.le_refl _, Nat.le_refl _⟩
  | [(b, some e)], _ => ⟨Nat.le_refl _, Nat.le_refl _⟩
  | (b, none) :: o :: os, _ => ⟨Nat.le_refl _, by show 1 ≤ os.length + 1 + 1; omega⟩
  | (b, some e) :: (b2, e2) :: os, _ => by
    have ih := rec_ok (g := g) (l := (b2, e2) :: os) (fun z => nomatch z)
    show 1 ≤ (if (nxT g e).getD 0 < b2 then (nxT g e, 1) else ((recM g ((b2, e2) :: os)).1, (recM g ((b2, e2) :: os)).2 + 1)).2 ∧ (if (nxT g e).getD 0 < b2 then (nxT g e, 1) else ((recM g ((b2, e2) :: os)).1, (recM g ((b2, e2) :: os)).2 + 1)).2 ≤ os.length + 1 + 1
    have hl : ((b2, e2) :: os).length = os.length + 1 := rfl
    split
    · exact ⟨Nat.le_refl _, by show 1 ≤ _; omega⟩
    · exact ⟨by show 1 ≤ _ + 1; omega, by show _ + 1 ≤ _; omega⟩
theorem rec_none {g : List Trn} (hs : Srt g) (hT : Tot g = none) : ∀ {l : List Out}, (∀ o ∈ l.dropLast, o.2 ≠ none) → (recM g l).1 = none → (recM g l).2 = l.length
  | [], _, _ => rfl
  | [(b, none)], _, _ => rfl
  | [(b, some e)], _, h => rfl
  | (b, none) :: o :: os, hd, _ => absurd rfl (hd (b, none) (List.mem_cons_self ..))
  | (b, some e) :: (b2, e2) :: os, hd, h => by
    have ih := rec_none (g := g) hs hT (l := (b2, e2) :: os) (fun o ho => hd o (List.mem_cons_of_mem _ ho))
    obtain ⟨y, hy⟩ := nx_end hs hT e
    have er : recM g ((b, some e) :: (b2, e2) :: os) = if (nxT g e).getD 0 < b2 then (nxT g e, 1) else ((recM g ((b2, e2) :: os)).1, (recM g ((b2, e2) :: os)).2 + 1) := rfl
    rw [er] at h ⊢
    by_cases c : (nxT g e).getD 0 < b2
    · rw [if_pos c, hy] at h
      cases h
    · rw [if_neg c] at h ⊢
      show _ + 1 = _
      rw [ih h]
      rfl
structure OsOk (nb : Nat) (os : List Out) : Prop where
  bd : ∀ o ∈ os, 0 ≤ o.1 ∧ o.1 ≤ PB nb ∧ ∀ e, o.2 = some e → e ≤ PB nb
  la : ∀ o ∈ os.dropLast, o.2 ≠ none
  ln : os.length ≤ 60
  n1 : 104 ≤ nb
  n2 : nb ≤ 1900
def reqA (ph st b : Int) : Int := ph + stepsUp (b - ph) st * st
theorem reqA_ok {ph st b : Int} (s1 : 1 ≤ st) (s2 : st ≤ 1000000000000000000000000000000) (p0 : 0 ≤ ph) (p1 : ph ≤ 1000000000000000000000000000000) {nb : Nat} (b1 : b ≤ PB nb) (n1 : 104 ≤ nb) : 0 ≤ reqA ph st b ∧ reqA ph st b ≤ PB (nb + 1) ∧ 0 ≤ stepsUp (b - ph) st ∧ stepsUp (b - ph) st ≤ PB nb := by
  have e104 : (1000000000000000000000000000000 : Int) ≤ PB 104 := PB_of (by decide +kernel)
  have e2 : PB 104 ≤ PB nb := PB_le n1
  have e3 := PB_succ nb
  have e4 := PB_pos nb
  have h0 : 0 ≤ stepsUp (b - ph) st := by unfold stepsUp; split <;> omega
  have h1 := steps_le' (d := b - ph) (p := st) (by omega)
  have h2 := Int.mul_nonneg h0 (show 0 ≤ st by omega)
  unfold reqA
  by_cases c : 0 < b - ph
  · rw [if_pos c] at h1
    have h3 := (stride_lt (wt := b - ph) (p := st) (by omega) (by omega)).1
    omega
  · rw [if_neg c] at h1
    have : stepsUp (b - ph) st = 0 := by omega
    rw [this, Int.zero_mul]
    omega
def bgOf (bs : List Tri) (stp : Int) (pv : Option SpD) (z : Int) : List StD := match pv with
  | none => List.replicate bs.length ("closed", 0)
  | some d => stBeh bs stp d z
theorem spM_skip {bs : List Tri} {stp ph : Int} {n : Nat} {pv : Option SpD} {b e : Int} {os : List Out} (h : e ≤ reqA ph stp b) : spM bs stp ph (n + 1) pv ((b, some e) :: os) = spM bs stp ph n pv os := if_pos (decide_eq_true h)
theorem spM_take {bs : List Tri} {stp ph : Int} {n : Nat} {pv : Option SpD} {b : Int} {e : Option Int} {os : List Out} (h : ∀ z, e = some z → ¬ z ≤ reqA ph stp b) :
    spM bs stp ph (n + 1) pv ((b, e) :: os) = spellD bs stp (reqA ph stp b) (bgOf bs stp pv (reqA ph stp b - 1)) ((b, e) :: os) :: spM bs stp ph n (some (spellD bs stp (reqA ph stp b) (bgOf bs stp pv (reqA ph stp b - 1)) ((b, e) :: os))) (((b, e) :: os).drop (spellN bs stp (reqA ph stp b) (bgOf bs stp pv (reqA ph stp b - 1)) ((b, e) :: os))) := by
  cases e with
  | none => rfl
  | some z => exact if_neg fun q => h z rfl (of_decide_eq_true q)
theorem tIf_e {e : Option Int} {i j : Nat} {A B : TS} {D : Ends} {σ : L2.St} {H : Hp} {fr : Int} (he : σ[i]? = some (some (cV e))) (hf : σ[j]? = some (some (.int fr))) (hA : ∀ z, e = some z → z ≤ fr → A D σ H) (hB : (∀ z, e = some z → ¬ z ≤ fr) → B D σ H) :
    tIfS (tAnd (tB (tNotN (tVar i))) (tTest (tOp (rI0 fun i j => V.bl (decide (j ≤ i))) (tVar j) (tVar i)))) A B D σ H := by
  cases e with
  | none => exact ⟨_, he, _, rfl, iteF (hB fun z e => nomatch e)⟩
  | some z =>
    refine ⟨_, he, _, rfl, iteT ⟨_, hf, _, he, _, _, rfl, rfl, _, rfl, ite2 (fun c => hA z rfl (of_decide_eq_true c)) (fun c => hB fun z' e => ?_)⟩⟩
    cases e
    exact fun q => c (decide_eq_true q)
def spSpells (C CS : Addr) : Sp := fun vs H Q _ => ∃ p B xs ts st ph q ys os nb, vs = [.ref p, .ref q] ∧ RowAt C H p B xs ts st ph ∧ SqE H q ys ∧ Ots H ys os ∧ OsOk nb os ∧
  ∀ l zs H', H' l = some (.lst zs) → SpVs CS (Fr H H') zs (spM ts st ph os.length none os) → Same H H' → H l = none → Q (.ref l) H'
section
variable {P : Program} {w : World} {K : PySem.W.Frag} {mg : Str → Option Value} {base : Heap} {L : LA}
abbrev N_spellsof : List Str := ["row", "outages", "spells", "at", "begin", "end", "first", "begun", "spell"]
theorem sc_spellsof : FnScope N_spellsof ["row", "outages"] (defScope st_spells_of) := ⟨rfl, rfl, rfl, by decide +kernel, rfl, by decide +kernel, by decide +kernel⟩
theorem fn_spellsof (T : LX K mg L) {fd : FuncData} (F : Fun K "spells_of" "spells_of" st_spells_of L.f_spells_of fd) : FnOk P w K mg base CX0 7 L.f_spells_of fd ["row", "outages"] (spSpells L.c_Row L.c_Spell) := by
  have G_requesttime := ok_requesttime (P := P) (w := w) (base := base) T
  have G_firstrequest := ok_firstrequest (P := P) (w := w) (base := base) T
  have G_spellfrom := ok_spellfrom (P := P) (w := w) (base := base) T
  have G_statesbehind := ok_statesbehind (P := P) (w := w) (base := base) T
  have G_closedstates := ok_closedstates (P := P) (w := w) (base := base) T
  have G_Rowlen := ok_Rowlen (P := P) (w := w) (base := base) T
  have nd := sc_spellsof.nd
  refine F.ok sc_spellsof (fun vs H Q E h => ?_) (fun cdv A outer S H vs Q E hr h => ?_)
  · obtain ⟨p, B, xs, ts, st, ph, q, ys, os, nb, rfl, _⟩ := h
    rfl
  · obtain ⟨p, B, xs, ts, st, ph, q, ys, os, nb, rfl, R, hq, hy, O, kk⟩ := h
    refine ⟨_, (pss_cons (ps_set (i := 2) nd rfl (Or.inl rfl) (pe_lst pa_nil))
       (pss_cons (ps_set (i := 3) nd rfl (Or.inl rfl) pe_int)
       (pss_cons (ps_while PassesOwn.never (pt_cmpR op_lt (pv 3) (pe_callB call_len_seq (by rfl) T.b_len PySem.boot_len (pa_cons (pv 1) pa_nil)) (nomark _)) (pss_cons (ps_asg (pe_ix (r := rIx K) ix_seq (pv 1) (pv 3) (fun _ _ => rfl)) (pg_tup rfl (pgs_cons (pg_name (i := 4) nd rfl (Or.inl rfl)) (pgs_cons (pg_name (i := 5) nd rfl (Or.inl rfl)) pgs_nil))))
       (pss_cons (ps_set (i := 6) nd rfl (Or.inl rfl) (pe_c G_requesttime (hr.mono (by decide)) rfl (pa_cons (pv 0) (pa_cons (pe_c G_firstrequest (hr.mono (by decide)) rfl (pa_cons (pv 0) (pa_cons (pv 4) pa_nil))) pa_nil))))
       (pss_one (ps_if (PW.pt (pw_and (pt_cmp (pc_notN (pv 5))) (pw_and1 (pt_cmpR op_ge (pv 6) (pv 5) (nomark _))))) (pss_one (ps_aug (i := 3) nd rfl (Or.inl rfl) pe_int ip_add)) (C8.pss_cut (ps_set (i := 7) nd rfl (Or.inl rfl) (pe_ifExp (pt_truth (pv 2) (fun _ => rfl)) (pe_c G_statesbehind (hr.mono (by decide)) rfl (pa_cons (pv 0) (pa_cons (pe_ix (r := rIxL K) ix_list (pv 2) (pe_un un_neg pe_int) (fun _ _ => rfl)) (pa_cons (pe_op op_sub (pv 6) pe_int) pa_nil)))) (pe_c G_closedstates (hr.mono (by decide)) rfl (pa_cons (pe_callB (G_Rowlen.c_len (hr.mono (by decide))) (by rfl) T.b_len PySem.boot_len (pa_cons (pv 0) pa_nil)) pa_nil))))
       (pss_cons (ps_asg (pe_c G_spellfrom (hr.mono (by decide)) rfl (pa_cons (pv 0) (pa_cons (pv 6) (pa_cons (pv 7) (pa_cons (pv 1) (pa_cons (pv 3) pa_nil)))))) (pg_tup rfl (pgs_cons (pg_name (i := 8) nd rfl (Or.inl rfl)) (pgs_cons (pg_name (i := 3) nd rfl (Or.inl rfl)) pgs_nil))))
       (pss_one (ps_expr (pe_bm PySem.F.plainAttrs_list PySem.F.slot_list_append PySem.F.type_list_append mt_append (pv 2) (pa_cons (pv 8) pa_nil)))))))))))
       (pss_one (ps_ret (pv 2)))))), ?_⟩
    refine ⟨(by show 0 ≤ sizeLine; decide), fun l hl => ?_⟩
    have s1 := Same.upd (o := .lst []) hl
    obtain ⟨H1, hH1⟩ : ∃ H1 : Hp, H1 = upd H l (.lst []) := ⟨_, rfl⟩
    have hl1 : H1 l = some (.lst []) := by rw [hH1]; exact upd_same
    have xl1 : H1 l ≠ none := by rw [hl1]; exact fun z => nomatch z
    rw [← hH1] at s1 ⊢
    have yl := paired_len hy
    have R12 := R.ln
    have Os := O.ln
    refine while_by (fun σ H2 => ∃ f n' : Nat, ∃ v4 v5 v6 v7 v8 : Option V, ∃ (zs : List V) (ds : List SpD), σ = [some (.ref p), some (.ref q), some (.ref l), some (.int f), v4, v5, v6, v7, v8] ∧ H2 l = some (.lst zs) ∧ SpVs L.c_Spell (Fr H1 H2) zs ds ∧ os.length - f ≤ n' ∧ f ≤ os.length ∧ zs.length ≤ f ∧
        spM ts st ph os.length none os = ds ++ spM ts st ph n' ds.getLast? (os.drop f) ∧ Same H H2 ∧ (f < os.length → ∀ d ∈ ds, (∃ r, d.rcv = some r) ∧ d.op.length = ts.length))
      (fun σ _ => match σ with | [_, _, _, some (.int f), _, _, _, _, _] => (os.length - f).toNat | _ => 0)
      ⟨0, os.length, none, none, none, none, none, [], [], rfl, hl1, .nil, Nat.le_refl _, Nat.zero_le _, Nat.le_refl _, rfl, s1, fun _ d hd => nomatch hd⟩ ?_ ?_
    · rintro σ H2 ⟨f, n', v4, v5, v6, v7, v8, zs, ds, rfl, h2, dv, fn, fl, zf, em, s2, lst⟩
      refine ⟨_, rfl, _, rfl, q, ys, rfl, (hq.same s2).sq, _, _, rfl, rfl, _, rfl, ?_⟩
      refine ite2 (fun c => ?_) (fun c => ?_)
      rotate_left
      · have c' : ¬ (f : Int) < ys.length := fun z => c (decide_eq_true z)
        have d0 : os.drop f = [] := List.drop_eq_nil_of_le (by omega)
        rw [d0] at em
        have e0 : spM ts st ph n' ds.getLast? [] = [] := by cases n' <;> rfl
        rw [e0, List.append_nil] at em
        refine ⟨_, rfl, kk l zs H2 h2 ?_ s2 hl⟩
        rw [em]
        exact dv.same (Fr.base s1)
      have c' : (f : Int) < ys.length := of_decide_eq_true c
      have hf : f < os.length := by omega
      obtain ⟨x, hxf⟩ : ∃ x, ys[f]? = some x := ⟨_, List.getElem?_eq_getElem (by omega)⟩
      obtain ⟨⟨b, e⟩, hof, hot⟩ := paired_get (hy.same s2) hxf
      obtain ⟨cx, rfl, hc⟩ := hot
      have hmem := List.mem_of_getElem? hof
      obtain ⟨b0, b1, b2⟩ := O.bd _ hmem
      have b0 : 0 ≤ b := b0
      have b1 : b ≤ PB nb := b1
      have dr : os.drop f = (b, e) :: os.drop (f + 1) := by
        rw [List.drop_eq_getElem_cons hf]
        congr 1
        exact (List.getElem?_eq_some_iff.mp hof).2
      have R2 := R.nl (NL.of s2)
      obtain ⟨f0, f1, f2, f3⟩ := reqA_ok R.s0 R.s1 R.p0 R.p1 b1 O.n1
      have nB : PB nb ≤ BB := PB_le (by have := O.n2; omega)
      obtain ⟨m', rfl⟩ : ∃ m', n' = m' + 1 := ⟨n' - 1, by omega⟩
      refine ⟨_, rfl, _, rfl, (hq.same s2).ix (atI_nat hxf) ⟨cx, _, rfl, SqT.of hc, rfl, _, _, rfl, _, _, rfl, rfl, ?_⟩⟩
      refine ⟨_, rfl, _, rfl, _, rfl, p, B, xs, ts, st, ph, b, rfl, R2, b0, p, B, xs, ts, st, ph, _, rfl, R2, f2, by omega, ?_⟩
      refine tIf_e (e := e) (fr := reqA ph st b) rfl rfl (fun z ez zl => ?_) (fun hno => ?_)
      · subst ez
        refine ⟨_, rfl, _, _, rfl, rfl, ⟨f + 1, m', _, _, _, _, _, zs, ds, rfl, h2, dv, by omega, by omega, by omega, ?_, s2, fun _ => lst hf⟩, ?_⟩
        · rw [em, dr, spM_skip zl]
        · show ((os.length : Int) - ((f : Int) + 1)).toNat < ((os.length : Int) - f).toNat
          omega
      -- a spell
      obtain ⟨fr, hfr⟩ : ∃ fr, fr = reqA ph st b := ⟨_, rfl⟩
      obtain ⟨bg, hbg⟩ : ∃ bg, bg = bgOf ts st ds.getLast? (fr - 1) := ⟨_, rfl⟩
      refine ⟨fun σ' H' => ∃ bl bz, σ' = [some (.ref p), some (.ref q), some (.ref l), some (.int f), some (.int b), some (cV e), some (.int fr), some (.ref bl), v8] ∧ H' bl = some (.lst bz) ∧ Sts (Fr H2 H') bz bg ∧ bg.length = ts.length ∧ Same H2 H' ∧ H2 bl = none, ?_, ?_⟩
      · cases hgl : ds.getLast? with
        | none =>
          have d0 : ds = [] := List.getLast?_eq_none_iff.mp hgl
          have z0 : zs = [] := by
            have := paired_len dv
            rw [d0] at this
            exact List.length_eq_zero_iff.mp this
          rw [z0] at h2
          rw [hgl] at hbg
          obtain ⟨dxr, hpr⟩ := R2.ob
          have xlr := R2.br.len
          refine ⟨_, rfl, false, .inl ⟨[], SqL.of h2, rfl⟩, iteF ⟨_, rfl, p, dxr, _, rfl, hpr, p, B, xs, ts, st, ph, rfl, R2, _, rfl, by omega, by omega, xs.length, rfl, by omega, fun bl bz H3 hbl hbz s3 nbl => ⟨bl, bz, (by rw [hfr]; rfl), hbl, ?_, ?_, s3, nbl⟩⟩⟩
          · rw [hbg]
            rw [xlr] at hbz
            exact L2.Paired.mapP hbz fun u v ⟨a, e, h⟩ => ⟨a, e, Fr.nol h fun _ z => nomatch z⟩
          · rw [hbg]
            exact List.length_replicate
        | some d =>
          obtain ⟨ini, hini⟩ := List.getLast?_eq_some_iff.mp hgl
          rw [hini] at dv
          obtain ⟨zi, lx, rfl, hlx⟩ := paired_last dv
          obtain ⟨⟨r, hr'⟩, hol⟩ := lst hf d (by rw [hini]; exact List.mem_append_right _ (List.mem_singleton.mpr rfl))
          rw [hgl] at hbg
          refine ⟨_, rfl, true, .inl ⟨_, SqL.of h2, by simp⟩, iteT ⟨_, rfl, _, rfl, 1, rfl, l, _, -1, lx, rfl, rfl, SqL.of h2, atI_last zi _, _, rfl, _, _, rfl, rfl, p, B, xs, ts, st, ph, lx, d, r, fr - 1, (by rw [hfr]; rfl), R2, hlx.same Fr.le, hr', hol, fun bl bz H3 hbl hbz s3 nbl => ⟨bl, bz, ?_, hbl, ?_, ?_, s3, nbl⟩⟩⟩
          · rw [hfr]
            rfl
          · rw [hbg]
            exact hbz
          · rw [hbg]
            show (stBeh ts st d (fr - 1)).length = _
            unfold stBeh
            rw [List.length_zipWith, hol, Nat.min_self]
      rintro σ' H3 ⟨bl, bz, rfl, hbl, hbz, bgl, s3, nbl⟩
      have s23 := s2.trans s3
      have h23 : ∀ a, H3 a = none → H2 a = none := fun a e => none_of s3 e
      refine ⟨_, rfl, _, rfl, _, rfl, _, rfl, _, rfl, p, B, xs, ts, st, ph, q, ys, os, fr, f, nb + 1, bl, bz, bg, H2, rfl, R.nl (NL.of s23), h23, by rw [Fr.new nbl]; exact hbl, hbz, bgl, hq.same s23, hy.same s23, fun o ho e he => Int.le_trans ((O.bd o ho).2.2 e he) (PB_le (by have := O.n2; omega)), hf, by rw [hfr]; exact f0, by rw [hfr]; exact f1, by have := O.n1; omega, by have := O.n2; omega, fun t p2 H4 ht hsp s4 nt => ?_⟩
      refine ⟨t, _, rfl, SqT.of ht, rfl, _, _, rfl, _, _, rfl, rfl, ?_⟩
      have s34 := s3.trans s4
      have h24 := s34 _ _ h2
      refine ⟨_, rfl, .inl ⟨rfl, _, SqL.of h24⟩, _, rfl, l, _, _, rfl, rfl, h24, small1 (by omega), ?_⟩
      have k5 : Kp l H4 (upd H4 l (.lst (zs ++ [.ref p2]))) := Kp.upd
      obtain ⟨D, hD⟩ : ∃ D, D = spellD ts st fr bg (os.drop f) := ⟨_, rfl⟩
      obtain ⟨N, hN⟩ : ∃ N, N = spellN ts st fr bg (os.drop f) := ⟨_, rfl⟩
      rw [← hD] at hsp
      rw [← hN]
      have nN : 1 ≤ N ∧ N ≤ os.length - f := by
        have := rec_ok (g := chL ts bg [(fr, st, none)]) (l := os.drop f) (by rw [dr]; exact fun z => nomatch z)
        rw [List.length_drop] at this
        rw [hN]
        exact this
      have em2 : spM ts st ph os.length none os = (ds ++ [D]) ++ spM ts st ph m' (some D) (os.drop (f + N)) := by
        rw [em, dr, spM_take hno, ← hfr, ← hbg, ← dr, ← hD, ← hN, List.drop_drop, List.append_assoc]
        rfl
      refine ⟨⟨f + N, m', _, _, _, _, _, zs ++ [.ref p2], ds ++ [D], rfl, upd_same, ?_, by omega, by omega, by rw [List.length_append]; show zs.length + 1 ≤ f + N; omega, ?_, fun u w e => ?_, fun hl2 d hd => ?_⟩, ?_⟩
      · have sF := Fr.kp (H0 := H1) k5 xl1 h24
        refine paired_app ((dv.same (Fr.same s34)).same sF) (.cons ((hsp.same (Fr.base' fun a e => ?_)).same sF) .nil)
        cases q : H1 a with
        | none => rfl
        | some o =>
          by_cases al : a = l
          · rw [al, h2] at e
            cases e
          · rw [hH1, upd_ne al] at q
            rw [s2 _ _ q] at e
            cases e
      · rw [em2, List.getLast?_concat]
      · rw [upd_ne (ne_of_none e hl)]
        exact s4 _ _ (s3 _ _ (s2 _ _ e))
      · rcases List.mem_append.mp hd with hd | hd
        · exact lst hf d hd
        · rw [List.mem_singleton.mp hd, hD]
          have R0 : RunOk (nb + 1) 1 fr [(fr, st, none)] := by
            refine ⟨⟨fun t ht => ?_, List.pairwise_singleton _ _⟩, fun t ht => ?_, Nat.le_refl _, rfl, ?_⟩
            · rw [List.mem_singleton.mp ht]
              exact ⟨by rw [hfr]; exact f0, R.s0, fun c e => nomatch e⟩
            · rw [List.mem_singleton.mp ht]
              exact ⟨by rw [hfr]; exact f1, Int.le_trans R.s1 (Int.le_trans (PB_of (n := 104) (by decide +kernel)) (PB_le (by have := O.n1; omega))), fun c e => nomatch e⟩
            · show some (fr + 0 * st) = some fr
              rw [Int.zero_mul, Int.add_zero]
          obtain ⟨g1, g2⟩ := ch_ok R0 bgl R.ok (by have := O.n1; omega)
          refine ⟨?_, by show (List.map _ _).length = _; rw [List.length_map, g1]⟩
          cases hrc : (spellD ts st fr bg (os.drop f)).rcv with
          | some r => exact ⟨r, rfl⟩
          | none =>
            have := rec_none g2.srt g2.en (l := os.drop f) (fun o ho => O.la o (by have e := List.dropLast_append_of_ne_nil (l := os.drop f) (l' := os.take f) (show os.drop f ≠ [] by rw [dr]; exact fun z => nomatch z); rw [List.take_append_drop] at e; rw [e]; exact List.mem_append_right _ ho)) hrc
            rw [List.length_drop] at this
            have e : N = os.length - f := by rw [hN]; exact this
            omega
      · show ((os.length : Int) - ((f + N : Nat) : Int)).toNat < ((os.length : Int) - f).toNat
        omega
    · rintro σ H Q Q' m ⟨v, e, u, e2, a, ys2, e3, hs, i, j, e4, e5, bb, e6, q⟩
      exact ⟨v, e, u, e2, a, ys2, e3, hs, i, j, e4, e5, bb, e6, m _ _ q⟩
theorem ok_spellsof (T : LX K mg L) : Cal P w K mg base "spells_of" 7 L.f_spells_of ["row", "outages"] (spSpells L.c_Row L.c_Spell) := T.d_spells_of.cal fun fd F => fn_spellsof T F
end
/-! ### timelines -/
def VOut : Int → List (Int × Int) → Prop
  | _, [] => True
  | m, o :: r => m ≤ o.1 ∧ o.1 < o.2 ∧ o.2 ≤ 1000000000000000000000000000000 ∧ VOut (o.2 + 1) r
def outs (os : List (Int × Int)) : List Out := os.map fun o => (o.1, some o.2)
def ndL (bs : List Tri) (d : SpD) : List Int := ((bs.zip d.op).filter fun p => p.2.isSome).map fun p => p.1.2.2
def mxL (l : List Int) : Int := l.foldl (fun a b => if a < b then b else a) 1
def whM (bs : List Tri) (st : Int) (d : SpD) : Int := d.rcv.getD 0 + (mxL (ndL bs d) - 1) * st
abbrev MkD := Int × Int × Option Int
def mkM (bs : List Tri) (st : Int) : List SpD → List MkD
  | [] => []
  | [d] => [(d.first, d.rcv.getD 0, some (whM bs st d))]
  | d :: e :: r => (d.first, d.rcv.getD 0, if e.first ≤ whM bs st d then none else some (whM bs st d)) :: mkM bs st (e :: r)
def MkAt (H : Hp) (x : V) (m : MkD) : Prop := ∃ a, x = .ref a ∧ H a = some (.tup [.int m.1, .int m.2.1, cV m.2.2])
abbrev Mks (H : Hp) (xs : List V) (ms : List MkD) : Prop := Paired (MkAt H) xs ms
theorem MkAt.nl {H H' : Hp} (s : NL H H') {x : V} {d : MkD} (h : MkAt H x d) : MkAt H' x d := by
  obtain ⟨a, e, h⟩ := h
  exact ⟨a, e, s _ _ h fun _ z => nomatch z⟩
theorem Mks.nl {H H' : Hp} (s : NL H H') {xs : List V} {ms : List MkD} (h : Mks H xs ms) : Mks H' xs ms := L2.Paired.mapP h fun _ _ z => z.nl s
theorem mxL_fold : ∀ (l : List Int) (a : Int), (∀ y ∈ l, y ≤ l.foldl (fun a b => if a < b then b else a) a) ∧ a ≤ l.foldl (fun a b => if a < b then b else a) a ∧ (l.foldl (fun a b => if a < b then b else a) a = a ∨ l.foldl (fun a b => if a < b then b else a) a ∈ l)
  | [], a => ⟨fun y hy => (nomatch hy), Int.le_refl _, .inl rfl⟩
  | b :: l, a => by
    obtain ⟨h1, h2, h3⟩ := mxL_fold l (if a < b then b else a)
    have h4 : a ≤ (if a < b then b else a) ∧ b ≤ (if a < b then b else a) := by split <;> omega
    rw [List.foldl_cons]
    refine ⟨fun y hy => ?_, Int.le_trans h4.1 h2, ?_⟩
    · rcases List.mem_cons.mp hy with rfl | hy
      · exact Int.le_trans h4.2 h2
      · exact h1 y hy
    · rcases h3 with h3 | h3
      · rw [h3]
        by_cases c : a < b
        · rw [if_pos c]
          exact .inr (List.mem_cons_self ..)
        · rw [if_neg c]
          exact .inl rfl
      · exact .inr (List.mem_cons_of_mem _ h3)
theorem mxL_is {l : List Int} {m : Int} (hm : m ∈ 1 :: l) (hx : ∀ y ∈ 1 :: l, y ≤ m) : m = mxL l := by
  obtain ⟨h1, h2, h3⟩ := mxL_fold l 1
  have a1 : mxL l ≤ m := by
    rcases h3 with h3 | h3
    · exact hx _ (by show mxL l ∈ _; unfold mxL; rw [h3]; exact List.mem_cons_self ..)
    · exact hx _ (List.mem_cons_of_mem _ h3)
  have a2 : m ≤ mxL l := by
    rcases List.mem_cons.mp hm with rfl | hm
    · exact h2
    · exact h1 m hm
  omega
theorem mxL_bd {l : List Int} {B : Int} (h : ∀ y ∈ l, y ≤ B) (hB : 1 ≤ B) : 1 ≤ mxL l ∧ mxL l ≤ B := by
  obtain ⟨h1, h2, h3⟩ := mxL_fold l 1
  refine ⟨h2, ?_⟩
  rcases h3 with h3 | h3
  · unfold mxL; rw [h3]; exact hB
  · exact h _ h3
theorem mkM_len (bs : List Tri) (st : Int) : ∀ ds : List SpD, (mkM bs st ds).length = ds.length
  | [] => rfl
  | [d] => rfl
  | d :: e :: r => by
    show (mkM bs st (e :: r)).length + 1 = (e :: r).length + 1
    rw [mkM_len bs st (e :: r)]
theorem mkM_get {bs : List Tri} {st : Int} : ∀ {ds : List SpD} {i : Nat} {d : SpD}, ds[i]? = some d → (mkM bs st ds)[i]? = some (d.first, d.rcv.getD 0, match ds[i + 1]? with | some e => if e.first ≤ whM bs st d then none else some (whM bs st d) | none => some (whM bs st d))
  | [], i, d, h => by cases h
  | [d'], 0, d, h => by cases h; rfl
  | [d'], i + 1, d, h => by cases h
  | d' :: e :: r, 0, d, h => by cases h; rfl
  | d' :: e :: r, i + 1, d, h => mkM_get (ds := e :: r) (i := i) h
def spIsOut : Sp := fun vs H Q _ => ∃ x, ∃ o : Int × Int, vs = [x] ∧ OtAt H x (o.1, some o.2) ∧ 0 ≤ o.1 ∧ o.1 < o.2 ∧ o.2 ≤ 1000000000000000000000000000000 ∧ Q (.bl true) H
def spChkO : Sp := fun vs H Q _ => ∃ a xs, ∃ os : List (Int × Int), vs = [.ref a] ∧ H a = some (.lst xs) ∧ Ots H xs (outs os) ∧ VOut 0 os ∧ os.length ≤ 50 ∧ ∀ H', Same H H' → Q .non H'
def spWhole (C CS : Addr) : Sp := fun vs H Q _ => ∃ p B xs ts st ph x d r, vs = [.ref p, x] ∧ RowAt C H p B xs ts st ph ∧ SpV CS H x d ∧ d.rcv = some r ∧ d.op.length = ts.length ∧ ∀ H', Same H H' → Q (.int (whM ts st d)) H'
def spMarks (C CS : Addr) : Sp := fun vs H Q _ => ∃ p B xs ts st ph a zs ds, vs = [.ref p, .ref a] ∧ RowAt C H p B xs ts st ph ∧ H a = some (.lst zs) ∧ SpVs CS H zs ds ∧ ds.length ≤ 60 ∧ (∀ d ∈ ds, (∃ r, d.rcv = some r) ∧ d.op.length = ts.length) ∧
  ∀ l ys H', H' l = some (.lst ys) → Mks H' ys (mkM ts st ds) → Same H H' → H l = none → Q (.ref l) H'
section
variable {P : Program} {w : World} {K : PySem.W.Frag} {mg : Str → Option Value} {base : Heap} {L : LA}
abbrev N_isoutage : List Str := ["value", "begin", "end"]
theorem sc_isoutage : FnScope N_isoutage ["value"] (defScope st_is_outage) := ⟨rfl, rfl, rfl, by decide +kernel, rfl, by decide +kernel, by decide +kernel⟩
theorem fn_isoutage (T : LX K mg L) {fd : FuncData} (F : Fun K "is_outage" "is_outage" st_is_outage L.f_is_outage fd) : FnOk P w K mg base CX0 3 L.f_is_outage fd ["value"] (spIsOut) := by
  have G_isatleast := ok_isatleast (P := P) (w := w) (base := base) T
  have G_iswithin := ok_iswithin (P := P) (w := w) (base := base) T
  obtain ⟨tk_MOST_TIME, c_MOST_TIME⟩ := T.n_MOST_TIME
  have nd := sc_isoutage.nd
  refine F.ok sc_isoutage (fun vs H Q E h => ?_) (fun cdv A outer S H vs Q E hr h => ?_)
  · obtain ⟨x, o, rfl, _⟩ := h
    rfl
  · obtain ⟨x, o, rfl, ⟨a, rfl, ha⟩, h1, h2, h3, k⟩ := h
    refine ⟨_, (pss_cons (ps_if (PW.pt (pw_or (pt_not (pt_val (pe_callB call_isi (by rfl) T.b_isinstance (by decide +kernel) (pa_cons (pv 0) (pa_cons (pe_bltn (by rfl) T.b_tuple (by decide +kernel : bootBuiltins "tuple" = some (.type "tuple")) (v := .ty "tuple") rfl) pa_nil))))) (pw_or1 (pt_cmpR op_ne (pe_callB call_len_seq (by rfl) T.b_len PySem.boot_len (pa_cons (pv 0) pa_nil)) pe_int (nomark _))))) (pss_one (ps_ret pe_bl)) pss_nil)
       (pss_cons (ps_asg (pv 0) (pg_tup rfl (pgs_cons (pg_name (i := 1) nd rfl (Or.inl rfl)) (pgs_cons (pg_name (i := 2) nd rfl (Or.inl rfl)) pgs_nil))))
       (pss_one (ps_ret (pe_and (pe_c G_isatleast (hr.mono (by decide)) rfl (pa_cons (pv 1) (pa_cons pe_int pa_nil))) (pe_one (pe_c G_iswithin (hr.mono (by decide)) rfl (pa_cons (pv 2) (pa_cons (pe_op op_add (pv 1) pe_int) (pa_cons (pe_gI c_MOST_TIME) pa_nil)))))))))), ?_⟩
    refine ⟨_, rfl, _, .ty "tuple", _, _, _, rfl, .ty "tuple", (Kd.tup ha).ty, (Kd.tup ha).kit "tuple" _ (.inr ⟨by decide, by decide, rfl⟩), _, rfl, iteF ?_⟩
    refine ⟨_, rfl, a, _, rfl, .inr (SqT.of ha), rfl, _, rfl, iteF ?_⟩
    refine ⟨_, rfl, a, _, rfl, SqT.of ha, rfl, _, _, rfl, _, _, rfl, rfl, ?_⟩
    refine ⟨_, rfl, _, _, _, rfl, .int _, _, rfl, ?_⟩
    show if (decide ((0 : Int) ≤ o.1)) = true then _ else _
    rw [decide_eq_true h1]
    refine iteT ⟨_, rfl, _, rfl, _, _, rfl, rfl, _, _, _, _, rfl, .int _, ?_⟩
    show Q (.bl (decide (o.1 + 1 ≤ o.2) && decide (o.2 ≤ 1000000000000000000000000000000))) H
    rw [k6_pos (show o.1 + 1 ≤ o.2 by omega) h3]
    exact k
theorem ok_isoutage (T : LX K mg L) : Cal P w K mg base "is_outage" 3 L.f_is_outage ["value"] (spIsOut) := T.d_is_outage.cal fun fd F => fn_isoutage T F
abbrev N_checkoutages : List Str := ["outages", "least", "at", "outage"]
theorem sc_checkoutages : FnScope N_checkoutages ["outages"] (defScope st_check_outages) := ⟨rfl, rfl, rfl, by decide +kernel, rfl, by decide +kernel, by decide +kernel⟩
theorem fn_checkoutages (T : LX K mg L) {fd : FuncData} (F : Fun K "check_outages" "check_outages" st_check_outages L.f_check_outages fd) : FnOk P w K mg base CX0 4 L.f_check_outages fd ["outages"] (spChkO) := by
  obtain ⟨tk_MOST_OUTAGES, c_MOST_OUTAGES⟩ := T.n_MOST_OUTAGES
  have G_isoutage := ok_isoutage (P := P) (w := w) (base := base) T
  have nd := sc_checkoutages.nd
  refine F.ok sc_checkoutages (fun vs H Q E h => ?_) (fun cdv A outer S H vs Q E hr h => ?_)
  · obtain ⟨a, xs, os, rfl, _⟩ := h
    rfl
  · obtain ⟨a, xs, os, rfl, ha, hx, hv, hl, k⟩ := h
    refine ⟨_, (pss_cons (ps_if (PW.pt (pw_or (pt_not (pt_val (pe_callB call_isi (by rfl) T.b_isinstance (by decide +kernel) (pa_cons (pv 0) (pa_cons (pe_bltn (by rfl) T.b_list (by decide +kernel : bootBuiltins "list" = some (.type "list")) (v := .ty "list") rfl) pa_nil))))) (pw_or1 (pt_cmpR op_gt (pe_callB call_len_seq (by rfl) T.b_len PySem.boot_len (pa_cons (pv 0) pa_nil)) (pe_gI c_MOST_OUTAGES) (nomark _))))) (pss_one (ps_never)) pss_nil)
       (pss_cons (ps_set (i := 1) nd rfl (Or.inl rfl) pe_int)
       (pss_one (ps_for PassesOwn.never rfl (pi_enum (by rfl) T.b_enumerate (pa_cons (pv 0) pa_nil)) (pg_tup rfl (pgs_cons (pg_name (i := 2) nd rfl (Or.inl rfl)) (pgs_cons (pg_name (i := 3) nd rfl (Or.inl rfl)) pgs_nil))) (pss_cons (ps_if (PW.pt (pw_or (pt_not (pt_val (pe_c G_isoutage (hr.mono (by decide)) rfl (pa_cons (pv 3) pa_nil)))) (pw_or1 (pt_cmpR op_lt (pe_ix (r := rIxT K) ix_tup (pv 3) pe_int (fun _ _ => rfl)) (pv 1) (nomark _))))) (pss_one (ps_never)) pss_nil)
       (pss_one (ps_set (i := 1) nd rfl (Or.inl rfl) (pe_op op_add (pe_ix (r := rIxT K) ix_tup (pv 3) pe_int (fun _ _ => rfl)) pe_int)))))))), ?_⟩
    have xl := paired_len hx
    have ol : (outs os).length = os.length := by unfold outs; rw [List.length_map]
    refine ⟨_, rfl, _, .ty "list", _, _, _, rfl, .ty "list", (Kd.lst ha).ty, (Kd.lst ha).kit "list" _ (.inr ⟨by decide, by decide, rfl⟩), _, rfl, iteF ?_⟩
    refine ⟨_, rfl, a, _, rfl, .inl (SqL.of ha), _, _, rfl, rfl, _, rfl, ?_⟩
    have hn : ¬ ((50 : Int) < (xs.length : Nat)) := by omega
    rw [decide_eq_false hn]
    refine iteF ?_
    refine ⟨_, rfl, a, xs, rfl, SqL.of ha, for_enum (K := K) (a := a) (xs := xs) (fun i σ H2 => ∃ m, ∃ u v : Option V, σ = [some (.ref a), some (.int m), u, v] ∧ Same H H2 ∧ VOut m (os.drop i) ∧ 0 ≤ m) ⟨0, none, none, rfl, Same.refl H, hv, Int.le_refl _⟩ (fun i σ H2 _ ⟨_, _, _, _, s2, _⟩ => SqL.of (s2 _ _ ha)) ?_ ?_⟩
    · rintro i x T' σ H2 hxi ⟨m, u, v, rfl, s2, vo, mm⟩ hT
      obtain ⟨o', ho', hox⟩ := paired_get hx hxi
      obtain ⟨o, ho, rfl⟩ : ∃ o, os[i]? = some o ∧ o' = (o.1, some o.2) := by
        unfold outs at ho'
        rw [List.getElem?_map] at ho'
        cases q : os[i]? with
        | none => rw [q] at ho'; cases ho'
        | some o => rw [q] at ho'; cases ho'; exact ⟨o, rfl, rfl⟩
      have hi := (List.getElem?_eq_some_iff.mp ho).1
      have dr : os.drop i = o :: os.drop (i + 1) := by
        rw [List.drop_eq_getElem_cons hi]
        congr 1
        exact (List.getElem?_eq_some_iff.mp ho).2
      rw [dr] at vo
      obtain ⟨v1, v2, v3, v4⟩ := vo
      have m0 : 0 ≤ o.1 := by omega
      have s3 : Same H (upd H2 T' (.tup [.int (i : Nat), x])) := s2.trans (Same.upd hT)
      have hox3 := hox.same s3
      refine ⟨T', _, rfl, SqT.of upd_same, rfl, _, _, rfl, _, _, rfl, rfl, ?_⟩
      refine ⟨_, rfl, x, o, rfl, hox3, m0, v2, v3, _, rfl, iteF ?_⟩
      obtain ⟨c, rfl, hc⟩ := hox3
      refine ⟨_, rfl, c, _, 0, .int o.1, rfl, rfl, SqT.of hc, rfl, _, rfl, _, _, rfl, rfl, _, rfl, ?_⟩
      rw [decide_eq_false (show ¬ o.1 < m by omega)]
      refine iteF ⟨_, rfl, c, _, 1, .int o.2, rfl, rfl, SqT.of hc, rfl, _, _, rfl, rfl, ?_⟩
      exact ⟨_, _, _, rfl, s3, v4, by omega⟩
    · rintro σ H2 ⟨m, u, v, rfl, s2, _⟩
      exact k H2 s2
theorem ok_checkoutages (T : LX K mg L) : Cal P w K mg base "check_outages" 4 L.f_check_outages ["outages"] (spChkO) := T.d_check_outages.cal fun fd F => fn_checkoutages T F
abbrev N_wholetime : List Str := ["row", "spell", "needed", "breaker", "opening"]
theorem sc_wholetime : FnScope N_wholetime ["row", "spell"] (defScope st_whole_time) := ⟨rfl, rfl, rfl, by decide +kernel, rfl, by decide +kernel, by decide +kernel⟩
theorem fn_wholetime (T : LX K mg L) {fd : FuncData} (F : Fun K "whole_time" "whole_time" st_whole_time L.f_whole_time fd) : FnOk P w K mg base CX0 2 L.f_whole_time fd ["row", "spell"] (spWhole L.c_Row L.c_Spell) := by
  have G_Rowsteplength := ok_Rowsteplength (P := P) (w := w) (base := base) T
  have G_Rowbreakerlist := ok_Rowbreakerlist (P := P) (w := w) (base := base) T
  have nd := sc_wholetime.nd
  refine F.ok sc_wholetime (fun vs H Q E h => ?_) (fun cdv A outer S H vs Q E hr h => ?_)
  · obtain ⟨p, B, xs, ts, st, ph, x, d, r, rfl, _⟩ := h
    rfl
  · obtain ⟨p, B, xs, ts, st, ph, x, d, r, rfl, R, ⟨px, aB, aR, aO, xB, xR, rfl, Sx⟩, hr', hl, k⟩ := h
    refine ⟨_, (pss_cons (ps_setLc (i := 2) (own := [("breaker", 3), ("opening", 4)]) (g := gTup K 2 (gCons (gName 3) (gCons (gName 4) (gNil)))) rfl nd rfl rfl (sw_true rfl rfl rfl (by decide +kernel)) (pi_zip (by rfl) T.b_zip (pa_cons (G_Rowbreakerlist.p_m0 T.cf_Row.cl (hr.mono (by decide)) (pv 0)) (pa_cons (pe_fld (pv 1) rfl) pa_nil))) (blkOk_by (own := [("breaker", 3), ("opening", 4)]) (N := N_wholetime) (sc := defScope st_whole_time) (by decide +kernel)) (fun _ _ _ _ _ => pg_tup rfl (pgs_cons (pg_name (i := 3) nd rfl (Or.inl rfl)) (pgs_cons (pg_name (i := 4) nd rfl (Or.inl rfl)) pgs_nil))) (fun _ _ _ _ _ => pts_one (pt_cmp (pc_notN (pv 4)))) (fun _ _ _ _ _ => (pe_ix (r := rIxT K) ix_tup (pv 3) pe_int (fun _ _ => rfl))))
       (pss_one (ps_ret (pe_op op_add (pe_fld (pv 1) rfl) (pe_op op_mulW (pe_op op_sub (pe_callB (cr_max rfl) (by rfl) T.b_max (by decide +kernel) (pa_cons (pe_op op_cat (pe_lst (pa_cons pe_int pa_nil)) (pv 2)) pa_nil)) pe_int) (G_Rowsteplength.p_m0 T.cf_Row.cl (hr.mono (by decide)) (pv 0))))))), ?_⟩
    obtain ⟨dx, hp⟩ := R.ob
    obtain ⟨dy, hpx⟩ := Sx.ob
    rw [hr'] at hpx
    have s0 := R.s0
    have xl := R.br.len
    have R12 := R.ln
    refine ⟨_, rfl, p, dx, _, rfl, hp, rowF_no _ _ _ (by decide +kernel) (by decide +kernel) (by decide +kernel), p, B, xs, ts, st, ph, rfl, R, fun l1 H1 hl1 e1 => ?_⟩
    subst e1
    have s1 := Same.upd (o := .lst xs) hl1
    have hO1 := s1 _ _ Sx.hO
    have hpx1 := s1 _ _ hpx
    refine ⟨_, rfl, px, L.c_Spell, dy, _, _, rfl, hpx1, T.cf_Spell.cl, T.nf_Spell_opened, spF_op _ _ _ _ _, l1, aO, xs, d.op.map cV, rfl, SqL.of upd_same, SqL.of hO1, fun D1 hD1 => ?_⟩
    refine lc_zip (K := K) (a := l1) (b := aO) (xs := xs) (ys := d.op.map cV) (by rw [List.length_map]; omega) (fun j Hc => Hc D1 = some (.lst (((((ts.zip d.op).take j).filter fun p => p.2.isSome).map fun p => p.1.2.2).map V.int)) ∧ Same (upd H l1 (.lst xs)) Hc) ⟨upd_same, Same.upd hD1⟩ (fun j Hc ⟨_, s⟩ => ⟨SqL.of (s _ _ upd_same), SqL.of (s _ _ hO1)⟩) ?_ ?_
    · rintro j x y T1 Hc hx hy ⟨hD, sc⟩ hT1
      obtain ⟨b, hb, hbx⟩ := R.br.get hx
      obtain ⟨o, ho, rfl⟩ : ∃ o, d.op[j]? = some o ∧ y = cV o := by
        rw [List.getElem?_map] at hy
        cases q : d.op[j]? with
        | none => rw [q] at hy; cases hy
        | some o => rw [q] at hy; cases hy; exact ⟨o, rfl, rfl⟩
      have hj := (List.getElem?_eq_some_iff.mp hb).1
      have sT := Same.upd (o := .tup [x, cV o]) hT1
      have s2 := sc.trans sT
      have hbx2 := hbx.nl (NL.of (s1.trans s2))
      obtain ⟨ab, rfl, hab⟩ := hbx2
      have hz : (ts.zip d.op)[j]? = some (b, o) := by
        rw [List.getElem?_zip_eq_some]
        exact ⟨hb, ho⟩
      have ll : ((((ts.zip d.op).take j).filter fun p => p.2.isSome).map fun p => p.1.2.2).length ≤ 12 := by
        rw [List.length_map]
        have h1 := List.length_filter_le (fun p : Tri × Option Int => p.2.isSome) ((ts.zip d.op).take j)
        rw [List.length_take] at h1
        omega
      refine ⟨T1, _, rfl, SqT.of upd_same, rfl, _, _, rfl, _, _, rfl, rfl, rfl, ?_⟩
      rw [List.take_add_one, hz, List.filter_append, List.map_append, List.map_append]
      cases o with
      | none =>
        refine ⟨_, rfl, _, rfl, iteF ⟨?_, s2⟩⟩
        show _ = some (HO.lst (_ ++ []))
        rw [List.append_nil]
        exact sT _ _ hD
      | some v =>
        refine ⟨_, rfl, _, rfl, iteT ⟨_, rfl, ab, _, 2, .int b.2.2, rfl, rfl, SqT.of hab, rfl, _, sT _ _ hD, small1 (by rw [List.length_map]; omega), upd_same, fun u w e => ?_⟩⟩
        rw [upd_ne (ne_of_none e hD1)]
        exact s2 _ _ e
    rintro Hc ⟨hD, sc⟩
    rw [List.length_map, List.take_of_length_le (by rw [List.length_zip]; omega)] at hD
    have hD' : Hc D1 = some (.lst ((ndL ts d).map V.int)) := hD
    have s2 := s1.trans sc
    have ndl : (ndL ts d).length ≤ 12 := by
      unfold ndL
      rw [List.length_map]
      have h1 := List.length_filter_le (fun p : Tri × Option Int => p.2.isSome) (ts.zip d.op)
      rw [List.length_zip] at h1
      omega
    have R2 := R.nl (NL.of s2)
    obtain ⟨dx2, hp2⟩ := R2.ob
    have nb : ∀ y ∈ ndL ts d, y ≤ 1000000000000 := fun y hy => by
      unfold ndL at hy
      obtain ⟨q, hq, rfl⟩ := List.mem_map.mp hy
      have := (List.mem_filter.mp hq).1
      exact (R.ok _ (List.of_mem_zip this).1).2.2.2.2.2
    obtain ⟨m1, m2⟩ := mxL_bd nb (by decide)
    refine ⟨_, rfl, px, L.c_Spell, dy, _, _, rfl, s2 _ _ hpx, T.cf_Spell.cl, T.nf_Spell_recovered, spF_rcv _ _ _ _ _, ?_⟩
    refine ⟨(by show 1 ≤ sizeLine; decide), fun l2 hl2 => ⟨_, rfl, ?_⟩⟩
    have s3 := s2.trans (Same.upd (o := .lst [.int 1]) hl2)
    refine ⟨l2, D1, _, _, rfl, rfl, upd_same, (Same.upd hl2) _ _ hD', small2 (by rw [List.length_map]; show 1 + _ ≤ _; omega), fun l3 hl3 => ?_⟩
    have s4 := s3.trans (Same.upd (o := .lst ([V.int 1] ++ (ndL ts d).map V.int)) hl3)
    have R4 := R.nl (NL.of s4)
    obtain ⟨dx4, hp4⟩ := R4.ob
    refine ⟨l3, 1 :: ndL ts d, rfl, SqL.of upd_same, Nat.succ_pos _, fun m hm hm2 => ?_⟩
    rw [mxL_is hm hm2]
    have e40 : (1000000000000 : Int) ≤ BB := Int.le_trans (PB_of (n := 40) (by decide +kernel)) (PB_le (by decide))
    have sB := st_bb R.s1
    have b1 := BB1
    refine ⟨_, _, rfl, rfl, _, rfl, p, dx4, _, rfl, hp4, rowF_no _ _ _ (by decide +kernel) (by decide +kernel) (by decide +kernel), p, B, xs, ts, st, ph, rfl, R4, _, _, rfl, rfl, mulBB (by omega) (by omega) (by omega) (by omega), _, _, rfl, rfl, ?_⟩
    have e : whM ts st d = r + (mxL (ndL ts d) - 1) * st := by
      unfold whM
      rw [hr']
      rfl
    rw [e] at k
    exact k _ s4
theorem ok_wholetime (T : LX K mg L) : Cal P w K mg base "whole_time" 2 L.f_whole_time ["row", "spell"] (spWhole L.c_Row L.c_Spell) := T.d_whole_time.cal fun fd F => fn_wholetime T F
abbrev N_marksof : List Str := ["row", "spells", "marks", "at", "spell", "whole"]
theorem sc_marksof : FnScope N_marksof ["row", "spells"] (defScope st_marks_of) := ⟨rfl, rfl, rfl, by decide +kernel, rfl, by decide +kernel, by decide +kernel⟩
theorem fn_marksof (T : LX K mg L) {fd : FuncData} (F : Fun K "marks_of" "marks_of" st_marks_of L.f_marks_of fd) : FnOk P w K mg base CX0 3 L.f_marks_of fd ["row", "spells"] (spMarks L.c_Row L.c_Spell) := by
  have G_wholetime := ok_wholetime (P := P) (w := w) (base := base) T
  have nd := sc_marksof.nd
  refine F.ok sc_marksof (fun vs H Q E h => ?_) (fun cdv A outer S H vs Q E hr h => ?_)
  · obtain ⟨p, B, xs, ts, st, ph, a, zs, ds, rfl, _⟩ := h
    rfl
  · obtain ⟨p, B, xs, ts, st, ph, a, zs, ds, rfl, R, ha, dv, dl, dr, k⟩ := h
    refine ⟨_, (pss_cons (ps_set (i := 2) nd rfl (Or.inl rfl) (pe_lst pa_nil))
       (pss_cons (ps_for PassesOwn.never rfl (pi_enum (by rfl) T.b_enumerate (pa_cons (pv 1) pa_nil)) (pg_tup rfl (pgs_cons (pg_name (i := 3) nd rfl (Or.inl rfl)) (pgs_cons (pg_name (i := 4) nd rfl (Or.inl rfl)) pgs_nil))) (pss_cons (ps_set (i := 5) nd rfl (Or.inl rfl) (pe_c G_wholetime (hr.mono (by decide)) rfl (pa_cons (pv 0) (pa_cons (pv 4) pa_nil))))
       (C8.pss_cut (ps_if (PW.pt (pw_and (pt_cmpR op_lt (pe_op op_add (pv 3) pe_int) (pe_callB call_len_seq (by rfl) T.b_len PySem.boot_len (pa_cons (pv 1) pa_nil)) (nomark _)) (pw_and1 (pt_cmpR op_le (pe_fld (pe_ix (r := rIxL K) ix_list (pv 1) (pe_op op_add (pv 3) pe_int) (fun _ _ => rfl)) rfl) (pv 5) (nomark _))))) (pss_one (ps_set (i := 5) nd rfl (Or.inl rfl) pe_non)) pss_nil)
       (pss_one (ps_expr (pe_bm PySem.F.plainAttrs_list PySem.F.slot_list_append PySem.F.type_list_append mt_append (pv 2) (pa_cons (pe_tup (pa_cons (pe_fld (pv 4) rfl) (pa_cons (pe_fld (pv 4) rfl) (pa_cons (pv 5) pa_nil)))) pa_nil)))))))
       (pss_one (ps_ret (pv 2))))), ?_⟩
    have zl := paired_len dv
    refine ⟨(by show 0 ≤ sizeLine; decide), fun l hl => ?_⟩
    have s1 := Same.upd (o := .lst []) hl
    refine ⟨_, rfl, a, zs, rfl, SqL.of (s1 _ _ ha), for_enum (K := K) (a := a) (xs := zs) (fun i σ H2 => ∃ ms, ∃ v3 v4 v5 : Option V, σ = [some (.ref p), some (.ref a), some (.ref l), v3, v4, v5] ∧ H2 l = some (.lst ms) ∧ Mks H2 ms ((mkM ts st ds).take i) ∧ Same H H2 ∧ ms.length ≤ i) ⟨[], none, none, none, rfl, upd_same, .nil, s1, Nat.le_refl _⟩ (fun i σ H2 _ ⟨_, _, _, _, _, _, _, s2, _⟩ => SqL.of (s2 _ _ ha)) ?_ ?_⟩
    · rintro i x T' σ H2 hxi ⟨ms, v3, v4, v5, rfl, hm, hms, s2, ml⟩ hT
      obtain ⟨d, hd, hdx⟩ := paired_get dv hxi
      obtain ⟨⟨r, hr'⟩, hol⟩ := dr d (List.mem_of_getElem? hd)
      have hi := (List.getElem?_eq_some_iff.mp hd).1
      have sT := Same.upd (o := .tup [.int (i : Nat), x]) hT
      have s3 := s2.trans sT
      refine ⟨T', _, rfl, SqT.of upd_same, rfl, _, _, rfl, _, _, rfl, rfl, ?_⟩
      refine ⟨_, rfl, _, rfl, p, B, xs, ts, st, ph, x, d, r, rfl, R.nl (NL.of s3), hdx.same s3, hr', hol, fun H3 s4 => ?_⟩
      have s34 := s3.trans s4
      obtain ⟨wv, hwv⟩ : ∃ wv : Option Int, wv = (match ds[i + 1]? with | some e => if e.first ≤ whM ts st d then none else some (whM ts st d) | none => some (whM ts st d)) := ⟨_, rfl⟩
      refine ⟨fun σ' H' => σ' = [some (.ref p), some (.ref a), some (.ref l), some (.int i), some x, some (cV wv)] ∧ H' = H3, ?_, ?_⟩
      · refine ⟨_, rfl, _, _, rfl, rfl, _, rfl, a, zs, rfl, .inl (SqL.of (s34 _ _ ha)), _, _, rfl, rfl, _, rfl, ?_⟩
        refine ite2 (fun c => ?_) (fun c => ?_)
        · have c' : (i : Int) + 1 < zs.length := of_decide_eq_true c
          obtain ⟨e, he⟩ : ∃ e, ds[i + 1]? = some e := ⟨_, List.getElem?_eq_getElem (by omega)⟩
          obtain ⟨y, hy, hye⟩ := paired_get2 dv he
          obtain ⟨py, bB, bR, bO, yB, yR, rfl, Sy⟩ := hye.same s34
          obtain ⟨dz, hpy⟩ := Sy.ob
          rw [he] at hwv
          have hwv : wv = if e.first ≤ whM ts st d then none else some (whM ts st d) := hwv
          have hix : atI zs ((i : Int) + 1) = some (V.ref py) := atI_nat (j := i + 1) hy
          refine ⟨_, rfl, _, rfl, _, _, rfl, rfl, a, zs, _, _, rfl, rfl, SqL.of (s34 _ _ ha), hix, py, L.c_Spell, dz, _, _, rfl, hpy, T.cf_Spell.cl, T.nf_Spell_first, spF_first _ _ _ _ _, _, rfl, _, _, rfl, rfl, _, rfl, ?_⟩
          refine ite2 (fun c2 => ?_) (fun c2 => ?_)
          · have c3 : e.first ≤ whM ts st d := of_decide_eq_true c2
            rw [if_pos c3] at hwv
            rw [hwv]
            exact ⟨rfl, rfl⟩
          · have c3 : ¬ e.first ≤ whM ts st d := fun z => c2 (decide_eq_true z)
            rw [if_neg c3] at hwv
            rw [hwv]
            exact ⟨rfl, rfl⟩
        · have c' : ¬ (i : Int) + 1 < zs.length := fun z => c (decide_eq_true z)
          have he : ds[i + 1]? = none := List.getElem?_eq_none (by omega)
          rw [he] at hwv
          have hwv : wv = some (whM ts st d) := hwv
          rw [hwv]
          exact iteF ⟨rfl, rfl⟩
      rintro σ' H' ⟨rfl, rfl⟩
      have hm3 := s4 _ _ (sT _ _ hm)
      have hgm := mkM_get (bs := ts) (st := st) hd
      rw [← hwv, hr'] at hgm
      have hgm : (mkM ts st ds)[i]? = some (d.first, r, wv) := hgm
      obtain ⟨px, bB, bR, bO, xB, xR, rfl, Sx⟩ := hdx.same s34
      obtain ⟨dz, hpx⟩ := Sx.ob
      refine ⟨_, rfl, .inl ⟨rfl, _, SqL.of hm3⟩, _, rfl, px, L.c_Spell, dz, _, _, rfl, hpx, T.cf_Spell.cl, T.nf_Spell_first, spF_first _ _ _ _ _, _, rfl, px, L.c_Spell, dz, _, _, rfl, hpx, T.cf_Spell.cl, T.nf_Spell_recovered, spF_rcv _ _ _ _ _, _, rfl, (by show 3 ≤ sizeLine; decide), fun tp htp => ?_⟩
      rw [hr']
      have s5 := Same.upd (o := .tup [.int d.first, .int r, cV wv]) htp
      have hm5 := s5 _ _ hm3
      refine ⟨l, _, _, rfl, rfl, hm5, small1 (by omega), ?_⟩
      have n6 := NL.upd (o := .lst (ms ++ [.ref tp])) hm5
      refine ⟨ms ++ [.ref tp], _, _, _, rfl, upd_same, ?_, fun u w e => ?_, by rw [List.length_append]; show ms.length + 1 ≤ i + 1; omega⟩
      · rw [List.take_add_one, hgm]
        exact paired_app ((hms.nl (NL.of (sT.trans s4)) |>.nl (NL.of s5)).nl n6) (.cons ⟨tp, rfl, n6 _ _ upd_same fun _ z => nomatch z⟩ .nil)
      · rw [upd_ne (ne_of_none e hl)]
        exact s5 _ _ (s34 _ _ e)
    · rintro σ H2 ⟨ms, v3, v4, v5, rfl, hm, hms, s2, ml⟩
      rw [zl, List.take_of_length_le (by rw [mkM_len]; exact Nat.le_refl _)] at hms
      exact ⟨_, rfl, k l ms H2 hm hms s2 hl⟩
theorem ok_marksof (T : LX K mg L) : Cal P w K mg base "marks_of" 3 L.f_marks_of ["row", "spells"] (spMarks L.c_Row L.c_Spell) := T.d_marks_of.cal fun fd F => fn_marksof T F
end
/-! ### facts about all spells -/
theorem run0 {fr st : Int} {n : Nat} (f0 : 0 ≤ fr) (f1 : fr ≤ PB n) (s0 : 1 ≤ st) (s1 : st ≤ 1000000000000000000000000000000) (n1 : 104 ≤ n) : RunOk n 1 fr [(fr, st, none)] := by
  refine ⟨⟨fun t ht => ?_, List.pairwise_singleton _ _⟩, fun t ht => ?_, Nat.le_refl _, rfl, ?_⟩
  · rw [List.mem_singleton.mp ht]
    exact ⟨f0, s0, fun c e => nomatch e⟩
  · rw [List.mem_singleton.mp ht]
    exact ⟨f1, Int.le_trans s1 (Int.le_trans (PB_of (n := 104) (by decide +kernel)) (PB_le n1)), fun c e => nomatch e⟩
  · show some (fr + 0 * st) = some fr
    rw [Int.zero_mul, Int.add_zero]
/-- what a row must be -/
structure RowD (bs : List Tri) (st ph : Int) : Prop where
  ok : ∀ t ∈ bs, OkT t
  ln : bs.length ≤ 12
  s0 : 1 ≤ st
  s1 : st ≤ 1000000000000000000000000000000
  p0 : 0 ≤ ph
  p1 : ph ≤ 1000000000000000000000000000000
theorem RowAt.d {C : Addr} {H : Hp} {p B : Addr} {xs : List V} {ts : List Tri} {st ph : Int} (R : RowAt C H p B xs ts st ph) : RowD ts st ph := ⟨R.ok, R.ln, R.s0, R.s1, R.p0, R.p1⟩
theorem bgOf_len {bs : List Tri} {st : Int} {pv : Option SpD} {z : Int} (h : ∀ d, pv = some d → d.op.length = bs.length) : (bgOf bs st pv z).length = bs.length := by
  cases pv with
  | none => exact List.length_replicate
  | some d =>
    show (stBeh bs st d z).length = _
    unfold stBeh
    rw [List.length_zipWith, h d rfl, Nat.min_self]
/-- where a spell comes from -/
structure SpFrom (bs : List Tri) (st ph : Int) (os : List Out) (d : SpD) (b : Int) (e : Option Int) (os' : List Out) (bg : List StD) : Prop where
  sf : ((b, e) :: os') <:+ os
  bl : bg.length = bs.length
  no : ∀ z, e = some z → ¬ z ≤ reqA ph st b
  eq : d = spellD bs st (reqA ph st b) bg ((b, e) :: os')
theorem op_len {bs : List Tri} {st fr : Int} {bg : List StD} {os : List Out} {n : Nat} (R : RunOk n 1 fr [(fr, st, none)]) (bl : bg.length = bs.length) (ok : ∀ t ∈ bs, OkT t) (n1 : 100 ≤ n) : (spellD bs st fr bg os).op.length = bs.length := by
  show (List.map _ _).length = _
  rw [List.length_map, (ch_ok R bl ok n1).1]
theorem spM_mem {bs : List Tri} {st ph : Int} {nb : Nat} (W : RowD bs st ph) (n1 : 104 ≤ nb) : ∀ {n : Nat} {pv : Option SpD} {os : List Out}, (∀ o ∈ os, 0 ≤ o.1 ∧ o.1 ≤ PB nb) → (∀ d, pv = some d → d.op.length = bs.length) → ∀ d ∈ spM bs st ph n pv os, ∃ b e os' bg, SpFrom bs st ph os d b e os' bg
  | 0, pv, os, _, _, d, hd => by cases hd
  | n + 1, pv, [], _, _, d, hd => by cases hd
  | n + 1, pv, (b, e) :: os, ho, hp, d, hd => by
    by_cases c : ∀ z, e = some z → ¬ z ≤ reqA ph st b
    · rw [spM_take c] at hd
      have bl := bgOf_len (st := st) (z := reqA ph st b - 1) hp
      obtain ⟨h0, h1⟩ := ho _ (List.mem_cons_self ..)
      obtain ⟨f0, f1, _⟩ := reqA_ok W.s0 W.s1 W.p0 W.p1 h1 n1
      rcases List.mem_cons.mp hd with rfl | hd
      · exact ⟨b, e, os, _, List.suffix_refl _, bl, c, rfl⟩
      · obtain ⟨b', e', os', bg', F⟩ := spM_mem W n1 (fun o ho' => ho o (List.mem_of_mem_drop ho')) (fun d' e' => by cases e'; exact op_len (run0 f0 f1 W.s0 W.s1 (by omega)) bl W.ok (by omega)) d hd
        exact ⟨b', e', os', bg', F.sf.trans (List.drop_suffix _ _), F.bl, F.no, F.eq⟩
    · obtain ⟨z, hz, hl⟩ : ∃ z, e = some z ∧ z ≤ reqA ph st b := by
        cases e with
        | none => exact absurd (fun z e => nomatch e) c
        | some z =>
          refine ⟨z, rfl, ?_⟩
          by_cases q : z ≤ reqA ph st b
          · exact q
          · exact absurd (fun z' e => by cases e; exact q) c
      subst hz
      rw [spM_skip hl] at hd
      obtain ⟨b', e', os', bg', F⟩ := spM_mem W n1 (fun o ho' => ho o (List.mem_cons_of_mem _ ho')) hp d hd
      exact ⟨b', e', os', bg', F.sf.trans (List.suffix_cons _ _), F.bl, F.no, F.eq⟩
theorem rec_some {g : List Trn} (hs : Srt g) (hT : Tot g = none) : ∀ {l : List Out}, l ≠ [] → (∀ o ∈ l, ∃ z, o.2 = some z) → ∃ r, (recM g l).1 = some r
  | [], h, _ => absurd rfl h
  | [(b, none)], _, h => by obtain ⟨z, e⟩ := h _ (List.mem_cons_self ..); cases e
  | [(b, some e)], _, _ => by
    obtain ⟨y, hy⟩ := nx_end hs hT e
    exact ⟨y, hy⟩
  | (b, none) :: o :: os, _, h => by obtain ⟨z, e⟩ := h _ (List.mem_cons_self ..); cases e
  | (b, some e) :: (b2, e2) :: os, _, h => by
    obtain ⟨r, hr⟩ := rec_some (g := g) hs hT (l := (b2, e2) :: os) (fun z => nomatch z) (fun o ho => h o (List.mem_cons_of_mem _ ho))
    obtain ⟨y, hy⟩ := nx_end hs hT e
    show ∃ r, (if (nxT g e).getD 0 < b2 then (nxT g e, 1) else ((recM g ((b2, e2) :: os)).1, (recM g ((b2, e2) :: os)).2 + 1)).1 = some r
    by_cases c : (nxT g e).getD 0 < b2
    · rw [if_pos c]
      exact ⟨y, hy⟩
    · rw [if_neg c]
      exact ⟨r, hr⟩
theorem outs_len (os : List (Int × Int)) : (outs os).length = os.length := by unfold outs; rw [List.length_map]
theorem outs_mem {os : List (Int × Int)} {o : Out} (h : o ∈ outs os) : ∃ z, z ∈ os ∧ o = (z.1, some z.2) := by
  unfold outs at h
  obtain ⟨z, hz, e⟩ := List.mem_map.mp h
  exact ⟨z, hz, e.symm⟩
theorem vout_mem : ∀ {os : List (Int × Int)} {m : Int}, VOut m os → ∀ o ∈ os, m ≤ o.1 ∧ o.1 < o.2 ∧ o.2 ≤ 1000000000000000000000000000000
  | [], m, _, o, ho => by cases ho
  | z :: r, m, h, o, ho => by
    obtain ⟨h1, h2, h3, h4⟩ := h
    rcases List.mem_cons.mp ho with rfl | ho
    · exact ⟨h1, h2, h3⟩
    · have := vout_mem h4 o ho
      omega
theorem osOk_of {os : List (Int × Int)} (hv : VOut 0 os) (hl : os.length ≤ 50) : OsOk 104 (outs os) := by
  have e : (1000000000000000000000000000000 : Int) ≤ PB 104 := PB_of (by decide +kernel)
  refine ⟨fun o ho => ?_, fun o ho => ?_, by rw [outs_len]; omega, Nat.le_refl _, by decide⟩
  · obtain ⟨z, hz, rfl⟩ := outs_mem ho
    have := vout_mem hv z hz
    exact ⟨this.1, by show z.1 ≤ _; omega, fun y e => by cases e; omega⟩
  · obtain ⟨z, hz, rfl⟩ := outs_mem (List.dropLast_subset _ ho)
    exact fun z => nomatch z
def spsOf (bs : List Tri) (st ph : Int) (os : List (Int × Int)) : List SpD := spM bs st ph os.length none (outs os)
theorem sps_ok {bs : List Tri} {st ph : Int} (W : RowD bs st ph) {os : List (Int × Int)} (hv : VOut 0 os) (hl : os.length ≤ 50) : ∀ d ∈ spsOf bs st ph os, (∃ r, d.rcv = some r) ∧ d.op.length = bs.length := by
  intro d hd
  have O := osOk_of hv hl
  obtain ⟨b, e, os', bg, F⟩ := spM_mem (nb := 104) (pv := none) W (Nat.le_refl _) (fun o ho => ⟨(O.bd o ho).1, (O.bd o ho).2.1⟩) (fun d e => nomatch e) d hd
  have hm := F.sf.subset (List.mem_cons_self ..)
  obtain ⟨f0, f1, _⟩ := reqA_ok W.s0 W.s1 W.p0 W.p1 (O.bd _ hm).2.1 (Nat.le_refl _)
  have R0 := run0 f0 f1 W.s0 W.s1 (by decide)
  rw [F.eq]
  refine ⟨?_, op_len R0 F.bl W.ok (by decide)⟩
  obtain ⟨_, g2⟩ := ch_ok R0 F.bl W.ok (by decide)
  exact rec_some g2.srt g2.en (fun z => nomatch z) fun o ho => by
    obtain ⟨z, hz, rfl⟩ := outs_mem (F.sf.subset ho)
    exact ⟨z.2, rfl⟩
theorem spM_len {bs : List Tri} {st ph : Int} : ∀ {n : Nat} {pv : Option SpD} {os : List Out}, (spM bs st ph n pv os).length ≤ n
  | 0, pv, os => Nat.le_refl _
  | n + 1, pv, [] => Nat.zero_le _
  | n + 1, pv, (b, e) :: os => by
    by_cases c : ∀ z, e = some z → ¬ z ≤ reqA ph st b
    · rw [spM_take c]
      have := spM_len (bs := bs) (st := st) (ph := ph) (n := n) (pv := some (spellD bs st (reqA ph st b) (bgOf bs st pv (reqA ph st b - 1)) ((b, e) :: os))) (os := ((b, e) :: os).drop (spellN bs st (reqA ph st b) (bgOf bs st pv (reqA ph st b - 1)) ((b, e) :: os)))
      rw [List.length_cons]
      omega
    · obtain ⟨z, hz, hl⟩ : ∃ z, e = some z ∧ z ≤ reqA ph st b := by
        cases e with
        | none => exact absurd (fun z e => nomatch e) c
        | some z =>
          refine ⟨z, rfl, ?_⟩
          by_cases q : z ≤ reqA ph st b
          · exact q
          · exact absurd (fun z' e => by cases e; exact q) c
      subst hz
      rw [spM_skip hl]
      have := spM_len (bs := bs) (st := st) (ph := ph) (n := n) (pv := pv) (os := os)
      omega
/-! ### while an object's fields are set -/
/-- what is no instance is kept -/
def NI (H H' : Hp) : Prop := ∀ b o, H b = some o → (∀ C dx fs, o ≠ .ins C dx fs) → H' b = some o
theorem NI.of {p C dx : Addr} {fs : List (Str × V)} {H H' : Hp} (k : Kp p H H') (h : H p = some (.ins C dx fs)) : NI H H' := fun b o e n => k b o (fun z => by
  subst z
  rw [h] at e
  cases e
  exact n _ _ _ rfl) e
theorem NI.trans {H H1 H2 : Hp} (a : NI H H1) (b : NI H1 H2) : NI H H2 := fun c o h n => b c o (a c o h n) n
theorem NI.same {H H' : Hp} (s : Same H H') : NI H H' := fun b o e _ => s b o e
theorem Fr.kpp {H0 H H' : Hp} {p : Addr} (k : Kp p H H') : Kp p (Fr H0 H) (Fr H0 H') := fun b o n e => by
  obtain ⟨h, q⟩ := Fr.inv e
  exact Fr.of (k b o n h) q
theorem Fr.ni {H0 H H' : Hp} (k : NI H H') : NI (Fr H0 H) (Fr H0 H') := fun b o e n => by
  obtain ⟨h, q⟩ := Fr.inv e
  exact Fr.of (k b o h n) q
theorem Trs.ni {H H' : Hp} (k : NI H H') {xs : List V} {ts : List Trn} (h : Trs H xs ts) : Trs H' xs ts := L2.Paired.mapP h fun _ _ ⟨a, e, h⟩ => ⟨a, e, k _ _ h fun _ _ _ z => nomatch z⟩
theorem Sts.ni {H H' : Hp} (k : NI H H') {xs : List V} {ts : List StD} (h : Sts H xs ts) : Sts H' xs ts := L2.Paired.mapP h fun _ _ ⟨a, e, h⟩ => ⟨a, e, k _ _ h fun _ _ _ z => nomatch z⟩
theorem Ots.ni {H H' : Hp} (k : NI H H') {xs : List V} {ts : List Out} (h : Ots H xs ts) : Ots H' xs ts := L2.Paired.mapP h fun _ _ ⟨a, e, h⟩ => ⟨a, e, k _ _ h fun _ _ _ z => nomatch z⟩
theorem Mks.ni {H H' : Hp} (k : NI H H') {xs : List V} {ts : List MkD} (h : Mks H xs ts) : Mks H' xs ts := L2.Paired.mapP h fun _ _ ⟨a, e, h⟩ => ⟨a, e, k _ _ h fun _ _ _ z => nomatch z⟩
theorem Rns.ni {H H' : Hp} (k : NI H H') {xs : List V} {ts : List (List Trn)} (h : Rns H xs ts) : Rns H' xs ts := L2.Paired.mapP h fun _ _ ⟨a, ys, e, h, t⟩ => ⟨a, ys, e, k _ _ h (fun _ _ _ z => nomatch z), t.ni k⟩
theorem SpV.kp {CS : Addr} {H H' : Hp} {p C dx : Addr} {fs : List (Str × V)} (k : Kp p H H') (h : H p = some (.ins C dx fs)) (nf : fs.lookup ("first" : Str) = none) {x : V} {d : SpD} (S : SpV CS H x d) : SpV CS H' x d := by
  obtain ⟨q, aB, aR, aO, xB, xR, e, S⟩ := S
  obtain ⟨dz, hq⟩ := S.ob
  have ni := NI.of k h
  have nq : q ≠ p := fun z => by
    subst z
    rw [h] at hq
    cases hq
    rw [spF_first] at nf
    cases nf
  exact ⟨q, aB, aR, aO, xB, xR, e, ⟨dz, k _ _ nq hq⟩, ni _ _ S.hB (fun _ _ _ z => nomatch z), S.sB.ni ni, ni _ _ S.hR (fun _ _ _ z => nomatch z), S.sR.ni ni, ni _ _ S.hO fun _ _ _ z => nomatch z⟩
theorem SpVs.kp {CS : Addr} {H H' : Hp} {p C dx : Addr} {fs : List (Str × V)} (k : Kp p H H') (h : H p = some (.ins C dx fs)) (nf : fs.lookup ("first" : Str) = none) {xs : List V} {ds : List SpD} (S : SpVs CS H xs ds) : SpVs CS H' xs ds := L2.Paired.mapP S fun _ _ z => z.kp k h nf
theorem RowAt.kp {CR : Addr} {H H' : Hp} {p C dx : Addr} {fs : List (Str × V)} (k : Kp p H H') (h : H p = some (.ins C dx fs)) (nf : fs.lookup ("breakers" : Str) = none) {q B : Addr} {xs : List V} {ts : List Tri} {st ph : Int} (R : RowAt CR H q B xs ts st ph) : RowAt CR H' q B xs ts st ph := by
  obtain ⟨dz, hq⟩ := R.ob
  have ni := NI.of k h
  have nq : q ≠ p := fun z => by
    subst z
    rw [h] at hq
    cases hq
    rw [rowF_b] at nf
    cases nf
  exact ⟨⟨dz, k _ _ nq hq⟩, ni _ _ R.tp (fun _ _ _ z => nomatch z), L2.Paired.mapP R.br fun _ _ ⟨a, e, h⟩ => ⟨a, e, ni _ _ h fun _ _ _ z => nomatch z⟩, R.ok, R.ln, R.s0, R.s1, R.p0, R.p1⟩
/-! ### a Timeline in the heap -/
def tlF (aR aO aS aF aM : Addr) : List (Str × V) := putF "marks" (.ref aM) (putF "firsts" (.ref aF) (putF "spells" (.ref aS) (putF "outages" (.ref aO) (putF "row" (.ref aR) []))))
theorem tlF_row (aR aO aS aF aM : Addr) : (tlF aR aO aS aF aM).lookup ("row" : Str) = some (.ref aR) := by
  unfold tlF
  rw [lookup_putF, if_neg (by decide +kernel), lookup_putF, if_neg (by decide +kernel), lookup_putF, if_neg (by decide +kernel), lookup_putF, if_neg (by decide +kernel), lookup_putF, if_pos rfl]
theorem tlF_out (aR aO aS aF aM : Addr) : (tlF aR aO aS aF aM).lookup ("outages" : Str) = some (.ref aO) := by
  unfold tlF
  rw [lookup_putF, if_neg (by decide +kernel), lookup_putF, if_neg (by decide +kernel), lookup_putF, if_neg (by decide +kernel), lookup_putF, if_pos rfl]
theorem tlF_sp (aR aO aS aF aM : Addr) : (tlF aR aO aS aF aM).lookup ("spells" : Str) = some (.ref aS) := by
  unfold tlF
  rw [lookup_putF, if_neg (by decide +kernel), lookup_putF, if_neg (by decide +kernel), lookup_putF, if_pos rfl]
theorem tlF_fi (aR aO aS aF aM : Addr) : (tlF aR aO aS aF aM).lookup ("firsts" : Str) = some (.ref aF) := by
  unfold tlF
  rw [lookup_putF, if_neg (by decide +kernel), lookup_putF, if_pos rfl]
theorem tlF_ma (aR aO aS aF aM : Addr) : (tlF aR aO aS aF aM).lookup ("marks" : Str) = some (.ref aM) := by
  unfold tlF
  rw [lookup_putF, if_pos rfl]
theorem tlF_no (aR aO aS aF aM : Addr) {m : Str} (h1 : ¬ m = "marks") (h2 : ¬ m = "firsts") (h3 : ¬ m = "spells") (h4 : ¬ m = "outages") (h5 : ¬ m = "row") : (tlF aR aO aS aF aM).lookup m = none := by
  unfold tlF
  rw [lookup_putF, if_neg h1, lookup_putF, if_neg h2, lookup_putF, if_neg h3, lookup_putF, if_neg h4, lookup_putF, if_neg h5]
  all_goals rfl
structure TLAt (CR CS C : Addr) (H : Hp) (p aR B aO aS aF aM : Addr) (xs ys zs ms : List V) (ts : List Tri) (st ph : Int) (os : List (Int × Int)) : Prop where
  ob : ∃ dx, H p = some (.ins C dx (tlF aR aO aS aF aM))
  row : RowAt CR H aR B xs ts st ph
  hO : H aO = some (.tup ys)
  oO : Ots H ys (outs os)
  hS : H aS = some (.lst zs)
  oS : SpVs CS H zs (spsOf ts st ph os)
  hF : H aF = some (.lst (((spsOf ts st ph os).map SpD.first).map V.int))
  hM : H aM = some (.lst ms)
  oM : Mks H ms (mkM ts st (spsOf ts st ph os))
  vo : VOut 0 os
  ol : os.length ≤ 50
theorem TLAt.same {CR CS C : Addr} {H H' : Hp} {p aR B aO aS aF aM : Addr} {xs ys zs ms : List V} {ts : List Tri} {st ph : Int} {os : List (Int × Int)} (T : TLAt CR CS C H p aR B aO aS aF aM xs ys zs ms ts st ph os) (s : Same H H') : TLAt CR CS C H' p aR B aO aS aF aM xs ys zs ms ts st ph os := by
  obtain ⟨dx, e⟩ := T.ob
  exact ⟨⟨dx, s _ _ e⟩, T.row.nl (NL.of s), s _ _ T.hO, T.oO.same s, s _ _ T.hS, T.oS.same s, s _ _ T.hF, s _ _ T.hM, T.oM.nl (NL.of s), T.vo, T.ol⟩
def TLV (CR CS C : Addr) (H : Hp) (p : Addr) (ts : List Tri) (st ph : Int) (os : List (Int × Int)) : Prop := ∃ aR B aO aS aF aM xs ys zs ms, TLAt CR CS C H p aR B aO aS aF aM xs ys zs ms ts st ph os
theorem TLV.same {CR CS C : Addr} {H H' : Hp} {p : Addr} {ts : List Tri} {st ph : Int} {os : List (Int × Int)} (T : TLV CR CS C H p ts st ph os) (s : Same H H') : TLV CR CS C H' p ts st ph os := by
  obtain ⟨aR, B, aO, aS, aF, aM, xs, ys, zs, ms, T⟩ := T
  exact ⟨aR, B, aO, aS, aF, aM, xs, ys, zs, ms, T.same s⟩
def spTLInit (CR CS C : Addr) : Sp := fun vs H Q _ => ∃ p dx r B xs ts st ph a ys os, vs = [.ref p, .ref r, .ref a] ∧ H p = some (.ins C dx []) ∧ RowAt CR H r B xs ts st ph ∧ H a = some (.lst ys) ∧ Ots H ys (outs os) ∧ VOut 0 os ∧ os.length ≤ 50 ∧
  ∀ H', TLV CR CS C (Fr H H') p ts st ph os → Kp p H H' → Q .non H'
section
variable {P : Program} {w : World} {K : PySem.W.Frag} {mg : Str → Option Value} {base : Heap} {L : LA}
abbrev N_Timelineinit : List Str := ["self", "row", "outages", "spell"]
theorem sc_Timelineinit : FnScope N_Timelineinit ["self", "row", "outages"] (defScope st_Timeline_init) := ⟨rfl, rfl, rfl, by decide +kernel, rfl, by decide +kernel, by decide +kernel⟩
theorem fn_Timelineinit (T : LX K mg L) {fd : FuncData} (F : Fun K "__init__" "Timeline.__init__" st_Timeline_init L.i_Timeline fd) : FnOk P w K mg base CX0 8 L.i_Timeline fd ["self", "row", "outages"] (spTLInit L.c_Row L.c_Spell L.c_Timeline) := by
  have G_checkoutages := ok_checkoutages (P := P) (w := w) (base := base) T
  have G_spellsof := ok_spellsof (P := P) (w := w) (base := base) T
  have G_marksof := ok_marksof (P := P) (w := w) (base := base) T
  have nd := sc_Timelineinit.nd
  refine F.ok sc_Timelineinit (fun vs H Q E h => ?_) (fun cdv A outer S H vs Q E hr h => ?_)
  · obtain ⟨p, dx, r, B, xs, ts, st, ph, a, ys, os, rfl, _⟩ := h
    rfl
  · obtain ⟨p, dx, r, B, xs, ts, st, ph, a, ys, os, rfl, hp, R, ha, hy, hv, hl, k⟩ := h
    refine ⟨_, (pss_cons (ps_expr (pe_c G_checkoutages (hr.mono (by decide)) rfl (pa_cons (pv 2) pa_nil)))
       (pss_cons (ps_fld (pv 0) (pv 1) rfl)
       (pss_cons (ps_fld (pv 0) (pe_callTy call_tuple_of (by rfl) T.b_tuple (by decide +kernel) (pa_cons (pv 2) pa_nil)) rfl)
       (pss_cons (ps_fld (pv 0) (pe_c G_spellsof (hr.mono (by decide)) rfl (pa_cons (pv 1) (pa_cons (pe_fld (pv 0) rfl) pa_nil))) rfl)
       (pss_cons (ps_fld (pv 0) (pe_lc (own := [("spell", 3)]) (g := gName 3) (tt := tYes) rfl nd (pi_list (pe_fld (pv 0) rfl)) (blkOk_by (own := [("spell", 3)]) (N := N_Timelineinit) (sc := defScope st_Timeline_init) (by decide +kernel)) (fun _ _ _ _ _ => pg_name (i := 3) nd rfl (Or.inl rfl)) (fun _ _ _ _ _ => pts_nil) (fun _ _ _ _ _ => (pe_fldK (K := K) rfl (pv 3) rfl))) rfl)
       (pss_one (ps_fld (pv 0) (pe_c G_marksof (hr.mono (by decide)) rfl (pa_cons (pv 1) (pa_cons (pe_fld (pv 0) rfl) pa_nil))) rfl))))))), ?_⟩
    have O := osOk_of hv hl
    have W := R.d
    refine ⟨_, rfl, a, ys, os, rfl, ha, hy, hv, hl, fun H1 s1 => ?_⟩
    have hp1 := s1 _ _ hp
    have R1 := R.nl (NL.of s1)
    have z1 := putF_len "row" (.ref r) [] (Nat.le_refl 0)
    -- self.row
    refine ⟨_, rfl, _, rfl, p, L.c_Timeline, dx, [], rfl, hp1, T.cf_Timeline.cl, T.nf_Timeline_row, (by show 0 < 1000; decide), ?_⟩
    obtain ⟨H2, hH2⟩ : ∃ H2 : Hp, H2 = upd H1 p (.ins L.c_Timeline dx (putF "row" (.ref r) [])) := ⟨_, rfl⟩
    rw [← hH2]
    have k2 : Kp p H1 H2 := by rw [hH2]; exact Kp.upd
    have hp2 : H2 p = some (.ins L.c_Timeline dx (putF "row" (.ref r) [])) := by rw [hH2]; exact upd_same
    have n2 := NI.of k2 hp1
    have R2 := R1.kp k2 hp1 rfl
    have ha2 := n2 _ _ (s1 _ _ ha) fun _ _ _ z => nomatch z
    -- self.outages
    refine ⟨_, rfl, a, ys, rfl, .inl ⟨SqL.of ha2, fun aO hO => ?_⟩⟩
    have s3 := Same.upd (o := .tup ys) hO
    have hp3 := s3 _ _ hp2
    have z2 := putF_len "outages" (.ref aO) _ z1
    have npO : p ≠ aO := ne_of_none hp2 hO
    refine ⟨_, rfl, p, L.c_Timeline, dx, _, rfl, hp3, T.cf_Timeline.cl, T.nf_Timeline_outages, Nat.lt_of_le_of_lt z1 (by decide), ?_⟩
    obtain ⟨H4, hH4⟩ : ∃ H4 : Hp, H4 = upd (upd H2 aO (.tup ys)) p (.ins L.c_Timeline dx (putF "outages" (.ref aO) (putF "row" (.ref r) []))) := ⟨_, rfl⟩
    rw [← hH4]
    have k4 : Kp p (upd H2 aO (.tup ys)) H4 := by rw [hH4]; exact Kp.upd
    have hp4 : H4 p = some (.ins L.c_Timeline dx (putF "outages" (.ref aO) (putF "row" (.ref r) []))) := by rw [hH4]; exact upd_same
    have n4 := NI.of k4 hp3
    have R4 := (R2.nl (NL.of s3)).kp k4 hp3 (by rw [lookup_putF, if_neg (by decide +kernel)]; rfl)
    have hO4 : H4 aO = some (.tup ys) := k4 _ _ npO.symm upd_same
    have n24 : NI H H4 := (((NI.same s1).trans n2).trans (NI.same s3)).trans n4
    have oO4 := hy.ni n24
    -- self.spells
    refine ⟨_, rfl, _, rfl, p, L.c_Timeline, dx, _, _, rfl, hp4, T.cf_Timeline.cl, T.nf_Timeline_outages, by rw [lookup_putF, if_pos rfl], r, B, xs, ts, st, ph, aO, ys, outs os, 104, rfl, R4, .inl hO4, oO4, O, fun aS zs H5 hS oS s5 nS => ?_⟩
    have eS : spM ts st ph (outs os).length none (outs os) = spsOf ts st ph os := by
      unfold spsOf
      rw [outs_len]
    rw [eS] at oS
    have hp5 := s5 _ _ hp4
    have z3 := putF_len "spells" (.ref aS) _ z2
    refine ⟨_, rfl, p, L.c_Timeline, dx, _, rfl, hp5, T.cf_Timeline.cl, T.nf_Timeline_spells, Nat.lt_of_le_of_lt z2 (by decide), ?_⟩
    obtain ⟨H6, hH6⟩ : ∃ H6 : Hp, H6 = upd H5 p (.ins L.c_Timeline dx (putF "spells" (.ref aS) (putF "outages" (.ref aO) (putF "row" (.ref r) [])))) := ⟨_, rfl⟩
    rw [← hH6]
    have k6 : Kp p H5 H6 := by rw [hH6]; exact Kp.upd
    have hp6 : H6 p = some (.ins L.c_Timeline dx (putF "spells" (.ref aS) (putF "outages" (.ref aO) (putF "row" (.ref r) [])))) := by rw [hH6]; exact upd_same
    have n6 := NI.of k6 hp5
    have lk5 : ∀ m : Str, ¬ m = "outages" → ¬ m = "row" → (putF "outages" (.ref aO) (putF "row" (V.ref r) [])).lookup m = none := fun m h1 h2 => by
      rw [lookup_putF, if_neg h1, lookup_putF, if_neg h2]
      rfl
    have lk6 : ∀ m : Str, ¬ m = "spells" → ¬ m = "outages" → ¬ m = "row" → (putF "spells" (.ref aS) (putF "outages" (.ref aO) (putF "row" (V.ref r) []))).lookup m = none := fun m h0 h1 h2 => by
      rw [lookup_putF, if_neg h0, lookup_putF, if_neg h1, lookup_putF, if_neg h2]
      rfl
    have R6 := (R4.nl (NL.of s5)).kp k6 hp5 (lk5 _ (by decide +kernel) (by decide +kernel))
    have hS6 := n6 _ _ hS fun _ _ _ z => nomatch z
    have oS6 : SpVs L.c_Spell (Fr H4 H6) zs (spsOf ts st ph os) := SpVs.kp (Fr.kpp k6) (Fr.nol hp5 fun _ z => nomatch z) (lk5 _ (by decide +kernel) (by decide +kernel)) oS
    have hO6 := n6 _ _ (s5 _ _ hO4) fun _ _ _ z => nomatch z
    have zl := paired_len oS
    have dl : (spsOf ts st ph os).length ≤ 50 := Nat.le_trans spM_len hl
    -- self.firsts
    refine ⟨_, rfl, p, L.c_Timeline, dx, _, _, rfl, hp6, T.cf_Timeline.cl, T.nf_Timeline_spells, by rw [lookup_putF, if_pos rfl], aS, rfl, ⟨_, SqL.of hS6⟩, fun aF hF => ?_⟩
    refine lc_list (K := K) (a := aS) (xs := zs) (fun j Hc => Hc aF = some (.lst ((((spsOf ts st ph os).map SpD.first).take j).map V.int)) ∧ Same H6 Hc) ⟨upd_same, Same.upd hF⟩ (fun j Hc _ ⟨_, s⟩ => SqL.of (s _ _ hS6)) ?_ ?_
    · rintro j x Hc hx ⟨hD, sc⟩
      obtain ⟨d, hd, hdx⟩ := paired_get oS6 hx
      obtain ⟨q, bB, bR, bO, xB, xR, rfl, Sx⟩ := hdx.same (Fr.le.trans sc)
      obtain ⟨dz, hq⟩ := Sx.ob
      have hj := (List.getElem?_eq_some_iff.mp hd).1
      refine ⟨rfl, tYes_of ⟨_, rfl, q, L.c_Spell, dz, _, _, rfl, hq, T.cf_Spell.cl, T.nf_Spell_first, spF_first _ _ _ _ _, _, hD, small1 (by rw [List.length_map, List.length_take, List.length_map]; omega), ?_, fun u w e => ?_⟩⟩
      · rw [upd_same, List.take_add_one, List.getElem?_map, hd, List.map_append]
        rfl
      · rw [upd_ne (ne_of_none e hF)]
        exact sc _ _ e
    rintro H7 ⟨hF7, s7⟩
    rw [zl, List.take_of_length_le (by rw [List.length_map]; exact Nat.le_refl _)] at hF7
    have hp7 := s7 _ _ hp6
    have z4 := putF_len "firsts" (.ref aF) _ z3
    refine ⟨_, rfl, p, L.c_Timeline, dx, _, rfl, hp7, T.cf_Timeline.cl, T.nf_Timeline_firsts, Nat.lt_of_le_of_lt z3 (by decide), ?_⟩
    obtain ⟨H8, hH8⟩ : ∃ H8 : Hp, H8 = upd H7 p (.ins L.c_Timeline dx (putF "firsts" (.ref aF) (putF "spells" (.ref aS) (putF "outages" (.ref aO) (putF "row" (.ref r) []))))) := ⟨_, rfl⟩
    rw [← hH8]
    have k8 : Kp p H7 H8 := by rw [hH8]; exact Kp.upd
    have hp8 : H8 p = some (.ins L.c_Timeline dx (putF "firsts" (.ref aF) (putF "spells" (.ref aS) (putF "outages" (.ref aO) (putF "row" (.ref r) []))))) := by rw [hH8]; exact upd_same
    have n8 := NI.of k8 hp7
    have lk8 : ∀ m : Str, ¬ m = "firsts" → ¬ m = "spells" → ¬ m = "outages" → ¬ m = "row" → (putF "firsts" (.ref aF) (putF "spells" (.ref aS) (putF "outages" (.ref aO) (putF "row" (V.ref r) [])))).lookup m = none := fun m h3 h0 h1 h2 => by
      rw [lookup_putF, if_neg h3, lookup_putF, if_neg h0, lookup_putF, if_neg h1, lookup_putF, if_neg h2]
      rfl
    have R8 := (R6.nl (NL.of s7)).kp k8 hp7 (lk6 _ (by decide +kernel) (by decide +kernel) (by decide +kernel))
    have hS8 := n8 _ _ (s7 _ _ hS6) fun _ _ _ z => nomatch z
    have oS8 : SpVs L.c_Spell (Fr H4 H8) zs (spsOf ts st ph os) := SpVs.kp (Fr.kpp k8) (Fr.nol hp7 fun _ z => nomatch z) (lk6 _ (by decide +kernel) (by decide +kernel) (by decide +kernel)) (oS6.same (Fr.same s7))
    have hF8 := n8 _ _ hF7 fun _ _ _ z => nomatch z
    have hO8 := n8 _ _ (s7 _ _ hO6) fun _ _ _ z => nomatch z
    -- self.marks
    refine ⟨_, rfl, _, rfl, p, L.c_Timeline, dx, _, _, rfl, hp8, T.cf_Timeline.cl, T.nf_Timeline_spells, by rw [lookup_putF, if_neg (by decide +kernel), lookup_putF, if_pos rfl], r, B, xs, ts, st, ph, aS, zs, spsOf ts st ph os, rfl, R8, hS8, oS8.same Fr.le, by omega, sps_ok W hv hl, fun aM ms H9 hM oM s9 nM => ?_⟩
    have hp9 := s9 _ _ hp8
    refine ⟨_, rfl, p, L.c_Timeline, dx, _, rfl, hp9, T.cf_Timeline.cl, T.nf_Timeline_marks, Nat.lt_of_le_of_lt z4 (by decide), ?_⟩
    obtain ⟨HA, hHA⟩ : ∃ HA : Hp, HA = upd H9 p (.ins L.c_Timeline dx (tlF r aO aS aF aM)) := ⟨_, rfl⟩
    have hgoal : upd H9 p (.ins L.c_Timeline dx (putF "marks" (.ref aM) (putF "firsts" (.ref aF) (putF "spells" (.ref aS) (putF "outages" (.ref aO) (putF "row" (.ref r) [])))))) = HA := by rw [hHA]; rfl
    rw [hgoal]
    have kA : Kp p H9 HA := by rw [hHA]; exact Kp.upd
    have hpA : HA p = some (.ins L.c_Timeline dx (tlF r aO aS aF aM)) := by rw [hHA]; exact upd_same
    have nA := NI.of kA hp9
    have lk9 := lk8
    have RA := (R8.nl (NL.of s9)).kp kA hp9 (lk8 _ (by decide +kernel) (by decide +kernel) (by decide +kernel) (by decide +kernel))
    have oSA : SpVs L.c_Spell (Fr H4 HA) zs (spsOf ts st ph os) := SpVs.kp (Fr.kpp kA) (Fr.nol hp9 fun _ z => nomatch z) (lk8 _ (by decide +kernel) (by decide +kernel) (by decide +kernel) (by decide +kernel)) (oS8.same (Fr.same s9))
    have kk1 : Kp p H H1 := Kp.of s1
    have kall : Kp p H H4 := ((kk1.trans k2).trans (Kp.of s3)).trans k4
    have kAll : Kp p H HA := (((((kall.trans (Kp.of s5)).trans k6).trans (Kp.of s7)).trans k8).trans (Kp.of s9)).trans kA
    have fresh : ∀ {b}, H4 b = none → H b = none := fun {b} e => by
      cases q : H b with
      | none => rfl
      | some o =>
        by_cases c : b = p
        · rw [c, hp4] at e
          cases e
        · rw [kall _ _ c q] at e
          cases e
    have f6 : ∀ {b}, H6 b = none → H4 b = none := fun {b} e => by
      cases q : H4 b with
      | none => rfl
      | some o =>
        by_cases c : b = p
        · rw [c, hp6] at e
          cases e
        · rw [k6 _ _ c (s5 _ _ q)] at e
          cases e
    have f8 : ∀ {b}, H8 b = none → H6 b = none := fun {b} e => by
      cases q : H6 b with
      | none => rfl
      | some o =>
        by_cases c : b = p
        · rw [c, hp8] at e
          cases e
        · rw [k8 _ _ c (s7 _ _ q)] at e
          cases e
    refine k HA ⟨r, B, aO, aS, aF, aM, xs, ys, zs, ms, ⟨dx, Fr.nol hpA fun _ z => nomatch z⟩, ?_, Fr.nol (nA _ _ (s9 _ _ hO8) fun _ _ _ z => nomatch z) (fun _ z => nomatch z), ?_, ?_, ?_, ?_, ?_, ?_, hv, hl⟩ kAll
    · obtain ⟨dz, hq⟩ := RA.ob
      exact ⟨⟨dz, Fr.nol hq fun _ z => nomatch z⟩, Fr.nol RA.tp (fun _ z => nomatch z), L2.Paired.mapP RA.br fun _ _ ⟨a, e, h⟩ => ⟨a, e, Fr.nol h fun _ z => nomatch z⟩, RA.ok, RA.ln, RA.s0, RA.s1, RA.p0, RA.p1⟩
    · exact L2.Paired.mapP (((((oO4.same s5).ni n6).same s7).ni n8).same s9 |>.ni nA) fun _ _ ⟨a, e, h⟩ => ⟨a, e, Fr.nol h fun _ z => nomatch z⟩
    · exact Fr.of (nA _ _ (s9 _ _ hS8) fun _ _ _ z => nomatch z) (.inl (fresh nS))
    · exact oSA.same (Fr.base' fun b e => fresh e)
    · exact Fr.of (nA _ _ (s9 _ _ hF8) fun _ _ _ z => nomatch z) (.inl (fresh (f6 hF)))
    · exact Fr.of (nA _ _ hM fun _ _ _ z => nomatch z) (.inl (fresh (f6 (f8 nM))))
    · exact L2.Paired.mapP (oM.ni nA) fun _ _ ⟨a, e, h⟩ => ⟨a, e, Fr.nol h fun _ z => nomatch z⟩
end
/-! ### what a spell is -/
theorem RunOk.up {n k n' k' : Nat} {fr : Int} {ts : List Trn} (R : RunOk n k fr ts) (h : n ≤ n') (h' : k ≤ k') : RunOk n' k' fr ts := ⟨R.srt, fun t ht => (R.bt t ht).le h, Nat.le_trans R.ln h', R.en, R.hd⟩
structure ChStep (bs : List Tri) (bg : List StD) (os : List Int) (fr : Int) (i : Nat) (g g' : List Trn) (o : Int) (b : Tri) (s : StD) : Prop where
  ho : os[i]? = some o
  hb : bs[i]? = some b
  hs : bg[i]? = some s
  at_ : At g (ndOf b s - 1) = some o
  fo : fr ≤ o
  eq : g' = passG g (ndOf b s) b.2.1 o
  ps : PassOk g g' o b.2.1
theorem ch_all {N M : Nat} : ∀ {bs : List Tri} {bg : List StD} {n k : Nat} {fr : Int} {ts : List Trn}, RunOk n k fr ts → bg.length = bs.length → (∀ b ∈ bs, OkT b) → 100 ≤ n → n + 44 * bs.length ≤ N → k + bs.length ≤ M →
    (chR bs bg ts).length = bs.length + 1 ∧ (chR bs bg ts)[0]? = some ts ∧ (∀ (i : Nat) (g : List Trn), (chR bs bg ts)[i]? = some g → RunOk N M fr g) ∧ (chR bs bg ts)[bs.length]? = some (chL bs bg ts) ∧
      ∀ (i : Nat) (g g' : List Trn), (chR bs bg ts)[i]? = some g → (chR bs bg ts)[i + 1]? = some g' → ∃ o b s, ChStep bs bg (chO bs bg ts) fr i g g' o b s
  | [], bg, n, k, fr, ts, R, _, _, _, hN, hM => by
    have e : chR [] bg ts = [ts] := by cases bg <;> rfl
    have e2 : chL [] bg ts = ts := by cases bg <;> rfl
    rw [e, e2]
    refine ⟨rfl, rfl, fun i g h => ?_, rfl, fun i g g' h h' => ?_⟩
    · cases i with
      | zero => cases h; exact R.up (by simpa using hN) (by simpa using hM)
      | succ i => cases h
    · cases h'
  | b :: bs, [], n, k, fr, ts, R, hl, _, _, _, _ => by cases hl
  | b :: bs, s :: ss, n, k, fr, ts, R, hl, ho, hn, hN, hM => by
    have okb := ho b (List.mem_cons_self ..)
    have ndl : 1 ≤ ndOf b s ∧ ndOf b s ≤ 1000000000000 := by unfold ndOf; obtain ⟨o1, o2, _⟩ := okb; split <;> omega
    obtain ⟨o, y2, h1, hy2, o0, oB, yB, fo, RG2, PG, _⟩ := pass_ok R ndl.1 (Int.le_trans ndl.2 (PB_of (n := 40) (by decide +kernel))) okb.2.2.1 (Int.le_trans okb.2.2.2.1 (PB_of (n := 100) (by decide +kernel))) hn
    have e1 : chO (b :: bs) (s :: ss) ts = o :: chO bs ss (passG ts (ndOf b s) b.2.1 o) := by
      show (match At ts (ndOf b s - 1) with | some o => _ | none => _) = _
      rw [h1]
    have e2 : chL (b :: bs) (s :: ss) ts = chL bs ss (passG ts (ndOf b s) b.2.1 o) := by
      show (match At ts (ndOf b s - 1) with | some o => _ | none => _) = _
      rw [h1]
    have e3 : chR (b :: bs) (s :: ss) ts = ts :: chR bs ss (passG ts (ndOf b s) b.2.1 o) := by
      show (match At ts (ndOf b s - 1) with | some o => _ | none => _) = _
      rw [h1]
    rw [List.length_cons] at hN hM
    obtain ⟨i1, i2, i3, i4, i5⟩ := ch_all (N := N) (M := M) (bs := bs) (bg := ss) RG2 (by simpa using hl) (fun u hu => ho u (List.mem_cons_of_mem _ hu)) (by omega) (by omega) (by omega)
    rw [e1, e2, e3]
    refine ⟨by rw [List.length_cons, List.length_cons, i1], rfl, fun i g h => ?_, i4, fun i g g' h h' => ?_⟩
    · cases i with
      | zero => cases h; exact R.up (by omega) (by omega)
      | succ i => exact i3 i g h
    · cases i with
      | zero =>
        cases h
        have h' : (chR bs ss (passG ts (ndOf b s) b.2.1 o))[0]? = some g' := h'
        rw [i2] at h'
        cases h'
        exact ⟨o, b, s, rfl, rfl, rfl, h1, fo, rfl, PG⟩
      | succ i =>
        obtain ⟨o', b', s', S⟩ := i5 i g g' h h'
        exact ⟨o', b', s', S.ho, S.hb, S.hs, S.at_, S.fo, S.eq, S.ps⟩
structure SpOk (bs : List Tri) (st : Int) (d : SpD) : Prop where
  bgl : d.bg.length = bs.length
  rl : d.rs.length = bs.length + 1
  ol : d.op.length = bs.length
  r0 : d.rs[0]? = some [(d.first, st, none)]
  run : ∀ (i : Nat) (g : List Trn), d.rs[i]? = some g → RunOk 1000 13 d.first g
  stp : ∀ (i : Nat) (g g' : List Trn), d.rs[i]? = some g → d.rs[i + 1]? = some g' → ∃ os o b s, ChStep bs d.bg os d.first i g g' o b s ∧ d.op[i]? = some (cutO d.rcv o)
  f0 : 0 ≤ d.first
  f1 : d.first ≤ PB 400
theorem spell_ok {bs : List Tri} {st fr : Int} {bg : List StD} {os : List Out} {n : Nat} (ok : ∀ t ∈ bs, OkT t) (ln : bs.length ≤ 12) (s0 : 1 ≤ st) (s1 : st ≤ 1000000000000000000000000000000) (f0 : 0 ≤ fr) (f1 : fr ≤ PB n) (n1 : 104 ≤ n) (n2 : n ≤ 400) (bl : bg.length = bs.length) : SpOk bs st (spellD bs st fr bg os) := by
  obtain ⟨i1, i2, i3, i4, i5⟩ := ch_all (N := 1000) (M := 13) (run0 f0 f1 s0 s1 n1) bl ok (by omega) (by omega) (by omega)
  refine ⟨bl, i1, op_len (run0 f0 f1 s0 s1 n1) bl ok (by omega), i2, i3, fun i g g' h h' => ?_, f0, Int.le_trans f1 (PB_le n2)⟩
  obtain ⟨o, b, s, S⟩ := i5 i g g' h h'
  refine ⟨_, o, b, s, S, ?_⟩
  show (List.map _ _)[i]? = _
  rw [List.getElem?_map, S.ho]
  rfl
theorem sps_all {bs : List Tri} {st ph : Int} (W : RowD bs st ph) {os : List (Int × Int)} (hv : VOut 0 os) (hl : os.length ≤ 50) : ∀ d ∈ spsOf bs st ph os, SpOk bs st d ∧ ∃ r, d.rcv = some r := by
  intro d hd
  have O := osOk_of hv hl
  refine ⟨?_, (sps_ok W hv hl d hd).1⟩
  obtain ⟨b, e, os', bg, F⟩ := spM_mem (nb := 104) (pv := none) W (Nat.le_refl _) (fun o ho => ⟨(O.bd o ho).1, (O.bd o ho).2.1⟩) (fun d e => nomatch e) d hd
  have hm := F.sf.subset (List.mem_cons_self ..)
  obtain ⟨f0, f1, _⟩ := reqA_ok W.s0 W.s1 W.p0 W.p1 (O.bd _ hm).2.1 (Nat.le_refl _)
  rw [F.eq]
  exact spell_ok W.ok W.ln W.s0 W.s1 f0 f1 (by decide) (by decide) F.bl
/-! ### counts -/
def mx2 (i j : Int) : Int := if j > i then j else i
def mn2 (i j : Int) : Int := if j < i then j else i
def cisD (b : Nat) (f a : Int) (d : SpD) : Int :=
  if mx2 f d.first < mn2 a (d.rcv.getD 0) then NB (d.rs[b]?.getD []) (mn2 a (d.rcv.getD 0)) - NB (d.rs[b]?.getD []) (mx2 f d.first) else 0
def cisM (b : Nat) (f a : Int) (ds : List SpD) : Int := (ds.map (cisD b f a)).sum
def topV (f a r : Int) : Option Int → Int
  | none => 0
  | some o => mx2 0 (mn2 a r - mx2 f o)
def topD (b : Nat) (f a : Int) (d : SpD) : Int := topV f a (d.rcv.getD 0) (d.op[b]?.getD none)
def topM (b : Nat) (f a : Int) (ds : List SpD) : Int := (ds.map (topD b f a)).sum
def reqsM (st ph f a : Int) : Int := stepsUp (a - ph) st - stepsUp (f - ph) st
def spCkB : Sp := fun vs H Q _ => ∃ b l, vs = [.int b, .int l] ∧ 0 ≤ b ∧ b ≤ l ∧ Q .non H
def spCkW : Sp := fun vs H Q _ => ∃ f a, vs = [.int f, .int a] ∧ 0 ≤ f ∧ f ≤ a ∧ Q .non H
section
variable {CR CS C : Addr}
def spRq (CR CS C : Addr) : Sp := fun vs H Q _ => ∃ p ts st ph os f a, vs = [.ref p, .int f, .int a] ∧ TLV CR CS C H p ts st ph os ∧ 0 ≤ f ∧ f ≤ a ∧ Q (.int (reqsM st ph f a)) H
def spCis (CR CS C : Addr) : Sp := fun vs H Q _ => ∃ p ts st ph os f a, ∃ b : Nat, vs = [.ref p, .int b, .int f, .int a] ∧ TLV CR CS C H p ts st ph os ∧ b ≤ ts.length ∧ ∀ H', Same H H' → Q (.int (cisM b f a (spsOf ts st ph os))) H'
def spCame (CR CS C : Addr) : Sp := fun vs H Q _ => ∃ p ts st ph os f a, ∃ b : Nat, vs = [.ref p, .int b, .int f, .int a] ∧ TLV CR CS C H p ts st ph os ∧ b ≤ ts.length ∧ 0 ≤ f ∧ f ≤ a ∧ ∀ H', Same H H' → Q (.int (reqsM st ph f a - cisM 0 f a (spsOf ts st ph os) + cisM b f a (spsOf ts st ph os))) H'
def spRej (CR CS C : Addr) : Sp := fun vs H Q _ => ∃ p ts st ph os f a, ∃ b : Nat, vs = [.ref p, .int b, .int f, .int a] ∧ TLV CR CS C H p ts st ph os ∧ b < ts.length ∧ 0 ≤ f ∧ f ≤ a ∧ ∀ H', Same H H' → Q (.int (cisM b f a (spsOf ts st ph os) - cisM (b + 1) f a (spsOf ts st ph os))) H'
def spFail (CR CS C : Addr) : Sp := fun vs H Q _ => ∃ p ts st ph os f a, vs = [.ref p, .int f, .int a] ∧ TLV CR CS C H p ts st ph os ∧ 0 ≤ f ∧ f ≤ a ∧ ∀ H', Same H H' → Q (.int (cisM 0 f a (spsOf ts st ph os))) H'
def spSucc (CR CS C : Addr) : Sp := fun vs H Q _ => ∃ p ts st ph os f a, vs = [.ref p, .int f, .int a] ∧ TLV CR CS C H p ts st ph os ∧ 0 ≤ f ∧ f ≤ a ∧ ∀ H', Same H H' → Q (.int (reqsM st ph f a - cisM 0 f a (spsOf ts st ph os))) H'
def spTop (CR CS C : Addr) : Sp := fun vs H Q _ => ∃ p ts st ph os f a, ∃ b : Nat, vs = [.ref p, .int b, .int f, .int a] ∧ TLV CR CS C H p ts st ph os ∧ b < ts.length ∧ 0 ≤ f ∧ f ≤ a ∧ ∀ H', Same H H' → Q (.int (topM b f a (spsOf ts st ph os))) H'
def spBaseR (CR CS C : Addr) : Sp := fun vs H Q _ => ∃ p ts st ph os, vs = [.ref p] ∧ TLV CR CS C H p ts st ph os ∧ ∀ r B xs, RowAt CR H r B xs ts st ph → Q (.ref r) H
end
section
variable {P : Program} {w : World} {K : PySem.W.Frag} {mg : Str → Option Value} {base : Heap} {L : LA}
abbrev N_Timelinebaserow : List Str := ["self"]
theorem sc_Timelinebaserow : FnScope N_Timelinebaserow ["self"] (defScope st_Timeline_base_row) := ⟨rfl, rfl, rfl, by decide +kernel, rfl, by decide +kernel, by decide +kernel⟩
theorem fn_Timelinebaserow (T : LX K mg L) {fd : FuncData} (F : Fun K "base_row" "Timeline.base_row" st_Timeline_base_row L.m_Timeline_base_row fd) : FnOk P w K mg base CX0 1 L.m_Timeline_base_row fd ["self"] (spBaseR L.c_Row L.c_Spell L.c_Timeline) := by
  have nd := sc_Timelinebaserow.nd
  refine F.ok sc_Timelinebaserow (fun vs H Q E h => ?_) (fun cdv A outer S H vs Q E hr h => ?_)
  · obtain ⟨p, ts, st, ph, os, rfl, _⟩ := h
    rfl
  · obtain ⟨p, ts, st, ph, os, rfl, ⟨aR, B, aO, aS, aF, aM, xs, ys, zs, ms, X⟩, k⟩ := h
    refine ⟨_, (pss_one (ps_ret (pe_fld (pv 0) rfl))), ?_⟩
    obtain ⟨dx, hp⟩ := X.ob
    exact ⟨_, rfl, p, L.c_Timeline, dx, _, _, rfl, hp, T.cf_Timeline.cl, T.nf_Timeline_row, tlF_row _ _ _ _ _, k aR B xs X.row⟩
theorem ok_Timelinebaserow (T : LX K mg L) : Met P w K mg base L.c_Timeline "base_row" 1 L.m_Timeline_base_row ["self"] (spBaseR L.c_Row L.c_Spell L.c_Timeline) := T.mm_Timeline_base_row.met fun fd F => fn_Timelinebaserow T F
end
section
variable {P : Program} {w : World} {K : PySem.W.Frag} {mg : Str → Option Value} {base : Heap} {L : LA}
end
section
variable {X : Cx} {L : LA}
/-- Timeline(..) -/
theorem pe_mkTimeline (T : LX X.K X.mg L) (hr : Room 9 X.A) {p pos : Pos} {e : Expr} {es : List Expr} {t : TA} (hg : Gl X "Timeline") (ha : PA X (e :: es) t)
    (he : starEach (e :: es) X.env = (false, eval e X.env) :: starEach es X.env := by rfl) (hpl : (backTo pos (starEach es X.env)).any (·.1) = false := by rfl) :
    PE X (.Call (.Name "Timeline" p) (e :: es) [] pos) (tMake L.c_Timeline (spTLInit L.c_Row L.c_Spell L.c_Timeline) [] E0 t) := by
  obtain ⟨fd, F, b⟩ := T.in_Timeline
  exact pe_make T.mk_Timeline (fn_Timelineinit T F) hr hg T.gc_Timeline b .nil pass0 ha (by decide) he hpl
end
theorem timeline_made {CR CS C : Addr} {H : Hp} {Q : Addr → Hp → Prop} {r B a : Addr} {xs ys : List V} {ts : List Tri} {st ph : Int} {os : List (Int × Int)} (R : RowAt CR H r B xs ts st ph) (ha : H a = some (.lst ys)) (hy : Ots H ys (outs os)) (hv : VOut 0 os) (hl : os.length ≤ 50)
    (k : ∀ p H', TLV CR CS C (Fr H H') p ts st ph os → Same H H' → H p = none → Q p H') :
    ∀ x dx, H x = none → H dx = none → dx ≠ x → spTLInit CR CS C [.ref x, .ref r, .ref a] (upd (upd H dx (.own x)) x (.ins C dx [])) (fun v H3 => v = .non ∧ Q x H3) E0 := by
  intro x dx hx hd hne
  have s0 : Same H (upd (upd H dx (.own x)) x (.ins C dx [])) := fun b o e => by
    rw [upd_ne (ne_of_none e hx), upd_ne (ne_of_none e hd)]
    exact e
  exact ⟨x, dx, r, B, xs, ts, st, ph, a, ys, os, rfl, upd_same, R.nl (NL.of s0), s0 _ _ ha, hy.same s0, hv, hl, fun H' Y kp => ⟨rfl, k x H' (Y.same (Fr.base s0)) (fun b o e => kp b o (ne_of_none e hx) (s0 b o e)) hx⟩⟩
/-! ### spells follow one another; counts add up -/
theorem NB_one {g : List Trn} (h : Srt g) (x : Int) : (inL g x ∧ NB g (x + 1) = NB g x + 1) ∨ (¬ inL g x ∧ NB g (x + 1) = NB g x) := by
  have h1 := in_mem h.1 x
  have h2 := NB_step h x
  have h3 := NB_mono h.1 (show x ≤ x + 1 by omega)
  by_cases c : NB g x < NB g (x + 1)
  · exact .inl ⟨h1.mpr c, by omega⟩
  · exact .inr ⟨fun z => c (h1.mp z), by omega⟩
theorem NB_diff {g g' : List Trn} (h : Srt g) (h' : Srt g') (lo : Int) : ∀ n : Nat, (∃ x, lo ≤ x ∧ x < lo + n ∧ inL g x ∧ ¬ inL g' x) ∨ NB g (lo + n) - NB g lo ≤ NB g' (lo + n) - NB g' lo
  | 0 => .inr (by simp)
  | n + 1 => by
    rcases NB_diff h h' lo n with ⟨x, a, b, c⟩ | hh
    · exact .inl ⟨x, a, by omega, c⟩
    · have e : lo + ((n + 1 : Nat) : Int) = lo + n + 1 := by omega
      rw [e]
      rcases NB_one h (lo + n) with ⟨i1, i2⟩ | ⟨i1, i2⟩
      · rcases NB_one h' (lo + n) with ⟨j1, j2⟩ | ⟨j1, j2⟩
        · exact .inr (by omega)
        · exact .inl ⟨lo + n, by omega, by omega, i1, j1⟩
      · have := NB_mono h'.1 (show lo + n ≤ lo + n + 1 by omega)
        exact .inr (by omega)
theorem NB_diff' {g g' : List Trn} (h : Srt g) (h' : Srt g') {lo hi : Int} (l : lo ≤ hi) : (∃ x, lo ≤ x ∧ x < hi ∧ inL g x ∧ ¬ inL g' x) ∨ NB g hi - NB g lo ≤ NB g' hi - NB g' lo := by
  have := NB_diff h h' lo (hi - lo).toNat
  rw [show lo + ((hi - lo).toNat : Int) = hi by omega] at this
  exact this
theorem NB_sub {g g' : List Trn} (h : Srt g) (h' : Srt g') (s : ∀ x, inL g' x → inL g x) {lo hi : Int} (l : lo ≤ hi) : NB g' hi - NB g' lo ≤ NB g hi - NB g lo := by
  rcases NB_diff' h' h l with ⟨x, _, _, a, b⟩ | k
  · exact absurd (s x a) b
  · exact k
theorem up_ge {d s : Int} (hs : 0 < s) : d ≤ stepsUp d s * s := by
  rw [stepsUp_cl]
  have h := (cl_le hs).mp (Int.le_refl (cl d s))
  by_cases c : 0 < cl d s
  · rw [if_pos c]
    exact h
  · rw [if_neg c, Int.zero_mul]
    have : cl d s * s ≤ 0 * s := Int.mul_le_mul_of_nonneg_right (by omega) (by omega)
    omega
theorem reqA_ge {ph st : Int} (s : 0 < st) (b : Int) : b ≤ reqA ph st b := by
  have := up_ge (d := b - ph) s
  unfold reqA
  omega
def SpSeq : Int → List SpD → Prop
  | _, [] => True
  | m, d :: r => m ≤ d.first ∧ ∃ v, d.rcv = some v ∧ d.first ≤ v ∧ SpSeq v r
theorem VOut.mono {m m' : Int} : ∀ {os : List (Int × Int)}, VOut m os → m' ≤ m → VOut m' os
  | [], _, _ => True.intro
  | o :: r, ⟨h1, h2⟩, l => ⟨by omega, h2⟩
theorem rec_next {g : List Trn} (hs : Srt g) (hT : Tot g = none) : ∀ {os : List (Int × Int)} {m r : Int}, VOut m os → (recM g (outs os)).1 = some r → ∃ m', r < m' ∧ VOut m' (os.drop (recM g (outs os)).2)
  | [], m, r, _, e => by cases e
  | [o], m, r, v, e => ⟨r + 1, by omega, True.intro⟩
  | o :: p :: os, m, r, v, e => by
    obtain ⟨y, hy⟩ := nx_end hs hT o.2
    have er : recM g (outs (o :: p :: os)) = if (nxT g o.2).getD 0 < p.1 then (nxT g o.2, 1) else ((recM g (outs (p :: os))).1, (recM g (outs (p :: os))).2 + 1) := rfl
    rw [er] at e ⊢
    obtain ⟨v1, v2, v3, v4⟩ := v
    by_cases c : (nxT g o.2).getD 0 < p.1
    · rw [if_pos c] at e ⊢
      have e : nxT g o.2 = some r := e
      rw [e] at c
      have c : r < p.1 := c
      exact ⟨p.1, c, Int.le_refl _, v4.2⟩
    · rw [if_neg c] at e ⊢
      exact rec_next hs hT v4 e
theorem rec_in {g : List Trn} (hs : Srt g) : ∀ {l : List Out} {r : Int}, (recM g l).1 = some r → inL g r
  | [], r, e => by cases e
  | [(b, none)], r, e => by cases e
  | [(b, some z)], r, e => ((nx_iff hs).mp e).1
  | (b, none) :: o :: os, r, e => by cases e
  | (b, some z) :: (b2, e2) :: os, r, e => by
    have er : recM g ((b, some z) :: (b2, e2) :: os) = if (nxT g z).getD 0 < b2 then (nxT g z, 1) else ((recM g ((b2, e2) :: os)).1, (recM g ((b2, e2) :: os)).2 + 1) := rfl
    rw [er] at e
    by_cases c : (nxT g z).getD 0 < b2
    · rw [if_pos c] at e
      exact ((nx_iff hs).mp e).1
    · rw [if_neg c] at e
      exact rec_in hs e
theorem run_ge {n k : Nat} {fr : Int} {g : List Trn} (R : RunOk n k fr g) {x : Int} (h : inL g x) : fr ≤ x := at_le R.srt (Int.le_refl 0) (NB_nn R.srt.1 x) R.hd (in_at R.srt h)
theorem spM_seq {bs : List Tri} {st ph : Int} (W : RowD bs st ph) : ∀ {n : Nat} {pv : Option SpD} {os : List (Int × Int)} {m : Int}, 0 ≤ m → VOut m os → (∀ d, pv = some d → d.op.length = bs.length) → SpSeq m (spM bs st ph n pv (outs os))
  | 0, pv, os, m, _, _, _ => True.intro
  | n + 1, pv, [], m, _, _, _ => True.intro
  | n + 1, pv, o :: os, m, m0, v, hp => by
    obtain ⟨v1, v2, v3, v4⟩ := v
    have e0 : outs (o :: os) = (o.1, some o.2) :: outs os := rfl
    have s0 := W.s0
    have rg := reqA_ge (ph := ph) (st := st) (by omega) o.1
    by_cases c : o.2 ≤ reqA ph st o.1
    · rw [e0, spM_skip c]
      exact spM_seq W m0 (v4.mono (by omega)) hp
    · have c' : ∀ z, some o.2 = some z → ¬ z ≤ reqA ph st o.1 := fun z e => by cases e; exact c
      rw [e0, spM_take c']
      have e104 : (1000000000000000000000000000000 : Int) ≤ PB 104 := PB_of (by decide +kernel)
      obtain ⟨f0, f1, _⟩ := reqA_ok (nb := 104) W.s0 W.s1 W.p0 W.p1 (b := o.1) (by omega) (Nat.le_refl _)
      have bl := bgOf_len (st := st) (z := reqA ph st o.1 - 1) hp
      have R0 := run0 f0 f1 W.s0 W.s1 (by decide)
      obtain ⟨g1, g2⟩ := ch_ok R0 bl W.ok (by decide)
      obtain ⟨r, hr⟩ := rec_some g2.srt g2.en (l := outs (o :: os)) (fun z => nomatch z) (fun o' ho => by
        obtain ⟨z, hz, rfl⟩ := outs_mem ho
        exact ⟨z.2, rfl⟩)
      obtain ⟨m', rm, vm⟩ := rec_next g2.srt g2.en (os := o :: os) (m := m) ⟨v1, v2, v3, v4⟩ hr
      have hin := rec_in g2.srt hr
      have hge := run_ge g2 hin
      refine ⟨by show m ≤ reqA ph st o.1; omega, r, hr, hge, ?_⟩
      have ed : (((o.1, some o.2) : Out) :: outs os).drop (spellN bs st (reqA ph st o.1) (bgOf bs st pv (reqA ph st o.1 - 1)) ((o.1, some o.2) :: outs os)) = outs ((o :: os).drop (spellN bs st (reqA ph st o.1) (bgOf bs st pv (reqA ph st o.1 - 1)) ((o.1, some o.2) :: outs os))) := by
        unfold outs
        rw [List.map_drop]
        rfl
      rw [ed]
      have hge' : reqA ph st o.1 ≤ r := hge
      exact spM_seq W (by omega) (VOut.mono vm (by omega)) (fun d e => by cases e; exact op_len R0 bl W.ok (by decide))
theorem sps_seq {bs : List Tri} {st ph : Int} (W : RowD bs st ph) {os : List (Int × Int)} (hv : VOut 0 os) : SpSeq 0 (spsOf bs st ph os) := spM_seq W (Int.le_refl 0) hv fun d e => nomatch e
/-! counts -/
def clp (lo hi x : Int) : Int := if x < lo then lo else if hi < x then hi else x
theorem cisD_cl (b : Nat) {f a r : Int} {d : SpD} (hr : d.rcv = some r) (h : d.first ≤ r) (fa : f ≤ a) : cisD b f a d = NB (d.rs[b]?.getD []) (clp d.first r a) - NB (d.rs[b]?.getD []) (clp d.first r f) := by
  unfold cisD
  rw [hr]
  show (if mx2 f d.first < mn2 a r then NB (d.rs[b]?.getD []) (mn2 a r) - NB (d.rs[b]?.getD []) (mx2 f d.first) else 0) = _
  generalize NB (d.rs[b]?.getD []) = N
  by_cases c : mx2 f d.first < mn2 a r
  · have e1 : clp d.first r a = mn2 a r := by
      unfold clp mx2 mn2 at *
      (repeat' split) <;> (repeat' split at c) <;> omega
    have e2 : clp d.first r f = mx2 f d.first := by
      unfold clp mx2 mn2 at *
      (repeat' split) <;> (repeat' split at c) <;> omega
    rw [if_pos c, e1, e2]
  · have e1 : clp d.first r a = clp d.first r f := by
      unfold clp mx2 mn2 at *
      (repeat' split) <;> (repeat' split at c) <;> omega
    rw [if_neg c, e1]
    omega
theorem cisM_add (b : Nat) {f m a : Int} (h1 : f ≤ m) (h2 : m ≤ a) : ∀ {ds : List SpD} {z : Int}, SpSeq z ds → cisM b f m ds + cisM b m a ds = cisM b f a ds
  | [], _, _ => rfl
  | d :: ds, z, ⟨q1, v, q2, q3, q4⟩ => by
    have := cisM_add b h1 h2 q4
    have a1 := cisD_cl b q2 q3 h1
    have a2 := cisD_cl b q2 q3 h2
    have a3 := cisD_cl b q2 q3 (Int.le_trans h1 h2)
    unfold cisM at this ⊢
    rw [List.map_cons, List.map_cons, List.map_cons, List.sum_cons, List.sum_cons, List.sum_cons]
    omega
theorem topV_add {f m a r : Int} (o : Option Int) (h1 : f ≤ m) (h2 : m ≤ a) : topV f m r o + topV m a r o = topV f a r o := by
  cases o with
  | none => rfl
  | some o =>
    show mx2 0 (mn2 m r - mx2 f o) + mx2 0 (mn2 a r - mx2 m o) = mx2 0 (mn2 a r - mx2 f o)
    unfold mx2 mn2
    (repeat' split) <;> omega
theorem topM_add (b : Nat) {f m a : Int} (h1 : f ≤ m) (h2 : m ≤ a) : ∀ ds : List SpD, topM b f m ds + topM b m a ds = topM b f a ds
  | [] => rfl
  | d :: ds => by
    have := topM_add b h1 h2 ds
    have h : topD b f m d + topD b m a d = topD b f a d := topV_add _ h1 h2
    unfold topM at this ⊢
    rw [List.map_cons, List.map_cons, List.map_cons, List.sum_cons, List.sum_cons, List.sum_cons]
    omega
theorem topV_nn (f a r : Int) (o : Option Int) : 0 ≤ topV f a r o := by
  cases o with
  | none => exact Int.le_refl _
  | some o =>
    show 0 ≤ mx2 0 _
    unfold mx2
    split <;> omega
theorem topM_nn (b : Nat) (f a : Int) : ∀ ds : List SpD, 0 ≤ topM b f a ds
  | [] => Int.le_refl _
  | d :: ds => by
    have := topM_nn b f a ds
    have h : 0 ≤ topD b f a d := topV_nn _ _ _ _
    unfold topM at this ⊢
    rw [List.map_cons, List.sum_cons]
    omega
theorem op_first {bs : List Tri} {st : Int} {d : SpD} (S : SpOk bs st d) {b : Nat} {o : Int} (h : d.op[b]? = some (some o)) : d.first ≤ o := by
  have hb := (List.getElem?_eq_some_iff.mp h).1
  have hl := S.ol
  have rl := S.rl
  obtain ⟨g, hg⟩ : ∃ g, d.rs[b]? = some g := ⟨_, List.getElem?_eq_getElem (by omega)⟩
  obtain ⟨g', hg'⟩ : ∃ g', d.rs[b + 1]? = some g' := ⟨_, List.getElem?_eq_getElem (by omega)⟩
  obtain ⟨os, o', t, s, C, e⟩ := S.stp b g g' hg hg'
  rw [h] at e
  have := C.fo
  unfold cutO at e
  cases hr : d.rcv with
  | none => rw [hr] at e; cases e; exact this
  | some r =>
    rw [hr] at e
    have e : some (some o) = some (if o' < r then some o' else none) := e
    split at e
    · cases e; exact this
    · cases e
theorem topM_le {bs : List Tri} {st : Int} (b : Nat) (f a : Int) : ∀ {ds : List SpD} {m : Int}, SpSeq m ds → (∀ d ∈ ds, SpOk bs st d) → topM b f a ds ≤ mx2 0 (a - mx2 f m)
  | [], m, _, _ => by
    show 0 ≤ mx2 0 _
    unfold mx2
    split <;> omega
  | d :: ds, m, ⟨h1, v, h2, h3, h4⟩, ok => by
    have ih := topM_le (bs := bs) (st := st) b f a h4 (fun u hu => ok u (List.mem_cons_of_mem _ hu))
    have S := ok d (List.mem_cons_self ..)
    have hd : topD b f a d ≤ mx2 0 (mn2 a v - mx2 f d.first) := by
      unfold topD
      rw [h2]
      show topV f a v _ ≤ _
      cases ho : d.op[b]? with
      | none =>
        show 0 ≤ mx2 0 _
        unfold mx2
        split <;> omega
      | some o =>
        cases o with
        | none =>
          show 0 ≤ mx2 0 _
          unfold mx2
          split <;> omega
        | some o =>
          have := op_first S ho
          show mx2 0 (mn2 a v - mx2 f o) ≤ mx2 0 (mn2 a v - mx2 f d.first)
          unfold mx2 mn2
          (repeat' split) <;> omega
    have e : topM b f a (d :: ds) = topD b f a d + topM b f a ds := by
      unfold topM
      rw [List.map_cons, List.sum_cons]
    rw [e]
    refine Int.le_trans (Int.add_le_add hd ih) ?_
    unfold mx2 mn2
    (repeat' split) <;> omega
theorem cisD_le {bs : List Tri} {st : Int} {d : SpD} (S : SpOk bs st d) {b : Nat} (hb : b < bs.length) (f a : Int) : cisD (b + 1) f a d ≤ cisD b f a d := by
  have rl := S.rl
  obtain ⟨g, hg⟩ : ∃ g, d.rs[b]? = some g := ⟨_, List.getElem?_eq_getElem (by omega)⟩
  obtain ⟨g', hg'⟩ : ∃ g', d.rs[b + 1]? = some g' := ⟨_, List.getElem?_eq_getElem (by omega)⟩
  obtain ⟨os, o', t, s, C, e⟩ := S.stp b g g' hg hg'
  unfold cisD
  rw [hg, hg']
  show (if _ then NB g' _ - NB g' _ else 0) ≤ (if _ then NB g _ - NB g _ else 0)
  split
  · rename_i c
    exact NB_sub (S.run b g hg).srt (S.run _ g' hg').srt C.ps.sub (by omega)
  · exact Int.le_refl _
theorem cisD_nn {bs : List Tri} {st : Int} {d : SpD} (S : SpOk bs st d) {b : Nat} (hb : b ≤ bs.length) (f a : Int) : 0 ≤ cisD b f a d := by
  have rl := S.rl
  obtain ⟨g, hg⟩ : ∃ g, d.rs[b]? = some g := ⟨_, List.getElem?_eq_getElem (by omega)⟩
  unfold cisD
  rw [hg]
  show 0 ≤ (if _ then NB g _ - NB g _ else 0)
  split
  · rename_i c
    exact Int.sub_nonneg.mpr (NB_mono (S.run b g hg).srt.1 (show mx2 f d.first ≤ mn2 a (d.rcv.getD 0) by omega))
  · exact Int.le_refl _
theorem cisM_le {bs : List Tri} {st : Int} {b : Nat} (hb : b < bs.length) (f a : Int) : ∀ {ds : List SpD}, (∀ d ∈ ds, SpOk bs st d) → cisM (b + 1) f a ds ≤ cisM b f a ds
  | [], _ => Int.le_refl _
  | d :: ds, h => by
    have := cisM_le hb f a (ds := ds) fun u hu => h u (List.mem_cons_of_mem _ hu)
    have hd := cisD_le (h d (List.mem_cons_self ..)) hb f a
    unfold cisM at this ⊢
    rw [List.map_cons, List.map_cons, List.sum_cons, List.sum_cons]
    omega
theorem cisM_nn {bs : List Tri} {st : Int} {b : Nat} (hb : b ≤ bs.length) (f a : Int) : ∀ {ds : List SpD}, (∀ d ∈ ds, SpOk bs st d) → 0 ≤ cisM b f a ds
  | [], _ => Int.le_refl _
  | d :: ds, h => by
    have := cisM_nn hb f a (ds := ds) fun u hu => h u (List.mem_cons_of_mem _ hu)
    have hd := cisD_nn (h d (List.mem_cons_self ..)) hb f a
    unfold cisM at this ⊢
    rw [List.map_cons, List.sum_cons]
    omega
theorem rej_open {bs : List Tri} {st : Int} {d : SpD} (S : SpOk bs st d) {b : Nat} (hb : b < bs.length) {f a f' : Int} {v : Int} (hv : d.rcv = some v) (ff : f' ≤ f) (h : cisD (b + 1) f a d < cisD b f a d) : 0 < topD b f' a d := by
  have rl := S.rl
  obtain ⟨g, hg⟩ : ∃ g, d.rs[b]? = some g := ⟨_, List.getElem?_eq_getElem (by omega)⟩
  obtain ⟨g', hg'⟩ : ∃ g', d.rs[b + 1]? = some g' := ⟨_, List.getElem?_eq_getElem (by omega)⟩
  obtain ⟨os, o, t, s, C, e⟩ := S.stp b g g' hg hg'
  unfold cisD at h
  rw [hg, hg', hv] at h
  have h : (if mx2 f d.first < mn2 a v then NB g' (mn2 a v) - NB g' (mx2 f d.first) else 0) < (if mx2 f d.first < mn2 a v then NB g (mn2 a v) - NB g (mx2 f d.first) else 0) := h
  by_cases c : mx2 f d.first < mn2 a v
  · rw [if_pos c, if_pos c] at h
    rcases NB_diff' (S.run b g hg).srt (S.run _ g' hg').srt (Int.le_of_lt c) with ⟨x, x1, x2, i1, i2⟩ | k
    · have ox : o < x := by
        by_cases q : x ≤ o
        · exact absurd (C.ps.low x q i1) i2
        · omega
      have e2 : d.op[b]? = some (some o) := by
        rw [e, hv]
        have : o < v := by
          unfold mn2 at x2
          split at x2 <;> omega
        exact congrArg some (if_pos this)
      unfold topD
      rw [e2, hv]
      show 0 < mx2 0 (mn2 a v - mx2 f' o)
      unfold mx2 mn2 at *
      (repeat' split) <;> (repeat' split at *) <;> omega
    · omega
  · rw [if_neg c, if_neg c] at h
    omega
theorem rejM_open {bs : List Tri} {st : Int} {b : Nat} (hb : b < bs.length) {f a f' : Int} (ff : f' ≤ f) : ∀ {ds : List SpD}, (∀ d ∈ ds, SpOk bs st d ∧ ∃ v, d.rcv = some v) → cisM (b + 1) f a ds < cisM b f a ds → 0 < topM b f' a ds
  | [], _, h => absurd h (Int.lt_irrefl _)
  | d :: ds, ok, h => by
    obtain ⟨S, v, hv⟩ := ok d (List.mem_cons_self ..)
    have e : topM b f' a (d :: ds) = topD b f' a d + topM b f' a ds := by
      unfold topM
      rw [List.map_cons, List.sum_cons]
    have e1 : cisM b f a (d :: ds) = cisD b f a d + cisM b f a ds := by
      unfold cisM
      rw [List.map_cons, List.sum_cons]
    have e2 : cisM (b + 1) f a (d :: ds) = cisD (b + 1) f a d + cisM (b + 1) f a ds := by
      unfold cisM
      rw [List.map_cons, List.sum_cons]
    have n1 := topM_nn b f' a ds
    have n2 : 0 ≤ topD b f' a d := topV_nn _ _ _ _
    rw [e]
    rw [e1, e2] at h
    by_cases c : cisD (b + 1) f a d < cisD b f a d
    · have := rej_open S hb hv ff c
      omega
    · have := cisD_le S hb f a
      have := rejM_open (a := a) hb ff (ds := ds) (fun u hu => ok u (List.mem_cons_of_mem _ hu)) (by omega)
      omega
/-! ### requests and outages -/
def dn (os : List (Int × Int)) (x : Int) : Prop := ∃ o ∈ os, o.1 ≤ x ∧ x < o.2
def isRq (st ph x : Int) : Prop := ph ≤ x ∧ (x - ph) % st = 0
theorem isRq_iff {st ph x : Int} (s : 0 < st) : isRq st ph x ↔ ∃ m, 0 ≤ m ∧ x = ph + m * st := by
  constructor
  · rintro ⟨h1, h2⟩
    refine ⟨(x - ph) / st, Int.ediv_nonneg (by omega) (by omega), ?_⟩
    have := Int.mul_ediv_add_emod (x - ph) st
    rw [h2, Int.mul_comm] at this
    omega
  · rintro ⟨m, h1, rfl⟩
    have : 0 ≤ m * st := Int.mul_nonneg h1 (by omega)
    refine ⟨by omega, ?_⟩
    rw [show ph + m * st - ph = m * st by omega]
    exact Int.mul_emod_left m st
theorem stepsUp_nn (d s : Int) : 0 ≤ stepsUp d s := by
  unfold stepsUp
  split <;> omega
theorem reqA_rq {st ph : Int} (s : 0 < st) (b : Int) : isRq st ph (reqA ph st b) := (isRq_iff s).mpr ⟨stepsUp (b - ph) st, stepsUp_nn _ _, rfl⟩
theorem reqA_least {st ph b x : Int} (s : 0 < st) (h : isRq st ph x) (l : b ≤ x) : reqA ph st b ≤ x := by
  obtain ⟨m, m0, rfl⟩ := (isRq_iff s).mp h
  unfold reqA
  have h1 : stepsUp (b - ph) st ≤ m := by
    rw [stepsUp_cl]
    have : cl (b - ph) st ≤ m := (cl_le s).mpr (by omega)
    split <;> omega
  have := Int.mul_le_mul_of_nonneg_right h1 (show 0 ≤ st by omega)
  omega
theorem mul_lt_of {a b s : Int} (s0 : 0 < s) (h : a * s ≤ b * s) : a ≤ b := by
  by_cases c : a ≤ b
  · exact c
  · have : (b + 1) * s ≤ a * s := Int.mul_le_mul_of_nonneg_right (by omega) (by omega)
    rw [Int.add_mul] at this
    omega
theorem in_end {st ph f x : Int} (s : 0 < st) (hf : isRq st ph f) : inL [(f, st, none)] x ↔ isRq st ph x ∧ f ≤ x := by
  rw [in_one]
  obtain ⟨m, m0, rfl⟩ := (isRq_iff s).mp hf
  constructor
  · rintro ⟨i, i0, _, rfl⟩
    have h1 : 0 ≤ i * st := Int.mul_nonneg i0 (by omega)
    refine ⟨(isRq_iff s).mpr ⟨m + i, by omega, ?_⟩, ?_⟩
    · show ph + m * st + i * st = _
      rw [Int.add_mul]
      omega
    · show ph + m * st ≤ ph + m * st + i * st
      omega
  · rintro ⟨h, l⟩
    obtain ⟨q, q0, rfl⟩ := (isRq_iff s).mp h
    have := mul_lt_of (a := m) (b := q) s (by omega)
    refine ⟨q - m, by omega, (fun c e => nomatch e), ?_⟩
    show ph + q * st = ph + m * st + (q - m) * st
    rw [Int.sub_mul]
    omega
theorem rq_gap {st ph x y : Int} (s : 0 < st) (hx : isRq st ph x) (hy : isRq st ph y) (l : x < y) : x + st ≤ y := by
  obtain ⟨m, m0, rfl⟩ := (isRq_iff s).mp hx
  obtain ⟨q, q0, rfl⟩ := (isRq_iff s).mp hy
  by_cases c : q ≤ m
  · have := Int.mul_le_mul_of_nonneg_right c (show 0 ≤ st by omega)
    omega
  · have := Int.mul_le_mul_of_nonneg_right (show m + 1 ≤ q by omega) (show 0 ≤ st by omega)
    rw [Int.add_mul] at this
    omega
theorem rec_fact {g : List Trn} (hs : Srt g) (hT : Tot g = none) : ∀ {os : List (Int × Int)} {m r : Int}, VOut m os → (recM g (outs os)).1 = some r →
    (∀ o, os.head? = some o → o.2 ≤ r) ∧ (∀ x, inL g x → (∀ o, os.head? = some o → o.1 ≤ x) → x < r → dn os x) ∧ ¬ dn os r ∧ VOut (r + 1) (os.drop (recM g (outs os)).2) ∧ ∀ x, r < x → dn os x → dn (os.drop (recM g (outs os)).2) x
  | [], m, r, _, e => by cases e
  | [o], m, r, v, e => by
    obtain ⟨h1, h2, h3⟩ := (nx_iff hs).mp (show nxT g o.2 = some r from e)
    refine ⟨fun o' e' => by cases e'; exact h2, fun x hx hb hr => ?_, ?_, True.intro, ?_⟩
    · have := hb o rfl
      refine ⟨o, List.mem_cons_self .., this, ?_⟩
      by_cases c : x < o.2
      · exact c
      · have := h3 x hx (by omega)
        omega
    · rintro ⟨o', ho', a, b⟩
      rw [List.mem_singleton.mp ho'] at b
      omega
    · rintro x hx ⟨o', ho', a, b⟩
      rw [List.mem_singleton.mp ho'] at b
      omega
  | o :: p :: os, m, r, v, e => by
    obtain ⟨y, hy⟩ := nx_end hs hT o.2
    obtain ⟨y1, y2, y3⟩ := (nx_iff hs).mp hy
    have er : recM g (outs (o :: p :: os)) = if (nxT g o.2).getD 0 < p.1 then (nxT g o.2, 1) else ((recM g (outs (p :: os))).1, (recM g (outs (p :: os))).2 + 1) := rfl
    rw [er] at e ⊢
    obtain ⟨v1, v2, v3, v4⟩ := v
    have later : ∀ o' ∈ p :: os, p.1 ≤ o'.1 := fun o' ho' => by
      obtain ⟨w1, w2, w3, w4⟩ := v4
      rcases List.mem_cons.mp ho' with rfl | ho'
      · exact Int.le_refl _
      · have := (vout_mem w4 o' ho').1
        omega
    have v4' := v4
    obtain ⟨w1, w2, w3, w4⟩ := v4
    by_cases c : (nxT g o.2).getD 0 < p.1
    · rw [if_pos c] at e ⊢
      have e : nxT g o.2 = some r := e
      rw [hy] at e c
      cases e
      have c : r < p.1 := c
      refine ⟨fun o' e' => by cases e'; exact y2, fun x hx hb hr => ?_, ?_, ⟨by omega, w2, w3, w4⟩, ?_⟩
      · have := hb o rfl
        refine ⟨o, List.mem_cons_self .., this, ?_⟩
        by_cases c : x < o.2
        · exact c
        · have := y3 x hx (by omega)
          omega
      · rintro ⟨o', ho', a, b⟩
        rcases List.mem_cons.mp ho' with rfl | ho'
        · omega
        · have := later o' ho'
          omega
      · rintro x hx ⟨o', ho', a, b⟩
        rcases List.mem_cons.mp ho' with rfl | ho'
        · omega
        · exact ⟨o', ho', a, b⟩
    · rw [if_neg c] at e ⊢
      rw [hy] at c
      have c : ¬ y < p.1 := c
      obtain ⟨i1, i2, i3, i4, i5⟩ := rec_fact hs hT v4' e
      have i1 := i1 p rfl
      refine ⟨fun o' e' => by cases e'; omega, fun x hx hb hr => ?_, ?_, i4, ?_⟩
      · have := hb o rfl
        by_cases c2 : x < o.2
        · exact ⟨o, List.mem_cons_self .., this, c2⟩
        · have := y3 x hx (by omega)
          obtain ⟨o', ho', a, b⟩ := i2 x hx (fun o' e' => by cases e'; omega) hr
          exact ⟨o', List.mem_cons_of_mem _ ho', a, b⟩
      · rintro ⟨o', ho', a, b⟩
        rcases List.mem_cons.mp ho' with rfl | ho'
        · omega
        · exact i3 ⟨o', ho', a, b⟩
      · rintro x hx ⟨o', ho', a, b⟩
        rcases List.mem_cons.mp ho' with rfl | ho'
        · omega
        · exact i5 x hx ⟨o', ho', a, b⟩
/-! ### the chain of spells -/
structure SpX (os : List (Int × Int)) (bs : List Tri) (st ph : Int) (pv : Option SpD) (m : Int) (d : SpD) (v : Int) (g : List Trn) : Prop where
  lo : m ≤ d.first
  up : ∀ x, isRq st ph x → m ≤ x → x < d.first → ¬ dn os x
  dn : dn os d.first
  rq : isRq st ph d.first
  bg : d.bg = bgOf bs st pv (d.first - 1)
  rcv : d.rcv = some v
  lt : d.first < v
  vq : isRq st ph v
  vu : ¬ Toy.dn os v
  rl : d.rs[bs.length]? = some g
  vi : inL g v
  ins : ∀ x, inL g x → x < v → Toy.dn os x
def SpCh (os : List (Int × Int)) (bs : List Tri) (st ph : Int) : Option SpD → Int → List SpD → Prop
  | _, m, [] => ∀ x, isRq st ph x → m ≤ x → ¬ dn os x
  | pv, m, d :: r => ∃ v g, SpX os bs st ph pv m d v g ∧ SpCh os bs st ph (some d) (v + 1) r
theorem sub_chain {bs : List Tri} {st : Int} {d : SpD} (S : SpOk bs st d) : ∀ (n i : Nat) (g g' : List Trn), d.rs[i]? = some g → d.rs[i + n]? = some g' → ∀ x, inL g' x → inL g x
  | 0, i, g, g', h, h', x, k => by
    rw [Nat.add_zero] at h'
    rw [h] at h'
    cases h'
    exact k
  | n + 1, i, g, g', h, h', x, k => by
    have hl := (List.getElem?_eq_some_iff.mp h').1
    obtain ⟨u, hu⟩ : ∃ u, d.rs[i + n]? = some u := ⟨_, List.getElem?_eq_getElem (by omega)⟩
    obtain ⟨os, o, b, s, C, _⟩ := S.stp (i + n) u g' hu h'
    exact sub_chain S n i g u h hu x (C.ps.sub x k)
theorem spM_ch {os0 : List (Int × Int)} {bs : List Tri} {st ph : Int} (W : RowD bs st ph) : ∀ {n : Nat} {pv : Option SpD} {os : List (Int × Int)} {m : Int}, 0 ≤ m → VOut m os → os.length ≤ n → (∀ o ∈ os, o ∈ os0) → (∀ x, isRq st ph x → m ≤ x → dn os0 x → dn os x) → (∀ d, pv = some d → d.op.length = bs.length) → SpCh os0 bs st ph pv m (spM bs st ph n pv (outs os))
  | 0, pv, os, m, _, _, hn, _, hd, _ => by
    intro x hx hm k
    obtain ⟨o, ho, _⟩ := hd x hx hm k
    cases os with
    | nil => cases ho
    | cons _ _ => simp at hn
  | n + 1, pv, [], m, _, _, _, _, hd, _ => by
    intro x hx hm k
    obtain ⟨o, ho, _⟩ := hd x hx hm k
    cases ho
  | n + 1, pv, o :: os, m, m0, v, hn, hin, hd, hp => by
    have vv := v
    obtain ⟨v1, v2, v3, v4⟩ := v
    have e0 : outs (o :: os) = (o.1, some o.2) :: outs os := rfl
    have s0 : 0 < st := by have := W.s0; omega
    have rg := reqA_ge (ph := ph) s0 o.1
    rw [List.length_cons] at hn
    by_cases c : o.2 ≤ reqA ph st o.1
    · rw [e0, spM_skip c]
      refine spM_ch W m0 (v4.mono (by omega)) (by omega) (fun o' ho' => hin o' (List.mem_cons_of_mem _ ho')) (fun x hx hm k => ?_) hp
      obtain ⟨o', ho', a, b⟩ := hd x hx hm k
      rcases List.mem_cons.mp ho' with rfl | ho'
      · have := reqA_least s0 hx a
        omega
      · exact ⟨o', ho', a, b⟩
    · have c' : ∀ z, some o.2 = some z → ¬ z ≤ reqA ph st o.1 := fun z e => by cases e; exact c
      rw [e0, spM_take c']
      have e104 : (1000000000000000000000000000000 : Int) ≤ PB 104 := PB_of (by decide +kernel)
      obtain ⟨f0, f1, _⟩ := reqA_ok (nb := 104) W.s0 W.s1 W.p0 W.p1 (b := o.1) (by omega) (Nat.le_refl _)
      have bl := bgOf_len (st := st) (z := reqA ph st o.1 - 1) hp
      have R0 := run0 f0 f1 W.s0 W.s1 (by decide)
      obtain ⟨g1, g2⟩ := ch_ok R0 bl W.ok (by decide)
      have ln := W.ln
      obtain ⟨_, _, _, i4, _⟩ := ch_all (N := 1000) (M := 13) R0 bl W.ok (by decide) (by omega) (by omega)
      have S := spell_ok (os := outs (o :: os)) W.ok W.ln W.s0 W.s1 f0 f1 (by decide) (by decide) bl
      obtain ⟨r, hr⟩ := rec_some g2.srt g2.en (l := outs (o :: os)) (fun z => nomatch z) (fun o' ho => by
        obtain ⟨z, hz, rfl⟩ := outs_mem ho
        exact ⟨z.2, rfl⟩)
      obtain ⟨q1, q2, q3, q4, q5⟩ := rec_fact g2.srt g2.en (os := o :: os) (m := m) vv hr
      have q1 := q1 o rfl
      have hk := rec_ok (g := chL bs (bgOf bs st pv (reqA ph st o.1 - 1)) [(reqA ph st o.1, st, none)]) (l := outs (o :: os)) (fun z => nomatch z)
      have hri := rec_in g2.srt hr
      have fq := reqA_rq (ph := ph) s0 o.1
      have sub : ∀ x, inL (chL bs (bgOf bs st pv (reqA ph st o.1 - 1)) [(reqA ph st o.1, st, none)]) x → inL [(reqA ph st o.1, st, none)] x := sub_chain S bs.length 0 _ _ S.r0 (by rw [Nat.zero_add]; exact i4)
      obtain ⟨rq, rf⟩ := (in_end s0 fq).mp (sub r hri)
      have ed : (((o.1, some o.2) : Out) :: outs os).drop (spellN bs st (reqA ph st o.1) (bgOf bs st pv (reqA ph st o.1 - 1)) ((o.1, some o.2) :: outs os)) = outs ((o :: os).drop (spellN bs st (reqA ph st o.1) (bgOf bs st pv (reqA ph st o.1 - 1)) ((o.1, some o.2) :: outs os))) := by
        unfold outs
        rw [List.map_drop]
        rfl
      rw [ed]
      refine ⟨r, chL bs (bgOf bs st pv (reqA ph st o.1 - 1)) [(reqA ph st o.1, st, none)], ⟨?_, ?_, ?_, fq, rfl, hr, ?_, rq, ?_, i4, hri, ?_⟩, ?_⟩
      · show m ≤ reqA ph st o.1
        omega
      · intro x hx hm hl k
        have hl : x < reqA ph st o.1 := hl
        obtain ⟨o', ho', a, b⟩ := hd x hx hm k
        rcases List.mem_cons.mp ho' with rfl | ho'
        · have := reqA_least s0 hx a
          omega
        · have := (vout_mem v4 o' ho').1
          omega
      · exact ⟨o, hin o (List.mem_cons_self ..), rg, by show reqA ph st o.1 < o.2; omega⟩
      · show reqA ph st o.1 < r
        omega
      · exact fun k => q3 (hd r rq (by omega) k)
      · intro x hx hl
        have := ((in_end s0 fq).mp (sub x hx)).2
        obtain ⟨o', ho', a, b⟩ := q2 x hx (fun o' e => by cases e; omega) hl
        exact ⟨o', hin o' ho', a, b⟩
      · refine spM_ch W (by omega) q4 ?_ (fun o' ho' => hin o' (List.mem_of_mem_drop ho')) (fun x hx hm k => ?_) (fun d e => by cases e; exact op_len R0 bl W.ok (by decide))
        · rw [List.length_drop, List.length_cons]
          have := hk.1
          show os.length + 1 - (recM (chL bs (bgOf bs st pv (reqA ph st o.1 - 1)) [(reqA ph st o.1, st, none)]) (outs (o :: os))).2 ≤ n
          omega
        · exact q5 x (by omega) (hd x hx (by omega) k)
theorem sps_ch {bs : List Tri} {st ph : Int} (W : RowD bs st ph) {os : List (Int × Int)} (hv : VOut 0 os) : SpCh os bs st ph none 0 (spsOf bs st ph os) := spM_ch W (Int.le_refl 0) hv (Nat.le_refl _) (fun _ h => h) (fun _ _ _ k => k) fun d e => nomatch e
/-! ### the states, and how a request changes them -/
def luT (g : List Trn) (x : Int) : Option Int := if 0 < NB g (x + 1) then At g (NB g (x + 1) - 1) else none
theorem luT_spec {g : List Trn} (hs : Srt g) {x y : Int} (h : luT g x = some y) : inL g y ∧ y ≤ x ∧ ∀ z, inL g z → z ≤ x → z ≤ y := by
  unfold luT at h
  split at h
  · rename_i c
    have hy := at_in hs (by omega) h
    have h1 := (At_lt hs (by omega) h (x + 1)).mp (by omega)
    refine ⟨hy, by omega, fun z hz l => ?_⟩
    have hz2 := in_at hs hz
    have h2 := (in_mem hs.1 z).mp hz
    have h3 := NB_mono hs.1 (show z + 1 ≤ x + 1 by omega)
    exact at_le hs (NB_nn hs.1 z) (by omega) hz2 h
  · cases h
theorem luT_some {g : List Trn} (hs : Srt g) {x y : Int} (hy : inL g y) (l : y ≤ x) : ∃ z, luT g x = some z := by
  unfold luT
  have h2 := (in_mem hs.1 y).mp hy
  have h3 := NB_mono hs.1 (show y + 1 ≤ x + 1 by omega)
  have h4 := NB_nn hs.1 y
  rw [if_pos (by omega)]
  cases q : At g (NB g (x + 1) - 1) with
  | some z => exact ⟨z, rfl⟩
  | none =>
    obtain ⟨n, e, h5⟩ := (At_none hs.1 (by omega)).mp q
    have := NB_tot hs.1 e (x + 1)
    omega
theorem luT_is {g : List Trn} (hs : Srt g) {x y : Int} (hy : inL g y) (l : y ≤ x) (m : ∀ z, inL g z → z ≤ x → z ≤ y) : luT g x = some y := by
  obtain ⟨z, hz⟩ := luT_some hs hy l
  obtain ⟨h1, h2, h3⟩ := luT_spec hs hz
  have := m z h1 h2
  have := h3 y hy l
  rw [hz]
  congr 1
  omega
theorem nb_out {g : List Trn} (hs : Srt g) {x : Int} (h : ¬ inL g x) : NB g (x + 1) = NB g x := by
  rcases NB_one hs x with ⟨a, _⟩ | ⟨_, b⟩
  · exact absurd a h
  · exact b
theorem nb_in {g : List Trn} (hs : Srt g) {x : Int} (h : inL g x) : NB g (x + 1) = NB g x + 1 := by
  rcases NB_one hs x with ⟨_, b⟩ | ⟨a, _⟩
  · exact b
  · exact absurd h a
def lat : Option SpD → List SpD → Int → Option SpD
  | pv, [], _ => pv
  | pv, d :: r, x => if d.first ≤ x then lat (some d) r x else pv
def stW (d : SpD) (i : Nat) (x : Int) : StD := match d.op[i]?.getD none with
  | some o => if o ≤ x then ("open", (luT (d.rs[i + 1]?.getD []) x).getD 0) else ("closed", NB (d.rs[i]?.getD []) (x + 1))
  | none => ("closed", NB (d.rs[i]?.getD []) (x + 1))
def stWs (n : Nat) (d : SpD) (x : Int) : List StD := (List.range n).map fun i => stW d i x
def stAt (bs : List Tri) (st : Int) (o : Option SpD) (x : Int) : List StD := match o with
  | none => List.replicate bs.length ("closed", 0)
  | some d => if d.rcv.getD 0 ≤ x then stBeh bs st d x else stWs bs.length d x
def stM (bs : List Tri) (st ph : Int) (os : List (Int × Int)) (x : Int) : List StD := stAt bs st (lat none (spsOf bs st ph os) x) x
structure StepR (bs : List Tri) (D : Prop) (r : Int) (old new : List StD) (k : Nat) : Prop where
  kn : k ≤ bs.length
  ol : old.length = bs.length
  nl : new.length = bs.length
  ps : ∀ (i : Nat) (b : Tri) (s : StD), i < k → bs[i]? = some b → old[i]? = some s → psB b s r
  rj : ∀ (b : Tri) (s : StD), bs[k]? = some b → old[k]? = some s → ¬ psB b s r
  ok : k = bs.length → ¬ D → ∀ (i : Nat) (b : Tri) (s : StD), bs[i]? = some b → old[i]? = some s → new[i]? = some (okS b s)
  bd : k < bs.length ∨ D → ∀ (i : Nat) (b : Tri) (s : StD), i < k → bs[i]? = some b → old[i]? = some s → new[i]? = some (badS b s r)
  kp : k < bs.length → ∀ i : Nat, k ≤ i → new[i]? = old[i]?
theorem ok_closed (b : Tri) (n : Int) : okS b (("closed" : Str), n) = (("closed" : Str), 0) := by
  unfold okS
  rw [hf_closed]
  exact if_neg fun h => sC_H h.1
theorem ok_half (b : Tri) (n : Int) : okS b (("half" : Str), n) = if n + 1 < b.2.2 then (("half" : Str), n + 1) else (("closed" : Str), 0) := by
  unfold okS
  rw [hf_half]
  by_cases c : n + 1 < b.2.2
  · rw [if_pos c]
    exact if_pos ⟨rfl, c⟩
  · rw [if_neg c]
    exact if_neg fun h => c h.2
theorem ok_open (b : Tri) (n : Int) : okS b (("open" : Str), n) = if 1 < b.2.2 then (("half" : Str), 1) else (("closed" : Str), 0) := by
  have := ok_half b 0
  unfold okS at this ⊢
  rw [hf_open]
  rw [hf_half] at this
  exact this
theorem bad_closed (b : Tri) (n t : Int) : badS b (("closed" : Str), n) t = if n + 1 < b.1 then (("closed" : Str), n + 1) else (("open" : Str), t) := by
  unfold badS
  rw [hf_closed]
  by_cases c : n + 1 < b.1
  · rw [if_pos c]
    exact if_pos ⟨rfl, c⟩
  · rw [if_neg c]
    exact if_neg fun h => c h.2
theorem bad_half (b : Tri) (n t : Int) : badS b (("half" : Str), n) t = (("open" : Str), t) := by
  unfold badS
  rw [hf_half]
  exact if_neg fun h => sH_C h.1
theorem bad_open (b : Tri) (n t : Int) : badS b (("open" : Str), n) t = (("open" : Str), t) := by
  unfold badS
  rw [hf_open]
  exact if_neg fun h => sH_C h.1
theorem ps_closed (b : Tri) (n t : Int) : psB b (("closed" : Str), n) t := fun e => absurd e sC_O
theorem ps_half (b : Tri) (n t : Int) : psB b (("half" : Str), n) t := fun e => absurd e sH_O
/-- a breaker of a spell: what comes to it, what it passes, and when it opens -/
structure BrOf (bs : List Tri) (d : SpD) (v : Int) (i : Nat) (b : Tri) (s : StD) (g g' : List Trn) (o : Int) : Prop where
  hg : d.rs[i]? = some g
  hg' : d.rs[i + 1]? = some g'
  hb : bs[i]? = some b
  hs : d.bg[i]? = some s
  sg : Srt g
  sg' : Srt g'
  h0 : At g 0 = some d.first
  ho : d.op[i]? = some (if o < v then some o else none)
  at_ : At g (ndOf b s - 1) = some o
  fo : d.first ≤ o
  ps : PassOk g g' o b.2.1
  n1 : 1 ≤ ndOf b s
theorem br_of {bs : List Tri} {st v : Int} {d : SpD} (ok : ∀ t ∈ bs, OkT t) (S : SpOk bs st d) (hv : d.rcv = some v) {i : Nat} (hi : i < bs.length) : ∃ b s g g' o, BrOf bs d v i b s g g' o := by
  have rl := S.rl
  obtain ⟨g, hg⟩ : ∃ g, d.rs[i]? = some g := ⟨_, List.getElem?_eq_getElem (by omega)⟩
  obtain ⟨g', hg'⟩ : ∃ g', d.rs[i + 1]? = some g' := ⟨_, List.getElem?_eq_getElem (by omega)⟩
  obtain ⟨os, o, b, s, C, e⟩ := S.stp i g g' hg hg'
  have e2 : cutO d.rcv o = if o < v then some o else none := by rw [hv]; rfl
  rw [e2] at e
  refine ⟨b, s, g, g', o, hg, hg', C.hb, C.hs, (S.run i g hg).srt, (S.run _ g' hg').srt, (S.run i g hg).hd, e, C.at_, C.fo, C.ps, ?_⟩
  obtain ⟨o1, _⟩ := ok b (List.mem_of_getElem? C.hb)
  unfold ndOf
  split <;> omega
theorem BrOf.st {bs : List Tri} {d : SpD} {v : Int} {i : Nat} {b : Tri} {s : StD} {g g' : List Trn} {o : Int} (B : BrOf bs d v i b s g g' o) {x : Int} (l : x < v) :
    stW d i x = if o ≤ x then (("open" : Str), (luT g' x).getD 0) else (("closed" : Str), NB g (x + 1)) := by
  unfold stW
  rw [B.ho, B.hg, B.hg']
  by_cases c : o < v
  · rw [if_pos c]
    rfl
  · rw [if_neg c, if_neg (show ¬ o ≤ x by omega)]
    rfl
/-- within a spell -/
theorem BrOf.pass {bs : List Tri} {d : SpD} {v : Int} {i : Nat} {b : Tri} {s : StD} {g g' : List Trn} {o : Int} (B : BrOf bs d v i b s g g' o) {r : Int} (r1 : d.first < r) (r2 : r < v) (h : inL g r) (h' : inL g' r) :
    psB b (stW d i (r - 1)) r ∧ stW d i r = badS b (stW d i (r - 1)) r := by
  rw [B.st (show r - 1 < v by omega), B.st r2, show r - 1 + 1 = r by omega]
  by_cases c : o ≤ r - 1
  · rw [if_pos c, if_pos (show o ≤ r by omega), bad_open]
    obtain ⟨y, hy⟩ := luT_some B.sg' B.ps.op c
    obtain ⟨y1, y2, y3⟩ := luT_spec B.sg' hy
    have oy := y3 o B.ps.op c
    have hn := B.ps.nxt y y1 oy
    have hz : nxT g' (y + 1) = some r := (nx_iff B.sg').mpr ⟨h', by omega, fun z hz hl => by
      by_cases q : z ≤ r - 1
      · have := y3 z hz q
        omega
      · omega⟩
    rw [hn] at hz
    have := ((nx_iff B.sg).mp hz).2.1
    rw [hy]
    refine ⟨fun _ => by show b.2.1 ≤ r - y; omega, ?_⟩
    rw [luT_is B.sg' h' (Int.le_refl r) fun z _ l => l]
    rfl
  · rw [if_neg c, bad_closed]
    refine ⟨ps_closed _ _ _, ?_⟩
    have hr := in_at B.sg h
    have nn := NB_nn B.sg.1 r
    have n1 := B.n1
    -- not half open at the beginning: it would have opened with the first request
    have hs : s.1 = "closed" := by
      by_cases q : s.1 = "closed"
      · exact q
      · have e : ndOf b s = 1 := if_neg q
        have := B.at_
        rw [e] at this
        have := this.symm.trans B.h0
        cases this
        omega
    have nd : ndOf b s = b.1 := if_pos hs
    have hat := B.at_
    rw [nd] at hat
    rw [nd] at n1
    by_cases c2 : o ≤ r
    · have e : o = r := by omega
      subst e
      have e2 : NB g o = b.1 - 1 := ((At_iff B.sg (by omega)).mp hat).1
      rw [if_pos (Int.le_refl _), if_neg (by omega), luT_is B.sg' h' (Int.le_refl o) fun z _ l => l]
      rfl
    · have h2 := (At_lt B.sg (by omega) hat r)
      have h3 := ((At_iff B.sg (by omega)).mp hat).1
      have h4 := NB_mono B.sg.1 (show r + 1 ≤ o by omega)
      have h5 := nb_in B.sg h
      rw [if_neg c2, if_pos (by omega), h5]
theorem BrOf.rej {bs : List Tri} {d : SpD} {v : Int} {i : Nat} {b : Tri} {s : StD} {g g' : List Trn} {o : Int} (B : BrOf bs d v i b s g g' o) {r : Int} (r1 : d.first < r) (r2 : r < v) (h : inL g r) (h' : ¬ inL g' r) :
    ¬ psB b (stW d i (r - 1)) r := by
  have c : o ≤ r - 1 := by
    by_cases q : r ≤ o
    · exact absurd (B.ps.low r q h) h'
    · omega
  rw [B.st (show r - 1 < v by omega), if_pos c]
  obtain ⟨y, hy⟩ := luT_some B.sg' B.ps.op c
  obtain ⟨y1, y2, y3⟩ := luT_spec B.sg' hy
  have oy := y3 o B.ps.op c
  have hn := B.ps.nxt y y1 oy
  rw [hy]
  intro p
  have p : b.2.1 ≤ r - y := p rfl
  -- the first one that is late enough is before r
  have tot : ∃ z, nxT g (y + b.2.1) = some z := by
    cases q : nxT g (y + b.2.1) with
    | some z => exact ⟨z, rfl⟩
    | none =>
      have := (nx_none B.sg (y + b.2.1)).mp q
      have h1 := NB_tot B.sg.1 this (r + 1)
      have h2 := nb_in B.sg h
      have h3 := NB_mono B.sg.1 (show y + b.2.1 ≤ r by omega)
      omega
  obtain ⟨z, hz⟩ := tot
  obtain ⟨z1, z2, z3⟩ := (nx_iff B.sg).mp hz
  have zr := z3 r h (by omega)
  rw [← hn] at hz
  obtain ⟨w1, w2, w3⟩ := (nx_iff B.sg').mp hz
  by_cases e : z = r
  · subst e
    exact h' w1
  · have := y3 z w1 (by omega)
    omega
theorem BrOf.stay {bs : List Tri} {d : SpD} {v : Int} {i : Nat} {b : Tri} {s : StD} {g g' : List Trn} {o : Int} (B : BrOf bs d v i b s g g' o) {r : Int} (r1 : d.first < r) (r2 : r < v) (h' : ¬ inL g' r) (hh : inL g r → o < r) :
    stW d i r = stW d i (r - 1) := by
  rw [B.st (show r - 1 < v by omega), B.st r2, show r - 1 + 1 = r by omega]
  have ne : o ≠ r := fun e => by
    subst e
    exact h' B.ps.op
  by_cases c : o ≤ r - 1
  · rw [if_pos c, if_pos (show o ≤ r by omega)]
    congr 2
    unfold luT
    rw [nb_out B.sg' h', show r - 1 + 1 = r by omega]
  · rw [if_neg c, if_neg (show ¬ o ≤ r by omega)]
    by_cases q : inL g r
    · have := hh q
      omega
    · rw [nb_out B.sg q]
/-- the first request of a spell -/
theorem BrOf.first {bs : List Tri} {d : SpD} {v : Int} {i : Nat} {b : Tri} {s : StD} {g g' : List Trn} {o : Int} (B : BrOf bs d v i b s g g' o) (h0' : At g' 0 = some d.first) (lv : d.first < v) (hs : s = (("closed" : Str), 0) ∨ s.1 = "half") :
    psB b s d.first ∧ stW d i d.first = badS b s d.first := by
  rw [B.st lv]
  have hi := at_in B.sg (Int.le_refl 0) B.h0
  have hi' := at_in B.sg' (Int.le_refl 0) h0'
  have e1 := ((At_iff B.sg (Int.le_refl 0)).mp B.h0).2
  have hat := B.at_
  have n1 := B.n1
  obtain ⟨sw, sn⟩ := s
  rcases hs with hs | hs
  · cases hs
    have nd : ndOf b (("closed" : Str), 0) = b.1 := if_pos rfl
    rw [nd] at hat n1
    refine ⟨ps_closed _ _ _, ?_⟩
    rw [bad_closed]
    have h2 := (At_lt B.sg (by omega) hat (d.first + 1))
    by_cases c : 0 + 1 < b.1
    · rw [if_pos c, if_neg (by omega), e1]
    · have fo := B.fo
      rw [if_neg c, if_pos (by omega), luT_is B.sg' hi' (Int.le_refl _) fun z _ l => l]
      rfl
  · have hs : sw = "half" := hs
    subst hs
    have nd : ndOf b (("half" : Str), sn) = 1 := if_neg sH_C
    rw [nd] at hat
    have := hat.symm.trans B.h0
    cases this
    refine ⟨ps_half _ _ _, ?_⟩
    rw [bad_half, if_pos (Int.le_refl _), luT_is B.sg' hi' (Int.le_refl _) fun z _ l => l]
    rfl
/-- the request that succeeds again -/
theorem BrOf.recov {bs : List Tri} {d : SpD} {v : Int} {i : Nat} {b : Tri} {s : StD} {g g' : List Trn} {o : Int} (B : BrOf bs d v i b s g g' o) (lv : d.first < v) (h : inL g v) (h' : inL g' v) :
    psB b (stW d i (v - 1)) v ∧ stB 1 b (if o < v then some o else none) = okS b (stW d i (v - 1)) := by
  rw [B.st (show v - 1 < v by omega)]
  by_cases c : o < v
  · rw [if_pos c, if_pos (show o ≤ v - 1 by omega), ok_open]
    obtain ⟨y, hy⟩ := luT_some B.sg' B.ps.op (show o ≤ v - 1 by omega)
    obtain ⟨y1, y2, y3⟩ := luT_spec B.sg' hy
    have oy := y3 o B.ps.op (by omega)
    have hn := B.ps.nxt y y1 oy
    have hz : nxT g' (y + 1) = some v := (nx_iff B.sg').mpr ⟨h', by omega, fun z hz hl => by
      by_cases q : z ≤ v - 1
      · have := y3 z hz q
        omega
      · omega⟩
    rw [hn] at hz
    have := ((nx_iff B.sg).mp hz).2.1
    rw [hy]
    refine ⟨fun _ => by show b.2.1 ≤ v - y; omega, ?_⟩
    unfold stB
    by_cases q : 1 < b.2.2
    · rw [if_pos q]
      exact if_pos ⟨rfl, q⟩
    · rw [if_neg q]
      exact if_neg fun z => q z.2
  · rw [if_neg c, if_neg (show ¬ o ≤ v - 1 by omega), ok_closed]
    exact ⟨ps_closed _ _ _, if_neg fun z => nomatch z.1⟩
/-- between spells -/
theorem beh_step {b : Tri} {o : Option Int} {q r : Int} : psB b (stB q b o) r ∧ stB (q + 1) b o = okS b (stB q b o) := by
  unfold stB
  cases o with
  | none =>
    rw [if_neg (fun z => nomatch z.1), if_neg (fun z => nomatch z.1), ok_closed]
    exact ⟨ps_closed _ _ _, rfl⟩
  | some o =>
    by_cases c : q < b.2.2
    · rw [if_pos ⟨rfl, c⟩, ok_half]
      refine ⟨ps_half _ _ _, ?_⟩
      by_cases c2 : q + 1 < b.2.2
      · rw [if_pos ⟨rfl, c2⟩, if_pos c2]
      · rw [if_neg (fun z => c2 z.2), if_neg c2]
    · rw [if_neg (fun z => c z.2), ok_closed, if_neg (fun z => c (by have := z.2; omega))]
      exact ⟨ps_closed _ _ _, rfl⟩
/-! ### each request by the rules -/
theorem first_not (p : Nat → Prop) : ∀ n : Nat, ∃ k, k ≤ n ∧ (∀ i, i < k → p i) ∧ (k < n → ¬ p k)
  | 0 => ⟨0, Nat.le_refl _, fun i h => absurd h (Nat.not_lt_zero i), fun h => absurd h (Nat.lt_irrefl 0)⟩
  | n + 1 => by
    obtain ⟨k, h1, h2, h3⟩ := first_not p n
    by_cases c : k < n
    · exact ⟨k, by omega, h2, fun _ => h3 c⟩
    · have e : k = n := by omega
      subst e
      by_cases q : p k
      · exact ⟨k + 1, Nat.le_refl _, fun i hi => by
          by_cases z : i < k
          · exact h2 i z
          · have : i = k := by omega
            subst this
            exact q, fun h => absurd h (Nat.lt_irrefl _)⟩
      · exact ⟨k, by omega, h2, fun _ => q⟩
def PvOk (bs : List Tri) (st ph : Int) (pv : Option SpD) (m : Int) : Prop := ∀ d, pv = some d → ∃ v, d.rcv = some v ∧ v < m ∧ isRq st ph v ∧ d.op.length = bs.length
/-- what happens to a request: k breakers pass it -/
def OutK (n : Nat) (D : Prop) (o : Option SpD) (r : Int) (k : Nat) : Prop := match o with
  | none => k = n ∧ ¬ D
  | some d => if d.rcv.getD 0 ≤ r then k = n ∧ ¬ D else (∀ i g, i < k → d.rs[i + 1]? = some g → inL g r) ∧ (k < n → ∀ g, d.rs[k + 1]? = some g → ¬ inL g r) ∧ (k = n → D)
theorem lat_lt {os : List (Int × Int)} {bs : List Tri} {st ph : Int} {pv : Option SpD} {m : Int} {ds : List SpD} (C : SpCh os bs st ph pv m ds) {x : Int} (l : x < m) : lat pv ds x = pv := by
  cases ds with
  | nil => rfl
  | cons d r =>
    obtain ⟨v, g, X, _⟩ := C
    have := X.lo
    exact if_neg (by omega)
theorem beh_len {bs : List Tri} {st : Int} {d : SpD} {x : Int} (h : d.op.length = bs.length) : (stBeh bs st d x).length = bs.length := by
  unfold stBeh
  rw [List.length_zipWith, h, Nat.min_self]
theorem beh_get {bs : List Tri} {st : Int} {d : SpD} {x : Int} {i : Nat} {b : Tri} {o : Option Int} (hb : bs[i]? = some b) (ho : d.op[i]? = some o) : (stBeh bs st d x)[i]? = some (stB ((x - d.rcv.getD 0) / st + 1) b o) := by
  unfold stBeh
  rw [List.getElem?_zipWith, hb, ho]
theorem ws_len {n : Nat} {d : SpD} {x : Int} : (stWs n d x).length = n := by
  unfold stWs
  rw [List.length_map, List.length_range]
theorem ws_get {n : Nat} {d : SpD} {x : Int} {i : Nat} (h : i < n) : (stWs n d x)[i]? = some (stW d i x) := by
  unfold stWs
  rw [List.getElem?_map, List.getElem?_range h]
  rfl
theorem rep_get {n : Nat} {s : StD} {i : Nat} (h : i < n) : (List.replicate n s)[i]? = some s := by
  rw [List.getElem?_replicate, if_pos h]
theorem quo_step {st ph v r : Int} (s : 0 < st) (hv : isRq st ph v) (hr : isRq st ph r) (l : v < r) : (r - v) / st = (r - 1 - v) / st + 1 := by
  obtain ⟨m, m0, rfl⟩ := (isRq_iff s).mp hv
  obtain ⟨q, q0, rfl⟩ := (isRq_iff s).mp hr
  have e : ph + q * st - (ph + m * st) = (q - m) * st := by rw [Int.sub_mul]; omega
  have h1 : ph + q * st - 1 - (ph + m * st) = (st - 1) + (q - m - 1) * st := by
    rw [Int.sub_mul, Int.sub_mul]
    omega
  rw [h1, Int.add_mul_ediv_right _ _ (by omega), e, Int.mul_ediv_cancel _ (by omega), Int.ediv_eq_zero_of_lt (by omega) (by omega)]
  omega
theorem step_base {bs : List Tri} {st ph : Int} {pv : Option SpD} {m r : Int} {D : Prop} (s0 : 0 < st) (P : PvOk bs st ph pv m) (hr : isRq st ph r) (l : m ≤ r) (nd : ¬ D) :
    StepR bs D r (stAt bs st pv (r - 1)) (stAt bs st pv r) bs.length ∧ OutK bs.length D pv r bs.length := by
  cases pv with
  | none =>
    refine ⟨⟨Nat.le_refl _, List.length_replicate, List.length_replicate, fun i b s hi hb hs => ?_, fun b s hb _ => ?_, fun _ _ i b s hb hs => ?_, fun h => ?_, fun h => absurd h (Nat.lt_irrefl _)⟩, rfl, nd⟩
    · have hs : (List.replicate bs.length (("closed" : Str), (0 : Int)))[i]? = some s := hs
      rw [rep_get hi] at hs
      cases hs
      exact ps_closed _ _ _
    · have := (List.getElem?_eq_some_iff.mp hb).1
      omega
    · have hi := (List.getElem?_eq_some_iff.mp hb).1
      have hs : (List.replicate bs.length (("closed" : Str), (0 : Int)))[i]? = some s := hs
      rw [rep_get hi] at hs
      cases hs
      show (List.replicate bs.length (("closed" : Str), (0 : Int)))[i]? = _
      rw [rep_get hi, ok_closed]
    · rcases h with h | h
      · exact absurd h (Nat.lt_irrefl _)
      · exact absurd h nd
  | some d =>
    obtain ⟨v, hv, lv, vq, ol⟩ := P d rfl
    have g0 : d.rcv.getD 0 = v := by rw [hv]; rfl
    have e1 : stAt bs st (some d) (r - 1) = stBeh bs st d (r - 1) := if_pos (by rw [g0]; omega)
    have e2 : stAt bs st (some d) r = stBeh bs st d r := if_pos (by rw [g0]; omega)
    rw [e1, e2]
    have get : ∀ {i b}, bs[i]? = some b → ∃ o, d.op[i]? = some o := fun {i b} hb => by
      have := (List.getElem?_eq_some_iff.mp hb).1
      exact ⟨_, List.getElem?_eq_getElem (by omega)⟩
    have eq := quo_step s0 vq hr (show v < r by omega)
    refine ⟨⟨Nat.le_refl _, beh_len ol, beh_len ol, fun i b s hi hb hs => ?_, fun b s hb _ => ?_, fun _ _ i b s hb hs => ?_, fun h => ?_, fun h => absurd h (Nat.lt_irrefl _)⟩, ?_⟩
    · obtain ⟨o, ho⟩ := get hb
      rw [beh_get hb ho] at hs
      cases hs
      exact beh_step.1
    · have := (List.getElem?_eq_some_iff.mp hb).1
      omega
    · obtain ⟨o, ho⟩ := get hb
      rw [beh_get hb ho] at hs
      cases hs
      rw [beh_get hb ho, g0, eq]
      exact congrArg some (beh_step (r := r)).2
    · rcases h with h | h
      · exact absurd h (Nat.lt_irrefl _)
      · exact absurd h nd
    · show if d.rcv.getD 0 ≤ r then _ else _
      rw [if_pos (by rw [g0]; omega)]
      exact ⟨rfl, nd⟩
theorem bgOf_mem {bs : List Tri} {st : Int} {pv : Option SpD} {z : Int} {i : Nat} {s : StD} (h : (bgOf bs st pv z)[i]? = some s) : s = (("closed" : Str), 0) ∨ s.1 = "half" := by
  cases pv with
  | none =>
    have h : (List.replicate bs.length (("closed" : Str), (0 : Int)))[i]? = some s := h
    have := List.eq_of_mem_replicate (List.mem_of_getElem? h)
    exact .inl this
  | some d =>
    have h : (List.zipWith (stB ((z - d.rcv.getD 0) / st + 1)) bs d.op)[i]? = some s := h
    rw [List.getElem?_zipWith] at h
    cases hb : bs[i]? with
    | none => rw [hb] at h; cases h
    | some b =>
      cases ho : d.op[i]? with
      | none => rw [hb, ho] at h; cases h
      | some o =>
        rw [hb, ho] at h
        have h : stB ((z - d.rcv.getD 0) / st + 1) b o = s := Option.some.inj h
        rw [← h]
        unfold stB
        split
        · exact .inr rfl
        · exact .inl rfl
theorem step_ch {os : List (Int × Int)} {bs : List Tri} {st ph : Int} (s0 : 0 < st) (okb : ∀ t ∈ bs, OkT t) : ∀ {ds : List SpD} {pv : Option SpD} {m : Int}, SpCh os bs st ph pv m ds → (∀ d ∈ ds, SpOk bs st d) → PvOk bs st ph pv m → ∀ {r : Int}, isRq st ph r → m ≤ r →
    ∃ k, StepR bs (dn os r) r (stAt bs st (lat pv ds (r - 1)) (r - 1)) (stAt bs st (lat pv ds r) r) k ∧ OutK bs.length (dn os r) (lat pv ds r) r k
  | [], pv, m, C, _, P, r, hr, l => ⟨_, step_base s0 P hr l (C r hr l)⟩
  | d :: ds, pv, m, ⟨v, g, X, C⟩, A, P, r, hr, l => by
    have S := A d (List.mem_cons_self ..)
    have xlo := X.lo
    have lv := X.lt
    have g0 : d.rcv.getD 0 = v := by rw [X.rcv]; rfl
    have latc : ∀ x, lat pv (d :: ds) x = if d.first ≤ x then lat (some d) ds x else pv := fun _ => rfl
    by_cases c1 : r < d.first
    · rw [latc, latc, if_neg (by omega), if_neg (by omega)]
      exact ⟨_, step_base s0 P hr l (X.up r hr l c1)⟩
    by_cases c3 : r < v
    · rw [latc r, if_pos (by omega), lat_lt C (by omega)]
      have en : stAt bs st (some d) r = stWs bs.length d r := if_neg (by rw [g0]; omega)
      rw [en]
      by_cases c2 : r = d.first
      · -- the first request of the spell
        subst c2
        rw [latc, if_neg (by omega)]
        have eo : stAt bs st pv (d.first - 1) = d.bg := by
          rw [X.bg]
          cases pv with
          | none => rfl
          | some d' =>
            obtain ⟨v', hv', lv', _, _⟩ := P d' rfl
            exact if_pos (by rw [hv']; show v' ≤ _; omega)
        rw [eo]
        refine ⟨bs.length, ⟨Nat.le_refl _, S.bgl, ws_len, fun i b s hi hb hs => ?_, fun b s hb _ => ?_, fun _ h => absurd X.dn h, fun _ i b s hi hb hs => ?_, fun h => absurd h (Nat.lt_irrefl _)⟩, ?_⟩
        · obtain ⟨b', s', g1, g2, o, B⟩ := br_of okb S X.rcv hi
          have := B.hb.symm.trans hb
          cases this
          have := B.hs.symm.trans hs
          cases this
          exact (B.first (S.run _ _ B.hg').hd lv (bgOf_mem (by rw [← X.bg]; exact hs))).1
        · have := (List.getElem?_eq_some_iff.mp hb).1
          omega
        · obtain ⟨b', s', g1, g2, o, B⟩ := br_of okb S X.rcv hi
          have := B.hb.symm.trans hb
          cases this
          have := B.hs.symm.trans hs
          cases this
          rw [ws_get hi, (B.first (S.run _ _ B.hg').hd lv (bgOf_mem (by rw [← X.bg]; exact hs))).2]
        · show if d.rcv.getD 0 ≤ d.first then _ else _
          rw [if_neg (by rw [g0]; omega)]
          exact ⟨fun i g hi hg => at_in (S.run _ _ hg).srt (Int.le_refl 0) (S.run _ _ hg).hd, fun h => absurd h (Nat.lt_irrefl _), fun _ => X.dn⟩
      · -- within the spell
        have r1 : d.first < r := by omega
        rw [latc, if_pos (by omega), lat_lt C (by omega)]
        have eo : stAt bs st (some d) (r - 1) = stWs bs.length d (r - 1) := if_neg (by rw [g0]; omega)
        rw [eo]
        obtain ⟨k, kn, k1, k2⟩ := first_not (fun i => ∀ g, d.rs[i + 1]? = some g → inL g r) bs.length
        have r0 : inL [(d.first, st, none)] r := (in_end s0 X.rq).mpr ⟨hr, by omega⟩
        have reach : ∀ i g, i ≤ k → d.rs[i]? = some g → inL g r := fun i g hi hg => by
          cases i with
          | zero =>
            have := S.r0.symm.trans hg
            cases this
            exact r0
          | succ i => exact k1 i (by omega) g hg
        have kd : k = bs.length → dn os r := fun e => by
          subst e
          exact X.ins r (reach _ _ (Nat.le_refl _) X.rl) c3
        refine ⟨k, ⟨kn, ws_len, ws_len, fun i b s hi hb hs => ?_, fun b s hb hs => ?_, fun e h => absurd (kd e) h, fun _ i b s hi hb hs => ?_, fun kl i hi => ?_⟩, ?_⟩
        · obtain ⟨b', s', g1, g2, o, B⟩ := br_of okb S X.rcv (show i < bs.length by omega)
          have := B.hb.symm.trans hb
          cases this
          rw [ws_get (by omega)] at hs
          cases hs
          exact (B.pass r1 c3 (reach i _ (by omega) B.hg) (reach (i + 1) _ (by omega) B.hg')).1
        · have hk := (List.getElem?_eq_some_iff.mp hb).1
          obtain ⟨b', s', g1, g2, o, B⟩ := br_of okb S X.rcv hk
          have := B.hb.symm.trans hb
          cases this
          rw [ws_get hk] at hs
          cases hs
          refine B.rej r1 c3 (reach k _ (Nat.le_refl _) B.hg) fun q => k2 hk fun g hg => ?_
          have := B.hg'.symm.trans hg
          cases this
          exact q
        · obtain ⟨b', s', g1, g2, o, B⟩ := br_of okb S X.rcv (show i < bs.length by omega)
          have := B.hb.symm.trans hb
          cases this
          rw [ws_get (by omega)] at hs
          cases hs
          rw [ws_get (by omega), (B.pass r1 c3 (reach i _ (by omega) B.hg) (reach (i + 1) _ (by omega) B.hg')).2]
        · by_cases hn : i < bs.length
          · obtain ⟨b', s', g1, g2, o, B⟩ := br_of okb S X.rcv hn
            have no : ¬ inL g2 r := fun q => k2 kl fun g hg => sub_chain S (i - k) (k + 1) g g2 hg (by rw [show k + 1 + (i - k) = i + 1 by omega]; exact B.hg') r q
            rw [ws_get hn, ws_get hn, B.stay r1 c3 no fun q => by
              by_cases z : r ≤ o
              · exact absurd (B.ps.low r z q) no
              · omega]
          · rw [List.getElem?_eq_none (by rw [ws_len]; omega), List.getElem?_eq_none (by rw [ws_len]; omega)]
        · show if d.rcv.getD 0 ≤ r then _ else _
          rw [if_neg (by rw [g0]; omega)]
          refine ⟨fun i g hi hg => reach (i + 1) g (by omega) hg, fun kl g hg q => k2 kl fun g' hg' => ?_, kd⟩
          have := hg.symm.trans hg'
          cases this
          exact q
    by_cases c4 : r = v
    · -- the recovery
      subst c4
      rw [latc, latc, if_pos (by omega), if_pos (by omega), lat_lt C (by omega), lat_lt C (by omega)]
      have eo : stAt bs st (some d) (r - 1) = stWs bs.length d (r - 1) := if_neg (by rw [g0]; omega)
      have en : stAt bs st (some d) r = stBeh bs st d r := if_pos (by rw [g0]; omega)
      rw [eo, en]
      have all : ∀ i g', i ≤ bs.length → d.rs[i]? = some g' → inL g' r := fun i g' hi hg => sub_chain S (bs.length - i) i g' g hg (by rw [show i + (bs.length - i) = bs.length by omega]; exact X.rl) r X.vi
      have one : (r - d.rcv.getD 0) / st + 1 = 1 := by
        rw [g0, Int.sub_self, Int.zero_ediv]
        rfl
      refine ⟨bs.length, ⟨Nat.le_refl _, ws_len, beh_len S.ol, fun i b s hi hb hs => ?_, fun b s hb _ => ?_, fun _ _ i b s hb hs => ?_, fun h => ?_, fun h => absurd h (Nat.lt_irrefl _)⟩, ?_⟩
      · obtain ⟨b', s', g1, g2, o, B⟩ := br_of okb S X.rcv hi
        have := B.hb.symm.trans hb
        cases this
        rw [ws_get hi] at hs
        cases hs
        exact (B.recov lv (all i _ (by omega) B.hg) (all (i + 1) _ (by omega) B.hg')).1
      · have := (List.getElem?_eq_some_iff.mp hb).1
        omega
      · have hi := (List.getElem?_eq_some_iff.mp hb).1
        obtain ⟨b', s', g1, g2, o, B⟩ := br_of okb S X.rcv hi
        have := B.hb.symm.trans hb
        cases this
        rw [ws_get hi] at hs
        cases hs
        rw [beh_get hb B.ho, one]
        exact congrArg some (B.recov lv (all i _ (by omega) B.hg) (all (i + 1) _ (by omega) B.hg')).2
      · rcases h with h | h
        · exact absurd h (Nat.lt_irrefl _)
        · exact absurd h X.vu
      · show if d.rcv.getD 0 ≤ r then _ else _
        rw [if_pos (by rw [g0]; omega)]
        exact ⟨rfl, X.vu⟩
    · rw [latc, latc, if_pos (by omega), if_pos (by omega)]
      exact step_ch s0 okb C (fun d' hd => A d' (List.mem_cons_of_mem _ hd)) (fun d' e => by cases e; exact ⟨v, X.rcv, by omega, X.vq, S.ol⟩) hr (by omega)
theorem step_sp {os : List (Int × Int)} {bs : List Tri} {st ph : Int} (W : RowD bs st ph) (hv : VOut 0 os) (hl : os.length ≤ 50) {r : Int} (hr : isRq st ph r) :
    ∃ k, StepR bs (dn os r) r (stM bs st ph os (r - 1)) (stM bs st ph os r) k ∧ OutK bs.length (dn os r) (lat none (spsOf bs st ph os) r) r k :=
  step_ch (by have := W.s0; omega) W.ok (sps_ch W hv) (fun d hd => (sps_all W hv hl d hd).1) (fun d e => nomatch e) hr (by have := W.p0; have := hr.1; omega)
/-! ### the last spell that has begun; the last time of trains -/
theorem ch_asc {os : List (Int × Int)} {bs : List Tri} {st ph : Int} : ∀ {ds : List SpD} {pv : Option SpD} {m : Int}, SpCh os bs st ph pv m ds → (ds.map SpD.first).Pairwise (· < ·) ∧ ∀ d ∈ ds, m ≤ d.first
  | [], _, _, _ => ⟨.nil, fun d h => nomatch h⟩
  | d :: r, pv, m, ⟨v, g, X, C⟩ => by
    obtain ⟨i1, i2⟩ := ch_asc C
    have h1 := X.lo
    have h2 := X.lt
    refine ⟨List.pairwise_cons.mpr ⟨fun x hx => ?_, i1⟩, fun e he => ?_⟩
    · obtain ⟨e, he, rfl⟩ := List.mem_map.mp hx
      have := i2 e he
      omega
    · rcases List.mem_cons.mp he with rfl | he
      · exact h1
      · have := i2 e he
        omega
theorem lat_idx : ∀ (ds : List SpD) (pv : Option SpD) (k : Nat) (z : Int), k ≤ ds.length → (∀ (j : Nat) (d : SpD), ds[j]? = some d → (j < k ↔ d.first ≤ z)) → lat pv ds z = match k with | 0 => pv | i + 1 => ds[i]?
  | [], pv, k, z, hk, _ => by
    have : k = 0 := by simpa using hk
    subst this
    rfl
  | d :: r, pv, 0, z, _, h => by
    have h0 := h 0 d rfl
    exact if_neg fun q => absurd (h0.mpr q) (Nat.lt_irrefl 0)
  | d :: r, pv, k + 1, z, hk, h => by
    have h0 := (h 0 d rfl).mp (Nat.succ_pos k)
    have e : lat pv (d :: r) z = lat (some d) r z := if_pos h0
    rw [e, lat_idx r (some d) k z (by simpa using hk) fun j d' hj => by
      have := h (j + 1) d' hj
      rw [← this]
      omega]
    cases k with
    | zero => rfl
    | succ i => rfl
theorem luT_zero {g : List Trn} (hs : Srt g) {x : Int} (h : luT g x = none) : NB g (x + 1) = 0 := by
  unfold luT at h
  have nn := NB_nn hs.1 (x + 1)
  by_cases c : 0 < NB g (x + 1)
  · rw [if_pos c] at h
    obtain ⟨n, e, h5⟩ := (At_none hs.1 (by omega)).mp h
    have := NB_tot hs.1 e (x + 1)
    omega
  · omega
theorem luT_app {g : List Trn} {t : Trn} (hs : Srt (g ++ [t])) (z : Int) : luT (g ++ [t]) z = if 0 < nbT t (z + 1) then some (t.1 + (nbT t (z + 1) - 1) * t.2.1) else luT g z := by
  have hg : Srt g := ⟨fun u hu => hs.1 u (List.mem_append_left _ hu), (List.pairwise_append.mp hs.2).1⟩
  have ht : OkTr t := hs.1 t (List.mem_append_right _ (List.mem_cons_self ..))
  have hlt : ∀ u ∈ g, Lt u t := fun u hu => (List.pairwise_append.mp hs.2).2.2 u hu t (List.mem_cons_self ..)
  have hend : ∀ x, inL g x → x < t.1 := by
    rintro x ⟨u, hu, k⟩
    obtain ⟨c, hc, l⟩ := hlt u hu
    have := in_le (hg.1 u hu) hc k
    omega
  by_cases c : 0 < nbT t (z + 1)
  · rw [if_pos c]
    have hi : inT t (t.1 + (nbT t (z + 1) - 1) * t.2.1) := ⟨nbT t (z + 1) - 1, by omega, fun c' e => by have := nbT_le (x := z + 1) e; omega, rfl⟩
    have hl := (nbT_lt ht (x := z + 1) (i := nbT t (z + 1) - 1) (by omega) (fun c' e => by have := nbT_le (x := z + 1) e; omega)).mp (by omega)
    refine luT_is hs (in_app.mpr (.inr (in_one.mpr hi))) (by omega) fun y hy ly => ?_
    rcases in_app.mp hy with hy | hy
    · have := hend y hy
      have := in_ge ht hi
      omega
    · obtain ⟨j, j0, jc, rfl⟩ := in_one.mp hy
      have h1 := (nbT_lt ht (x := z + 1) j0 jc).mpr (by omega)
      have := Int.mul_le_mul_of_nonneg_right (show j ≤ nbT t (z + 1) - 1 by omega) (show 0 ≤ t.2.1 by have := ht.2.1; omega)
      omega
  · rw [if_neg c]
    have c0 : nbT t (z + 1) = 0 := by have := nbT_nn ht (z + 1); omega
    have no : ∀ y, inT t y → y ≤ z → False := by
      rintro y ⟨j, j0, jc, rfl⟩ l
      have h1 := (nbT_lt ht (x := z + 1) j0 jc).mpr (by omega)
      omega
    cases q : luT g z with
    | some y =>
      obtain ⟨y1, y2, y3⟩ := luT_spec hg q
      refine luT_is hs (in_app.mpr (.inl y1)) y2 fun x hx lx => ?_
      rcases in_app.mp hx with hx | hx
      · exact y3 x hx lx
      · exact (no x (in_one.mp hx) lx).elim
    | none =>
      have := luT_zero hg q
      unfold luT
      rw [NB_app]
      have e1 : NB [t] (z + 1) = 0 := by
        show nbT t (z + 1) + 0 = 0
        omega
      rw [if_neg (by omega)]
theorem st_turn2 {H Hc H4 : Hp} {D1 t : Addr} {ys : List V} {ss : List StD} {d : StD} (hD : Hc D1 = some (.lst ys)) (ty : Sts (Fr H Hc) ys ss) (sc : Same H Hc) (s4 : Same Hc H4) (hb : H D1 = none) (ht : H4 t = some (.tup [.str d.1, .int d.2])) (hl : ys.length ≤ 1000) :
    ∃ acc, H4 D1 = some (.lst acc) ∧ acc.length < sizeLine ∧ ∃ ys', (upd H4 D1 (.lst (acc ++ [.ref t]))) D1 = some (.lst ys') ∧ Sts (Fr H (upd H4 D1 (.lst (acc ++ [.ref t])))) ys' (ss ++ [d]) ∧ Same H (upd H4 D1 (.lst (acc ++ [.ref t]))) := by
  have hD1 := s4 _ _ hD
  have n2 := NL.upd (o := .lst (ys ++ [.ref t])) hD1
  refine ⟨ys, hD1, small1 (by omega), _, upd_same, ?_, fun b o e => ?_⟩
  · exact paired_app ((ty.same (Fr.same s4)).nl (Fr.nl n2)) (.cons ⟨t, rfl, Fr.nol (n2 _ _ ht fun _ z => nomatch z) fun _ z => nomatch z⟩ .nil)
  · rw [upd_ne (ne_of_none e hb)]
    exact s4 _ _ (sc _ _ e)
/-! ### what the program says of states -/
def spCb : Sp := fun vs H Q _ => ∃ (a : Addr) (ns : List Int) (b : Int), vs = [.ref a, .int b] ∧ H a = some (.lst (ns.map V.int)) ∧ ns.Pairwise (· < ·) ∧ ns.length ≤ 100000 ∧ ∀ k : Nat, k ≤ ns.length → (∀ j v, ns[j]? = some v → (j < k ↔ v < b)) → Q (.int k) H
def idxV : Option Nat → V
  | none => .non
  | some i => .int i
def LatI (ds : List SpD) (z : Int) : Option Nat → Prop
  | none => lat none ds z = none
  | some i => ∃ d, ds[i]? = some d ∧ lat none ds z = some d
def SpI (ds : List SpD) (z : Int) : Option Nat → Prop
  | none => ∀ d, lat none ds z = some d → d.rcv.getD 0 ≤ z
  | some i => ∃ d, ds[i]? = some d ∧ lat none ds z = some d ∧ z < d.rcv.getD 0
def spLatest (CR CS C : Addr) : Sp := fun vs H Q _ => ∃ p ts st ph os z, vs = [.ref p, .int z] ∧ TLV CR CS C H p ts st ph os ∧ ∀ o, LatI (spsOf ts st ph os) z o → Q (idxV o) H
def spSpAt (CR CS C : Addr) : Sp := fun vs H Q _ => ∃ p ts st ph os z, vs = [.ref p, .int z] ∧ TLV CR CS C H p ts st ph os ∧ 0 ≤ z ∧ ∀ o, SpI (spsOf ts st ph os) z o → Q (idxV o) H
def spTu : Sp := fun vs H Q _ => ∃ a xs ts z, vs = [.ref a, .int z] ∧ H a = some (.lst xs) ∧ Trs H xs ts ∧ Srt ts ∧ (∀ t ∈ ts, BT 4900 t) ∧ ts.length ≤ 5000 ∧ z ≤ PB 4900 ∧ Q (cV (luT ts z)) H
def spSw (CS : Addr) : Sp := fun vs H Q _ => ∃ x d bs st v z, ∃ i : Nat, vs = [x, .int i, .int z] ∧ SpV CS H x d ∧ SpOk bs st d ∧ d.rcv = some v ∧ i < bs.length ∧ (∀ t ∈ bs, OkT t) ∧ z < v ∧ z ≤ PB 4800 ∧ ∀ t H', H' t = some (.tup [.str (stW d i z).1, .int (stW d i z).2]) → Same H H' → H t = none → Q (.ref t) H'
def spSta (CR CS C : Addr) : Sp := fun vs H Q _ => ∃ p ts st ph os z, vs = [.ref p, .int z] ∧ TLV CR CS C H p ts st ph os ∧ 0 ≤ z ∧ z ≤ PB 4800 ∧ ∀ l ys H', H' l = some (.lst ys) → Sts (Fr H H') ys (stM ts st ph os z) → Same H H' → H l = none → Q (.ref l) H'
def inSp (ds : List SpD) (z : Int) : Bool := match lat none ds z with
  | none => false
  | some d => decide (z < d.rcv.getD 0)
def spOut (CR CS C : Addr) : Sp := fun vs H Q _ => ∃ p ts st ph os z, vs = [.ref p, .int z] ∧ TLV CR CS C H p ts st ph os ∧ isRq st ph z ∧ z ≤ PB 4800 ∧ ∀ (k : Nat) t H', k ≤ ts.length → OutK ts.length (dn os z) (lat none (spsOf ts st ph os) z) z k → H' t = some (.tup (outV ts.length k (inSp (spsOf ts st ph os) z))) → Same H H' → H t = none → Q (.ref t) H'
section
variable {P : Program} {w : World} {K : PySem.W.Frag} {mg : Str → Option Value} {base : Heap} {L : LA}
end
/-! ### one request, by the law -/
def mixE (bs : List Tri) (ss : List StD) (t : Int) (f : Bool) (j k i : Nat) : StD := match bs[i]?, ss[i]? with
  | some b, some s => if i < j then (if f = true then okS b s else badS b s t) else if i < k then hfS s else s
  | _, _ => ("closed", 0)
def mixS (bs : List Tri) (ss : List StD) (t : Int) (f : Bool) (j k : Nat) : List StD := (List.range bs.length).map (mixE bs ss t f j k)
theorem mixE_is {bs : List Tri} {ss : List StD} {t : Int} {f : Bool} {j k i : Nat} {b : Tri} {s : StD} (hb : bs[i]? = some b) (hs : ss[i]? = some s) : mixE bs ss t f j k i = if i < j then (if f = true then okS b s else badS b s t) else if i < k then hfS s else s := by
  unfold mixE
  rw [hb, hs]
theorem mixS_get {bs : List Tri} {ss : List StD} {t : Int} {f : Bool} {j k i : Nat} (h : i < bs.length) : (mixS bs ss t f j k)[i]? = some (mixE bs ss t f j k i) := by
  unfold mixS
  rw [List.getElem?_map, List.getElem?_range h]
  rfl
theorem mixS_len {bs : List Tri} {ss : List StD} {t : Int} {f : Bool} {j k : Nat} : (mixS bs ss t f j k).length = bs.length := by
  unfold mixS
  rw [List.length_map, List.length_range]
theorem map_set {α : Type} {n : Nat} {f g : Nat → α} {i : Nat} {v : α} (hi : i < n) (h1 : v = g i) (h2 : ∀ j, j ≠ i → j < n → f j = g j) : ((List.range n).map f).set i v = (List.range n).map g := by
  refine List.ext_getElem? fun j => ?_
  rw [List.getElem?_set, List.length_map, List.length_range, List.getElem?_map, List.getElem?_map]
  by_cases c : i = j
  · subst c
    rw [if_pos rfl, if_pos hi, List.getElem?_range hi, h1]
    rfl
  · rw [if_neg c]
    by_cases d : j < n
    · rw [List.getElem?_range d]
      exact congrArg some (h2 j (fun e => c e.symm) d)
    · rw [List.getElem?_eq_none (by rw [List.length_range]; omega)]
      rfl
theorem mixS_0 {bs : List Tri} {ss : List StD} {t : Int} {f : Bool} (h : ss.length = bs.length) : mixS bs ss t f 0 0 = ss := by
  refine List.ext_getElem? fun j => ?_
  by_cases c : j < bs.length
  · have hb : bs[j]? = some bs[j] := List.getElem?_eq_getElem c
    have hs : ss[j]? = some (ss[j]'(by omega)) := List.getElem?_eq_getElem (by omega)
    rw [mixS_get c, mixE_is hb hs, hs, if_neg (Nat.not_lt_zero j), if_neg (Nat.not_lt_zero j)]
  · rw [List.getElem?_eq_none (by rw [mixS_len]; omega), List.getElem?_eq_none (by omega)]
theorem mixS_half {bs : List Tri} {ss : List StD} {t : Int} {f : Bool} {i : Nat} {b : Tri} {s : StD} (hb : bs[i]? = some b) (hs : ss[i]? = some s) : (mixS bs ss t f 0 i).set i (hfS s) = mixS bs ss t f 0 (i + 1) := by
  refine map_set (List.getElem?_eq_some_iff.mp hb).1 ?_ fun j ne hj => ?_
  · rw [mixE_is hb hs, if_neg (Nat.not_lt_zero i), if_pos (Nat.lt_succ_self i)]
  · unfold mixE
    cases bs[j]? with
    | none => rfl
    | some b' =>
      cases ss[j]? with
      | none => rfl
      | some s' =>
        show (if j < 0 then _ else if j < i then _ else _) = (if j < 0 then _ else if j < i + 1 then _ else _)
        rw [if_neg (Nat.not_lt_zero j), if_neg (Nat.not_lt_zero j)]
        by_cases c : j < i
        · rw [if_pos c, if_pos (show j < i + 1 by omega)]
        · rw [if_neg c, if_neg (show ¬ j < i + 1 by omega)]
theorem mixS_fin {bs : List Tri} {ss : List StD} {t : Int} {f : Bool} {j k : Nat} {b : Tri} {s : StD} (hb : bs[j]? = some b) (hs : ss[j]? = some s) : (mixS bs ss t f j k).set j (if f = true then okS b s else badS b s t) = mixS bs ss t f (j + 1) k := by
  refine map_set (List.getElem?_eq_some_iff.mp hb).1 ?_ fun i ne hi => ?_
  · rw [mixE_is hb hs, if_pos (Nat.lt_succ_self j)]
  · unfold mixE
    cases bs[i]? with
    | none => rfl
    | some b' =>
      cases ss[i]? with
      | none => rfl
      | some s' =>
        show (if i < j then _ else _) = (if i < j + 1 then _ else _)
        by_cases c : i < j
        · rw [if_pos c, if_pos (show i < j + 1 by omega)]
        · rw [if_neg c, if_neg (show ¬ i < j + 1 by omega)]
theorem mixS_same {bs : List Tri} {ss : List StD} {t : Int} {f g : Bool} {k : Nat} : mixS bs ss t f 0 k = mixS bs ss t g 0 k := by
  refine List.map_congr_left fun i _ => ?_
  unfold mixE
  cases bs[i]? with
  | none => rfl
  | some b' =>
    cases ss[i]? with
    | none => rfl
    | some s' => rfl
theorem mixS_keep {bs : List Tri} {ss : List StD} {t : Int} {f : Bool} {i : Nat} {b : Tri} {s : StD} (hb : bs[i]? = some b) (hs : ss[i]? = some s) (h : hfS s = s) : mixS bs ss t f 0 i = mixS bs ss t f 0 (i + 1) := by
  have hi := (List.getElem?_eq_some_iff.mp hb).1
  rw [← mixS_half hb hs, h]
  refine (List.ext_getElem? fun j => ?_)
  rw [List.getElem?_set, mixS_len]
  by_cases c : i = j
  · subst c
    rw [if_pos rfl, if_pos hi, mixS_get hi, mixE_is hb hs, if_neg (Nat.not_lt_zero i), if_neg (Nat.lt_irrefl i)]
  · rw [if_neg c]
theorem paired_set {α β : Type} {F : α → β → Prop} : ∀ {xs : List α} {ys : List β} (i : Nat) {x : α} {y : β}, Paired F xs ys → F x y → Paired F (xs.set i x) (ys.set i y)
  | _, _, _, _, _, .nil, _ => .nil
  | _, _, 0, _, _, .cons _ t, h => .cons h t
  | _, _, i + 1, _, _, .cons r t, h => .cons r (paired_set i t h)
theorem sts_kp {H H' : Hp} (k : ∀ b xs, H b = some (.tup xs) → H' b = some (.tup xs)) {xs : List V} {ss : List StD} (h : Sts H xs ss) : Sts H' xs ss := L2.Paired.mapP h fun _ _ ⟨a, e, h⟩ => ⟨a, e, k _ _ h⟩
theorem ixN_of {n j : Nat} (h : j < n) : ixN n (j : Int) = some j := by
  unfold ixN
  rw [if_pos (show (0 : Int) ≤ j by omega), if_pos (show (j : Int) < n by omega)]
  congr 1
theorem outV_n (n : Nat) (b : Bool) : outV n n b = if b = true then [.str "failed"] else [.str "served"] := by
  unfold outV
  rw [if_neg (Nat.lt_irrefl n)]
theorem outV_k {n k : Nat} (h : k < n) (b : Bool) : outV n k b = [.str "rejected", .int k] := if_pos h
def outD (n k : Nat) (inS : Bool) : PyData := if k < n then .tuple [.str "rejected", .int k] else if inS then .tuple [.str "failed"] else .tuple [.str "served"]
theorem outV_dp {K : PySem.W.Frag} {H : Hp} {p : Addr} {n k : Nat} {b : Bool} (h : H p = some (.tup (outV n k b))) : Dp K H (.ref p) (outD n k b) := by
  unfold outV at h
  unfold outD
  split
  · rename_i c
    rw [if_pos c] at h
    exact .tup (SqT.of h) (.cons (.str _) (.cons (.int _) .nil))
  · rename_i c
    rw [if_neg c] at h
    cases b with
    | true => exact .tup (SqT.of h) (.cons (.str _) .nil)
    | false => exact .tup (SqT.of h) (.cons (.str _) .nil)
theorem tup_sh {ds : List PyData} (h1 : PyData.canLayAll0 ds = true) (h2 : PyData.depthAll ds ≤ 10) : SeqAt.shaped (.tuple ds) = true := by
  refine Bool.and_eq_true_iff.mpr ⟨?_, decide_eq_true ?_⟩
  · rw [PyData.canLay0]
    exact h1
  · rw [PyData.depth]
    omega
theorem sok_R : PyData.strOk "rejected" = true := by decide +kernel
theorem sok_S : PyData.strOk "served" = true := by decide +kernel
theorem sok_F : PyData.strOk "failed" = true := by decide +kernel
theorem outD_sh (n k : Nat) (b : Bool) : SeqAt.shaped (outD n k b) = true := by
  unfold outD
  split
  · exact tup_sh (by simp [PyData.canLayAll0, PyData.canLay0, sok_R]) (by simp [PyData.depthAll, PyData.depth])
  · cases b <;> exact tup_sh (by simp [PyData.canLayAll0, PyData.canLay0, sok_S, sok_F]) (by simp [PyData.depthAll, PyData.depth])
theorem served_sh : SeqAt.shaped (.tuple [.str "served"]) = true := tup_sh (by simp [PyData.canLayAll0, PyData.canLay0, sok_S]) (by simp [PyData.depthAll, PyData.depth])
theorem outD_served (n k : Nat) (b : Bool) (h : k ≤ n) : PyData.eqv (outD n k b) (.tuple [.str "served"]) = (decide (k = n) && !b) := by
  unfold outD
  split
  · rename_i c
    rw [decide_eq_false (show ¬ k = n by omega)]
    rfl
  · rw [decide_eq_true (show k = n by omega)]
    cases b <;> rfl
theorem outD_eq (n k : Nat) (b : Bool) : PyData.eqv (outD n k b) (outD n k b) = true := by
  unfold outD
  split
  · simp [PyData.eqv, PyData.eqvAll]
  · cases b <;> simp [PyData.eqv, PyData.eqvAll]
def spOne1 : Sp := fun vs H Q _ => ∃ a l xs ys bs ss t good, vs = [.ref a, .ref l, .int t, .bl good] ∧ H a = some (.lst xs) ∧ Brs H xs bs ∧ H l = some (.lst ys) ∧ Sts H ys ss ∧ a ≠ l ∧ ss.length = bs.length ∧ bs.length ≤ 12 ∧ ∀ (k : Nat) td H' ys', k ≤ bs.length → (∀ (i : Nat) (b : Tri) (s : StD), i < k → bs[i]? = some b → ss[i]? = some s → psB b s t) → (∀ (b : Tri) (s : StD), bs[k]? = some b → ss[k]? = some s → ¬ psB b s t) →
  H' td = some (.tup (outV bs.length k (!good))) → H' l = some (.lst ys') → Sts H' ys' (mixS bs ss t (decide (k = bs.length) && good) k k) → Kp l H H' → H td = none → Q (.ref td) H'
/-! ### windows of one request -/
def valF (f : SpD → Int) (r : Int) : Option SpD → Int
  | none => 0
  | some d => if d.rcv.getD 0 ≤ r then 0 else f d
theorem sum_zero {f : SpD → Int} : ∀ {ds : List SpD}, (∀ d ∈ ds, f d = 0) → (ds.map f).sum = 0
  | [], _ => rfl
  | d :: ds, h => by
    rw [List.map_cons, List.sum_cons, h d (List.mem_cons_self ..), sum_zero fun e he => h e (List.mem_cons_of_mem _ he)]
    rfl
theorem sum_sp {os : List (Int × Int)} {bs : List Tri} {st ph : Int} {f : SpD → Int} {r : Int} : ∀ {ds : List SpD} {pv : Option SpD} {m : Int}, SpCh os bs st ph pv m ds → (∀ d ∈ ds, r < d.first → f d = 0) → (∀ d ∈ ds, d.rcv.getD 0 ≤ r → f d = 0) → (∀ d, pv = some d → d.rcv.getD 0 ≤ r) → (ds.map f).sum = valF f r (lat pv ds r)
  | [], pv, m, _, _, _, hp => by
    cases pv with
    | none => rfl
    | some d =>
      show (0 : Int) = if d.rcv.getD 0 ≤ r then 0 else f d
      rw [if_pos (hp d rfl)]
  | d :: ds, pv, m, ⟨v, g, X, C⟩, h1, h2, hp => by
    have lv := X.lt
    have g0 : d.rcv.getD 0 = v := by rw [X.rcv]; rfl
    have later := (ch_asc C).2
    rw [List.map_cons, List.sum_cons]
    by_cases c : d.first ≤ r
    · have el : lat pv (d :: ds) r = lat (some d) ds r := if_pos c
      rw [el]
      by_cases c2 : v ≤ r
      · rw [h2 d (List.mem_cons_self ..) (by omega), sum_sp C (fun e he => h1 e (List.mem_cons_of_mem _ he)) (fun e he => h2 e (List.mem_cons_of_mem _ he)) (fun d' e => by cases e; omega), Int.zero_add]
      · rw [lat_lt C (by omega), sum_zero fun e he => h1 e (List.mem_cons_of_mem _ he) (by have := later e he; omega)]
        show f d + 0 = if d.rcv.getD 0 ≤ r then 0 else f d
        rw [if_neg (by omega), Int.add_zero]
    · have el : lat pv (d :: ds) r = pv := if_neg c
      rw [el, h1 d (List.mem_cons_self ..) (by omega), sum_zero fun e he => h1 e (List.mem_cons_of_mem _ he) (by have := later e he; omega)]
      cases pv with
      | none => rfl
      | some d' =>
        show (0 : Int) + 0 = if d'.rcv.getD 0 ≤ r then 0 else f d'
        rw [if_pos (hp d' rfl)]
        rfl
theorem lat_mem {x : Int} : ∀ {ds : List SpD} {pv : Option SpD} {d : SpD}, lat pv ds x = some d → d ∈ ds ∨ pv = some d
  | [], pv, d, h => .inr h
  | e :: ds, pv, d, h => by
    by_cases c : e.first ≤ x
    · have el : lat pv (e :: ds) x = lat (some e) ds x := if_pos c
      rw [el] at h
      rcases lat_mem h with h | h
      · exact .inl (List.mem_cons_of_mem _ h)
      · cases h
        exact .inl (List.mem_cons_self ..)
    · have el : lat pv (e :: ds) x = pv := if_neg c
      rw [el] at h
      exact .inr h
theorem lat_first {x : Int} : ∀ {ds : List SpD} {pv : Option SpD} {d : SpD}, (∀ e, pv = some e → e.first ≤ x) → lat pv ds x = some d → d.first ≤ x
  | [], pv, d, hp, h => hp d h
  | e :: ds, pv, d, hp, h => by
    by_cases c : e.first ≤ x
    · have el : lat pv (e :: ds) x = lat (some e) ds x := if_pos c
      rw [el] at h
      exact lat_first (fun e' q => by cases q; exact c) h
    · have el : lat pv (e :: ds) x = pv := if_neg c
      rw [el] at h
      exact hp d h
theorem req_one {st ph r : Int} (s : 0 < st) (h : isRq st ph r) : reqsM st ph r (r + 1) = 1 := by
  obtain ⟨m, m0, rfl⟩ := (isRq_iff s).mp h
  unfold reqsM
  rw [show ph + m * st + 1 - ph = m * st + 1 by omega, show ph + m * st - ph = m * st by omega, stepsUp_cl, stepsUp_cl]
  have a1 := (cl_le (d := m * st) (n := m) s).mpr (Int.le_refl _)
  have a2 : m - 1 < cl (m * st) st := (cl_gt s).mpr (by rw [Int.sub_mul]; omega)
  have b1 := (cl_le (d := m * st + 1) (n := m + 1) s).mpr (by rw [Int.add_mul]; omega)
  have b2 : m < cl (m * st + 1) st := (cl_gt s).mpr (by omega)
  split <;> split <;> omega
theorem outK_lat {n : Nat} {D : Prop} {ds : List SpD} {r : Int} {k : Nat} (O : OutK n D (lat none ds r) r k) :
    (inSp ds r = false ∧ k = n ∧ ¬ D) ∨ ∃ d, lat none ds r = some d ∧ r < d.rcv.getD 0 ∧ inSp ds r = true ∧ (∀ i g, i < k → d.rs[i + 1]? = some g → inL g r) ∧ (k < n → ∀ g, d.rs[k + 1]? = some g → ¬ inL g r) ∧ (k = n → D) := by
  unfold inSp
  unfold OutK at O
  cases q : lat none ds r with
  | none => rw [q] at O; exact .inl ⟨rfl, O⟩
  | some d =>
    rw [q] at O
    have O : if d.rcv.getD 0 ≤ r then k = n ∧ ¬ D else (∀ i g, i < k → d.rs[i + 1]? = some g → inL g r) ∧ (k < n → ∀ g, d.rs[k + 1]? = some g → ¬ inL g r) ∧ (k = n → D) := O
    by_cases c : d.rcv.getD 0 ≤ r
    · rw [if_pos c] at O
      exact .inl ⟨decide_eq_false (by omega), O⟩
    · rw [if_neg c] at O
      exact .inr ⟨d, rfl, by omega, decide_eq_true (by omega), O⟩
/-- where a request of a spell comes -/
theorem sp_reach {bs : List Tri} {st ph r : Int} {d : SpD} (s0 : 0 < st) (S : SpOk bs st d) (rq : isRq st ph d.first) (hr : isRq st ph r) (fr : d.first ≤ r) {k : Nat} (kn : k ≤ bs.length) (o1 : ∀ i g, i < k → d.rs[i + 1]? = some g → inL g r) (o2 : k < bs.length → ∀ g, d.rs[k + 1]? = some g → ¬ inL g r)
    {b : Nat} {g : List Trn} (hg : d.rs[b]? = some g) : inL g r ↔ b ≤ k := by
  have hb := (List.getElem?_eq_some_iff.mp hg).1
  have rl := S.rl
  constructor
  · intro h
    by_cases c : b ≤ k
    · exact c
    · obtain ⟨g', hg'⟩ : ∃ g', d.rs[k + 1]? = some g' := ⟨_, List.getElem?_eq_getElem (by omega)⟩
      exact absurd (sub_chain S (b - (k + 1)) (k + 1) g' g hg' (by rw [show k + 1 + (b - (k + 1)) = b by omega]; exact hg) r h) (o2 (by omega) g' hg')
  · intro h
    cases b with
    | zero =>
      have := S.r0.symm.trans hg
      cases this
      exact (in_end s0 rq).mpr ⟨hr, fr⟩
    | succ i => exact o1 i g (by omega) hg
theorem ch_rq {os : List (Int × Int)} {bs : List Tri} {st ph : Int} : ∀ {ds : List SpD} {pv : Option SpD} {m : Int}, SpCh os bs st ph pv m ds → ∀ d ∈ ds, isRq st ph d.first ∧ dn os d.first ∧ ∃ v, d.rcv = some v ∧ d.first < v ∧ isRq st ph v ∧ ¬ dn os v
  | [], _, _, _, d, h => nomatch h
  | e :: r, _, _, ⟨v, g, X, C⟩, d, h => by
    rcases List.mem_cons.mp h with rfl | h
    · exact ⟨X.rq, X.dn, v, X.rcv, X.lt, X.vq, X.vu⟩
    · exact ch_rq C d h
section
variable {os : List (Int × Int)} {bs : List Tri} {st ph r : Int}
theorem cis_at (W : RowD bs st ph) (hv : VOut 0 os) (hl : os.length ≤ 50) (hr : isRq st ph r) {k : Nat} (kn : k ≤ bs.length) (O : OutK bs.length (dn os r) (lat none (spsOf bs st ph os) r) r k) {b : Nat} (hb : b ≤ bs.length) :
    cisM b r (r + 1) (spsOf bs st ph os) = if inSp (spsOf bs st ph os) r = true ∧ b ≤ k then 1 else 0 := by
  have C := sps_ch W hv
  have s0 : 0 < st := by have := W.s0; omega
  have hs : cisM b r (r + 1) (spsOf bs st ph os) = valF (cisD b r (r + 1)) r (lat none (spsOf bs st ph os) r) := by
    refine sum_sp C (fun d _ h => ?_) (fun d _ h => ?_) (fun d e => nomatch e)
    · unfold cisD mx2 mn2
      rw [if_neg (by (repeat' split) <;> omega)]
    · unfold cisD mx2 mn2
      rw [if_neg (by (repeat' split) <;> omega)]
  rw [hs]
  rcases outK_lat O with ⟨e, _, _⟩ | ⟨d, hd, hz, e, o1, o2, _⟩
  · rw [e, if_neg (fun z => Bool.false_ne_true z.1)]
    unfold inSp at e
    cases q : lat none (spsOf bs st ph os) r with
    | none => rfl
    | some d =>
      rw [q] at e
      have e : ¬ r < d.rcv.getD 0 := of_decide_eq_false e
      exact if_pos (by omega)
  · rw [e, hd]
    have hm : d ∈ spsOf bs st ph os := (lat_mem hd).resolve_right fun z => nomatch z
    have S := (sps_all W hv hl d hm).1
    have hf := lat_first (pv := none) (fun e z => nomatch z) hd
    have rl := S.rl
    obtain ⟨g, hg⟩ : ∃ g, d.rs[b]? = some g := ⟨_, List.getElem?_eq_getElem (by omega)⟩
    have hi := sp_reach s0 S (ch_rq C d hm).1 hr hf kn o1 o2 hg
    have sg := (S.run b g hg).srt
    show (if d.rcv.getD 0 ≤ r then 0 else cisD b r (r + 1) d) = _
    rw [if_neg (by omega)]
    unfold cisD
    have m1 : mx2 r d.first = r := by unfold mx2; split <;> omega
    have m2 : mn2 (r + 1) (d.rcv.getD 0) = r + 1 := by unfold mn2; split <;> omega
    rw [m1, m2, if_pos (by omega), hg]
    show NB g (r + 1) - NB g r = _
    by_cases c : b ≤ k
    · rw [if_pos ⟨rfl, c⟩, nb_in sg (hi.mpr c)]
      omega
    · rw [if_neg (fun z => c z.2), nb_out sg (fun z => c (hi.mp z))]
      omega
theorem top_at (W : RowD bs st ph) (hv : VOut 0 os) (hl : os.length ≤ 50) {b : Nat} (hb : b < bs.length) {s : StD} (hs : (stM bs st ph os r)[b]? = some s) :
    topM b r (r + 1) (spsOf bs st ph os) = if s.1 = "open" then 1 else 0 := by
  have C := sps_ch W hv
  have hs1 : topM b r (r + 1) (spsOf bs st ph os) = valF (topD b r (r + 1)) r (lat none (spsOf bs st ph os) r) := by
    refine sum_sp C (fun d hd h => ?_) (fun d hd h => ?_) (fun d e => nomatch e)
    · unfold topD
      cases ho : d.op[b]? with
      | none => rfl
      | some oo =>
        cases oo with
        | none => rfl
        | some o =>
          have := op_first (sps_all W hv hl d hd).1 ho
          show mx2 0 _ = 0
          unfold mx2 mn2
          (repeat' split) <;> omega
    · unfold topD
      cases ho : d.op[b]? with
      | none => rfl
      | some oo =>
        cases oo with
        | none => rfl
        | some o =>
          show mx2 0 _ = 0
          unfold mx2 mn2
          (repeat' split) <;> omega
  rw [hs1]
  unfold stM at hs
  cases q : lat none (spsOf bs st ph os) r with
  | none =>
    rw [q] at hs
    have hs : (List.replicate bs.length (("closed" : Str), (0 : Int)))[b]? = some s := hs
    rw [rep_get hb] at hs
    cases hs
    exact (if_neg sC_O).symm
  | some d =>
    rw [q] at hs
    have hm : d ∈ spsOf bs st ph os := (lat_mem q).resolve_right fun z => nomatch z
    obtain ⟨S, v, hv2⟩ := sps_all W hv hl d hm
    have g0 : d.rcv.getD 0 = v := by rw [hv2]; rfl
    by_cases c : d.rcv.getD 0 ≤ r
    · have e1 : stAt bs st (some d) r = stBeh bs st d r := if_pos c
      rw [e1] at hs
      have ol := S.ol
      obtain ⟨t, ht⟩ : ∃ t, bs[b]? = some t := ⟨_, List.getElem?_eq_getElem hb⟩
      obtain ⟨o, ho⟩ : ∃ o, d.op[b]? = some o := ⟨_, List.getElem?_eq_getElem (by omega)⟩
      rw [beh_get ht ho] at hs
      cases hs
      have e2 : valF (topD b r (r + 1)) r (some d) = 0 := if_pos c
      rw [e2]
      refine (if_neg ?_).symm
      unfold stB
      split
      · exact sH_O
      · exact sC_O
    · have e1 : stAt bs st (some d) r = stWs bs.length d r := if_neg c
      rw [e1, ws_get hb] at hs
      cases hs
      have e2 : valF (topD b r (r + 1)) r (some d) = topD b r (r + 1) d := if_neg c
      rw [e2]
      obtain ⟨t, s, g, g', o, B⟩ := br_of W.ok S hv2 hb
      rw [B.st (show r < v by omega)]
      unfold topD
      rw [B.ho, g0]
      by_cases c2 : o < v
      · rw [if_pos c2]
        show mx2 0 (mn2 (r + 1) v - mx2 r o) = _
        by_cases c3 : o ≤ r
        · rw [if_pos c3, if_pos rfl]
          unfold mx2 mn2
          (repeat' split) <;> omega
        · rw [if_neg c3, if_neg sC_O]
          unfold mx2 mn2
          (repeat' split) <;> omega
      · rw [if_neg c2, if_neg (show ¬ o ≤ r by omega), if_neg sC_O]
        rfl
end
/-! ### states between requests -/
theorem nb_gap {g : List Trn} (hs : Srt g) {a : Int} : ∀ n : Nat, (∀ y, a ≤ y → y < a + n → ¬ inL g y) → NB g (a + n) = NB g a
  | 0, _ => by rw [show a + ((0 : Nat) : Int) = a by omega]
  | n + 1, h => by
    have e : a + ((n + 1 : Nat) : Int) = a + n + 1 := by omega
    rw [e, nb_out hs (h (a + n) (by omega) (by omega)), nb_gap hs n fun y l1 l2 => h y l1 (by omega)]
theorem lat_same {x y : Int} : ∀ {ds : List SpD} {pv : Option SpD}, (∀ d ∈ ds, d.first ≤ x ↔ d.first ≤ y) → lat pv ds x = lat pv ds y
  | [], _, _ => rfl
  | d :: r, pv, h => by
    have h0 := h d (List.mem_cons_self ..)
    show (if d.first ≤ x then lat (some d) r x else pv) = (if d.first ≤ y then lat (some d) r y else pv)
    by_cases c : d.first ≤ x
    · rw [if_pos c, if_pos (h0.mp c), lat_same fun e he => h e (List.mem_cons_of_mem _ he)]
    · rw [if_neg c, if_neg fun z => c (h0.mpr z)]
theorem run_rq {bs : List Tri} {st ph : Int} {d : SpD} (s0 : 0 < st) (S : SpOk bs st d) (rq : isRq st ph d.first) {i : Nat} {g : List Trn} (hg : d.rs[i]? = some g) {x : Int} (h : inL g x) : isRq st ph x :=
  ((in_end s0 rq).mp (sub_chain S i 0 _ g S.r0 (by rw [Nat.zero_add]; exact hg) x h)).1
theorem rq_le {st ph a x y : Int} (s0 : 0 < st) (ha : isRq st ph a) (hx : isRq st ph x) (l1 : x ≤ y) (l2 : y < x + st) : a ≤ y ↔ a ≤ x := by
  constructor
  · intro h
    by_cases c : a ≤ x
    · exact c
    · have := rq_gap s0 hx ha (by omega)
      omega
  · intro h
    omega
theorem quo_gap {st ph v x y : Int} (s : 0 < st) (hv : isRq st ph v) (hx : isRq st ph x) (l1 : x ≤ y) (l2 : y < x + st) : (y - v) / st = (x - v) / st := by
  obtain ⟨m, m0, rfl⟩ := (isRq_iff s).mp hv
  obtain ⟨q, q0, rfl⟩ := (isRq_iff s).mp hx
  have e : ph + q * st - (ph + m * st) = (q - m) * st := by rw [Int.sub_mul]; omega
  have h1 : y - (ph + m * st) = (y - (ph + q * st)) + (q - m) * st := by
    rw [Int.sub_mul]
    omega
  rw [h1, Int.add_mul_ediv_right _ _ (by omega), e, Int.mul_ediv_cancel _ (by omega), Int.ediv_eq_zero_of_lt (by omega) (by omega), Int.zero_add]
theorem stM_gap {os : List (Int × Int)} {bs : List Tri} {st ph : Int} (W : RowD bs st ph) (hv : VOut 0 os) (hl : os.length ≤ 50) {x y : Int} (hx : isRq st ph x) (l1 : x ≤ y) (l2 : y < x + st) : stM bs st ph os y = stM bs st ph os x := by
  have s0 : 0 < st := by have := W.s0; omega
  have C := sps_ch W hv
  have e1 : lat none (spsOf bs st ph os) y = lat none (spsOf bs st ph os) x := lat_same fun d hd => rq_le s0 (ch_rq C d hd).1 hx l1 l2
  unfold stM
  rw [e1]
  cases q : lat none (spsOf bs st ph os) x with
  | none => rfl
  | some d =>
    have hm : d ∈ spsOf bs st ph os := (lat_mem q).resolve_right fun z => nomatch z
    obtain ⟨S, _⟩ := sps_all W hv hl d hm
    obtain ⟨rq, _, v, hrv, lv, vq, _⟩ := ch_rq C d hm
    have g0 : d.rcv.getD 0 = v := by rw [hrv]; rfl
    have iv := rq_le s0 vq hx l1 l2
    by_cases c : v ≤ x
    · have a1 : stAt bs st (some d) y = stBeh bs st d y := if_pos (by omega)
      have a2 : stAt bs st (some d) x = stBeh bs st d x := if_pos (by omega)
      rw [a1, a2]
      unfold stBeh
      rw [g0, quo_gap s0 vq hx l1 l2]
    · have a1 : stAt bs st (some d) y = stWs bs.length d y := if_neg (by omega)
      have a2 : stAt bs st (some d) x = stWs bs.length d x := if_neg (by omega)
      rw [a1, a2]
      unfold stWs
      refine List.map_congr_left fun i hi => ?_
      have hi : i < bs.length := List.mem_range.mp hi
      obtain ⟨b, s, g, g', o, B⟩ := br_of W.ok S hrv hi
      have no : ∀ {j : Nat} {g : List Trn}, d.rs[j]? = some g → NB g (y + 1) = NB g (x + 1) := fun {j g} hg => by
        have := nb_gap (S.run j g hg).srt (a := x + 1) (y - x).toNat fun z z1 z2 k => by
          have := rq_gap s0 hx (run_rq s0 S rq hg k) (by omega)
          omega
        rw [show x + 1 + ((y - x).toNat : Int) = y + 1 by omega] at this
        exact this
      have io := rq_le s0 (run_rq s0 S rq B.hg' B.ps.op) hx l1 l2
      rw [B.st (show x < v by omega), B.st (show y < v by omega)]
      by_cases c2 : o ≤ x
      · rw [if_pos c2, if_pos (io.mpr c2)]
        unfold luT
        rw [no B.hg']
      · rw [if_neg c2, if_neg (fun z => c2 (io.mp z)), no B.hg]
theorem stM_before {os : List (Int × Int)} {bs : List Tri} {st ph : Int} (W : RowD bs st ph) (hv : VOut 0 os) {x : Int} (l : x < ph) : stM bs st ph os x = List.replicate bs.length (("closed" : Str), (0 : Int)) := by
  have C := sps_ch W hv
  have e : lat none (spsOf bs st ph os) x = none := by
    cases q : spsOf bs st ph os with
    | nil => rfl
    | cons d r =>
      have := (ch_rq C d (by rw [q]; exact List.mem_cons_self ..)).1.1
      exact if_neg (by omega)
  unfold stM
  rw [e]
  rfl
theorem stM_ok {os : List (Int × Int)} {bs : List Tri} {st ph x : Int} : ∀ s ∈ stM bs st ph os x, okW s := by
  intro s hs
  unfold stM at hs
  cases q : lat none (spsOf bs st ph os) x with
  | none =>
    rw [q] at hs
    have := List.eq_of_mem_replicate hs
    rw [this]
    exact .inl rfl
  | some d =>
    rw [q] at hs
    by_cases c : d.rcv.getD 0 ≤ x
    · have a1 : stAt bs st (some d) x = stBeh bs st d x := if_pos c
      rw [a1] at hs
      obtain ⟨i, hi⟩ := List.mem_iff_getElem?.mp hs
      unfold stBeh at hi
      rw [List.getElem?_zipWith] at hi
      split at hi
      · cases hi
        unfold stB
        split
        · exact .inr (.inr rfl)
        · exact .inl rfl
      · cases hi
    · have a1 : stAt bs st (some d) x = stWs bs.length d x := if_neg c
      rw [a1] at hs
      obtain ⟨i, _, rfl⟩ := List.mem_map.mp hs
      unfold stW
      split
      · split
        · exact .inr (.inl rfl)
        · exact .inl rfl
      · exact .inl rfl
theorem stM_len {os : List (Int × Int)} {bs : List Tri} {st ph : Int} (W : RowD bs st ph) (hv : VOut 0 os) (hl : os.length ≤ 50) (x : Int) : (stM bs st ph os x).length = bs.length := by
  unfold stM
  cases q : lat none (spsOf bs st ph os) x with
  | none => exact List.length_replicate
  | some d =>
    have hm : d ∈ spsOf bs st ph os := (lat_mem q).resolve_right fun z => nomatch z
    obtain ⟨S, _⟩ := sps_all W hv hl d hm
    by_cases c : d.rcv.getD 0 ≤ x
    · have a1 : stAt bs st (some d) x = stBeh bs st d x := if_pos c
      rw [a1]
      exact beh_len S.ol
    · have a1 : stAt bs st (some d) x = stWs bs.length d x := if_neg c
      rw [a1]
      exact ws_len
/-! data -/
/-- the states that the rules give are the program's -/
theorem mix_step {bs : List Tri} {D : Prop} {r : Int} {old new : List StD} {k : Nat} (R : StepR bs D r old new k) {good : Bool} (hg : good = true ↔ ¬ D) : mixS bs old r (decide (k = bs.length) && good) k k = new := by
  have kn := R.kn
  have ol := R.ol
  have nl := R.nl
  refine List.ext_getElem? fun i => ?_
  by_cases c : i < bs.length
  · have hb : bs[i]? = some bs[i] := List.getElem?_eq_getElem c
    have hs : old[i]? = some (old[i]'(by omega)) := List.getElem?_eq_getElem (by omega)
    rw [mixS_get c, mixE_is hb hs]
    by_cases c1 : i < k
    · rw [if_pos c1]
      by_cases c2 : k = bs.length ∧ ¬ D
      · rw [if_pos (by rw [decide_eq_true c2.1, hg.mpr c2.2]; rfl), R.ok c2.1 c2.2 i _ _ hb hs]
      · have hd : k < bs.length ∨ D := by
          by_cases z : k = bs.length
          · by_cases d : D
            · exact .inr d
            · exact absurd ⟨z, d⟩ c2
          · exact .inl (by omega)
        rw [if_neg (fun z => c2 (by
          rw [Bool.and_eq_true, decide_eq_true_eq] at z
          exact ⟨z.1, hg.mp z.2⟩)), R.bd hd i _ _ c1 hb hs]
    · rw [if_neg c1, if_neg c1, R.kp (by omega) i (by omega), hs]
  · rw [List.getElem?_eq_none (by rw [mixS_len]; omega), List.getElem?_eq_none (by omega)]
theorem k_uniq {bs : List Tri} {D : Prop} {r : Int} {old new : List StD} {k k' : Nat} (R : StepR bs D r old new k) (kn : k' ≤ bs.length) (h1 : ∀ (i : Nat) (b : Tri) (s : StD), i < k' → bs[i]? = some b → old[i]? = some s → psB b s r) (h2 : ∀ (b : Tri) (s : StD), bs[k']? = some b → old[k']? = some s → ¬ psB b s r) : k' = k := by
  have ol := R.ol
  have kk := R.kn
  have get : ∀ i, i < bs.length → ∃ b s, bs[i]? = some b ∧ old[i]? = some s := fun i h => ⟨_, _, List.getElem?_eq_getElem h, List.getElem?_eq_getElem (by omega)⟩
  by_cases c : k' < k
  · obtain ⟨b, s, e1, e2⟩ := get k' (by omega)
    exact absurd (R.ps k' b s c e1 e2) (h2 b s e1 e2)
  · by_cases c2 : k < k'
    · obtain ⟨b, s, e1, e2⟩ := get k (by omega)
      exact absurd (h1 k b s c2 e1 e2) (R.rj b s e1 e2)
    · omega
theorem outK_uniq {os : List (Int × Int)} {bs : List Tri} {st ph r : Int} {D : Prop} {k k' : Nat} (W : RowD bs st ph) (hv : VOut 0 os) (hl : os.length ≤ 50) (kn : k ≤ bs.length) (kn' : k' ≤ bs.length) (O : OutK bs.length D (lat none (spsOf bs st ph os) r) r k) (O' : OutK bs.length D (lat none (spsOf bs st ph os) r) r k') : k' = k := by
  rcases outK_lat O with ⟨e, h, _⟩ | ⟨d, hd, hz, e, o1, o2, _⟩
  · rcases outK_lat O' with ⟨e', h', _⟩ | ⟨_, _, _, e', _⟩
    · omega
    · rw [e] at e'
      cases e'
  · rcases outK_lat O' with ⟨e', h', _⟩ | ⟨d', hd', _, e', p1, p2, _⟩
    · rw [e] at e'
      cases e'
    · rw [hd] at hd'
      cases hd'
      have hm : d ∈ spsOf bs st ph os := (lat_mem hd).resolve_right fun z => nomatch z
      have rl := (sps_all W hv hl d hm).1.rl
      have get : ∀ i, i < bs.length → ∃ g, d.rs[i + 1]? = some g := fun i h => ⟨_, List.getElem?_eq_getElem (by omega)⟩
      by_cases c : k' < k
      · obtain ⟨g, hg⟩ := get k' (by omega)
        exact absurd (o1 k' g c hg) (p2 (by omega) g hg)
      · by_cases c2 : k < k'
        · obtain ⟨g, hg⟩ := get k (by omega)
          exact absurd (p1 k g c2 hg) (o2 (by omega) g hg)
        · omega
theorem outD_flag {n k : Nat} {a b : Bool} (kn : k ≤ n) (h : k = n → a = b) : outD n k a = outD n k b := by
  unfold outD
  by_cases c : k < n
  · rw [if_pos c, if_pos c]
  · rw [if_neg c, if_neg c, h (by omega)]
theorem dn_app {a : List (Int × Int)} {o : Int × Int} {x : Int} : dn (a ++ [o]) x ↔ dn a x ∨ (o.1 ≤ x ∧ x < o.2) := by
  constructor
  · rintro ⟨u, hu, h⟩
    rcases List.mem_append.mp hu with hu | hu
    · exact .inl ⟨u, hu, h⟩
    · rw [List.mem_singleton.mp hu] at h
      exact .inr h
  · rintro (⟨u, hu, h⟩ | h)
    · exact ⟨u, List.mem_append_left _ hu, h⟩
    · exact ⟨o, List.mem_append_right _ (List.mem_cons_self ..), h⟩
/-! ### parts of a timeline -/
theorem TLV.row {CR CS C : Addr} {H : Hp} {p : Addr} {ts : List Tri} {st ph : Int} {os : List (Int × Int)} (Y : TLV CR CS C H p ts st ph os) : ∃ r B xs, RowAt CR H r B xs ts st ph := by
  obtain ⟨aR, B, aO, aS, aF, aM, xs, ys, zs, ms, X⟩ := Y
  exact ⟨aR, B, xs, X.row⟩
theorem TLV.vo {CR CS C : Addr} {H : Hp} {p : Addr} {ts : List Tri} {st ph : Int} {os : List (Int × Int)} (Y : TLV CR CS C H p ts st ph os) : VOut 0 os ∧ os.length ≤ 50 := by
  obtain ⟨aR, B, aO, aS, aF, aM, xs, ys, zs, ms, X⟩ := Y
  exact ⟨X.vo, X.ol⟩
theorem TLV.has {CR CS C : Addr} {H : Hp} {p : Addr} {ts : List Tri} {st ph : Int} {os : List (Int × Int)} (Y : TLV CR CS C H p ts st ph os) : ∃ dx aR aO aS aF aM, H p = some (.ins C dx (tlF aR aO aS aF aM)) := by
  obtain ⟨aR, B, aO, aS, aF, aM, xs, ys, zs, ms, X⟩ := Y
  obtain ⟨dx, h⟩ := X.ob
  exact ⟨dx, aR, aO, aS, aF, aM, h⟩
/-! ### the marks of a timeline -/
def spTLen (CR CS C : Addr) : Sp := fun vs H Q _ => ∃ p ts st ph os, vs = [.ref p] ∧ TLV CR CS C H p ts st ph os ∧ Q (.int ((spsOf ts st ph os).length : Nat)) H
def spTGet (CR CS C : Addr) : Sp := fun vs H Q _ => ∃ p ts st ph os, ∃ i : Nat, vs = [.ref p, .int i] ∧ TLV CR CS C H p ts st ph os ∧ ∃ m, (mkM ts st (spsOf ts st ph os))[i]? = some m ∧ ∀ x, MkAt H x m → Q x H
section
variable {P : Program} {w : World} {K : PySem.W.Frag} {mg : Str → Option Value} {base : Heap} {L : LA}
abbrev N_Timelinelen : List Str := ["self"]
theorem sc_Timelinelen : FnScope N_Timelinelen ["self"] (defScope st_Timeline_len) := ⟨rfl, rfl, rfl, by decide +kernel, rfl, by decide +kernel, by decide +kernel⟩
theorem fn_Timelinelen (T : LX K mg L) {fd : FuncData} (F : Fun K "__len__" "Timeline.__len__" st_Timeline_len L.m_Timeline_len fd) : FnOk P w K mg base CX0 1 L.m_Timeline_len fd ["self"] (spTLen L.c_Row L.c_Spell L.c_Timeline) := by
  have nd := sc_Timelinelen.nd
  refine F.ok sc_Timelinelen (fun vs H Q E h => ?_) (fun cdv A outer S H vs Q E hr h => ?_)
  · obtain ⟨p, ts, st, ph, os, rfl, _⟩ := h
    rfl
  · obtain ⟨p, ts, st, ph, os, rfl, ⟨aR, B, aO, aS, aF, aM, xs, ys, zs, ms, X⟩, k⟩ := h
    refine ⟨_, (pss_one (ps_ret (pe_callB call_len_seq (by rfl) T.b_len PySem.boot_len (pa_cons (pe_fld (pv 0) rfl) pa_nil)))), ?_⟩
    obtain ⟨dx, hp⟩ := X.ob
    have zl := paired_len X.oS
    refine ⟨_, rfl, p, L.c_Timeline, dx, _, _, rfl, hp, T.cf_Timeline.cl, T.nf_Timeline_spells, tlF_sp _ _ _ _ _, aS, zs, rfl, .inl (SqL.of X.hS), ?_⟩
    rw [zl]
    exact k
theorem ok_Timelinelen (T : LX K mg L) : Met P w K mg base L.c_Timeline "__len__" 1 L.m_Timeline_len ["self"] (spTLen L.c_Row L.c_Spell L.c_Timeline) := T.mm_Timeline_len.met fun fd F => fn_Timelinelen T F
abbrev N_Timelinegetitem : List Str := ["self", "at"]
theorem sc_Timelinegetitem : FnScope N_Timelinegetitem ["self", "at"] (defScope st_Timeline_getitem) := ⟨rfl, rfl, rfl, by decide +kernel, rfl, by decide +kernel, by decide +kernel⟩
theorem fn_Timelinegetitem (T : LX K mg L) {fd : FuncData} (F : Fun K "__getitem__" "Timeline.__getitem__" st_Timeline_getitem L.m_Timeline_getitem fd) : FnOk P w K mg base CX0 3 L.m_Timeline_getitem fd ["self", "at"] (spTGet L.c_Row L.c_Spell L.c_Timeline) := by
  have G_iswithin := ok_iswithin (P := P) (w := w) (base := base) T
  have nd := sc_Timelinegetitem.nd
  refine F.ok sc_Timelinegetitem (fun vs H Q E h => ?_) (fun cdv A outer S H vs Q E hr h => ?_)
  · obtain ⟨p, ts, st, ph, os, i, rfl, _⟩ := h
    rfl
  · obtain ⟨p, ts, st, ph, os, i, rfl, ⟨aR, B, aO, aS, aF, aM, xs, ys, zs, ms, X⟩, m, hm, k⟩ := h
    refine ⟨_, (pss_cons (ps_if (pt_not (pt_val (pe_c G_iswithin (hr.mono (by decide)) rfl (pa_cons (pv 1) (pa_cons pe_int (pa_cons (pe_op op_sub (pe_callB call_len_seq (by rfl) T.b_len PySem.boot_len (pa_cons (pe_fld (pv 0) rfl) pa_nil)) pe_int) pa_nil)))))) (pss_one (ps_never)) pss_nil)
       (pss_one (ps_ret (pe_ix (r := rIxL K) ix_list (pe_fld (pv 0) rfl) (pv 1) (fun _ _ => rfl))))), ?_⟩
    obtain ⟨dx, hp⟩ := X.ob
    have ml := paired_len X.oM
    have hi := (List.getElem?_eq_some_iff.mp hm).1
    obtain ⟨x, hx, hxm⟩ := paired_get2 X.oM hm
    refine ⟨_, rfl, _, rfl, p, L.c_Timeline, dx, _, _, rfl, hp, T.cf_Timeline.cl, T.nf_Timeline_marks, tlF_ma _ _ _ _ _, aM, ms, rfl, .inl (SqL.of X.hM), _, _, rfl, rfl, _, _, _, _, rfl, .int _, _, rfl, ?_⟩
    show if (!(decide ((0 : Int) ≤ i) && decide ((i : Int) ≤ (ms.length : Int) - 1))) = true then _ else _
    rw [k6_pos (by omega) (by omega)]
    exact iteF ⟨_, rfl, p, L.c_Timeline, dx, _, _, rfl, hp, T.cf_Timeline.cl, T.nf_Timeline_marks, tlF_ma _ _ _ _ _, _, rfl, aM, ms, _, x, rfl, rfl, SqL.of X.hM, atI_nat hx, k x hxm⟩
theorem ok_Timelinegetitem (T : LX K mg L) : Met P w K mg base L.c_Timeline "__getitem__" 3 L.m_Timeline_getitem ["self", "at"] (spTGet L.c_Row L.c_Spell L.c_Timeline) := T.mm_Timeline_getitem.met fun fd F => fn_Timelinegetitem T F
end
/-! ### facts of each spell -/
theorem no_open {os : List (Int × Int)} {bs : List Tri} {st ph x : Int} (h : inSp (spsOf bs st ph os) x = false) : ∀ s ∈ stM bs st ph os x, s.1 ≠ "open" := by
  intro s hs
  unfold inSp at h
  unfold stM at hs
  cases q : lat none (spsOf bs st ph os) x with
  | none =>
    rw [q] at hs
    have := List.eq_of_mem_replicate hs
    rw [this]
    exact sC_O
  | some d =>
    rw [q] at hs h
    have c : d.rcv.getD 0 ≤ x := by
      have h : decide (x < d.rcv.getD 0) = false := h
      have := of_decide_eq_false h
      omega
    have a1 : stAt bs st (some d) x = stBeh bs st d x := if_pos c
    rw [a1] at hs
    obtain ⟨i, hi⟩ := List.mem_iff_getElem?.mp hs
    unfold stBeh at hi
    rw [List.getElem?_zipWith] at hi
    split at hi
    · cases hi
      unfold stB
      split
      · exact sH_O
      · exact sC_O
    · cases hi
theorem ch_next {os : List (Int × Int)} {bs : List Tri} {st ph : Int} : ∀ {ds : List SpD} {pv : Option SpD} {m : Int}, SpCh os bs st ph pv m ds → ∀ {i : Nat} {d e : SpD}, ds[i]? = some d → ds[i + 1]? = some e → d.rcv.getD 0 < e.first
  | [], _, _, _, i, d, e, h, _ => by cases h
  | u :: r, pv, m, ⟨v, g, X, C⟩, 0, d, e, h, h' => by
    cases h
    have g0 : u.rcv.getD 0 = v := by rw [X.rcv]; rfl
    have := (ch_asc C).2 e (List.mem_of_getElem? (show r[0]? = some e from h'))
    omega
  | u :: r, pv, m, ⟨v, g, X, C⟩, i + 1, d, e, h, h' => ch_next C (i := i) h h'
theorem lat_at {os : List (Int × Int)} {bs : List Tri} {st ph : Int} {ds : List SpD} {m : Int} (C : SpCh os bs st ph none m ds) {i : Nat} {d : SpD} (hd : ds[i]? = some d) {x : Int} (h1 : d.first ≤ x) (h2 : ∀ e, ds[i + 1]? = some e → x < e.first) : lat none ds x = some d := by
  have hi := (List.getElem?_eq_some_iff.mp hd).1
  have asc := List.pairwise_iff_getElem.mp (ch_asc C).1
  have ord : ∀ {a b : Nat} {u w : SpD}, ds[a]? = some u → ds[b]? = some w → a < b → u.first < w.first := fun {a b u w} ha hb l => by
    obtain ⟨a1, a2⟩ := List.getElem?_eq_some_iff.mp ha
    obtain ⟨b1, b2⟩ := List.getElem?_eq_some_iff.mp hb
    have := asc a b (by rw [List.length_map]; exact a1) (by rw [List.length_map]; exact b1) l
    rw [List.getElem_map, List.getElem_map, a2, b2] at this
    exact this
  rw [lat_idx ds none (i + 1) x hi fun j u hj => ?_]
  · exact hd
  · constructor
    · intro l
      by_cases e : j = i
      · subst e
        rw [hd] at hj
        cases hj
        exact h1
      · have := ord hj hd (by omega)
        omega
    · intro l
      by_cases c : j < i + 1
      · exact c
      · obtain ⟨e, he⟩ : ∃ e, ds[i + 1]? = some e := ⟨_, List.getElem?_eq_getElem (by have := (List.getElem?_eq_some_iff.mp hj).1; omega)⟩
        have h3 := h2 e he
        by_cases q : j = i + 1
        · subst q
          rw [hj] at he
          cases he
          omega
        · have := ord he hj (by omega)
          omega
theorem sum_one {f : SpD → Int} : ∀ {ds : List SpD} {i : Nat} {d : SpD}, ds[i]? = some d → (∀ j e, ds[j]? = some e → j ≠ i → f e = 0) → (ds.map f).sum = f d
  | [], i, d, h, _ => by cases h
  | u :: r, 0, d, h, z => by
    cases h
    rw [List.map_cons, List.sum_cons, sum_zero fun e he => ?_]
    · omega
    · obtain ⟨j, hj⟩ := List.mem_iff_getElem?.mp he
      exact z (j + 1) e hj (by omega)
  | u :: r, i + 1, d, h, z => by
    rw [List.map_cons, List.sum_cons, z 0 u rfl (by omega), sum_one (i := i) h fun j e hj ne => z (j + 1) e hj (by omega)]
    omega
section
variable {os : List (Int × Int)} {bs : List Tri} {st ph : Int}
theorem sp_lats (W : RowD bs st ph) (hv : VOut 0 os) {i : Nat} {d : SpD} (hd : (spsOf bs st ph os)[i]? = some d) {v : Int} (hr : d.rcv = some v) :
    inSp (spsOf bs st ph os) d.first = true ∧ inSp (spsOf bs st ph os) v = false ∧ inSp (spsOf bs st ph os) (d.first - 1) = false ∧ lat none (spsOf bs st ph os) d.first = some d := by
  have C := sps_ch W hv
  have hm := List.mem_of_getElem? hd
  obtain ⟨rq, _, v', hr', lv, _⟩ := ch_rq C d hm
  rw [hr] at hr'
  cases hr'
  have g0 : d.rcv.getD 0 = v := by rw [hr]; rfl
  have nx : ∀ e, (spsOf bs st ph os)[i + 1]? = some e → v < e.first := fun e he => by
    have := ch_next C hd he
    omega
  have l1 := lat_at C hd (Int.le_refl _) fun e he => by have := nx e he; omega
  have l2 := lat_at C hd (Int.le_of_lt lv) nx
  refine ⟨?_, ?_, ?_, l1⟩
  · unfold inSp
    rw [l1]
    exact decide_eq_true (by omega)
  · unfold inSp
    rw [l2]
    exact decide_eq_false (by omega)
  · unfold inSp
    cases i with
    | zero =>
      have e : lat none (spsOf bs st ph os) (d.first - 1) = none := by
        cases q : spsOf bs st ph os with
        | nil => rfl
        | cons u r =>
          rw [q] at hd
          cases hd
          exact if_neg (by omega)
      rw [e]
    | succ j =>
      have hj := (List.getElem?_eq_some_iff.mp hd).1
      obtain ⟨u, hu⟩ : ∃ u, (spsOf bs st ph os)[j]? = some u := ⟨_, List.getElem?_eq_getElem (by omega)⟩
      have h1 := ch_next C hu hd
      obtain ⟨_, _, vu, hru, lu, _⟩ := ch_rq C u (List.mem_of_getElem? hu)
      have gu : u.rcv.getD 0 = vu := by rw [hru]; rfl
      rw [lat_at C hu (x := d.first - 1) (by omega) fun e he => by
        rw [hd] at he
        cases he
        omega]
      exact decide_eq_false (by omega)
theorem sp_reqs (W : RowD bs st ph) (hv : VOut 0 os) (hl : os.length ≤ 50) {d : SpD} (hd : d ∈ spsOf bs st ph os) {v : Int} (hr : d.rcv = some v) {f a : Int} (hf : f ≤ d.first) (ha : v ≤ a) : cisD 0 f a d = reqsM st ph d.first v := by
  have C := sps_ch W hv
  have s0 : 0 < st := by have := W.s0; omega
  obtain ⟨rq, _, v', hr', lv, vq, _⟩ := ch_rq C d hd
  rw [hr] at hr'
  cases hr'
  have S := (sps_all W hv hl d hd).1
  unfold cisD
  have g0 : d.rcv.getD 0 = v := by rw [hr]; rfl
  have m1 : mx2 f d.first = d.first := by unfold mx2; split <;> omega
  have m2 : mn2 a v = v := by unfold mn2; split <;> omega
  rw [g0, m1, m2, if_pos lv, S.r0]
  obtain ⟨m, m0, em⟩ := (isRq_iff s0).mp rq
  obtain ⟨q, q0, eq⟩ := (isRq_iff s0).mp vq
  have mq : m < q := by
    by_cases c : m < q
    · exact c
    · have := Int.mul_le_mul_of_nonneg_right (show q ≤ m by omega) (show 0 ≤ st by omega)
      omega
  have ups : ∀ z : Int, 0 ≤ z → stepsUp (z * st) st = z := fun z hz => by
    rw [stepsUp_cl]
    have a1 := (cl_le (d := z * st) (n := z) s0).mpr (Int.le_refl _)
    have a2 : z - 1 < cl (z * st) st := (cl_gt s0).mpr (by rw [Int.sub_mul]; omega)
    split <;> omega
  show (nbT (d.first, st, none) v + 0) - (nbT (d.first, st, none) d.first + 0) = _
  have e1 : nbT (d.first, st, none) v = stepsUp (v - d.first) st := rfl
  have e2 : nbT (d.first, st, none) d.first = stepsUp (d.first - d.first) st := rfl
  unfold reqsM
  rw [e1, e2, show v - d.first = (q - m) * st by rw [Int.sub_mul]; omega, show d.first - d.first = 0 * st by omega, show v - ph = q * st by omega, show d.first - ph = m * st by omega, ups _ (by omega), ups _ (by omega), ups _ q0, ups _ m0]
  omega
theorem sp_cis (W : RowD bs st ph) (hv : VOut 0 os) (hl : os.length ≤ 50) {i : Nat} {d : SpD} (hd : (spsOf bs st ph os)[i]? = some d) {v : Int} (hr : d.rcv = some v) : cisM 0 d.first v (spsOf bs st ph os) = reqsM st ph d.first v := by
  have C := sps_ch W hv
  rw [← sp_reqs W hv hl (List.mem_of_getElem? hd) hr (Int.le_refl _) (Int.le_refl _)]
  have asc := List.pairwise_iff_getElem.mp (ch_asc C).1
  have g0 : d.rcv.getD 0 = v := by rw [hr]; rfl
  refine sum_one hd fun j e he ne => ?_
  have ord : ∀ (n a : Nat) {u w : SpD}, (spsOf bs st ph os)[a]? = some u → (spsOf bs st ph os)[a + n + 1]? = some w → u.rcv.getD 0 < w.first := fun n => by
    induction n with
    | zero => exact fun a u w hu hw => ch_next C hu hw
    | succ n ih =>
      intro a u w hu hw
      have hl := (List.getElem?_eq_some_iff.mp hw).1
      obtain ⟨x, hx⟩ : ∃ x, (spsOf bs st ph os)[a + n + 1]? = some x := ⟨_, List.getElem?_eq_getElem (by omega)⟩
      have h1 := ih a hu hx
      have h2 := ch_next C hx hw
      obtain ⟨_, _, vx, hrx, lx, _⟩ := ch_rq C x (List.mem_of_getElem? hx)
      rw [hrx] at h2
      have h2 : vx < w.first := h2
      omega
  unfold cisD
  by_cases c : j < i
  · have := ord (i - j - 1) j he (by rw [show j + (i - j - 1) + 1 = i by omega]; exact hd)
    rw [if_neg]
    unfold mx2 mn2
    (repeat' split) <;> omega
  · have := ord (j - i - 1) i hd (by rw [show i + (j - i - 1) + 1 = j by omega]; exact he)
    rw [if_neg]
    unfold mx2 mn2
    (repeat' split) <;> omega
/-! when all is closed again -/
theorem nd_le {d : SpD} {i : Nat} {b : Tri} {o : Int} (hb : bs[i]? = some b) (ho : d.op[i]? = some (some o)) : b.2.2 ≤ mxL (ndL bs d) := by
  have hm : (b, some o) ∈ bs.zip d.op := by
    refine List.mem_of_getElem? (i := i) ?_
    rw [List.getElem?_zip_eq_some]
    exact ⟨hb, ho⟩
  exact (mxL_fold (ndL bs d) 1).1 _ (List.mem_map.mpr ⟨(b, some o), List.mem_filter.mpr ⟨hm, rfl⟩, rfl⟩)
theorem nd_one {d : SpD} (h : mxL (ndL bs d) ≠ 1) : ∃ (i : Nat) (b : Tri) (o : Int), bs[i]? = some b ∧ d.op[i]? = some (some o) ∧ b.2.2 = mxL (ndL bs d) := by
  rcases (mxL_fold (ndL bs d) 1).2.2 with e | e
  · exact absurd e h
  · obtain ⟨⟨b, oo⟩, hm, e2⟩ := List.mem_map.mp e
    obtain ⟨h1, h2⟩ := List.mem_filter.mp hm
    obtain ⟨i, hi⟩ := List.mem_iff_getElem?.mp h1
    rw [List.getElem?_zip_eq_some] at hi
    cases oo with
    | none => cases h2
    | some o => exact ⟨i, b, o, hi.1, hi.2, e2⟩
theorem whole_closed (W : RowD bs st ph) (hv : VOut 0 os) (hl : os.length ≤ 50) {i : Nat} {d : SpD} (hd : (spsOf bs st ph os)[i]? = some d) {v : Int} (hr : d.rcv = some v) (nx : ∀ e, (spsOf bs st ph os)[i + 1]? = some e → whM bs st d < e.first) :
    v ≤ whM bs st d ∧ stM bs st ph os (whM bs st d) = List.replicate bs.length (("closed" : Str), (0 : Int)) ∧ (whM bs st d ≠ v → v ≤ whM bs st d - st ∧ ∃ s ∈ stM bs st ph os (whM bs st d - st), s.1 = "half") := by
  have C := sps_ch W hv
  have s0 : 0 < st := by have := W.s0; omega
  have hm := List.mem_of_getElem? hd
  obtain ⟨rq, _, v', hr', lv, vq, _⟩ := ch_rq C d hm
  rw [hr] at hr'
  cases hr'
  have S := (sps_all W hv hl d hm).1
  have ol := S.ol
  have g0 : d.rcv.getD 0 = v := by rw [hr]; rfl
  have m1 : 1 ≤ mxL (ndL bs d) := (mxL_fold (ndL bs d) 1).2.1
  obtain ⟨M, hM⟩ : ∃ M, M = mxL (ndL bs d) := ⟨_, rfl⟩
  have ew : whM bs st d = v + (M - 1) * st := by unfold whM; rw [g0, hM]
  have mn : 0 ≤ (M - 1) * st := Int.mul_nonneg (by omega) (by omega)
  have lw : v ≤ whM bs st d := by omega
  have quo : ∀ z : Int, (v + z * st - v) / st = z := fun z => by
    rw [show v + z * st - v = z * st by omega]
    exact Int.mul_ediv_cancel _ (by omega)
  refine ⟨lw, ?_, fun ne => ?_⟩
  · unfold stM
    rw [lat_at C hd (by omega) nx]
    have a1 : stAt bs st (some d) (whM bs st d) = stBeh bs st d (whM bs st d) := if_pos (by omega)
    rw [a1]
    refine List.ext_getElem? fun j => ?_
    by_cases c : j < bs.length
    · have hb : bs[j]? = some bs[j] := List.getElem?_eq_getElem c
      have ho : d.op[j]? = some (d.op[j]'(by omega)) := List.getElem?_eq_getElem (by omega)
      rw [beh_get hb ho, rep_get c, g0, ew, quo]
      refine congrArg some (if_neg fun z => ?_)
      obtain ⟨z1, z2⟩ := z
      obtain ⟨o, eo⟩ := Option.isSome_iff_exists.mp z1
      have := nd_le hb (by rw [ho, eo])
      omega
    · rw [List.getElem?_eq_none (by rw [beh_len ol]; omega), List.getElem?_eq_none (by rw [List.length_replicate]; omega)]
  · have m2 : M ≠ 1 := fun e => ne (by rw [ew, e]; omega)
    obtain ⟨j, b, o, hb, ho, eb⟩ := nd_one (bs := bs) (d := d) (by omega)
    have e2 : whM bs st d - st = v + (M - 2) * st := by rw [ew, Int.sub_mul, Int.sub_mul]; omega
    have mn2 : 0 ≤ (M - 2) * st := Int.mul_nonneg (by omega) (by omega)
    refine ⟨by omega, ("half", M - 1), ?_, rfl⟩
    unfold stM
    rw [lat_at C hd (by omega) fun e he => by have := nx e he; omega]
    have a1 : stAt bs st (some d) (whM bs st d - st) = stBeh bs st d (whM bs st d - st) := if_pos (by omega)
    rw [a1]
    refine List.mem_of_getElem? (i := j) ?_
    rw [beh_get hb ho, g0, e2, quo, show M - 2 + 1 = M - 1 by omega]
    exact congrArg some (if_pos ⟨rfl, by omega⟩)
end
/-! ### how long it takes until the next time -/
def Gap (g : List Trn) (fr G : Int) : Prop := ∀ y x, fr ≤ y → nxT g y = some x → x ≤ y + G
theorem gap_end {fr st : Int} (s : 0 < st) (hs : Srt [(fr, st, none)]) : Gap [(fr, st, none)] fr st := by
  intro y x hy hx
  have r0 : isRq st fr fr := (isRq_iff s).mpr ⟨0, Int.le_refl _, by omega⟩
  obtain ⟨x1, x2, x3⟩ := (nx_iff hs).mp hx
  obtain ⟨q1, q2⟩ := (in_end s r0).mp x1
  by_cases c : x ≤ y + st
  · exact c
  · obtain ⟨m, m0, e⟩ := (isRq_iff s).mp q1
    have m1 : 1 ≤ m := by
      by_cases z : 1 ≤ m
      · exact z
      · have : m = 0 := by omega
        subst this
        omega
    have e2 : x - st = fr + (m - 1) * st := by rw [Int.sub_mul]; omega
    have := x3 (x - st) ((in_end s r0).mpr ⟨(isRq_iff s).mpr ⟨m - 1, by omega, e2⟩, by omega⟩) (by omega)
    omega
theorem gap_step {g g' : List Trn} {fr G o wt : Int} (hs : Srt g) (hs' : Srt g') (hT : Tot g = none) (P : PassOk g g' o wt) (fo : fr ≤ o) (w1 : 0 ≤ wt) (h : Gap g fr G) : Gap g' fr (wt + G) := by
  intro y x hy hx
  obtain ⟨x1, x2, x3⟩ := (nx_iff hs').mp hx
  by_cases c : y ≤ o
  · obtain ⟨z, hz⟩ := nx_end hs hT y
    obtain ⟨z1, z2, z3⟩ := (nx_iff hs).mp hz
    have hzG := h y z hy hz
    by_cases q : z ≤ o
    · have := x3 z (P.low z q z1) z2
      omega
    · have := x3 o P.op c
      omega
  · obtain ⟨p, hp⟩ := luT_some hs' P.op (show o ≤ y - 1 by omega)
    obtain ⟨p1, p2, p3⟩ := luT_spec hs' hp
    have op := p3 o P.op (by omega)
    have e := P.nxt p p1 op
    obtain ⟨z, hz⟩ := nx_end hs hT (p + wt)
    rw [hz] at e
    obtain ⟨z1, z2, z3⟩ := (nx_iff hs').mp e
    have hzG := h (p + wt) z (by omega) hz
    have yz : y ≤ z := by
      by_cases q : y ≤ z
      · exact q
      · have := p3 z z1 (by omega)
        omega
    have := x3 z z1 yz
    omega
theorem gap_run {bs : List Tri} {st : Int} {d : SpD} (S : SpOk bs st d) (s : 0 < st) {B : Int} (hB : ∀ b ∈ bs, 0 ≤ b.2.1 ∧ b.2.1 ≤ B) : ∀ (i : Nat) (g : List Trn), d.rs[i]? = some g → Gap g d.first (st + B * i)
  | 0, g, h => by
    have := S.r0.symm.trans h
    cases this
    have := gap_end (fr := d.first) s (S.run 0 _ h).srt
    rw [show st + B * ((0 : Nat) : Int) = st by simp]
    exact this
  | i + 1, g', h' => by
    have hl := (List.getElem?_eq_some_iff.mp h').1
    obtain ⟨g, h⟩ : ∃ g, d.rs[i]? = some g := ⟨_, List.getElem?_eq_getElem (by omega)⟩
    obtain ⟨os, o, b, s', C, _⟩ := S.stp i g g' h h'
    have R := S.run i g h
    obtain ⟨b0, b1⟩ := hB b (List.mem_of_getElem? C.hb)
    have G := gap_step R.srt (S.run _ g' h').srt R.en C.ps C.fo b0 (gap_run S s hB i g h)
    intro y x hy hx
    have := G y x hy hx
    have e : B * ((i + 1 : Nat) : Int) = B * (i : Int) + B := by rw [Int.natCast_add, Int.mul_add]; simp
    omega
theorem ch_x {os : List (Int × Int)} {bs : List Tri} {st ph : Int} : ∀ {ds : List SpD} {pv : Option SpD} {m : Int}, SpCh os bs st ph pv m ds → ∀ d ∈ ds, ∃ pv m v g, SpX os bs st ph pv m d v g
  | [], _, _, _, d, h => nomatch h
  | e :: r, pv, m, ⟨v, g, X, C⟩, d, h => by
    rcases List.mem_cons.mp h with rfl | h
    · exact ⟨pv, m, v, g, X⟩
    · exact ch_x C d h
theorem rcv_le {os : List (Int × Int)} {bs : List Tri} {st ph : Int} (W : RowD bs st ph) (hv : VOut 0 os) (hl : os.length ≤ 50) {B E : Int} (hB : ∀ b ∈ bs, 0 ≤ b.2.1 ∧ b.2.1 ≤ B) (hE : ∀ o ∈ os, o.2 ≤ E) {d : SpD} (hd : d ∈ spsOf bs st ph os) {v : Int} (hr : d.rcv = some v) : d.first < E ∧ v ≤ E + (st + B * bs.length) := by
  have s0 : 0 < st := by have := W.s0; omega
  have S := (sps_all W hv hl d hd).1
  obtain ⟨_, _, v', g, X⟩ := ch_x (sps_ch W hv) d hd
  have e := X.rcv
  rw [hr] at e
  cases e
  have R := S.run _ g X.rl
  obtain ⟨o, ho, o1, o2⟩ := X.dn
  have := hE o ho
  have fE : d.first ≤ E := by omega
  obtain ⟨x, hx⟩ := nx_end R.srt R.en E
  have hG := gap_run S s0 hB _ g X.rl E x fE hx
  obtain ⟨x1, x2, _⟩ := (nx_iff R.srt).mp hx
  refine ⟨by omega, ?_⟩
  by_cases c : v ≤ x
  · omega
  · obtain ⟨o', ho', a1, a2⟩ := X.ins x x1 (by omega)
    have := hE o' ho'
    omega
theorem wh_le {bs : List Tri} {st ph : Int} (W : RowD bs st ph) {d : SpD} {v M : Int} (hr : d.rcv = some v) (hM : ∀ b ∈ bs, b.2.2 ≤ M) (M1 : 1 ≤ M) : whM bs st d ≤ v + (M - 1) * st := by
  have h := mxL_bd (l := ndL bs d) (B := M) (fun y hy => by
    unfold ndL at hy
    obtain ⟨⟨b, o⟩, hm, e⟩ := List.mem_map.mp hy
    have := (List.of_mem_zip (List.mem_filter.mp hm).1).1
    rw [← e]
    exact hM b this) M1
  unfold whM
  have g0 : d.rcv.getD 0 = v := by rw [hr]; rfl
  rw [g0]
  have := Int.mul_le_mul_of_nonneg_right (show mxL (ndL bs d) - 1 ≤ M - 1 by omega) (show 0 ≤ st by have := W.s0; omega)
  omega
/-! ### rules inside comprehensions -/
theorem call_lenK {X : Cx} {K : PySem.W.Frag} (h : X.K = K) : CallR X (.builtin "len") (fun xs H Q => ∃ p ys, xs = [.ref p] ∧ (SqL K H p ys ∨ SqT K H p ys) ∧ Q (.int ys.length) H) := h ▸ call_len_seq
theorem call_listK {X : Cx} {K : PySem.W.Frag} (h : X.K = K) : CallR X (.type "list") (fun xs H Q => ∃ p ys, xs = [.ref p] ∧ (SqL K H p ys ∨ SqT K H p ys) ∧ ∀ l, H l = none → Q (.ref l) (upd H l (.lst ys))) := h ▸ call_list_of
theorem op_neDK {X : Cx} {K : PySem.W.Frag} (h : X.K = K) (hu : X.A.units + 64 < cLine) : OpR X (compareOp .NotEq) (rNeD K) := h ▸ op_neD hu
theorem op_eqDK {X : Cx} {K : PySem.W.Frag} (h : X.K = K) (hu : X.A.units + 64 < cLine) : OpR X (compareOp .Eq) (rEqD K) := h ▸ op_eqD hu
theorem op_inK {X : Cx} {K : PySem.W.Frag} (h : X.K = K) : OpR X (compareOp CmpOp.In) (rIn K false) := h ▸ op_in_seq
theorem op_notInK {X : Cx} {K : PySem.W.Frag} (h : X.K = K) : OpR X (compareOp CmpOp.NotIn) (rIn K true) := h ▸ op_notIn_seq
/-! ### list.count of strings -/
def eqs (k : Str) (v : Value) : Bool := match v with
  | .str n _ => n == k
  | _ => false
def rCntS (K : PySem.W.Frag) : V → List V → Hp → VK → Prop := fun x xs H Q => ∃ (p : Addr) (ss : List Str) (k : Str), x = .ref p ∧ xs = [.str k] ∧ SqL K H p (ss.map V.str) ∧ Q (.int (ss.countP (fun y => decide (y = k)) : Nat)) H
theorem eqs_at {k : Str} {t : Tok} {A : Around} {s : Shared} : ∀ {ss : List Str} {us : List Value}, Vals (ss.map V.str) us → ∀ y ∈ us, SeqAt.EqAt A s y (.str k t) (eqs k y)
  | [], us, r => by
    rw [List.map_nil] at r
    cases r
    exact fun y hy => nomatch hy
  | n :: ss, us, r => by
    rw [List.map_cons] at r
    cases r with
    | cons r1 r2 =>
      obtain ⟨t', rfl⟩ := r1
      intro y hy
      rcases List.mem_cons.mp hy with q | q
      · rw [q]
        exact SeqAt.EqAt.str_str n t' k t
      · exact eqs_at r2 y q
theorem eqs_count {k : Str} : ∀ {ss : List Str} {us : List Value}, Vals (ss.map V.str) us → us.countP (eqs k) = ss.countP fun y => decide (y = k)
  | [], us, r => by
    rw [List.map_nil] at r
    cases r
    rfl
  | n :: ss, us, r => by
    rw [List.map_cons] at r
    cases r with
    | cons r1 r2 =>
      obtain ⟨t', rfl⟩ := r1
      have ih := eqs_count (k := k) r2
      rw [List.countP_cons, List.countP_cons, ih]
      rfl
theorem mt_scount {X : Cx} : MtR X "list.count" (rCntS X.K) := by
  intro pins s σ H x xs v us Q I rx rxs h
  obtain ⟨p, ns, k, rfl, rfl, hs, q⟩ := h
  cases rx
  obtain ⟨u, rfl, ru⟩ := rxs.one
  obtain ⟨t, rfl⟩ := ru
  obtain ⟨its, rv, ⟨⟨cls, dd, data, sl⟩, n, ho, hc, hdn, hd⟩, hlen⟩ := I.list hs
  simp only at hc hd
  subst hc hd
  refine call_meets PySem.F.slot_list_count ⟨_, ho, rfl⟩ PySem.F.entry_list_count (PySem.F.args_list_count_2 _ _)
    (SeqAt.list_countAt p its.toArray n dd sl (.str k t) (eqs k)) ⟨ho, fun y hy => eqs_at rv y (by simpa using hy), ?_⟩
  have ec : its.toArray.toList.countP (eqs k) = ns.countP fun y => decide (y = k) := eqs_count rv
  refine ⟨.int (ns.countP (fun y => decide (y = k)) : Nat), H, I.tok _, ⟨s.toks, ?_⟩, q⟩
  show Value.int ((its.toArray.toList.countP (eqs k) : Nat) : Int) s.toks = Value.int ((ns.countP (fun y => decide (y = k)) : Nat) : Int) s.toks
  rw [ec]
/-- a comprehension over enumerate -/
theorem lc_enum {K : PySem.W.Frag} {a : Addr} {xs : List V} {g : TG} {tt : TT} {te : TE} {vs : List Nat} {σ : L2.St} {H1 : Hp} {D : Addr} {Qd : Hp → Prop} (Pv : Nat → Hp → Prop) (h0 : Pv 0 (upd H1 D (.lst []))) (hl : ∀ i H, Pv i H → SqL K H a xs)
    (hs : ∀ (i : Nat) (x : V) (T : Addr) (H : Hp), xs[i]? = some x → Pv i H → H T = none → g (.ref T) (wipe σ vs) (upd H T (.tup [.int (i : Nat), x])) fun σ2 H2 => wipe σ2 vs = wipe σ vs ∧ tt σ2 H2 fun b H3 =>
      if b = true then te σ2 H3 fun y H4 => ∃ acc, H4 D = some (.lst acc) ∧ acc.length < sizeLine ∧ Pv (i + 1) (upd H4 D (.lst (acc ++ [y]))) else Pv (i + 1) H3) (hd : ∀ H, Pv xs.length H → Qd H) :
    ∃ W : Nat → Nat → Hp → Prop, (∃ m, W 0 m (upd H1 D (.lst []))) ∧ ∀ i m H, W i m H → ((Ite K a).stop i H ∧ Qd H) ∨ ((Ite K a).go i H ∧ ∃ Nx : Hp → Prop, (∀ H', Nx H' → ∃ m', m' < m ∧ W (i + 1) m' H') ∧ ∀ x H', (Ite K a).yld i H x H' → g x (wipe σ vs) H' fun σ2 H2 => wipe σ2 vs = wipe σ vs ∧ tt σ2 H2 fun b H3 =>
        if b = true then te σ2 H3 fun y H4 => ∃ acc, H4 D = some (.lst acc) ∧ acc.length < sizeLine ∧ Nx (upd H4 D (.lst (acc ++ [y]))) else Nx H3) := by
  refine ⟨fun i m H => m = xs.length - i ∧ i ≤ xs.length ∧ Pv i H, ⟨xs.length, by omega, Nat.zero_le _, h0⟩, ?_⟩
  rintro i m H ⟨rfl, hi, p⟩
  have q := hl i H p
  by_cases hlt : i < xs.length
  · refine .inr ⟨⟨xs, xs[i], q, List.getElem?_eq_getElem hlt⟩, Pv (i + 1), fun H' p' => ⟨xs.length - (i + 1), by omega, rfl, hlt, p'⟩, fun v H' y => ?_⟩
    obtain ⟨T, x', rfl, hT, rfl, f⟩ := y
    exact hs i x' T H (f xs q) p hT
  · have e : i = xs.length := by omega
    subst e
    exact .inl ⟨⟨xs, q, Nat.le_refl _⟩, hd H p⟩
theorem op_powW {X : Cx} : OpR X (binaryOp .Pow) (rI (fun i j => 0 ≤ j ∧ (Builtin.Int.intBits i : Int) * j ≤ 2 ^ 27) fun i j => .int (i ^ j.toNat)) := opI fun _ _ _ _ _ _ _ hc q => PyProof.Rows.pow_int hc.1 hc.2 q
/-! ### max(.., default=..) -/
def rMaxDf (K : PySem.W.Frag) : List V → List V → Hp → VK → Prop := fun vs ws H Q => ∃ a ns c, vs = [V.ref a] ∧ ws = [V.int c] ∧ SqL K H a (ns.map V.int) ∧ ∀ m, (ns = [] → m = c) → (ns ≠ [] → m ∈ ns ∧ ∀ z ∈ ns, z ≤ m) → Q (.int m) H
def tMaxDf (K : PySem.W.Frag) (ta td : TA) : TE := fun σ H Q => ta σ H fun vs H1 => td σ H1 fun ws H2 => rMaxDf K vs ws H2 Q
theorem foldl_max : ∀ (l : List Int) (a : Int), l.foldl max a ∈ a :: l ∧ ∀ z ∈ a :: l, z ≤ l.foldl max a
  | [], a => ⟨List.mem_cons_self .., fun z hz => by rw [List.mem_singleton.mp hz]; exact Int.le_refl _⟩
  | b :: r, a => by
    obtain ⟨h1, h2⟩ := foldl_max r (max a b)
    rw [List.foldl_cons]
    refine ⟨?_, fun z hz => ?_⟩
    · rcases List.mem_cons.mp h1 with e | e
      · rw [e]
        by_cases c : a ≤ b
        · rw [Int.max_eq_right c]
          exact List.mem_cons_of_mem _ (List.mem_cons_self ..)
        · rw [Int.max_eq_left (by omega)]
          exact List.mem_cons_self ..
      · exact List.mem_cons_of_mem _ (List.mem_cons_of_mem _ e)
    · have h3 := h2 (max a b) (List.mem_cons_self ..)
      rcases List.mem_cons.mp hz with rfl | hz
      · have := Int.le_max_left z b
        omega
      · rcases List.mem_cons.mp hz with rfl | hz
        · have := Int.le_max_right a z
          omega
        · exact h2 z (List.mem_cons_of_mem _ hz)
theorem dp_ints_all {K : PySem.W.Frag} {H : Hp} : ∀ ns : List Int, DpAll K H (ns.map V.int) (ns.map PyData.int)
  | [] => .nil
  | n :: r => .cons (.int n) (dp_ints_all r)
theorem alike_ints (ns : List Int) : PySem.W.AlikeAll (ns.map PyData.int) := by
  refine ⟨fun x hx y hy => ?_, fun x hx => ?_⟩
  · obtain ⟨a, _, rfl⟩ := List.mem_map.mp hx
    obtain ⟨b, _, rfl⟩ := List.mem_map.mp hy
    rfl
  · obtain ⟨a, _, rfl⟩ := List.mem_map.mp hx
    exact fun e => nomatch e
theorem depth_ints : ∀ ns : List Int, PyData.depthAll (ns.map PyData.int) ≤ 10
  | [] => Nat.zero_le _
  | n :: r => by
    have := depth_ints r
    rw [List.map_cons, PyData.depthAll, PyData.depth]
    omega
theorem pe_maxDf {X : Cx} {e d : Expr} {ta td : TA} {p pos kpos : Pos} (hc : X.calm = true) (hu : X.A.units + 64 < cLine) (hg : Gl X "max") (hm : X.mg "max" = none) (ha : PA X [e] ta) (hd : PK X [⟨some "default", d, kpos⟩] td)
    (hv : bootBuiltins "max" = some (.builtin "max") := by decide +kernel) (he : backTo pos (starEach [e] X.env) = (false, eval e X.env) :: backTo pos (starEach [] X.env) := by rfl)
    (hall : (backToKw pos (keywordEach [⟨some "default", d, kpos⟩] X.env)).all (·.1.isSome) = true := by rfl) (hks : (backToKw pos (keywordEach [⟨some "default", d, kpos⟩] X.env)).filterMap (·.1) = [Str.ofString "default"] := by rfl)
    (hpl : (backTo pos (starEach [e] X.env)).any (·.1) = false := by rfl) (hkw : (backToKw pos (keywordEach [⟨some "default", d, kpos⟩] X.env)).any (·.1.isNone) = false := by rfl) :
    PE X (.Call (.Name "max" p) [e] [⟨some "default", d, kpos⟩] pos) (tMaxDf X.K ta td) := by
  refine ⟨fun pins s σ H Q I h => ?_⟩
  refine wpAny_Call_Name_kw (ld_blt I hg hm hv ?_ (by decide) (by decide))
  refine PyProof.Rows.callWith_kw ?_ he hpl hall hkw
  refine thn (ha.run pos pins s σ H _ I h) fun us s1 ⟨vs, H1, I1, r1, q1⟩ => ?_
  refine thn (hd.run pos pins s1 σ H1 _ I1 q1) fun ws s2 ⟨zs, H2, I2, rz, q2⟩ => ?_
  rw [hks]
  obtain ⟨a, ns, c, rfl, rfl, hs, k⟩ := q2
  rw [Vals.ref1 r1]
  obtain ⟨u, rfl, ru⟩ := rz.one
  obtain ⟨t, rfl⟩ := ru
  obtain ⟨its, rv, hl, _⟩ := I2.list hs
  obtain ⟨as, hr⟩ := Dp.readsAll I2 (ns.map PyData.int) (ns.map V.int) its (dp_ints_all ns) rv
  have dd := depth_ints ns
  refine PySem.W.max_list_default (I2.ok.hd hc) hl.isList (by simpa using hr) (alike_ints ns) (by omega) (fun e h' tk hk => ?_) (fun y ys i v h' tk bs e hv hr' hk => ?_)
  · have en : ns = [] := List.map_eq_nil_iff.mp e
    exact ⟨.int c, H2, I2.kept hk, ⟨_, rfl⟩, k c (fun _ => rfl) (fun ne => absurd en ne)⟩
  · cases ns with
    | nil => cases e
    | cons n r =>
      cases e
      rw [PySem.W.maxD_ints] at hr'
      obtain ⟨m1, m2⟩ := foldl_max r n
      refine ⟨.int (r.foldl max n), H2, I2.kept hk, ?_, k _ (fun z => nomatch z) (fun _ => ⟨m1, m2⟩)⟩
      cases hr' with
      | _ => exact ⟨_, rfl⟩
/-! ### draws, mixed -/
/-- a source of draws at a: at most n were drawn -/
def Src (H : Hp) (a : Addr) (n : Nat) : Prop := ∃ x y z : Int, H a = some (.lst [.int x, .int y, .int z]) ∧ 0 ≤ x ∧ 0 ≤ z ∧ z ≤ n
theorem Src.mono {H : Hp} {a : Addr} {n m : Nat} (h : Src H a n) (l : n ≤ m) : Src H a m := by
  obtain ⟨x, y, z, e, h1, h2, h3⟩ := h
  exact ⟨x, y, z, e, h1, h2, by omega⟩
theorem Src.same {H H' : Hp} {a : Addr} {n : Nat} (h : Src H a n) (s : Same H H') : Src H' a n := by
  obtain ⟨x, y, z, e, r⟩ := h
  exact ⟨x, y, z, s _ _ e, r⟩
theorem Src.has {H : Hp} {a : Addr} {n : Nat} (h : Src H a n) : ∃ xs, H a = some (.lst xs) := by
  obtain ⟨x, y, z, e, r⟩ := h
  exact ⟨_, e⟩
def spMix : Sp := fun vs H Q _ => ∃ c k, vs = [.int c, .int k] ∧ 0 ≤ k ∧ k ≤ 2000000 ∧ ∀ r, 0 ≤ r → r < 2147483399 → Q (.int r) H
def spWell : Sp := fun vs H Q _ => ∃ c, vs = [.int c] ∧ ∀ a H', H a = none → Same H H' → Src H' a 0 → Q (.ref a) H'
def spNext : Sp := fun vs H Q _ => ∃ (a : Addr) (m : Int) (n : Nat), vs = [.ref a, .int m] ∧ 0 < m ∧ m.natAbs < 2 ^ 1100 ∧ Src H a n ∧ n ≤ 900000 ∧ ∀ (r : Int) H', 0 ≤ r → r < m → Src H' a (n + 1) → Kp a H H' → Q (.int r) H'
def spOne : Sp := fun vs H Q _ => ∃ (a l : Addr) (xs : List V) (n : Nat), vs = [.ref a, .ref l] ∧ a ≠ l ∧ H l = some (.lst xs) ∧ 0 < xs.length ∧ xs.length ≤ 100000 ∧ Src H a n ∧ n ≤ 900000 ∧ ∀ v H', v ∈ xs → Src H' a (n + 1) → Kp a H H' → Q v H'
theorem atI_of {α : Type} {xs : List α} {i : Int} (h0 : 0 ≤ i) (h1 : i < xs.length) : ∃ v, atI xs i = some v ∧ v ∈ xs := by
  have hj : i.toNat < xs.length := by omega
  refine ⟨xs[i.toNat], ?_, List.getElem_mem _⟩
  have e : ((i.toNat : Nat) : Int) = i := by omega
  have := atI_nat (xs := xs) (j := i.toNat) (v := xs[i.toNat]) (List.getElem?_eq_getElem hj)
  rwa [e] at this
section
variable {P : Program} {w : World} {K : PySem.W.Frag} {mg : Str → Option Value} {base : Heap} {L : LA}
abbrev N_wmixed : List Str := ["_law_cell", "_law_k", "_law_figure"]
theorem sc_wmixed : FnScope N_wmixed ["_law_cell", "_law_k"] (defScope st__law_mixed) := ⟨rfl, rfl, rfl, by decide +kernel, rfl, by decide +kernel, by decide +kernel⟩
theorem fn_wmixed (T : LX K mg L) {fd : FuncData} (F : Fun K "_law_mixed" "_law_mixed" st__law_mixed L.f__law_mixed fd) : FnOk P w K mg base CX0 1 L.f__law_mixed fd ["_law_cell", "_law_k"] (spMix) := by
  have nd := sc_wmixed.nd
  refine F.ok sc_wmixed (fun vs H Q E h => ?_) (fun cdv A outer S H vs Q E hr h => ?_)
  · obtain ⟨c, kk, rfl, _⟩ := h
    rfl
  · obtain ⟨c, kk, rfl, k0, k1, k⟩ := h
    refine ⟨_, (pss_cons (ps_set (i := 2) nd rfl (Or.inl rfl) (pe_op op_mod (pe_callTy call_int1 (by rfl) T.b_int (by decide +kernel) (pa_cons (pe_op op_pow (pe_op op_add (pe_op op_add (pe_op op_mod (pe_callTy call_int1 (by rfl) T.b_int (by decide +kernel) (pa_cons (pv 0) pa_nil)) pe_int) (pe_op op_mulW pe_int (pv 1))) pe_int) pe_int) pa_nil)) pe_int))
       (pss_cons (ps_set (i := 2) nd rfl (Or.inl rfl) (pe_op op_mod (pe_callTy call_int1 (by rfl) T.b_int (by decide +kernel) (pa_cons (pe_op op_add (pv 2) (pe_op op_mulW (pe_op op_mod (pe_callTy call_int1 (by rfl) T.b_int (by decide +kernel) (pa_cons (pe_op op_fdivW (pv 0) pe_int) pa_nil)) pe_int) (pe_op op_add (pv 1) pe_int))) pa_nil)) pe_int))
       (pss_cons (ps_set (i := 2) nd rfl (Or.inl rfl) (pe_op op_mod (pe_callTy call_int1 (by rfl) T.b_int (by decide +kernel) (pa_cons (pe_op op_mulW (pv 2) (pe_op op_add (pe_op op_add (pe_op op_fdivW (pv 2) pe_int) pe_int) (pv 1))) pa_nil)) pe_int))
       (pss_one (ps_ret (pe_op op_mod (pe_callTy call_int1 (by rfl) T.b_int (by decide +kernel) (pa_cons (pe_op op_mulW (pv 2) (pe_op op_add (pe_op op_fdivW (pv 2) pe_int) pe_int)) pa_nil)) pe_int)))))), ?_⟩
    have cm1 : CMulW 30011 kk := wide_mul (a := 30) (b := 30) (by decide) (Nat.lt_of_le_of_lt (show kk.natAbs ≤ 2000000 by omega) (by decide)) (by decide) (by decide) (by decide)
    have m0 := Int.emod_nonneg c (show (2147483629 : Int) ≠ 0 by decide)
    have m1 := Int.emod_lt_of_pos c (show (0 : Int) < 2147483629 by decide)
    refine ⟨_, rfl, .inl ⟨_, rfl, _, _, rfl, rfl, (by show (0 : Int) < 2147483629; decide), _, rfl, _, _, rfl, rfl, cm1, _, _, rfl, rfl, _, _, rfl, rfl, _, _, rfl, rfl, ⟨by decide, by decide, ?_⟩, .inl ⟨_, rfl, _, _, rfl, rfl, (by show (0 : Int) < 2147483647; decide), ?_⟩⟩⟩
    · exact Nat.lt_of_le_of_lt (show (c % 2147483629 + 30011 * kk + 7).natAbs ≤ 100000000000 by omega) (by decide)
    have a0 := Int.emod_nonneg ((c % 2147483629 + 30011 * kk + 7) ^ (3 : Int).toNat) (show (2147483647 : Int) ≠ 0 by decide)
    have a1 := Int.emod_lt_of_pos ((c % 2147483629 + 30011 * kk + 7) ^ (3 : Int).toNat) (show (0 : Int) < 2147483647 by decide)
    dsimp only
    generalize (c % 2147483629 + 30011 * kk + 7) ^ (3 : Int).toNat % 2147483647 = f1 at a0 a1 ⊢
    have b0 := Int.emod_nonneg (c / 2147483629) (show (65537 : Int) ≠ 0 by decide)
    have b1 := Int.emod_lt_of_pos (c / 2147483629) (show (0 : Int) < 65537 by decide)
    have cm2 : CMulW (c / 2147483629 % 65537) (kk + 5) := wide_mul (a := 30) (b := 30) (Nat.lt_of_le_of_lt (show (c / 2147483629 % 65537).natAbs ≤ 70000 by omega) (by decide)) (Nat.lt_of_le_of_lt (show (kk + 5).natAbs ≤ 2000005 by omega) (by decide)) (by decide) (by decide) (by decide)
    refine ⟨_, rfl, _, rfl, _, _, rfl, rfl, wide_div (b := 40) (by decide) (by decide) (by decide) (by decide), .inl ⟨_, rfl, _, _, rfl, rfl, (by show (0 : Int) < 65537; decide), _, rfl, _, _, rfl, rfl, _, _, rfl, rfl, cm2, _, _, rfl, rfl, .inl ⟨_, rfl, _, _, rfl, rfl, (by show (0 : Int) < 2147483587; decide), ?_⟩⟩⟩
    have c0 := Int.emod_nonneg (f1 + c / 2147483629 % 65537 * (kk + 5)) (show (2147483587 : Int) ≠ 0 by decide)
    have c1 := Int.emod_lt_of_pos (f1 + c / 2147483629 % 65537 * (kk + 5)) (show (0 : Int) < 2147483587 by decide)
    dsimp only
    generalize (f1 + c / 2147483629 % 65537 * (kk + 5)) % 2147483587 = f2 at c0 c1 ⊢
    have d2 : f2 / 1009 ≤ f2 := Int.ediv_le_self _ c0
    have d3 : 0 ≤ f2 / 1009 := Int.ediv_nonneg c0 (by decide)
    have cm3 : CMulW f2 (f2 / 1009 + 69621 + kk) := wide_mul (a := 40) (b := 40) (Nat.lt_of_le_of_lt (show f2.natAbs ≤ 3000000000 by omega) (by decide)) (Nat.lt_of_le_of_lt (show (f2 / 1009 + 69621 + kk).natAbs ≤ 3000000000 by omega) (by decide)) (by decide) (by decide) (by decide)
    refine ⟨_, rfl, _, rfl, _, _, rfl, rfl, wide_div (b := 40) (by decide) (by decide) (by decide) (by decide), _, _, rfl, rfl, _, rfl, _, _, rfl, rfl, _, _, rfl, rfl, cm3, .inl ⟨_, rfl, _, _, rfl, rfl, (by show (0 : Int) < 2147483563; decide), ?_⟩⟩
    have g0 := Int.emod_nonneg (f2 * (f2 / 1009 + 69621 + kk)) (show (2147483563 : Int) ≠ 0 by decide)
    have g1 := Int.emod_lt_of_pos (f2 * (f2 / 1009 + 69621 + kk)) (show (0 : Int) < 2147483563 by decide)
    dsimp only
    generalize f2 * (f2 / 1009 + 69621 + kk) % 2147483563 = f3 at g0 g1 ⊢
    have h2 : f3 / 2003 ≤ f3 := Int.ediv_le_self _ g0
    have h3 : 0 ≤ f3 / 2003 := Int.ediv_nonneg g0 (by decide)
    have cm4 : CMulW f3 (f3 / 2003 + 40692) := wide_mul (a := 40) (b := 40) (Nat.lt_of_le_of_lt (show f3.natAbs ≤ 3000000000 by omega) (by decide)) (Nat.lt_of_le_of_lt (show (f3 / 2003 + 40692).natAbs ≤ 3000000000 by omega) (by decide)) (by decide) (by decide) (by decide)
    refine ⟨_, rfl, _, rfl, _, _, rfl, rfl, wide_div (b := 40) (by decide) (by decide) (by decide) (by decide), _, _, rfl, rfl, _, _, rfl, rfl, cm4, .inl ⟨_, rfl, _, _, rfl, rfl, (by show (0 : Int) < 2147483399; decide), ?_⟩⟩
    exact k _ (Int.emod_nonneg _ (by decide)) (Int.emod_lt_of_pos _ (by decide))
theorem ok_wmixed (T : LX K mg L) : Cal P w K mg base "_law_mixed" 1 L.f__law_mixed ["_law_cell", "_law_k"] (spMix) := T.d__law_mixed.cal fun fd F => fn_wmixed T F
abbrev N_wwell : List Str := ["_law_cell"]
theorem sc_wwell : FnScope N_wwell ["_law_cell"] (defScope st__law_well) := ⟨rfl, rfl, rfl, by decide +kernel, rfl, by decide +kernel, by decide +kernel⟩
theorem fn_wwell (T : LX K mg L) {fd : FuncData} (F : Fun K "_law_well" "_law_well" st__law_well L.f__law_well fd) : FnOk P w K mg base CX0 1 L.f__law_well fd ["_law_cell"] (spWell) := by
  have nd := sc_wwell.nd
  refine F.ok sc_wwell (fun vs H Q E h => ?_) (fun cdv A outer S H vs Q E hr h => ?_)
  · obtain ⟨c, rfl, _⟩ := h
    rfl
  · obtain ⟨c, rfl, k⟩ := h
    refine ⟨_, (pss_one (ps_ret (pe_lst (pa_cons (pe_op op_mul (pv 0) (pe_callTy call_int1 (by rfl) T.b_int (by decide +kernel) (pa_cons (pe_cmpR op_ge (pv 0) (pe_op op_pow pe_int pe_int) (nomark _)) pa_nil))) (pa_cons (pv 0) (pa_cons pe_int pa_nil)))))), ?_⟩
    refine ⟨_, rfl, _, rfl, _, _, rfl, rfl, ⟨by decide, by decide, by decide⟩, _, _, rfl, rfl, .inr ⟨_, rfl, _, _, rfl, rfl, ?_, ?_⟩⟩
    · refine .inr ?_
      split <;> decide
    · refine ⟨_, rfl, (by show 3 ≤ sizeLine; decide), fun l hl => ?_⟩
      refine k l _ hl (Same.upd hl) ⟨_, _, _, upd_same, ?_, Int.le_refl _, Int.le_refl _⟩
      by_cases hc : (10 : Int) ^ (18 : Int).toNat ≤ c
      · rw [decide_eq_true hc, if_pos rfl, Int.mul_one]
        exact Int.le_trans (by decide) hc
      · rw [decide_eq_false hc, if_neg Bool.false_ne_true, Int.mul_zero]
        exact Int.le_refl _
theorem ok_wwell (T : LX K mg L) : Cal P w K mg base "_law_well" 1 L.f__law_well ["_law_cell"] (spWell) := T.d__law_well.cal fun fd F => fn_wwell T F
abbrev N_wdraw : List Str := ["_law_well_here", "_law_many", "_law_found"]
theorem sc_wdraw : FnScope N_wdraw ["_law_well_here", "_law_many"] (defScope st__law_draw) := ⟨rfl, rfl, rfl, by decide +kernel, rfl, by decide +kernel, by decide +kernel⟩
theorem fn_wdraw (T : LX K mg L) {fd : FuncData} (F : Fun K "_law_draw" "_law_draw" st__law_draw L.f__law_draw fd) : FnOk P w K mg base CX0 2 L.f__law_draw fd ["_law_well_here", "_law_many"] (spNext) := by
  have G_wmixed := ok_wmixed (P := P) (w := w) (base := base) T
  have nd := sc_wdraw.nd
  refine F.ok sc_wdraw (fun vs H Q E h => ?_) (fun cdv A outer S H vs Q E hr h => ?_)
  · obtain ⟨a, m, n, rfl, _⟩ := h
    rfl
  · obtain ⟨a, m, n, rfl, m0, m1, ⟨x, y, z, ha, x0, z0, z1⟩, hn, k⟩ := h
    refine ⟨_, (pss_cons (ps_if (pt_cmpR op_gt (pe_ix (r := rIxL K) ix_list (pv 0) pe_int (fun _ _ => rfl)) pe_int (nomark _)) (pss_cons (ps_set (i := 2) nd rfl (Or.inl rfl) (pe_op op_mod (pe_callTy call_int1 (by rfl) T.b_int (by decide +kernel) (pa_cons (pe_ix (r := rIxL K) ix_list (pv 0) pe_int (fun _ _ => rfl)) pa_nil)) (pv 1)))
       (pss_cons (ps_asg (pe_op op_fdivW (pe_ix (r := rIxL K) ix_list (pv 0) pe_int (fun _ _ => rfl)) (pv 1)) (pg_sub (pv 0) pe_int set_list))
       (pss_one (ps_ret (pv 2))))) pss_nil)
       (pss_cons (ps_asg (pe_op op_add (pe_ix (r := rIxL K) ix_list (pv 0) pe_int (fun _ _ => rfl)) pe_int) (pg_sub (pv 0) pe_int set_list))
       (pss_one (ps_ret (pe_op op_mod (pe_callTy call_int1 (by rfl) T.b_int (by decide +kernel) (pa_cons (pe_c G_wmixed (hr.mono (by decide)) rfl (pa_cons (pe_ix (r := rIxL K) ix_list (pv 0) pe_int (fun _ _ => rfl)) (pa_cons (pe_ix (r := rIxL K) ix_list (pv 0) pe_int (fun _ _ => rfl)) pa_nil))) pa_nil)) (pv 1)))))), ?_⟩
    refine ⟨_, rfl, _, _, _, _, rfl, rfl, SqL.of ha, rfl, _, _, rfl, rfl, _, rfl, ?_⟩
    refine ite2 (fun c => ?_) (fun c => ?_)
    · refine ⟨_, rfl, _, _, _, _, rfl, rfl, SqL.of ha, rfl, .inl ⟨_, rfl, _, rfl, _, _, rfl, rfl, m0, ?_⟩⟩
      refine ⟨_, rfl, _, _, _, _, rfl, rfl, SqL.of ha, rfl, _, rfl, _, _, rfl, rfl, wide_div m0 m1 (by decide) (by decide), ?_⟩
      refine ⟨_, rfl, _, _, _, 0, rfl, rfl, ha, rfl, ?_⟩
      refine ⟨_, rfl, ?_⟩
      exact k _ _ (Int.emod_nonneg _ (by omega)) (Int.emod_lt_of_pos _ m0) ⟨_, _, _, upd_same, Int.ediv_nonneg x0 (by omega), z0, by omega⟩ Kp.upd
    · refine ⟨_, rfl, _, _, _, _, rfl, rfl, SqL.of ha, rfl, _, _, rfl, rfl, ?_⟩
      refine ⟨_, rfl, _, _, _, 2, rfl, rfl, ha, rfl, ?_⟩
      have hA : (upd H a (.lst [.int x, .int y, .int (z + 1)])) a = some (.lst [.int x, .int y, .int (z + 1)]) := upd_same
      refine ⟨_, rfl, _, _, _, _, rfl, rfl, SqL.of hA, rfl, _, rfl, _, _, _, _, rfl, rfl, SqL.of hA, rfl, y, z + 1, rfl, by omega, by omega, fun r r0 r1 => .inl ⟨_, rfl, _, rfl, _, _, rfl, rfl, m0, ?_⟩⟩
      exact k _ _ (Int.emod_nonneg _ (by omega)) (Int.emod_lt_of_pos _ m0) ⟨_, _, _, hA, x0, by omega, by omega⟩ Kp.upd
theorem ok_wdraw (T : LX K mg L) : Cal P w K mg base "_law_draw" 2 L.f__law_draw ["_law_well_here", "_law_many"] (spNext) := T.d__law_draw.cal fun fd F => fn_wdraw T F
abbrev N_wone : List Str := ["_law_well_here", "_law_some"]
theorem sc_wone : FnScope N_wone ["_law_well_here", "_law_some"] (defScope st__law_one) := ⟨rfl, rfl, rfl, by decide +kernel, rfl, by decide +kernel, by decide +kernel⟩
theorem fn_wone (T : LX K mg L) {fd : FuncData} (F : Fun K "_law_one" "_law_one" st__law_one L.f__law_one fd) : FnOk P w K mg base CX0 3 L.f__law_one fd ["_law_well_here", "_law_some"] (spOne) := by
  have G_wdraw := ok_wdraw (P := P) (w := w) (base := base) T
  have nd := sc_wone.nd
  refine F.ok sc_wone (fun vs H Q E h => ?_) (fun cdv A outer S H vs Q E hr h => ?_)
  · obtain ⟨a, l, xs, n, rfl, _⟩ := h
    rfl
  · obtain ⟨a, l, xs, n, rfl, hal, hl, x0, x1, hs, hn, k⟩ := h
    refine ⟨_, (pss_one (ps_ret (pe_ix (r := rIxL K) ix_list (pv 1) (pe_c G_wdraw (hr.mono (by decide)) rfl (pa_cons (pv 0) (pa_cons (pe_callB call_len_seq (by rfl) T.b_len PySem.boot_len (pa_cons (pv 1) pa_nil)) pa_nil))) (fun _ _ => rfl)))), ?_⟩
    refine ⟨_, rfl, _, rfl, _, rfl, l, xs, rfl, .inl (SqL.of hl), a, _, n, rfl, by omega, ?_, hs, hn, fun r H' r0 r1 hs' hk => ?_⟩
    · exact Nat.lt_of_le_of_lt (show ((xs.length : Int)).natAbs ≤ 100000 by omega) (by decide)
    · obtain ⟨v, hv, hm⟩ := atI_of (xs := xs) r0 r1
      exact ⟨l, xs, r, v, rfl, rfl, SqL.of (hk _ _ hal.symm hl), hv, k v H' hm hs' hk⟩
theorem ok_wone (T : LX K mg L) : Cal P w K mg base "_law_one" 3 L.f__law_one ["_law_well_here", "_law_some"] (spOne) := T.d__law_one.cal fun fd F => fn_wone T F
end
/-! ### sources kept -/
theorem src_kp {H H' : Hp} {s l : Addr} {n : Nat} (k : Kp l H H') (h : s ≠ l) (S : Src H s n) : Src H' s n := by
  obtain ⟨x, y, z, e, r⟩ := S
  exact ⟨x, y, z, k _ _ h e, r⟩
/-! ### one outage more -/
theorem vout_app : ∀ {os : List (Int × Int)} {m b e : Int}, VOut m os → (∀ o ∈ os, o.2 + 1 ≤ b) → m ≤ b → b < e → e ≤ 1000000000000000000000000000000 → VOut m (os ++ [(b, e)])
  | [], m, b, e, _, _, h1, h2, h3 => ⟨h1, h2, h3, True.intro⟩
  | o :: r, m, b, e, ⟨a1, a2, a3, a4⟩, h, h1, h2, h3 => ⟨a1, a2, a3, vout_app a4 (fun u hu => h u (List.mem_cons_of_mem _ hu)) (h o (List.mem_cons_self ..)) h2 h3⟩
/-! ### rows and outages drawn, small -/
def OkS (ts : List Tri) (st ph : Int) : Prop := (∀ t ∈ ts, OkT t ∧ t.2.1 ≤ 12 ∧ t.1 ≤ 4 ∧ t.2.2 ≤ 4) ∧ ts.length ≤ 4 ∧ 1 ≤ st ∧ st ≤ 4 ∧ 0 ≤ ph ∧ ph ≤ 5
def LnAt (H : Hp) (t l : Addr) (xs : List V) (ts : List Tri) (st ph : Int) : Prop := H t = some (.tup [.ref l, .int st, .int ph]) ∧ H l = some (.lst xs) ∧ Brs H xs ts
def spLRow : Sp := fun vs H Q _ => ∃ (s : Addr) (n : Nat), vs = [.ref s] ∧ Src H s n ∧ n ≤ 500000 ∧ ∀ t l xs ts st ph H', LnAt H' t l xs ts st ph → OkS ts st ph → Src H' s (n + 100) → Kp s H H' → H t = none → H l = none → Q (.ref t) H'
def spLDowns : Sp := fun vs H Q _ => ∃ (s : Addr) (n : Nat) (m : Int), vs = [.ref s, .int m] ∧ Src H s n ∧ n ≤ 500000 ∧ 0 ≤ m ∧ m ≤ 12 ∧
  ∀ l xs os H', H' l = some (.lst xs) → Ots H' xs (outs os) → VOut 0 os → (os.length : Int) ≤ m → (∀ o ∈ os, o.2 ≤ 800) → Src H' s (n + 100) → Kp s H H' → H l = none → Q (.ref l) H'
def spLMade (C : Addr) : Sp := fun vs H Q _ => ∃ t l xs ts st ph, vs = [.ref t] ∧ LnAt H t l xs ts st ph ∧ RowD ts st ph ∧ ∀ r B H', RowAt C H' r B xs ts st ph → Same H H' → H r = none → Q (.ref r) H'
def spLUntil : Sp := fun vs H Q _ => ∃ a zs, ∃ os : List (Int × Int), vs = [.ref a] ∧ H a = some (.lst zs) ∧ Ots H zs (outs os) ∧ os.length ≤ 50 ∧ ∀ u H', (os = [] → u = 0) → (os ≠ [] → u ∈ os.map Prod.snd ∧ ∀ z ∈ os.map Prod.snd, z ≤ u) → Same H H' → Q (.int (u + 100)) H'
section
variable {P : Program} {w : World} {K : PySem.W.Frag} {mg : Str → Option Value} {base : Heap} {L : LA}
abbrev N_wrow : List Str := ["_law_well_here", "_law_specs", "_law_k"]
theorem sc_wrow : FnScope N_wrow ["_law_well_here"] (defScope st__law_row) := ⟨rfl, rfl, rfl, by decide +kernel, rfl, by decide +kernel, by decide +kernel⟩
theorem fn_wrow (T : LX K mg L) {fd : FuncData} (F : Fun K "_law_row" "_law_row" st__law_row L.f__law_row fd) : FnOk P w K mg base CX0 3 L.f__law_row fd ["_law_well_here"] (spLRow) := by
  have G_wdraw := ok_wdraw (P := P) (w := w) (base := base) T
  have nd := sc_wrow.nd
  refine F.ok sc_wrow (fun vs H Q E h => ?_) (fun cdv A outer S H vs Q E hr h => ?_)
  · obtain ⟨s, n, rfl, _⟩ := h
    rfl
  · obtain ⟨s, n, rfl, src, hn, k⟩ := h
    refine ⟨_, (pss_cons (ps_set (i := 1) nd rfl (Or.inl rfl) (pe_lst pa_nil))
       (pss_cons (ps_for PassesOwn.never rfl (pi_range1 rfl T.b_range (pa_cons (pe_c G_wdraw (hr.mono (by decide)) rfl (pa_cons (pv 0) (pa_cons pe_int pa_nil))) pa_nil)) (pg_name (i := 2) nd rfl (Or.inl rfl)) (pss_one (ps_expr (pe_bm PySem.F.plainAttrs_list PySem.F.slot_list_append PySem.F.type_list_append mt_append (pv 1) (pa_cons (pe_tup (pa_cons (pe_op op_add pe_int (pe_c G_wdraw (hr.mono (by decide)) rfl (pa_cons (pv 0) (pa_cons pe_int pa_nil)))) (pa_cons (pe_op op_add pe_int (pe_c G_wdraw (hr.mono (by decide)) rfl (pa_cons (pv 0) (pa_cons pe_int pa_nil)))) (pa_cons (pe_op op_add pe_int (pe_c G_wdraw (hr.mono (by decide)) rfl (pa_cons (pv 0) (pa_cons pe_int pa_nil)))) pa_nil)))) pa_nil)))))
       (pss_one (ps_ret (pe_tup (pa_cons (pv 1) (pa_cons (pe_op op_add pe_int (pe_c G_wdraw (hr.mono (by decide)) rfl (pa_cons (pv 0) (pa_cons pe_int pa_nil)))) (pa_cons (pe_c G_wdraw (hr.mono (by decide)) rfl (pa_cons (pv 0) (pa_cons pe_int pa_nil))) pa_nil)))))))), ?_⟩
    obtain ⟨ys, hys⟩ := src.has
    refine ⟨(by show 0 ≤ sizeLine; decide), fun l1 hl1 => ?_⟩
    have s1 := Same.upd (o := .lst []) hl1
    have nls : s ≠ l1 := ne_of_none hys hl1
    refine ⟨_, rfl, s, 5, n, rfl, by decide, by decide, src.same s1, by omega, fun q H1 q0 q1 src1 k1 => ?_⟩
    refine ⟨q, rfl, by omega, by omega, ?_⟩
    refine for_range (lo := 0) (n := q.toNat) (fun j σ H2 => ∃ v2 : Option V, ∃ zs ts, σ = [some (.ref s), some (.ref l1), v2] ∧ H2 l1 = some (.lst zs) ∧ Brs H2 zs ts ∧ (∀ t ∈ ts, OkT t ∧ t.2.1 ≤ 12 ∧ t.1 ≤ 4 ∧ t.2.2 ≤ 4) ∧ zs.length ≤ j ∧ Kp s H H2 ∧ Src H2 s (n + 1 + 3 * j))
      ⟨none, [], [], rfl, k1 _ _ nls.symm upd_same, .nil, fun t ht => (nomatch ht), Nat.le_refl _, (Kp.of s1).trans k1, src1⟩ ?_ ?_
    · rintro j σ H2 hj ⟨v2, zs, ts, rfl, h2, hb, ok, zl, k2, src2⟩
      refine ⟨_, rfl, .inl ⟨rfl, _, SqL.of h2⟩, _, rfl, s, 4, _, rfl, by decide, by decide, src2, by omega, fun fa H3 fa0 fa1 src3 k3 => ⟨_, _, rfl, rfl, _, rfl, s, 12, _, rfl, by decide, by decide, src3, by omega, fun wt H4 wt0 wt1 src4 k4 => ⟨_, _, rfl, rfl, _, rfl, s, 4, _, rfl, by decide, by decide, src4, by omega, fun su H5 su0 su1 src5 k5 => ⟨_, _, rfl, rfl, (by show 3 ≤ sizeLine; decide), fun tp htp => ?_⟩⟩⟩⟩
      have h25 := k5 _ _ nls.symm (k4 _ _ nls.symm (k3 _ _ nls.symm h2))
      have s6 := Same.upd (o := .tup [.int (1 + fa), .int (1 + wt), .int (1 + su)]) htp
      have h26 := s6 _ _ h25
      refine ⟨l1, _, _, rfl, rfl, h26, small1 (by omega), ?_⟩
      have n7 := NL.upd (o := .lst (zs ++ [.ref tp])) h26
      obtain ⟨y2, hy2⟩ := src2.has
      obtain ⟨y3, hy3⟩ := src3.has
      obtain ⟨y4, hy4⟩ := src4.has
      have nl25 : NL H2 H5 := ((Kp.nl k3 hy2).trans (Kp.nl k4 hy3)).trans (Kp.nl k5 hy4)
      refine ⟨_, zs ++ [.ref tp], ts ++ [(1 + fa, 1 + wt, 1 + su)], rfl, upd_same, ?_, fun t ht => ?_, by rw [List.length_append]; show zs.length + 1 ≤ j + 1; omega, fun u w nu e => ?_, ?_⟩
      · exact Brs.app (((hb.nl nl25).nl (NL.of s6)).nl n7) (.cons ⟨tp, rfl, n7 _ _ upd_same fun _ z => nomatch z⟩ .nil)
      · rcases List.mem_append.mp ht with ht | ht
        · exact ok t ht
        · rw [List.mem_singleton.mp ht]
          show (1 ≤ 1 + fa ∧ 1 + fa ≤ 1000000000000 ∧ 1 ≤ 1 + wt ∧ 1 + wt ≤ 1000000000000000000000000000000 ∧ 1 ≤ 1 + su ∧ 1 + su ≤ 1000000000000) ∧ 1 + wt ≤ 12 ∧ 1 + fa ≤ 4 ∧ 1 + su ≤ 4
          exact ⟨⟨by omega, by omega, by omega, by omega, by omega, by omega⟩, by omega, by omega, by omega⟩
      · rw [upd_ne (ne_of_none e hl1)]
        exact s6 _ _ (k5 _ _ nu (k4 _ _ nu (k3 _ _ nu (k2 _ _ nu e))))
      · refine src_kp ?_ nls (src5.same s6 |>.mono (by omega))
        exact Kp.upd
    · rintro σ H2 ⟨v2, zs, ts, rfl, h2, hb, ok, zl, k2, src2⟩
      have bl := Brs.len hb
      refine ⟨_, rfl, _, rfl, s, 4, _, rfl, by decide, by decide, src2, by omega, fun e1 H3 e10 e11 src3 k3 => ⟨_, _, rfl, rfl, _, rfl, s, 6, _, rfl, by decide, by decide, src3, by omega, fun e2 H4 e20 e21 src4 k4 => ⟨(by show 3 ≤ sizeLine; decide), fun tq htq => ?_⟩⟩⟩
      obtain ⟨y2, hy2⟩ := src2.has
      obtain ⟨y3, hy3⟩ := src3.has
      have s5 := Same.upd (o := .tup [.ref l1, .int (1 + e1), .int e2]) htq
      have k25 := ((k2.trans k3).trans k4).trans (Kp.of s5)
      have fresh : H tq = none := by
        cases c : H tq with
        | none => rfl
        | some o =>
          by_cases z : tq = s
          · obtain ⟨y, hy⟩ := src4.has
            rw [z, hy] at htq
            cases htq
          · rw [((k2.trans k3).trans k4) _ _ z c] at htq
            cases htq
      exact k tq l1 zs ts (1 + e1) e2 _ ⟨upd_same, s5 _ _ (k4 _ _ nls.symm (k3 _ _ nls.symm h2)), ((hb.nl (Kp.nl k3 hy2)).nl (Kp.nl k4 hy3)).nl (NL.of s5)⟩ ⟨ok, by omega, by omega, by omega, by omega, by omega⟩ ((src4.same s5).mono (by omega)) k25 fresh hl1
theorem ok_wrow (T : LX K mg L) : Cal P w K mg base "_law_row" 3 L.f__law_row ["_law_well_here"] (spLRow) := T.d__law_row.cal fun fd F => fn_wrow T F
abbrev N_wdowns : List Str := ["_law_well_here", "_law_most", "_law_found", "_law_time", "_law_k", "_law_begin", "_law_end"]
theorem sc_wdowns : FnScope N_wdowns ["_law_well_here", "_law_most"] (defScope st__law_downs) := ⟨rfl, rfl, rfl, by decide +kernel, rfl, by decide +kernel, by decide +kernel⟩
theorem fn_wdowns (T : LX K mg L) {fd : FuncData} (F : Fun K "_law_downs" "_law_downs" st__law_downs L.f__law_downs fd) : FnOk P w K mg base CX0 4 L.f__law_downs fd ["_law_well_here", "_law_most"] (spLDowns) := by
  have G_wdraw := ok_wdraw (P := P) (w := w) (base := base) T
  have G_wone := ok_wone (P := P) (w := w) (base := base) T
  have nd := sc_wdowns.nd
  refine F.ok sc_wdowns (fun vs H Q E h => ?_) (fun cdv A outer S H vs Q E hr h => ?_)
  · obtain ⟨s, n, m, rfl, _⟩ := h
    rfl
  · obtain ⟨s, n, m, rfl, src, hn, m0, m1, k⟩ := h
    refine ⟨_, (pss_cons (ps_par (i := 2) (j := 3) (by rfl) nd rfl rfl (by decide) rfl rfl (pa_cons (pe_lst pa_nil) (pa_cons pe_int pa_nil)) (by rfl))
       (pss_cons (ps_for PassesOwn.never rfl (pi_range1 rfl T.b_range (pa_cons (pe_c G_wdraw (hr.mono (by decide)) rfl (pa_cons (pv 0) (pa_cons (pe_op op_add (pv 1) pe_int) pa_nil))) pa_nil)) (pg_name (i := 4) nd rfl (Or.inl rfl)) (pss_cons (ps_set (i := 5) nd rfl (Or.inl rfl) (pe_op op_add (pv 3) (pe_c G_wdraw (hr.mono (by decide)) rfl (pa_cons (pv 0) (pa_cons pe_int pa_nil)))))
       (pss_cons (ps_set (i := 6) nd rfl (Or.inl rfl) (pe_op op_add (pe_op op_add (pv 5) pe_int) (pe_c G_wone (hr.mono (by decide)) rfl (pa_cons (pv 0) (pa_cons (pe_lst (pa_cons (pe_c G_wdraw (hr.mono (by decide)) rfl (pa_cons (pv 0) (pa_cons pe_int pa_nil))) (pa_cons (pe_c G_wdraw (hr.mono (by decide)) rfl (pa_cons (pv 0) (pa_cons pe_int pa_nil))) pa_nil))) pa_nil)))))
       (pss_cons (ps_expr (pe_bm PySem.F.plainAttrs_list PySem.F.slot_list_append PySem.F.type_list_append mt_append (pv 2) (pa_cons (pe_tup (pa_cons (pv 5) (pa_cons (pv 6) pa_nil))) pa_nil)))
       (pss_one (ps_set (i := 3) nd rfl (Or.inl rfl) (pe_op op_add (pv 6) pe_int)))))))
       (pss_one (ps_ret (pv 2))))), ?_⟩
    obtain ⟨ys, hys⟩ := src.has
    refine ⟨(by show 0 ≤ sizeLine; decide), fun l1 hl1 => ⟨_, _, rfl, ?_⟩⟩
    have s1 := Same.upd (o := .lst []) hl1
    have nls : s ≠ l1 := ne_of_none hys hl1
    refine ⟨_, rfl, _, rfl, _, _, rfl, rfl, s, m + 1, n, rfl, by omega, Nat.lt_of_le_of_lt (show (m + 1).natAbs ≤ 13 by omega) (by decide +kernel), src.same s1, by omega, fun q H1 q0 q1 src1 k1 => ?_⟩
    refine ⟨q, rfl, by omega, by omega, ?_⟩
    refine for_range (lo := 0) (n := q.toNat) (fun j σ H2 => ∃ v4 v5 v6 : Option V, ∃ lo zs os, σ = [some (.ref s), some (.int m), some (.ref l1), some (.int lo), v4, v5, v6] ∧ H2 l1 = some (.lst zs) ∧ Ots H2 zs (outs os) ∧ VOut 0 os ∧ (∀ o ∈ os, o.2 + 1 ≤ lo) ∧ os.length ≤ j ∧ 0 ≤ lo ∧ lo ≤ j * 60 ∧ Kp s H H2 ∧ Src H2 s (n + 1 + 4 * j))
      ⟨none, none, none, 0, [], [], rfl, k1 _ _ nls.symm upd_same, .nil, True.intro, fun o ho => (nomatch ho), Nat.le_refl _, Int.le_refl _, by omega, (Kp.of s1).trans k1, src1⟩ ?_ ?_
    · rintro j σ H8 hj ⟨v4, v5, v6, lo, zs2, os, rfl, h8, hz, vo, ol, ln, lo0, lo1, k8, src8⟩
      refine ⟨_, rfl, _, rfl, s, 20, _, rfl, by decide, by decide, src8, by omega, fun b0 H9 b00 b01 src9 k9 => ⟨_, _, rfl, rfl, ?_⟩⟩
      refine ⟨_, rfl, _, _, rfl, rfl, _, rfl, _, rfl, s, 3, _, rfl, by decide, by decide, src9, by omega, fun c1 HX c10 c11 srcX kX => ⟨_, rfl, s, 30, _, rfl, by decide, by decide, srcX, by omega, fun c2 HY c20 c21 srcY kY => ⟨(by show 2 ≤ sizeLine; decide), fun lo5 hlo5 => ?_⟩⟩⟩
      have sl := Same.upd (o := .lst [.int c1, .int c2]) hlo5
      have nsl : s ≠ lo5 := fun e => by
        obtain ⟨y, hy⟩ := srcY.has
        rw [← e, hy] at hlo5
        cases hlo5
      refine ⟨s, lo5, _, _, rfl, nsl, upd_same, Nat.succ_pos _, (by show 2 ≤ 100000; decide), srcY.same sl, by omega, fun v HA hv srcA kA => ?_⟩
      obtain ⟨c0, rfl, c00, c01⟩ : ∃ c0, v = .int c0 ∧ 0 ≤ c0 ∧ c0 < 30 := by
        simp only [List.mem_cons, List.mem_nil_iff, or_false] at hv
        rcases hv with rfl | rfl
        · exact ⟨_, rfl, by omega, by omega⟩
        · exact ⟨_, rfl, by omega, by omega⟩
      have k9A : Kp s H8 HA := (((k9.trans kX).trans kY).trans (Kp.of sl)).trans kA
      refine ⟨_, _, rfl, rfl, ?_⟩
      have hA := k9A _ _ nls.symm h8
      refine ⟨_, rfl, .inl ⟨rfl, _, SqL.of hA⟩, _, rfl, _, rfl, (by show 2 ≤ sizeLine; decide), fun tp htp => ?_⟩
      have sB := Same.upd (o := .tup [.int (lo + b0), .int (lo + b0 + 1 + c0)]) htp
      have hB := sB _ _ hA
      have zl2 := paired_len hz
      rw [outs_len] at zl2
      refine ⟨l1, _, _, rfl, rfl, hB, small1 (by omega), ?_⟩
      have nC := NL.upd (o := .lst (zs2 ++ [.ref tp])) hB
      obtain ⟨y8, hy8⟩ := src8.has
      have nl8C := ((Kp.nl k9A hy8).trans (NL.of sB)).trans nC
      refine ⟨_, rfl, _, _, rfl, rfl, ?_⟩
      refine ⟨_, _, _, _, zs2 ++ [.ref tp], os ++ [(lo + b0, lo + b0 + 1 + c0)], rfl, upd_same, ?_, vout_app vo (fun o ho => by have := ol o ho; omega) (by omega) (by omega) (by omega), fun o ho => ?_, by rw [List.length_append]; show os.length + 1 ≤ j + 1; omega, by omega, by omega, fun u w nu e => ?_, ?_⟩
      · have e : outs (os ++ [(lo + b0, lo + b0 + 1 + c0)]) = outs os ++ [(lo + b0, some (lo + b0 + 1 + c0))] := by
          unfold outs
          rw [List.map_append]
          rfl
        rw [e]
        exact paired_app (hz.nl nl8C) (.cons ⟨tp, rfl, nC _ _ upd_same fun _ z => nomatch z⟩ .nil)
      · rcases List.mem_append.mp ho with ho | ho
        · have := ol o ho
          omega
        · rw [List.mem_singleton.mp ho]
          exact Int.le_refl _
      · rw [upd_ne (ne_of_none e hl1)]
        exact sB _ _ (k9A _ _ nu (k8 _ _ nu e))
      · refine src_kp ?_ nls ((srcA.same sB).mono (by omega))
        exact Kp.upd
    · rintro σ H2 ⟨v4, v5, v6, lo, zs2, os, rfl, h2, hz, vo, ol, ln, lo0, lo1, k2, src2⟩
      exact ⟨_, rfl, k l1 zs2 os H2 h2 hz vo (by omega) (fun o ho => by have := ol o ho; omega) (src2.mono (by omega)) k2 hl1⟩
theorem ok_wdowns (T : LX K mg L) : Cal P w K mg base "_law_downs" 4 L.f__law_downs ["_law_well_here", "_law_most"] (spLDowns) := T.d__law_downs.cal fun fd F => fn_wdowns T F
abbrev N_wmade : List Str := ["_law_line", "_law_specs", "_law_step", "_law_shift"]
theorem sc_wmade : FnScope N_wmade ["_law_line"] (defScope st__law_made) := ⟨rfl, rfl, rfl, by decide +kernel, rfl, by decide +kernel, by decide +kernel⟩
theorem fn_wmade (T : LX K mg L) {fd : FuncData} (F : Fun K "_law_made" "_law_made" st__law_made L.f__law_made fd) : FnOk P w K mg base CX0 9 L.f__law_made fd ["_law_line"] (spLMade L.c_Row) := by
  have nd := sc_wmade.nd
  refine F.ok sc_wmade (fun vs H Q E h => ?_) (fun cdv A outer S H vs Q E hr h => ?_)
  · obtain ⟨t, l, xs, ts, st, ph, rfl, _⟩ := h
    rfl
  · obtain ⟨t, l, xs, ts, st, ph, rfl, ⟨ht, hl, hb⟩, W, k⟩ := h
    refine ⟨_, (pss_cons (ps_asg (pv 0) (pg_tup rfl (pgs_cons (pg_name (i := 1) nd rfl (Or.inl rfl)) (pgs_cons (pg_name (i := 2) nd rfl (Or.inl rfl)) (pgs_cons (pg_name (i := 3) nd rfl (Or.inl rfl)) pgs_nil)))))
       (pss_one (ps_ret (pe_mkRow_p_phase T (hr.mono (by decide)) rfl (pa_cons (pe_callTy call_list_of (by rfl) T.b_list (by decide +kernel) (pa_cons (pv 1) pa_nil)) (pa_cons (pv 2) pa_nil)) (pk_cons (pv 3) pk_nil))))), ?_⟩
    refine ⟨_, rfl, t, _, rfl, SqT.of ht, rfl, _, _, rfl, _, _, rfl, _, _, rfl, rfl, ?_⟩
    refine ⟨_, rfl, l, _, rfl, .inl (SqL.of hl), fun l2 hl2 => ⟨_, rfl, _, rfl, rfl, rfl, ?_⟩⟩
    have s2 := Same.upd (o := .lst xs) hl2
    refine row_made (xs := xs) (ts := ts) upd_same (hb.nl (NL.of s2)) W.ok W.ln ⟨W.s0, W.s1, W.p0, W.p1⟩ fun r B H5 R5 s5 nr5 => ?_
    exact k r B H5 R5 (s2.trans s5) (none_of s2 nr5)
theorem ok_wmade (T : LX K mg L) : Cal P w K mg base "_law_made" 9 L.f__law_made ["_law_line"] (spLMade L.c_Row) := T.d__law_made.cal fun fd F => fn_wmade T F
abbrev N_wuntil : List Str := ["_law_downs_here", "_law_begin", "_law_end"]
theorem sc_wuntil : FnScope N_wuntil ["_law_downs_here"] (defScope st__law_until) := ⟨rfl, rfl, rfl, by decide +kernel, rfl, by decide +kernel, by decide +kernel⟩
theorem fn_wuntil (T : LX K mg L) {fd : FuncData} (F : Fun K "_law_until" "_law_until" st__law_until L.f__law_until fd) : FnOk P w K mg base CX0 1 L.f__law_until fd ["_law_downs_here"] (spLUntil) := by
  have nd := sc_wuntil.nd
  refine F.ok sc_wuntil (fun vs H Q E h => ?_) (fun cdv A outer S H vs Q E hr h => ?_)
  · obtain ⟨a, zs, os, rfl, _⟩ := h
    rfl
  · obtain ⟨a, zs, os, rfl, ha, hz, ol, k⟩ := h
    refine ⟨_, (pss_one (ps_ret (pe_op op_add (pe_maxDf rfl hr.units (by rfl) T.b_max (pa_cons (pe_lc (own := [("_law_begin", 1), ("_law_end", 2)]) (g := gTup K 2 (gCons (gName 1) (gCons (gName 2) (gNil)))) (tt := tYes) rfl nd (pi_list (pv 0)) (blkOk_by (own := [("_law_begin", 1), ("_law_end", 2)]) (N := N_wuntil) (sc := defScope st__law_until) (by decide +kernel)) (fun _ _ _ _ _ => pg_tup rfl (pgs_cons (pg_name (i := 1) nd rfl (Or.inl rfl)) (pgs_cons (pg_name (i := 2) nd rfl (Or.inl rfl)) pgs_nil))) (fun _ _ _ _ _ => pts_nil) (fun _ _ _ _ _ => (pv 2))) pa_nil) (pk_cons pe_int pk_nil)) pe_int))), ?_⟩
    have zl := paired_len hz
    rw [outs_len] at zl
    refine ⟨_, rfl, a, rfl, ⟨_, SqL.of ha⟩, fun D hD => ?_⟩
    refine lc_list (K := K) (a := a) (xs := zs) (fun j Hx => Hx D = some (.lst (((os.take j).map Prod.snd).map V.int)) ∧ Same H Hx) ⟨upd_same, Same.upd hD⟩ (fun j Hx _ ⟨_, s⟩ => SqL.of (s _ _ ha)) ?_ ?_
    · rintro j x Hx hxj ⟨hDx, sx⟩
      obtain ⟨o', ho', hox⟩ := paired_get hz hxj
      obtain ⟨o, ho, rfl⟩ : ∃ o, os[j]? = some o ∧ o' = (o.1, some o.2) := by
        unfold outs at ho'
        rw [List.getElem?_map] at ho'
        cases q : os[j]? with
        | none => rw [q] at ho'; cases ho'
        | some o => rw [q] at ho'; cases ho'; exact ⟨o, rfl, rfl⟩
      obtain ⟨c0, rfl, hc0⟩ := hox.same sx
      refine ⟨c0, _, rfl, SqT.of hc0, rfl, _, _, rfl, _, _, rfl, rfl, ?_⟩
      refine ⟨rfl, tYes_of ⟨_, rfl, _, hDx, small1 (by rw [List.length_map, List.length_map, List.length_take]; omega), ?_, fun b u e => by rw [upd_ne (ne_of_none e hD)]; exact sx _ _ e⟩⟩
      rw [upd_same, List.take_add_one, ho]
      simp
      rfl
    rintro HA ⟨hDA, sA⟩
    rw [zl, List.take_length] at hDA
    refine ⟨D, os.map Prod.snd, 0, rfl, rfl, SqL.of hDA, fun m m1 m2 => ⟨_, _, rfl, rfl, ?_⟩⟩
    exact k m HA (fun e => m1 (by rw [e]; rfl)) (fun ne => m2 (by simpa using ne)) sA
theorem ok_wuntil (T : LX K mg L) : Cal P w K mg base "_law_until" 1 L.f__law_until ["_law_downs_here"] (spLUntil) := T.d__law_until.cal fun fd F => fn_wuntil T F
end
/-! ### a request sent -/
def spSend : Sp := fun vs H Q _ => ∃ a l xs ys bs ss t good, vs = [.ref a, .ref l, .int t, .bl good] ∧ H a = some (.lst xs) ∧ Brs H xs bs ∧ H l = some (.lst ys) ∧ Sts H ys ss ∧ a ≠ l ∧ ss.length = bs.length ∧ bs.length ≤ 12 ∧ ∀ (k : Nat) q H' ys', k ≤ bs.length → (∀ (i : Nat) (b : Tri) (s : StD), i < k → bs[i]? = some b → ss[i]? = some s → psB b s t) → (∀ (b : Tri) (s : StD), bs[k]? = some b → ss[k]? = some s → ¬ psB b s t) →
  H' q = some (.tup [.int (k : Nat), .bl (decide (k = bs.length) && good)]) → H' l = some (.lst ys') → Sts H' ys' (mixS bs ss t (decide (k = bs.length) && good) k k) → Kp l H H' → H q = none → Q (.ref q) H'
section
variable {P : Program} {w : World} {K : PySem.W.Frag} {mg : Str → Option Value} {base : Heap} {L : LA}
abbrev N_wsend : List Str := ["_law_specs", "_law_states", "_law_time", "_law_is_fine", "_law_many", "_law_spec", "_law_state", "_law_is_good", "_law_at", "_law_word", "_law_number", "_law_is_half", "_law_is_still"]
theorem sc_wsend : FnScope N_wsend ["_law_specs", "_law_states", "_law_time", "_law_is_fine"] (defScope st__law_send) := ⟨rfl, rfl, rfl, by decide +kernel, rfl, by decide +kernel, by decide +kernel⟩
theorem fn_wsend (T : LX K mg L) {fd : FuncData} (F : Fun K "_law_send" "_law_send" st__law_send L.f__law_send fd) : FnOk P w K mg base CX0 3 L.f__law_send fd ["_law_specs", "_law_states", "_law_time", "_law_is_fine"] (spSend) := by
  have nd := sc_wsend.nd
  refine F.ok sc_wsend (fun vs H Q E h => ?_) (fun cdv A outer S H vs Q E hr h => ?_)
  · obtain ⟨a, l, xs, ys, bs, ss, t, good, rfl, _⟩ := h
    rfl
  · obtain ⟨a, l, xs, ys, bs, ss, t, good, rfl, ha, hb, hl, hs, nal, sl, bl, k⟩ := h
    refine ⟨_, (pss_cons (ps_set (i := 4) nd rfl (Or.inl rfl) pe_int)
       (C8.pss_cut (ps_for PassesOwn.never rfl (pi_zip (by rfl) T.b_zip (pa_cons (pv 0) (pa_cons (pe_callTy call_list_of (by rfl) T.b_list (by decide +kernel) (pa_cons (pv 1) pa_nil)) pa_nil))) (pg_tup rfl (pgs_cons (pg_name (i := 5) nd rfl (Or.inl rfl)) (pgs_cons (pg_name (i := 6) nd rfl (Or.inl rfl)) pgs_nil))) (pss_cons (ps_if (PW.pt (pw_and (pt_cmpR op_eq (pe_ix (r := rIxT K) ix_tup (pv 6) pe_int (fun _ _ => rfl)) pe_str (nomark _)) (pw_and1 (pt_cmpR op_lt (pe_op op_sub (pv 2) (pe_ix (r := rIxT K) ix_tup (pv 6) pe_int (fun _ _ => rfl))) (pe_ix (r := rIxT K) ix_tup (pv 5) pe_int (fun _ _ => rfl)) (nomark _))))) (pss_one (ps_break)) pss_nil)
       (pss_cons (ps_if (pt_cmpR op_eq (pe_ix (r := rIxT K) ix_tup (pv 6) pe_int (fun _ _ => rfl)) pe_str (nomark _)) (pss_one (ps_asg (pe_tup (pa_cons pe_str (pa_cons pe_int pa_nil))) (pg_sub (pv 1) (pv 4) set_list))) pss_nil)
       (pss_one (ps_set (i := 4) nd rfl (Or.inl rfl) (pe_op op_add (pv 4) pe_int))))))
       (C8.pss_cut (ps_set (i := 7) nd rfl (Or.inl rfl) (pe_and (pe_cmpR op_eq (pv 4) (pe_callB call_len_seq (by rfl) T.b_len PySem.boot_len (pa_cons (pv 0) pa_nil)) (nomark _)) (pe_one (pv 3))))
       (pss_cons (ps_for PassesOwn.never rfl (pi_range1 rfl T.b_range (pa_cons (pv 4) pa_nil)) (pg_name (i := 8) nd rfl (Or.inl rfl)) (pss_cons (ps_asg (pe_ix (r := rIxL K) ix_list (pv 1) (pv 8) (fun _ _ => rfl)) (pg_tup rfl (pgs_cons (pg_name (i := 9) nd rfl (Or.inl rfl)) (pgs_cons (pg_name (i := 10) nd rfl (Or.inl rfl)) pgs_nil))))
       (pss_one (ps_if (pt_val (pv 7)) (pss_cons (ps_set (i := 11) nd rfl (Or.inl rfl) (pe_and (pe_cmpR op_eq (pv 9) pe_str (nomark _)) (pe_one (pe_cmpR op_lt (pe_op op_add (pv 10) pe_int) (pe_ix (r := rIxT K) ix_tup (pe_ix (r := rIxL K) ix_list (pv 0) (pv 8) (fun _ _ => rfl)) pe_int (fun _ _ => rfl)) (nomark _)))))
       (pss_one (ps_asg (pe_ifExp (pt_val (pv 11)) (pe_tup (pa_cons pe_str (pa_cons (pe_op op_add (pv 10) pe_int) pa_nil))) (pe_tup (pa_cons pe_str (pa_cons pe_int pa_nil)))) (pg_sub (pv 1) (pv 8) set_list)))) (pss_cons (ps_set (i := 12) nd rfl (Or.inl rfl) (pe_and (pe_cmpR op_eq (pv 9) pe_str (nomark _)) (pe_one (pe_cmpR op_lt (pe_op op_add (pv 10) pe_int) (pe_ix (r := rIxT K) ix_tup (pe_ix (r := rIxL K) ix_list (pv 0) (pv 8) (fun _ _ => rfl)) pe_int (fun _ _ => rfl)) (nomark _)))))
       (pss_one (ps_asg (pe_ifExp (pt_val (pv 12)) (pe_tup (pa_cons pe_str (pa_cons (pe_op op_add (pv 10) pe_int) pa_nil))) (pe_tup (pa_cons pe_str (pa_cons (pv 2) pa_nil)))) (pg_sub (pv 1) (pv 8) set_list))))))))
       (pss_one (ps_ret (pe_tup (pa_cons (pv 4) (pa_cons (pv 7) pa_nil))))))))), ?_⟩
    have xl := hb.len
    have yl := paired_len hs
    refine ⟨fun σ' H' => ∃ (k : Nat) (ys' : List V), ∃ v5 v6 : Option V, σ' = [some (.ref a), some (.ref l), some (.int t), some (.bl good), some (.int (k : Nat)), v5, v6, none, none, none, none, none, none] ∧ k ≤ bs.length ∧ (∀ (i : Nat) (b : Tri) (s : StD), i < k → bs[i]? = some b → ss[i]? = some s → psB b s t) ∧ (∀ (b : Tri) (s : StD), bs[k]? = some b → ss[k]? = some s → ¬ psB b s t) ∧
        H' l = some (.lst ys') ∧ Sts H' ys' (mixS bs ss t false 0 k) ∧ Kp l H H', ?_, ?_⟩
    · refine ⟨_, rfl, _, rfl, l, ys, rfl, .inl (SqL.of hl), fun lc hlc => ?_⟩
      have s0 := Same.upd (o := .lst ys) hlc
      have nlc : l ≠ lc := ne_of_none hl hlc
      refine ⟨a, lc, xs, ys, rfl, SqL.of (s0 _ _ ha), SqL.of upd_same, ?_⟩
      refine RZ.for_zipL (K := K) (a := a) (b := lc) (xs := xs) (ys := ys) (by omega) (fun i σ H3 => ∃ (ys' : List V), ∃ v5 v6 : Option V, σ = [some (.ref a), some (.ref l), some (.int t), some (.bl good), some (.int (i : Nat)), v5, v6, none, none, none, none, none, none] ∧ (∀ (j : Nat) (b : Tri) (s : StD), j < i → bs[j]? = some b → ss[j]? = some s → psB b s t) ∧
          H3 l = some (.lst ys') ∧ Sts H3 ys' (mixS bs ss t false 0 i) ∧ Kp l (upd H lc (.lst ys)) H3) ⟨ys, none, none, rfl, fun j b s h => absurd h (Nat.not_lt_zero j), s0 _ _ hl, by rw [mixS_0 sl]; exact hs.same s0, fun b o _ e => e⟩ (fun i σ H3 ⟨_, _, _, _, _, _, _, kp⟩ => ⟨SqL.of (kp _ _ nal (s0 _ _ ha)), SqL.of (kp _ _ nlc.symm upd_same)⟩) ?_ ?_
      · rintro i x y T' σ H3 hxi hyi ⟨ys', v5, v6, rfl, hps, hl3, hs3, kp⟩ hT
        obtain ⟨b, hbi, hbx⟩ := hb.get hxi
        obtain ⟨s, hsi, hsx⟩ := paired_get hs hyi
        have hi := (List.getElem?_eq_some_iff.mp hbi).1
        obtain ⟨c0, rfl, hc0⟩ := hbx
        obtain ⟨u, rfl, hu⟩ := hsx
        have ncl : c0 ≠ l := fun e => by rw [e, hl] at hc0; cases hc0
        have nul : u ≠ l := fun e => by rw [e, hl] at hu; cases hu
        have sT := Same.upd (o := .tup [.ref c0, .ref u]) hT
        have hc3 := sT _ _ (kp _ _ ncl (s0 _ _ hc0))
        have hu3 := sT _ _ (kp _ _ nul (s0 _ _ hu))
        have hl4 := sT _ _ hl3
        have hs4 := hs3.same sT
        have kp4 : Kp l (upd H lc (.lst ys)) (upd H3 T' (.tup [.ref c0, .ref u])) := kp.trans (Kp.of sT)
        refine ⟨T', _, rfl, SqT.of upd_same, rfl, _, _, rfl, _, _, rfl, rfl, ?_⟩
        generalize upd H3 T' (.tup [.ref c0, .ref u]) = H4 at hc3 hu3 hl4 hs4 kp4 ⊢
        obtain ⟨sw, sn⟩ := s
        have hset := mixS_half (t := t) (f := false) hbi hsi
        have psn : psB b (sw, sn) t → ∀ (j : Nat) (b : Tri) (s : StD), j < i + 1 → bs[j]? = some b → ss[j]? = some s → psB b s t := fun hp j b' s' hj e1 e2 => by
          by_cases q : j < i
          · exact hps j b' s' q e1 e2
          · have : j = i := by omega
            subst this
            rw [hbi] at e1
            rw [hsi] at e2
            cases e1
            cases e2
            exact hp
        refine ⟨_, rfl, u, _, 0, .str sw, rfl, rfl, SqT.of hu3, rfl, rfl, _, rfl, ?_⟩
        refine ite2 (fun c1 => ?_) (fun c1 => ?_)
        · have c1' : sw = "open" := V.str.inj (of_decide_eq_true c1)
          subst c1'
          refine ⟨_, rfl, _, rfl, u, _, 1, .int sn, rfl, rfl, SqT.of hu3, rfl, _, _, rfl, rfl, _, rfl, c0, _, 1, .int b.2.1, rfl, rfl, SqT.of hc3, rfl, _, _, rfl, rfl, _, rfl, ite2 (fun c2 => ?_) (fun c2 => ?_)⟩
          · have c2' : t - sn < b.2.1 := of_decide_eq_true c2
            refine ⟨i, ys', _, _, rfl, Nat.le_of_lt hi, hps, fun b' s' e1 e2 p => ?_, hl4, hs4, (Kp.of s0).trans kp4⟩
            rw [hbi] at e1
            rw [hsi] at e2
            cases e1
            cases e2
            have : b.2.1 ≤ t - sn := p rfl
            omega
          · have c2' : ¬ t - sn < b.2.1 := fun e => c2 (decide_eq_true e)
            have hp : psB b ("open", sn) t := fun _ => by show b.2.1 ≤ t - sn; omega
            refine ⟨_, rfl, u, _, 0, .str "open", rfl, rfl, SqT.of hu3, rfl, rfl, _, rfl, ite2 (fun _ => ⟨(by show 2 ≤ sizeLine; decide), fun tp htp => ?_⟩) (fun z => absurd c1 z)⟩
            have s5 := Same.upd (o := .tup [.str "half", .int 0]) htp
            have hl5 := s5 _ _ hl4
            have yl4 := paired_len hs4
            rw [mixS_len] at yl4
            refine ⟨_, rfl, _, rfl, l, ys', _, i, rfl, rfl, hl5, ixN_of (by omega), _, rfl, _, _, rfl, rfl, ?_⟩
            refine ⟨ys'.set i (.ref tp), _, _, rfl, psn hp, upd_same, ?_, (kp4.trans (Kp.of s5)).trans Kp.upd⟩
            rw [← hset]
            refine sts_kp (fun b xs e => by rw [upd_ne (fun z => by rw [z, hl5] at e; cases e)]; exact e) (paired_set i (hs4.same s5) ⟨tp, rfl, ?_⟩)
            rw [upd_same]
            rfl
        · have c1' : ¬ sw = "open" := fun e => c1 (decide_eq_true (congrArg V.str e))
          have hp : psB b (sw, sn) t := fun e => absurd e c1'
          have hk := mixS_keep (t := t) (f := false) hbi hsi (if_neg c1')
          rw [hk] at hs4
          exact iteF ⟨_, rfl, u, _, 0, .str sw, rfl, rfl, SqT.of hu3, rfl, rfl, _, rfl, ite2 (fun q => absurd q c1) (fun _ => ⟨_, rfl, _, _, rfl, rfl, ys', _, _, rfl, psn hp, hl4, hs4, kp4⟩)⟩
      · rintro σ H3 ⟨ys', v5, v6, rfl, hps, hl3, hs3, kp⟩
        rw [xl] at hps hs3
        exact ⟨bs.length, ys', v5, v6, by rw [xl], Nat.le_refl _, hps, fun b s e => absurd (List.getElem?_eq_some_iff.mp e).1 (Nat.lt_irrefl _), hl3, hs3, (Kp.of s0).trans kp⟩
    · rintro σ' H' ⟨m, ys', v5, v6, rfl, mn, hps, hrj, hl', hs', kp⟩
      have nala := kp _ _ nal ha
      obtain ⟨f, hf⟩ : ∃ f, f = (decide (m = bs.length) && good) := ⟨_, rfl⟩
      refine ⟨fun σ2 H2 => σ2 = [some (.ref a), some (.ref l), some (.int t), some (.bl good), some (.int (m : Nat)), v5, v6, some (.bl f), none, none, none, none, none] ∧ H2 = H', ?_, ?_⟩
      · refine ⟨_, rfl, _, rfl, a, xs, rfl, .inl (SqL.of nala), rfl, _, rfl, ite2 (fun c => ⟨_, rfl, ?_⟩) (fun c => ?_)⟩
        · have : m = bs.length := by have := V.int.inj (of_decide_eq_true c); omega
          rw [hf, decide_eq_true this]
          exact ⟨rfl, rfl⟩
        · have : ¬ m = bs.length := fun e => c (decide_eq_true (congrArg V.int (by omega)))
          rw [hf, decide_eq_false this]
          exact ⟨rfl, rfl⟩
      rintro σ2 H2 ⟨rfl, rfl⟩
      rw [mixS_same (g := f)] at hs'
      refine ⟨_, rfl, m, rfl, by omega, by omega, ?_⟩
      refine for_range (lo := 0) (n := (m : Int).toNat) (fun j σ H3 => ∃ (ys3 : List V), ∃ v8 v9 v10 v11 v12 : Option V, σ = [some (.ref a), some (.ref l), some (.int t), some (.bl good), some (.int (m : Nat)), v5, v6, some (.bl f), v8, v9, v10, v11, v12] ∧ H3 l = some (.lst ys3) ∧ Sts H3 ys3 (mixS bs ss t f j m) ∧ Kp l H H3)
        ⟨ys', _, _, _, _, _, rfl, hl', hs', kp⟩ ?_ ?_
      · rintro j σ H3 hj ⟨ys3, v8, v9, v10, v11, v12, rfl, hl3, hs3, kp3⟩
        have hjm : j < m := by omega
        have hjn : j < bs.length := by omega
        have e0 : (0 : Int) + (j : Int) = j := by omega
        rw [e0]
        obtain ⟨b, hbj⟩ : ∃ b, bs[j]? = some b := ⟨_, List.getElem?_eq_getElem hjn⟩
        obtain ⟨s, hsj⟩ : ∃ s, ss[j]? = some s := ⟨_, List.getElem?_eq_getElem (by omega)⟩
        obtain ⟨x, hx, c0, rfl, hc0⟩ := paired_get2 hb hbj
        have ncl : c0 ≠ l := fun e => by rw [e, hl] at hc0; cases hc0
        have hc3 := kp3 _ _ ncl hc0
        have ha3 := kp3 _ _ nal ha
        have hfin := mixS_fin (t := t) (f := f) (k := m) hbj hsj
        obtain ⟨y, hy, u, rfl, hu⟩ := paired_get2 hs3 (mixS_get (bs := bs) (ss := ss) (t := t) (f := f) (j := j) (k := m) hjn)
        have em : mixE bs ss t f j m j = hfS s := by rw [mixE_is hbj hsj, if_neg (Nat.lt_irrefl j), if_pos hjm]
        rw [em] at hu
        refine ⟨_, rfl, _, rfl, l, ys3, _, .ref u, rfl, rfl, SqL.of hl3, atI_nat hy, u, _, rfl, SqT.of hu, rfl, _, _, rfl, _, _, rfl, rfl, ?_⟩
        have yl3 := paired_len hs3
        rw [mixS_len] at yl3
        obtain ⟨hw, hn, hhf⟩ : ∃ hw hn, hfS s = (hw, hn) := ⟨_, _, rfl⟩
        rw [hhf]
        have store : ∀ (tp : Addr) (d : StD), H3 tp = none → d = (if f = true then okS b s else badS b s t) → ∃ ys4, ys4 = ys3.set j (.ref tp) ∧ Sts (upd (upd H3 tp (.tup [.str d.1, .int d.2])) l (.lst ys4)) ys4 (mixS bs ss t f (j + 1) m) ∧ Kp l H (upd (upd H3 tp (.tup [.str d.1, .int d.2])) l (.lst ys4)) := fun tp d htp hd => by
          have s5 := Same.upd (o := .tup [.str d.1, .int d.2]) htp
          refine ⟨_, rfl, ?_, (kp3.trans (Kp.of s5)).trans Kp.upd⟩
          rw [← hfin, ← hd]
          exact sts_kp (fun b xs e => by rw [upd_ne (fun z => by rw [z, s5 _ _ hl3] at e; cases e)]; exact e) (paired_set j (hs3.same s5) ⟨tp, rfl, upd_same⟩)
        have put : ∀ (tp : Addr) (d : StD) {Z : Hp → Prop}, H3 tp = none → (∀ ys4, ys4 = ys3.set j (.ref tp) → Z (upd (upd H3 tp (.tup [.str d.1, .int d.2])) l (.lst ys4))) → rSetL (.ref l) (.int j) (.ref tp) (upd H3 tp (.tup [.str d.1, .int d.2])) Z := fun tp d Z htp hz =>
          ⟨l, ys3, _, j, rfl, rfl, (Same.upd htp) _ _ hl3, ixN_of (by omega), hz _ rfl⟩
        refine ⟨_, rfl, _, rfl, ite2 (fun cf => ?_) (fun cf => ?_)⟩
        · have eo : (if f = true then okS b s else badS b s t) = if hw = "half" ∧ hn + 1 < b.2.2 then (("half" : Str), hn + 1) else (("closed" : Str), 0) := by
            rw [if_pos cf]
            unfold okS
            rw [hhf]
          rw [eo] at store
          refine ⟨_, rfl, rfl, _, rfl, ite2 (fun c1 => ⟨_, rfl, _, _, rfl, rfl, _, rfl, _, rfl, a, xs, _, .ref c0, rfl, rfl, SqL.of ha3, atI_nat hx, c0, _, 2, .int b.2.2, rfl, rfl, SqT.of hc3, rfl, _, _, rfl, rfl, _, rfl, _, rfl, ite2 (fun c2 => ?_) (fun c2 => ?_)⟩) (fun c1 => ⟨_, rfl, _, rfl, iteF ?_⟩)⟩
          · rw [if_pos ⟨V.str.inj (of_decide_eq_true c1), of_decide_eq_true c2⟩] at store
            refine ⟨_, rfl, _, _, rfl, rfl, (by show 2 ≤ sizeLine; decide), fun tp htp => ⟨_, rfl, _, rfl, put tp ("half", hn + 1) htp fun ys4 e4 => ?_⟩⟩
            obtain ⟨ys5, e5, z1, z2⟩ := store tp _ htp rfl
            subst e4 e5
            exact ⟨_, _, _, _, _, _, rfl, upd_same, z1, z2⟩
          · rw [if_neg (fun z => c2 (decide_eq_true z.2))] at store
            refine ⟨(by show 2 ≤ sizeLine; decide), fun tp htp => ⟨_, rfl, _, rfl, put tp ("closed", 0) htp fun ys4 e4 => ?_⟩⟩
            obtain ⟨ys5, e5, z1, z2⟩ := store tp _ htp rfl
            subst e4 e5
            exact ⟨_, _, _, _, _, _, rfl, upd_same, z1, z2⟩
          · rw [if_neg (fun z => c1 (decide_eq_true (congrArg V.str z.1)))] at store
            refine ⟨(by show 2 ≤ sizeLine; decide), fun tp htp => ⟨_, rfl, _, rfl, put tp ("closed", 0) htp fun ys4 e4 => ?_⟩⟩
            obtain ⟨ys5, e5, z1, z2⟩ := store tp _ htp rfl
            subst e4 e5
            exact ⟨_, _, _, _, _, _, rfl, upd_same, z1, z2⟩
        · have eo : (if f = true then okS b s else badS b s t) = if hw = "closed" ∧ hn + 1 < b.1 then (("closed" : Str), hn + 1) else (("open" : Str), t) := by
            rw [if_neg cf]
            unfold badS
            rw [hhf]
          rw [eo] at store
          refine ⟨_, rfl, rfl, _, rfl, ite2 (fun c1 => ⟨_, rfl, _, _, rfl, rfl, _, rfl, _, rfl, a, xs, _, .ref c0, rfl, rfl, SqL.of ha3, atI_nat hx, c0, _, 0, .int b.1, rfl, rfl, SqT.of hc3, rfl, _, _, rfl, rfl, _, rfl, _, rfl, ite2 (fun c2 => ?_) (fun c2 => ?_)⟩) (fun c1 => ⟨_, rfl, _, rfl, iteF ?_⟩)⟩
          · rw [if_pos ⟨V.str.inj (of_decide_eq_true c1), of_decide_eq_true c2⟩] at store
            refine ⟨_, rfl, _, _, rfl, rfl, (by show 2 ≤ sizeLine; decide), fun tp htp => ⟨_, rfl, _, rfl, put tp ("closed", hn + 1) htp fun ys4 e4 => ?_⟩⟩
            obtain ⟨ys5, e5, z1, z2⟩ := store tp _ htp rfl
            subst e4 e5
            exact ⟨_, _, _, _, _, _, rfl, upd_same, z1, z2⟩
          · rw [if_neg (fun z => c2 (decide_eq_true z.2))] at store
            refine ⟨_, rfl, (by show 2 ≤ sizeLine; decide), fun tp htp => ⟨_, rfl, _, rfl, put tp ("open", t) htp fun ys4 e4 => ?_⟩⟩
            obtain ⟨ys5, e5, z1, z2⟩ := store tp _ htp rfl
            subst e4 e5
            exact ⟨_, _, _, _, _, _, rfl, upd_same, z1, z2⟩
          · rw [if_neg (fun z => c1 (decide_eq_true (congrArg V.str z.1)))] at store
            refine ⟨_, rfl, (by show 2 ≤ sizeLine; decide), fun tp htp => ⟨_, rfl, _, rfl, put tp ("open", t) htp fun ys4 e4 => ?_⟩⟩
            obtain ⟨ys5, e5, z1, z2⟩ := store tp _ htp rfl
            subst e4 e5
            exact ⟨_, _, _, _, _, _, rfl, upd_same, z1, z2⟩
      · rintro σ H3 ⟨ys3, v8, v9, v10, v11, v12, rfl, hl3, hs3, kp3⟩
        rw [Int.toNat_natCast] at hs3
        refine ⟨_, rfl, _, rfl, (by show 2 ≤ sizeLine; decide), fun q hq => ?_⟩
        have s4 := Same.upd (o := .tup [.int (m : Nat), .bl f]) hq
        rw [hf] at hs3 s4 ⊢
        exact k m q _ ys3 mn hps hrj upd_same (s4 _ _ hl3) (hs3.same s4) (kp3.trans (Kp.of s4)) (by
          cases c : H q with
          | none => rfl
          | some o =>
            by_cases z : q = l
            · rw [z, hl3] at hq; cases hq
            · rw [kp3 _ _ z c] at hq; cases hq)
theorem ok_wsend (T : LX K mg L) : Cal P w K mg base "_law_send" 3 L.f__law_send ["_law_specs", "_law_states", "_law_time", "_law_is_fine"] (spSend) := T.d__law_send.cal fun fd F => fn_wsend T F
end
/-! ### requests sent one by one -/
theorem rgC_up {i j c : Int} {n : Nat} (c0 : 1 ≤ c) (c1 : c ≤ 1000) (i0 : 0 ≤ i) (i1 : i ≤ 100000) (j0 : 0 ≤ j) (j1 : j ≤ 100000) (hn : (n : Int) = if i < j then (j - i - 1) / c + 1 else 0) (n1 : n ≤ 100000) : RgC i j c n := by
  have hs : Builtin.Range.rangeSize i j c = n := by
    unfold Builtin.Range.rangeSize
    rw [if_pos (by omega), hn]
  refine ⟨by omega, by omega, ?_, hs⟩
  unfold Builtin.Range.small
  rw [hs, if_pos (by omega)]
  have fl : ∀ z : Int, -1000000 ≤ z → z ≤ 1000000 → Builtin.Range.rangeFitsLong z = true := fun z h1 h2 => by
    unfold Builtin.Range.rangeFitsLong
    rw [Bool.and_eq_true, decide_eq_true_iff, decide_eq_true_iff]
    exact ⟨by omega, by omega⟩
  rw [fl i (by omega) (by omega), fl j (by omega) (by omega), fl c (by omega) (by omega), fl n (by omega) (by omega), fl (j + (c - 1)) (by omega) (by omega)]
  simp
/-- a sent request -/
def SnRow (F : Hp) (ts : List Tri) (st ph : Int) (os : List (Int × Int)) (t : Int) (x : V) : Prop := ∃ q e l ye yl k, x = .ref q ∧ F q = some (.tup [.int t, .int (k : Nat), .bl (!(inSp (spsOf ts st ph os) t)), .ref e, .ref l]) ∧ k ≤ ts.length ∧ OutK ts.length (dn os t) (lat none (spsOf ts st ph os) t) t k ∧
  F e = some (.lst ye) ∧ Sts F ye (stM ts st ph os (t - 1)) ∧ F l = some (.lst yl) ∧ Sts F yl (stM ts st ph os t)
theorem SnRow.same {F F' : Hp} (s : Same F F') {ts : List Tri} {st ph : Int} {os : List (Int × Int)} {t : Int} {x : V} (h : SnRow F ts st ph os t x) : SnRow F' ts st ph os t x := by
  obtain ⟨q, e, l, ye, yl, k, ee, h1, h2, h3, h4, h5, h6, h7⟩ := h
  exact ⟨q, e, l, ye, yl, k, ee, s _ _ h1, h2, h3, s _ _ h4, h5.same s, s _ _ h6, h7.same s⟩
/-- what has been sent -/
def Snt (F : Hp) (ts : List Tri) (st ph : Int) (os : List (Int × Int)) (n : Nat) (ys : List V) : Prop := ys.length = n ∧ ∀ (j : Nat) x, ys[j]? = some x → SnRow F ts st ph os (ph + (j : Int) * st) x
theorem Snt.same {F F' : Hp} (s : Same F F') {ts : List Tri} {st ph : Int} {os : List (Int × Int)} {n : Nat} {ys : List V} (h : Snt F ts st ph os n ys) : Snt F' ts st ph os n ys := ⟨h.1, fun j x hx => (h.2 j x hx).same s⟩
def spLPlay : Sp := fun vs H Q _ => ∃ t l d xs zs ts os st ph u, vs = [.ref t, .ref d, .int u] ∧ LnAt H t l xs ts st ph ∧ H d = some (.lst zs) ∧ Ots H zs (outs os) ∧ RowD ts st ph ∧ st ≤ 1000 ∧ ph ≤ 1000 ∧ VOut 0 os ∧ os.length ≤ 50 ∧ 0 ≤ u ∧ u ≤ 10000 ∧
  ∀ n r ys H', (∀ m : Nat, m < n ↔ ph + (m : Int) * st ≤ u) → n ≤ 10001 → H' r = some (.lst ys) → H r = none → Snt (Fr H H') ts st ph os n ys → Same H H' → Q (.ref r) H'
section
variable {P : Program} {w : World} {K : PySem.W.Frag} {mg : Str → Option Value} {base : Heap} {L : LA}
abbrev N_wplay : List Str := ["_law_line", "_law_downs_here", "_law_until_here", "_law_specs", "_law_step", "_law_shift", "_law_states", "_law_found", "_law_time", "_law_early", "_law_is_fine", "_law_many", "_law_is_good", "_law_begin", "_law_end"]
theorem sc_wplay : FnScope N_wplay ["_law_line", "_law_downs_here", "_law_until_here"] (defScope st__law_play) := ⟨rfl, rfl, rfl, by decide +kernel, rfl, by decide +kernel, by decide +kernel⟩
theorem fn_wplay (T : LX K mg L) {fd : FuncData} (F : Fun K "_law_play" "_law_play" st__law_play L.f__law_play fd) : FnOk P w K mg base CX0 4 L.f__law_play fd ["_law_line", "_law_downs_here", "_law_until_here"] (spLPlay) := by
  have G_wsend := ok_wsend (P := P) (w := w) (base := base) T
  have nd := sc_wplay.nd
  refine F.ok sc_wplay (fun vs H Q E h => ?_) (fun cdv A outer S H vs Q E hr h => ?_)
  · obtain ⟨t0, l, d, xs, zs, ts, os, st, ph, u, rfl, _⟩ := h
    rfl
  · obtain ⟨t0, l, d, xs, zs, ts, os, st, ph, u, rfl, ⟨hln, hl, hb⟩, hd, ho, W, st3, ph3, vo, ol, u0, u1, k⟩ := h
    refine ⟨_, (pss_cons (ps_asg (pv 0) (pg_tup rfl (pgs_cons (pg_name (i := 3) nd rfl (Or.inl rfl)) (pgs_cons (pg_name (i := 4) nd rfl (Or.inl rfl)) (pgs_cons (pg_name (i := 5) nd rfl (Or.inl rfl)) pgs_nil)))))
       (pss_cons (ps_par (i := 6) (j := 7) (by rfl) nd rfl rfl (by decide) rfl rfl (pa_cons (pe_op op_rep (pe_lst (pa_cons (pe_tup (pa_cons pe_str (pa_cons pe_int pa_nil))) pa_nil)) (pe_callB call_len_seq (by rfl) T.b_len PySem.boot_len (pa_cons (pv 3) pa_nil))) (pa_cons (pe_lst pa_nil) pa_nil)) (by rfl))
       (pss_cons (ps_for PassesOwn.never rfl (pi_range3 rfl T.b_range (pa_cons (pv 5) (pa_cons (pe_op op_add (pv 2) pe_int) (pa_cons (pv 4) pa_nil)))) (pg_name (i := 8) nd rfl (Or.inr rfl)) (pss_cons (ps_set (i := 9) nd rfl (Or.inl rfl) (pe_callTy call_list_of (by rfl) T.b_list (by decide +kernel) (pa_cons (pv 6) pa_nil)))
       (pss_cons (ps_set (i := 10) nd rfl (Or.inl rfl) (pe_cmpR (op_eqD hr.units) (pe_lc (own := [("_law_begin", 13), ("_law_end", 14)]) (g := gTup K 2 (gCons (gName 13) (gCons (gName 14) (gNil)))) rfl nd (pi_list (pv 1)) (blkOk_by (own := [("_law_begin", 13), ("_law_end", 14)]) (N := N_wplay) (sc := defScope st__law_play) (by decide +kernel)) (fun _ _ _ _ _ => pg_tup rfl (pgs_cons (pg_name (i := 13) nd rfl (Or.inl rfl)) (pgs_cons (pg_name (i := 14) nd rfl (Or.inl rfl)) pgs_nil))) (fun _ _ _ _ _ => pts_one (pt_chain op_le op_lt (pv 13) (pv 8) (pv 14))) (fun _ _ _ _ _ => pe_int)) (pe_lst pa_nil) (nomark _)))
       (pss_cons (ps_asg (pe_c G_wsend (hr.mono (by decide)) rfl (pa_cons (pv 3) (pa_cons (pv 6) (pa_cons (pv 8) (pa_cons (pv 10) pa_nil))))) (pg_tup rfl (pgs_cons (pg_name (i := 11) nd rfl (Or.inl rfl)) (pgs_cons (pg_name (i := 12) nd rfl (Or.inl rfl)) pgs_nil))))
       (pss_one (ps_expr (pe_bm PySem.F.plainAttrs_list PySem.F.slot_list_append PySem.F.type_list_append mt_append (pv 7) (pa_cons (pe_tup (pa_cons (pv 8) (pa_cons (pv 11) (pa_cons (pv 12) (pa_cons (pv 9) (pa_cons (pe_callTy call_list_of (by rfl) T.b_list (by decide +kernel) (pa_cons (pv 6) pa_nil)) pa_nil)))))) pa_nil))))))))
       (pss_one (ps_ret (pv 7)))))), ?_⟩
    have xl := hb.len
    have xl12 := W.ln
    have zl := paired_len ho
    rw [outs_len] at zl
    have s0 : 0 < st := by have := W.s0; omega
    have p0 := W.p0
    refine ⟨_, rfl, t0, _, rfl, SqT.of hln, rfl, _, _, rfl, _, _, rfl, _, _, rfl, rfl, ?_⟩
    refine ⟨(by show 2 ≤ sizeLine; decide), fun q hq => ⟨(by show 1 ≤ sizeLine; decide), fun l1 hl1 => ?_⟩⟩
    have sB := (Same.upd (o := .tup [.str "closed", .int 0]) hq).trans (Same.upd (o := .lst [.ref q]) hl1)
    refine ⟨_, rfl, l, xs, rfl, .inl (SqL.of (sB _ _ hl)), l1, _, [.ref q], rfl, rfl, upd_same, by omega, by omega, small2 (by rw [Int.toNat_natCast]; show 1 * xs.length ≤ 100000; omega), fun l5 hl5 => ⟨(by show 0 ≤ sizeLine; decide), fun fl hfl => ⟨_, _, rfl, ?_⟩⟩⟩
    have s5 := Same.upd (o := .lst (List.replicate (xs.length : Int).toNat [V.ref q]).flatten) hl5
    have sC := sB.trans s5
    have s6 := Same.upd (o := .lst []) hfl
    have hq1 := ((Same.upd (o := .lst [.ref q]) hl1).trans s5) _ _ (upd_same (H := H) (a := q) (o := .tup [.str "closed", .int 0]))
    have hC5 : (upd (upd (upd H q (.tup [.str "closed", .int 0])) l1 (.lst [.ref q])) l5 (.lst (List.replicate (xs.length : Int).toNat [V.ref q]).flatten)) l5 = some (.lst (List.replicate ts.length (V.ref q))) := by
      rw [upd_same, Int.toNat_natCast, xl, List.flatten_replicate_singleton]
    have hrep := (sts_rep (d := ("closed", 0)) hq1 ts.length).same s6
    have n5H : H l5 = none := none_of sB hl5
    have nflH : H fl = none := none_of sC hfl
    have ne5 : l5 ≠ fl := ne_of_none hC5 hfl
    have hm5 := s6 _ _ hC5
    have sM := sC.trans s6
    have hmf : (upd (upd (upd (upd H q (.tup [.str "closed", .int 0])) l1 (.lst [.ref q])) l5 (.lst (List.replicate (xs.length : Int).toNat [V.ref q]).flatten)) fl (.lst [])) fl = some (.lst []) := upd_same
    generalize upd (upd (upd (upd H q (.tup [.str "closed", .int 0])) l1 (.lst [.ref q])) l5 (.lst (List.replicate (xs.length : Int).toNat [V.ref q]).flatten)) fl (.lst []) = Hm at hm5 hrep sM hmf ⊢
    have nea : l ≠ l5 := ne_of_none hl n5H
    obtain ⟨n, hn⟩ : ∃ n : Nat, (n : Int) = if ph < u + 1 then (u + 1 - ph - 1) / st + 1 else 0 := by
      by_cases c : ph < u + 1
      · rw [if_pos c]
        have := Int.ediv_nonneg (show 0 ≤ u + 1 - ph - 1 by omega) (show 0 ≤ st by omega)
        exact ⟨((u + 1 - ph - 1) / st + 1).toNat, Int.toNat_of_nonneg (by omega)⟩
      · rw [if_neg c]
        exact ⟨0, rfl⟩
    have hnm : ∀ m : Nat, m < n ↔ ph + (m : Int) * st ≤ u := fun m => by
      by_cases c : ph < u + 1
      · rw [if_pos c] at hn
        have h1 := Int.le_ediv_iff_mul_le (a := (m : Int)) (b := u + 1 - ph - 1) s0
        constructor
        · intro h
          have := h1.mp (by omega)
          omega
        · intro h
          have := h1.mpr (by omega)
          omega
      · rw [if_neg c] at hn
        have := Int.mul_nonneg (show (0 : Int) ≤ (m : Int) by omega) (show 0 ≤ st by omega)
        exact ⟨fun h => by omega, fun h => by omega⟩
    have nb : n ≤ 10001 := by
      by_cases c : ph < u + 1
      · rw [if_pos c] at hn
        have := Int.ediv_le_self st (show 0 ≤ u + 1 - ph - 1 by omega)
        omega
      · rw [if_neg c] at hn
        omega
    refine ⟨_, rfl, _, rfl, _, _, rfl, rfl, _, rfl, ph, u + 1, st, n, rfl, rgC_up (by omega) (by omega) p0 (by omega) (by omega) (by omega) hn (by omega), ?_⟩
    refine for_rangeC (lo := ph) (c := st) (n := n) (fun i σ Hc => ∃ v8 v9 v10 v11 v12 v13 v14 : Option V, ∃ ys' rows, σ = [some (.ref t0), some (.ref d), some (.int u), some (.ref l), some (.int st), some (.int ph), some (.ref l5), some (.ref fl), v8, v9, v10, v11, v12, v13, v14] ∧ Hc l5 = some (.lst ys') ∧ Sts Hc ys' (stM ts st ph os (ph + (i : Int) * st - 1)) ∧ Hc fl = some (.lst rows) ∧ Snt (Fr Hm Hc) ts st ph os i rows ∧ Same H Hc ∧ ∀ b, Hc b = none → Hm b = none)
      ⟨none, none, none, none, none, none, none, _, [], rfl, hm5, ?_, hmf, ⟨rfl, fun j x e => by cases e⟩, sM, fun b e => e⟩ ?_ ?_
    · rw [stM_before W vo (by show ph + ((0 : Nat) : Int) * st - 1 < ph; simp; omega)]
      exact hrep
    · rintro i σ Hc hin ⟨v8, v9, v10, v11, v12, v13, v14, ys', rows, rfl, h5, hs5, hf, hpl, sc, dom⟩
      obtain ⟨ti, hti⟩ : ∃ ti, ti = ph + (i : Int) * st := ⟨_, rfl⟩
      rw [← hti] at hs5 ⊢
      have trq : isRq st ph ti := (isRq_iff s0).mpr ⟨i, by omega, hti⟩
      refine ⟨_, rfl, l5, _, rfl, .inl (SqL.of h5), fun le hle => ?_⟩
      have sle := Same.upd (o := .lst ys') hle
      have hdc := sle _ _ (sc _ _ hd)
      have hoc := (ho.same sc).same sle
      refine ⟨_, rfl, d, rfl, ⟨_, SqL.of hdc⟩, fun D hD => ?_⟩
      have dome := fun b (e : (upd Hc le (.lst ys')) b = none) => dom b (none_of sle e)
      have nle : Hm le = none := dom le hle
      have hlee : (upd Hc le (.lst ys')) le = some (.lst ys') := upd_same
      have h5e := sle _ _ h5
      have hs5e := hs5.same sle
      have hfe := sle _ _ hf
      have sce := sc.trans sle
      have fre : Same (Fr Hm Hc) (Fr Hm (upd Hc le (.lst ys'))) := Fr.same sle
      generalize upd Hc le (.lst ys') = He at hdc hoc dome hlee h5e hs5e hfe sce fre hD ⊢
      refine lc_list (K := K) (a := d) (xs := zs) (fun j Hx => ∃ gs : List Int, Hx D = some (.lst (gs.map V.int)) ∧ (gs = [] ↔ ¬ dn (os.take j) ti) ∧ gs.length ≤ j ∧ Same He Hx) ⟨[], upd_same, ⟨fun _ => (by rintro ⟨o, ho, _⟩; cases ho), fun _ => rfl⟩, Nat.le_refl _, Same.upd hD⟩ (fun j Hx _ ⟨_, _, _, _, s⟩ => SqL.of (s _ _ hdc)) ?_ ?_
      · rintro j x Hx hxj ⟨gs, hDc, iff, gl, sx⟩
        obtain ⟨o', ho', hox⟩ := paired_get hoc hxj
        obtain ⟨o, ho, rfl⟩ : ∃ o, os[j]? = some o ∧ o' = (o.1, some o.2) := by
          unfold outs at ho'
          rw [List.getElem?_map] at ho'
          cases q : os[j]? with
          | none => rw [q] at ho'; cases ho'
          | some o => rw [q] at ho'; cases ho'; exact ⟨o, rfl, rfl⟩
        obtain ⟨c0, rfl, hc0⟩ := hox.same sx
        have jl := (List.getElem?_eq_some_iff.mp ho).1
        have etk : os.take (j + 1) = os.take j ++ [o] := by rw [List.take_add_one, ho]; rfl
        refine ⟨c0, _, rfl, SqT.of hc0, rfl, _, _, rfl, _, _, rfl, rfl, rfl, ?_⟩
        rw [etk]
        have skip : ¬ (o.1 ≤ ti ∧ ti < o.2) → ∃ gs : List Int, Hx D = some (.lst (gs.map V.int)) ∧ (gs = [] ↔ ¬ dn (os.take j ++ [o]) ti) ∧ gs.length ≤ j + 1 ∧ Same He Hx := fun q =>
          ⟨gs, hDc, by rw [iff, dn_app]; exact ⟨fun h z => z.elim h q, fun h z => h (.inl z)⟩, by omega, sx⟩
        refine ⟨_, rfl, _, rfl, _, _, rfl, rfl, _, rfl, ite2 (fun c1 => ⟨_, rfl, _, _, rfl, rfl, _, rfl, ite2 (fun c2 => ?_) (fun c2 => skip fun z => c2 (decide_eq_true z.2))⟩) (fun c1 => ⟨_, rfl, iteF (skip fun z => c1 (decide_eq_true z.1))⟩)⟩
        refine ⟨_, hDc, small1 (by rw [List.length_map]; omega), gs ++ [1], by rw [upd_same, List.map_append]; rfl, ?_, by rw [List.length_append]; show gs.length + 1 ≤ j + 1; omega, fun b u e => ?_⟩
        · rw [dn_app]
          exact ⟨fun h => absurd h (by simp), fun h => absurd (.inr ⟨of_decide_eq_true c1, of_decide_eq_true c2⟩) h⟩
        · rw [upd_ne (ne_of_none e hD)]
          exact sx _ _ e
      · rintro Hx ⟨gs, hDc, iff, gl, sx⟩
        rw [zl, List.take_length] at iff
        refine ⟨(by show 0 ≤ sizeLine; decide), fun ee hee => ?_⟩
        have se := Same.upd (o := .lst []) hee
        refine ⟨_, _, Dp.ints (se _ _ hDc), Dp.ints (ns := []) upd_same, shInts _, shInts _, ?_⟩
        rw [eqInts]
        generalize hgood : decide (gs = []) = good
        have hg : good = true ↔ ¬ dn os ti := by
          rw [← hgood, decide_eq_true_iff]
          exact iff
        have sxe := sx.trans se
        generalize upd Hx ee (.lst []) = HE at sxe ⊢
        obtain ⟨k0, SR, OK⟩ := step_sp W vo ol trq
        refine ⟨_, rfl, _, rfl, _, rfl, _, rfl, l, l5, xs, ys', ts, stM ts st ph os (ti - 1), ti, good, rfl, sxe _ _ (sce _ _ hl), (hb.nl (NL.of (sce.trans sxe))), sxe _ _ h5e, hs5e.same sxe, nea, stM_len W vo ol _, xl12, fun m q6 H6 ys6 mn hps hrj hq6 hl6 hs6 kp6 nq6 => ?_⟩
        have mk : m = k0 := k_uniq SR mn hps hrj
        subst mk
        rw [mix_step SR hg] at hs6
        have eg : (decide (m = ts.length) && good) = !(inSp (spsOf ts st ph os) ti) := by
          rcases outK_lat OK with ⟨e1, e2, nd⟩ | ⟨_, _, _, e1, _, _, hd⟩
          · rw [e1, hg.mpr nd, decide_eq_true e2]
            rfl
          · rw [e1]
            by_cases z : m = ts.length
            · have : good = false := by
                cases q : good with
                | false => rfl
                | true => exact absurd (hd z) (hg.mp q)
              rw [this, Bool.and_false]
              rfl
            · rw [decide_eq_false z]
              rfl
        rw [eg] at hq6
        have nel : le ≠ l5 := fun e => by
          have h1 := hmf
          rw [e, hm5] at nle
          cases nle
        have hle6 := kp6 _ _ nel (sxe _ _ hlee)
        have hf6 := kp6 _ _ ne5.symm (sxe _ _ hfe)
        have hse6 : Sts H6 ys' (stM ts st ph os (ti - 1)) := L2.Paired.mapP hs5e fun _ _ ⟨a, e, h⟩ => ⟨a, e, kp6 _ _ (fun z => by rw [z, h5e] at h; cases h) (sxe _ _ h)⟩
        have rl := hpl.1
        refine ⟨q6, _, rfl, SqT.of hq6, rfl, _, _, rfl, _, _, rfl, rfl, ?_⟩
        refine ⟨_, rfl, .inl ⟨rfl, _, SqL.of hf6⟩, _, rfl, _, rfl, _, rfl, _, rfl, _, rfl, l5, ys6, rfl, .inl (SqL.of hl6), fun lc hlc => ⟨(by show 5 ≤ sizeLine; decide), fun tq htq => ?_⟩⟩
        have s7 := Same.upd (o := .lst ys6) hlc
        have s8 := Same.upd (o := .tup [.int ti, .int (m : Nat), .bl (!(inSp (spsOf ts st ph os) ti)), .ref le, .ref lc]) htq
        have s68 := s7.trans s8
        have hf8 := s68 _ _ hf6
        refine ⟨fl, _, _, rfl, rfl, hf8, small1 (by omega), ?_⟩
        have hlc8 := s8 _ _ (upd_same (H := H6) (a := lc) (o := .lst ys6))
        have htq8 : (upd (upd H6 lc (.lst ys6)) tq (.tup [.int ti, .int (m : Nat), .bl (!(inSp (spsOf ts st ph os) ti)), .ref le, .ref lc])) tq = some (.tup [.int ti, .int (m : Nat), .bl (!(inSp (spsOf ts st ph os) ti)), .ref le, .ref lc]) := upd_same
        have hs8 := hs6.same s68
        have hl8 := s68 _ _ hl6
        have hle8 := s68 _ _ hle6
        have hse8 := hse6.same s68
        have dom6 : ∀ b, H6 b = none → Hm b = none := fun b e => by
          refine dome b ?_
          by_cases q : b = l5
          · rw [q, hl6] at e
            cases e
          · cases c : He b with
            | none => rfl
            | some o =>
              rw [kp6 b o q (sxe _ _ c)] at e
              cases e
        have nlc : Hm lc = none := dom6 lc hlc
        have fr8 : Same (Fr Hm Hc) (Fr Hm (upd (upd H6 lc (.lst ys6)) tq (.tup [.int ti, .int (m : Nat), .bl (!(inSp (spsOf ts st ph os) ti)), .ref le, .ref lc]))) := (((fre.trans (Fr.same sxe)).trans (Fr.kp kp6 (by rw [hm5]; exact fun z => nomatch z) (sxe _ _ h5e)))).trans (Fr.same s68)
        have dom8 : ∀ b, (upd (upd H6 lc (.lst ys6)) tq (.tup [.int ti, .int (m : Nat), .bl (!(inSp (spsOf ts st ph os) ti)), .ref le, .ref lc])) b = none → Hm b = none := fun b e => dom6 b (none_of s68 e)
        have s08 : Same H (upd (upd H6 lc (.lst ys6)) tq (.tup [.int ti, .int (m : Nat), .bl (!(inSp (spsOf ts st ph os) ti)), .ref le, .ref lc])) := fun b o e => s68 _ _ (kp6 b o (ne_of_none e n5H) (sxe _ _ (sce _ _ e)))
        generalize upd (upd H6 lc (.lst ys6)) tq (.tup [.int ti, .int (m : Nat), .bl (!(inSp (spsOf ts st ph os) ti)), .ref le, .ref lc]) = H8 at hf8 hlc8 htq8 hs8 hl8 hle8 hse8 fr8 dom8 s08 ⊢
        have fr9 : Same (Fr Hm H8) (Fr Hm (upd H8 fl (.lst (rows ++ [.ref tq])))) := Fr.kp Kp.upd (by rw [hmf]; exact fun z => nomatch z) hf8
        have frs : ∀ {zs : List V} {ss : List StD}, Sts H8 zs ss → Sts (Fr Hm H8) zs ss := fun h => L2.Paired.mapP h fun _ _ ⟨a, e, h⟩ => ⟨a, e, Fr.nol h fun _ z => nomatch z⟩
        have row : SnRow (Fr Hm H8) ts st ph os ti (.ref tq) := ⟨tq, le, lc, ys', ys6, m, rfl, Fr.nol htq8 (fun _ z => nomatch z), mn, OK, Fr.of hle8 (.inl nle), frs hse8, Fr.of hlc8 (.inl nlc), frs hs8⟩
        have nx : stM ts st ph os (ph + ((i + 1 : Nat) : Int) * st - 1) = stM ts st ph os ti := stM_gap W vo ol trq (by rw [hti, Int.natCast_add, Int.add_mul]; simp; omega) (by rw [hti, Int.natCast_add, Int.add_mul]; simp; omega)
        refine ⟨_, _, _, _, _, _, _, ys6, rows ++ [.ref tq], rfl, by rw [upd_ne ne5]; exact hl8, ?_, upd_same, ⟨by rw [List.length_append, rl]; rfl, fun j x hx => ?_⟩, fun b o e => by rw [upd_ne (ne_of_none e nflH)]; exact s08 _ _ e, fun b e => ?_⟩
        · rw [nx]
          exact hs8.nl (NL.upd hf8)
        · by_cases c : j < i
          · rw [List.getElem?_append_left (by omega)] at hx
            exact (hpl.2 j x hx).same (fr8.trans fr9)
          · rw [List.getElem?_append_right (by omega), rl] at hx
            have : j = i := by
              have := (List.getElem?_eq_some_iff.mp hx).1
              simp at this
              omega
            subst this
            rw [Nat.sub_self] at hx
            cases hx
            rw [← hti]
            exact row.same fr9
        · by_cases q : b = fl
          · rw [q, upd_same] at e
            cases e
          · rw [upd_ne q] at e
            exact dom8 b e
    · rintro σ Hc ⟨v8, v9, v10, v11, v12, v13, v14, ys', rows, rfl, h5, hs5, hf, hpl, sc, dom⟩
      exact ⟨_, rfl, k n fl rows Hc hnm nb hf nflH (hpl.same (Fr.base sM)) sc⟩
theorem ok_wplay (T : LX K mg L) : Cal P w K mg base "_law_play" 4 L.f__law_play ["_law_line", "_law_downs_here", "_law_until_here"] (spLPlay) := T.d__law_play.cal fun fd F => fn_wplay T F
end
/-! ### spells in order -/
theorem ch_ord {os : List (Int × Int)} {bs : List Tri} {st ph : Int} {ds : List SpD} {m : Int} (C : SpCh os bs st ph none m ds) {i i' : Nat} {d d' : SpD} {v : Int} (hi : i < i') (h : ds[i]? = some d) (h' : ds[i']? = some d') (hv : d.rcv = some v) : v < d'.first := by
  have ord : ∀ (n a : Nat) {u w : SpD}, ds[a]? = some u → ds[a + n + 1]? = some w → u.rcv.getD 0 < w.first := fun n => by
    induction n with
    | zero => exact fun a u w hu hw => ch_next C hu hw
    | succ n ih =>
      intro a u w hu hw
      have hl := (List.getElem?_eq_some_iff.mp hw).1
      obtain ⟨x, hx⟩ : ∃ x, ds[a + n + 1]? = some x := ⟨_, List.getElem?_eq_getElem (by omega)⟩
      have h1 := ih a hu hx
      have h2 := ch_next C hx hw
      obtain ⟨_, _, vx, hrx, lx, _⟩ := ch_rq C x (List.mem_of_getElem? hx)
      rw [hrx] at h2
      have h2 : vx < w.first := h2
      omega
  have := ord (i' - i - 1) i h (by rw [show i + (i' - i - 1) + 1 = i' by omega]; exact h')
  rw [hv] at this
  exact this
theorem in_spell {os : List (Int × Int)} {bs : List Tri} {st ph : Int} {ds : List SpD} {m : Int} (C : SpCh os bs st ph none m ds) {i : Nat} {d : SpD} {v x : Int} (h : ds[i]? = some d) (hv : d.rcv = some v) (h1 : d.first ≤ x) (h2 : x < v) : inSp ds x = true := by
  unfold inSp
  rw [lat_at C h h1 fun e he => by have := ch_ord C (Nat.lt_succ_self i) h he hv; omega]
  show decide (x < d.rcv.getD 0) = true
  rw [hv]
  exact decide_eq_true h2
theorem of_inSp {ds : List SpD} {x : Int} (h : inSp ds x = true) : ∃ (i : Nat) (d : SpD), ds[i]? = some d ∧ d.first ≤ x ∧ x < d.rcv.getD 0 := by
  unfold inSp at h
  cases q : lat none ds x with
  | none => rw [q] at h; cases h
  | some d =>
    rw [q] at h
    have hm : d ∈ ds := (lat_mem q).resolve_right fun z => nomatch z
    obtain ⟨i, hi⟩ := List.mem_iff_getElem?.mp hm
    exact ⟨i, d, hi, lat_first (pv := none) (fun e z => nomatch z) q, of_decide_eq_true h⟩
/-! ### the runs of failing requests -/
def snD (t : Int) (k : Nat) (b : Bool) (e l : List StD) : PyData := .tuple [.int t, .int (k : Nat), .bool b, .list (e.map stD), .list (l.map stD)]
theorem sn_dp {K : PySem.W.Frag} {H : Hp} {ts : List Tri} {st ph : Int} {os : List (Int × Int)} {t : Int} {x : V} (h : SnRow H ts st ph os t x) : ∃ d, Dp K H x d ∧ PyData.canLay0 d = true ∧ PyData.depth d ≤ 20 := by
  obtain ⟨q, e, l, ye, yl, k, rfl, h1, h2, h3, h4, h5, h6, h7⟩ := h
  refine ⟨snD t k _ _ _, .tup (SqT.of h1) (.cons (.int _) (.cons (.int _) (.cons (.bl _) (.cons (Sts.dpl h4 h5) (.cons (Sts.dpl h6 h7) .nil))))), ?_, ?_⟩
  · have c1 := canSts (ss := stM ts st ph os (t - 1)) stM_ok
    have c2 := canSts (ss := stM ts st ph os t) stM_ok
    simp [snD, PyData.canLay0, PyData.canLayAll0, c1, c2]
  · have c1 := depSts (stM ts st ph os (t - 1))
    have c2 := depSts (stM ts st ph os t)
    simp only [snD, PyData.depth, PyData.depthAll]
    omega
theorem rows_dp {K : PySem.W.Frag} {H : Hp} {ts : List Tri} {st ph : Int} {os : List (Int × Int)} : ∀ {xs : List V}, (∀ x ∈ xs, ∃ t, SnRow H ts st ph os t x) → ∃ ds, DpAll K H xs ds ∧ PyData.canLayAll0 ds = true ∧ PyData.depthAll ds ≤ 20 ∧ ds.length = xs.length
  | [], _ => ⟨[], .nil, rfl, Nat.zero_le _, rfl⟩
  | x :: r, h => by
    obtain ⟨t, hx⟩ := h x (List.mem_cons_self ..)
    obtain ⟨d, h1, h2, h3⟩ := sn_dp (K := K) hx
    obtain ⟨ds, g1, g2, g3, g4⟩ := rows_dp (K := K) (xs := r) fun y hy => h y (List.mem_cons_of_mem _ hy)
    refine ⟨d :: ds, .cons h1 g1, ?_, ?_, ?_⟩
    · simp [PyData.canLayAll0, h2, g2]
    · simp only [PyData.depthAll]
      omega
    · simp [g4]
theorem ne_nil_dp {K : PySem.W.Frag} {H : Hp} {a b : Addr} {xs : List V} {ts : List Tri} {st ph : Int} {os : List (Int × Int)} (ha : H a = some (.lst xs)) (hb : H b = some (.lst [])) (h : ∀ x ∈ xs, ∃ t, SnRow H ts st ph os t x) {Q : VK} (k : Q (.bl (decide (xs ≠ []))) H) : rNeD K (.ref a) (.ref b) H Q := by
  obtain ⟨ds, g1, g2, g3, g4⟩ := rows_dp (K := K) h
  refine ⟨.list ds, .list [], .lst (SqL.of ha) g1, .lst (SqL.of hb) .nil, ?_, ?_, ?_⟩
  · refine Bool.and_eq_true_iff.mpr ⟨?_, decide_eq_true ?_⟩
    · rw [PyData.canLay0]
      exact g2
    · rw [PyData.depth]
      omega
  · refine Bool.and_eq_true_iff.mpr ⟨rfl, decide_eq_true ?_⟩
    rw [PyData.depth, PyData.depthAll]
    omega
  · cases xs with
    | nil =>
      cases ds with
      | nil => exact k
      | cons _ _ => cases g4
    | cons x r =>
      cases ds with
      | nil => cases g4
      | cons _ _ => exact k
theorem take_one {rows : List V} {m j : Nat} {x : V} (h : rows[j]? = some x) (l : m ≤ j) : (rows.drop m).take (j + 1 - m) = (rows.drop m).take (j - m) ++ [x] := by
  rw [show j + 1 - m = (j - m) + 1 by omega, List.take_add_one, List.getElem?_drop, show m + (j - m) = j by omega, h]
  rfl
/-- the requests of a spell, and the first one behind it -/
def RunD (H : Hp) (ts : List Tri) (st ph : Int) (os : List (Int × Int)) (n : Nat) (rows : List V) (i : Nat) (a : Addr) : Prop := ∃ d v, ∃ m e : Nat, H a = some (.lst ((rows.drop m).take (e + 1 - m))) ∧ (spsOf ts st ph os)[i]? = some d ∧ d.rcv = some v ∧ ph + (m : Int) * st = d.first ∧ ph + (e : Int) * st = v ∧ e < n ∧ m < e
theorem RunD.of {H H' : Hp} {ts : List Tri} {st ph : Int} {os : List (Int × Int)} {n : Nat} {rows : List V} {i : Nat} {a : Addr} (k : ∀ o, H a = some o → H' a = some o) (h : RunD H ts st ph os n rows i a) : RunD H' ts st ph os n rows i a := by
  obtain ⟨d, v, m, e, h1, r⟩ := h
  exact ⟨d, v, m, e, k _ h1, r⟩
def spLRuns : Sp := fun vs H Q _ => ∃ r rows n ts st ph os, vs = [.ref r] ∧ H r = some (.lst rows) ∧ Snt H ts st ph os n rows ∧ RowD ts st ph ∧ VOut 0 os ∧ os.length ≤ 50 ∧ n ≤ 10001 ∧
  ∀ z zs H', H' z = some (.lst zs) → H z = none → (∀ (i : Nat) x, zs[i]? = some x → ∃ a, x = .ref a ∧ H a = none ∧ RunD H' ts st ph os n rows i a) → (∀ (i : Nat) d v, (spsOf ts st ph os)[i]? = some d → d.rcv = some v → (i < zs.length ↔ v < ph + (n : Int) * st)) → Same H H' → Q (.ref z) H'
section
variable {P : Program} {w : World} {K : PySem.W.Frag} {mg : Str → Option Value} {base : Heap} {L : LA}
abbrev N_wruns : List Str := ["_law_played", "_law_found", "_law_here", "_law_row_here"]
theorem sc_wruns : FnScope N_wruns ["_law_played"] (defScope st__law_runs) := ⟨rfl, rfl, rfl, by decide +kernel, rfl, by decide +kernel, by decide +kernel⟩
theorem fn_wruns (T : LX K mg L) {fd : FuncData} (F : Fun K "_law_runs" "_law_runs" st__law_runs L.f__law_runs fd) : FnOk P w K mg base CX0 1 L.f__law_runs fd ["_law_played"] (spLRuns) := by
  have nd := sc_wruns.nd
  refine F.ok sc_wruns (fun vs H Q E h => ?_) (fun cdv A outer S H vs Q E hr h => ?_)
  · obtain ⟨r, rows, n, ts, st, ph, os, rfl, _⟩ := h
    rfl
  · obtain ⟨r, rows, n, ts, st, ph, os, rfl, hr1, hsn, W, vo, ol, n1, k⟩ := h
    refine ⟨_, (pss_cons (ps_par (i := 1) (j := 2) (by rfl) nd rfl rfl (by decide) rfl rfl (pa_cons (pe_lst pa_nil) (pa_cons (pe_lst pa_nil) pa_nil)) (by rfl))
       (pss_cons (ps_for PassesOwn.never rfl (pi_list (pv 0)) (pg_name (i := 3) nd rfl (Or.inl rfl)) (pss_one (ps_if (pt_not (pt_val (pe_ix (r := rIxT K) ix_tup (pv 3) pe_int (fun _ _ => rfl)))) (pss_one (ps_expr (pe_bm PySem.F.plainAttrs_list PySem.F.slot_list_append PySem.F.type_list_append mt_append (pv 2) (pa_cons (pv 3) pa_nil)))) (pss_one (ps_if (pt_cmpR (op_neD hr.units) (pv 2) (pe_lst pa_nil) (nomark _)) (pss_cons (ps_expr (pe_bm PySem.F.plainAttrs_list PySem.F.slot_list_append PySem.F.type_list_append mt_append (pv 1) (pa_cons (pe_op op_cat (pv 2) (pe_lst (pa_cons (pv 3) pa_nil))) pa_nil)))
       (pss_one (ps_set (i := 2) nd rfl (Or.inl rfl) (pe_lst pa_nil)))) pss_nil)))))
       (pss_one (ps_ret (pv 1))))), ?_⟩
    have s0 : 0 < st := by have := W.s0; omega
    have p0 := W.p0
    have C := sps_ch W vo
    refine ⟨(by show 0 ≤ sizeLine; decide), fun fl hfl => ⟨(by show 0 ≤ sizeLine; decide), fun h0 hh0 => ⟨_, _, rfl, ?_⟩⟩⟩
    have s1 := Same.upd (o := .lst []) hfl
    have s2 := Same.upd (o := .lst []) hh0
    have nfh : fl ≠ h0 := ne_of_none upd_same hh0
    refine ⟨_, rfl, r, rfl, ⟨_, SqL.of ((s1.trans s2) _ _ hr1)⟩, ?_⟩
    refine for_list (K := K) (a := r) (xs := rows) (fun j σ Hc => ∃ v3 : Option V, ∃ here hs zs, σ = [some (.ref r), some (.ref fl), some (.ref here), v3] ∧ Hc fl = some (.lst zs) ∧ Hc here = some (.lst hs) ∧ fl ≠ here ∧ H here = none ∧ Same H Hc ∧ zs.length ≤ j ∧
        (∀ (i : Nat) x, zs[i]? = some x → ∃ a, x = .ref a ∧ a ≠ here ∧ a ≠ fl ∧ H a = none ∧ RunD Hc ts st ph os n rows i a) ∧ (∀ (i : Nat) d v, (spsOf ts st ph os)[i]? = some d → d.rcv = some v → (i < zs.length ↔ v < ph + (j : Int) * st)) ∧
        ((∃ d, ∃ m : Nat, (spsOf ts st ph os)[zs.length]? = some d ∧ ph + (m : Int) * st = d.first ∧ m < j ∧ hs = (rows.drop m).take (j - m)) ∨ (hs = [] ∧ ∀ d, (spsOf ts st ph os)[zs.length]? = some d → ph + (j : Int) * st ≤ d.first)))
      ⟨none, h0, [], [], rfl, s2 _ _ upd_same, upd_same, nfh, none_of s1 hh0, s1.trans s2, Nat.le_refl _, fun i x e => (by cases e), fun i d v hd hv => ?_, .inr ⟨rfl, fun d hd => ?_⟩⟩ (fun j σ Hc _ ⟨_, _, _, _, _, _, _, _, _, s, _⟩ => SqL.of (s _ _ hr1)) ?_ ?_
    · obtain ⟨rq, _, v', hr', lv, vq, _⟩ := ch_rq C d (List.mem_of_getElem? hd)
      rw [hv] at hr'
      cases hr'
      have := rq.1
      exact ⟨fun z => absurd z (Nat.not_lt_zero i), fun z => by simp at z; omega⟩
    · obtain ⟨rq, _⟩ := ch_rq C d (List.mem_of_getElem? hd)
      have := rq.1
      simp
      omega
    · rintro j x σ Hc hxj ⟨v3, here, hs, zs, rfl, hf, hh, nfh, nhH, sc, zl, items, cnt, hst⟩
      have hj : j < n := by have := (List.getElem?_eq_some_iff.mp hxj).1; have := hsn.1; omega
      obtain ⟨T, hT⟩ : ∃ T, T = ph + (j : Int) * st := ⟨_, rfl⟩
      have trq : isRq st ph T := (isRq_iff s0).mpr ⟨j, by omega, hT⟩
      have T1 : ph + ((j + 1 : Nat) : Int) * st = T + st := by rw [hT, Int.natCast_add, Int.add_mul]; simp; omega
      have rowx := hsn.2 j x hxj
      have hsr : ∀ y ∈ hs, ∃ t, SnRow Hc ts st ph os t y := fun y hy => by
        have hm : y ∈ rows := by
          rcases hst with ⟨d, m, _, _, _, e⟩ | ⟨e, _⟩
          · rw [e] at hy
            exact List.mem_of_mem_drop (List.mem_of_mem_take hy)
          · rw [e] at hy
            cases hy
        obtain ⟨i, hi⟩ := List.mem_iff_getElem?.mp hm
        exact ⟨_, (hsn.2 i y hi).same sc⟩
      rw [← hT] at rowx hst cnt
      obtain ⟨q, e, l, ye, yl, kk, rfl, hq, kn, OK, _⟩ := rowx
      have hqc := sc _ _ hq
      have rlen := hsn.1
      refine ⟨_, rfl, q, _, 2, .bl (!(inSp (spsOf ts st ph os) T)), rfl, rfl, SqT.of hqc, rfl, _, rfl, ?_⟩
      rw [T1]
      cases hI : inSp (spsOf ts st ph os) T with
      | true =>
        obtain ⟨i0, d, hd, f1, f2⟩ := of_inSp hI
        obtain ⟨rqd, _, v, hv, lv, vq, _⟩ := ch_rq C d (List.mem_of_getElem? hd)
        rw [hv] at f2
        have f2 : T < v := f2
        have nlt : ¬ i0 < zs.length := fun z => by have := (cnt i0 d v hd hv).mp z; omega
        have ei : i0 = zs.length := by
          by_cases z : zs.length < i0
          · have hil := (List.getElem?_eq_some_iff.mp hd).1
            obtain ⟨d', hd'⟩ : ∃ d', (spsOf ts st ph os)[zs.length]? = some d' := ⟨_, List.getElem?_eq_getElem (by omega)⟩
            obtain ⟨_, _, v', hv', _⟩ := ch_rq C d' (List.mem_of_getElem? hd')
            have h1 := ch_ord C z hd' hd hv'
            exact absurd ((cnt zs.length d' v' hd' hv').mpr (by omega)) (Nat.lt_irrefl _)
          · omega
        rw [ei] at hd
        have gv := rq_gap s0 trq vq f2
        refine iteT ⟨_, rfl, .inl ⟨rfl, _, SqL.of hh⟩, _, rfl, here, _, _, rfl, rfl, hh, small1 ?_, ?_⟩
        · rcases hst with ⟨_, m, _, _, _, e⟩ | ⟨e, _⟩
          · rw [e, List.length_take, List.length_drop]
            omega
          · rw [e]
            exact Nat.zero_le _
        refine ⟨_, here, hs ++ [.ref q], zs, rfl, by rw [upd_ne nfh]; exact hf, upd_same, nfh, nhH, fun b o e => by rw [upd_ne (ne_of_none e nhH)]; exact sc _ _ e, by omega, fun i x hx => ?_, fun i d' v' hd' hv' => ?_, .inl ?_⟩
        · obtain ⟨a, h1, h2, h3, h4, h5⟩ := items i x hx
          exact ⟨a, h1, h2, h3, h4, h5.of fun o e => by rw [upd_ne h2]; exact e⟩
        · have cc := cnt i d' v' hd' hv'
          constructor
          · intro z
            have := cc.mp z
            omega
          · intro z
            by_cases c : i < zs.length
            · exact c
            · by_cases ee : i = zs.length
              · rw [ee, hd] at hd'
                cases hd'
                rw [hv] at hv'
                cases hv'
                omega
              · have := ch_ord C (show zs.length < i by omega) hd hd' hv
                obtain ⟨_, _, v2, hv2, l2, _⟩ := ch_rq C d' (List.mem_of_getElem? hd')
                rw [hv'] at hv2
                cases hv2
                omega
        · rcases hst with ⟨d2, m, h1, h2, h3, h4⟩ | ⟨h1, h2⟩
          · rw [hd] at h1
            cases h1
            exact ⟨d, m, hd, h2, by omega, by rw [take_one hxj (by omega), h4]⟩
          · have := h2 d hd
            exact ⟨d, j, hd, by omega, by omega, by rw [take_one hxj (Nat.le_refl j), h1, Nat.sub_self]; rfl⟩
      | false =>
        refine iteF ⟨_, rfl, (by show 0 ≤ sizeLine; decide), fun le hle => ne_nil_dp ((Same.upd hle) _ _ hh) upd_same (fun y hy => by obtain ⟨t, ht⟩ := hsr y hy; exact ⟨t, ht.same (Same.upd hle)⟩) ⟨_, rfl, ite2 (fun c => ?_) (fun c => ?_)⟩⟩
        all_goals
          have se := Same.upd (o := .lst []) hle
        · have hne : hs ≠ [] := of_decide_eq_true c
          obtain ⟨d, m, hd, f1, mj, ehs⟩ : ∃ d, ∃ m : Nat, (spsOf ts st ph os)[zs.length]? = some d ∧ ph + (m : Int) * st = d.first ∧ m < j ∧ hs = (rows.drop m).take (j - m) := by
            rcases hst with h | ⟨h, _⟩
            · exact h
            · exact absurd h hne
          obtain ⟨rqd, _, v, hv, lv, vq, _⟩ := ch_rq C d (List.mem_of_getElem? hd)
          have fT : d.first ≤ T := by
            have := Int.mul_le_mul_of_nonneg_right (show (m : Int) ≤ (j : Int) by omega) (show 0 ≤ st by omega)
            omega
          have v1 : ¬ v < T := fun z => Nat.lt_irrefl _ ((cnt _ d v hd hv).mpr z)
          have v2 : ¬ T < v := fun z => by rw [in_spell C hd hv fT z] at hI; cases hI
          have vT : v = T := by omega
          have hsl : hs.length ≤ 10001 := by rw [ehs, List.length_take, List.length_drop]; omega
          refine ⟨_, rfl, .inl ⟨rfl, _, SqL.of (se _ _ hf)⟩, _, rfl, _, rfl, (by show 1 ≤ sizeLine; decide), fun l1 hl1 => ?_⟩
          have s3 := se.trans (Same.upd (o := .lst [.ref q]) hl1)
          refine ⟨here, l1, hs, [.ref q], rfl, rfl, s3 _ _ hh, upd_same, small2 (by show hs.length + 1 ≤ 100000; omega), fun l2 hl2 => ?_⟩
          have s4 := s3.trans (Same.upd (o := .lst (hs ++ [.ref q])) hl2)
          have g2 : (upd (upd (upd Hc le (.lst [])) l1 (.lst [.ref q])) l2 (.lst (hs ++ [.ref q]))) l2 = some (.lst (hs ++ [.ref q])) := upd_same
          have nl2 : Hc l2 = none := none_of s3 hl2
          generalize upd (upd (upd Hc le (.lst [])) l1 (.lst [.ref q])) l2 (.lst (hs ++ [.ref q])) = H4 at s4 g2 ⊢
          have hf4 := s4 _ _ hf
          refine ⟨fl, _, _, rfl, rfl, hf4, small1 (by omega), (by show 0 ≤ sizeLine; decide), fun hn hhn => ?_⟩
          have s5 := Same.upd (o := .lst []) hhn
          have hf5 : (upd H4 fl (.lst (zs ++ [.ref l2]))) fl = some (.lst (zs ++ [.ref l2])) := upd_same
          have nfl2 : l2 ≠ fl := fun e => by rw [e, hf] at nl2; cases nl2
          have g5 : (upd H4 fl (.lst (zs ++ [.ref l2]))) l2 = some (.lst (hs ++ [.ref q])) := by rw [upd_ne nfl2]; exact g2
          have s05 : Same H (upd H4 fl (.lst (zs ++ [.ref l2]))) := fun b o e => by
            rw [upd_ne (ne_of_none e hfl)]
            exact s4 _ _ (sc _ _ e)
          have k5 : ∀ b o, b ≠ fl → Hc b = some o → (upd H4 fl (.lst (zs ++ [.ref l2]))) b = some o := fun b o n e => by rw [upd_ne n]; exact s4 _ _ e
          generalize upd H4 fl (.lst (zs ++ [.ref l2])) = H5 at hhn s5 hf5 g5 s05 k5 ⊢
          refine ⟨_, hn, [], zs ++ [.ref l2], rfl, s5 _ _ hf5, upd_same, ne_of_none hf5 hhn, none_of s05 hhn, s05.trans s5, by rw [List.length_append]; show zs.length + 1 ≤ j + 1; omega, fun i x hx => ?_, fun i d' v' hd' hv' => ?_, .inr ⟨rfl, fun d' hd' => ?_⟩⟩
          · by_cases c : i < zs.length
            · rw [List.getElem?_append_left c] at hx
              obtain ⟨a, h1, h2, h3, h4, h5⟩ := items i x hx
              have ha : ∃ o, Hc a = some o := by obtain ⟨_, _, _, _, g, _⟩ := h5; exact ⟨_, g⟩
              obtain ⟨o, ho⟩ := ha
              exact ⟨a, h1, ne_of_none (k5 a o h3 ho) hhn, h3, h4, h5.of fun o e => s5 _ _ (k5 a o h3 e)⟩
            · rw [List.getElem?_append_right (by omega)] at hx
              have : i = zs.length := by
                have := (List.getElem?_eq_some_iff.mp hx).1
                simp at this
                omega
              subst this
              rw [Nat.sub_self] at hx
              cases hx
              exact ⟨l2, rfl, ne_of_none g5 hhn, nfl2, none_of sc nl2, d, v, m, j, by rw [s5 _ _ g5, take_one hxj (by omega), ehs], hd, hv, f1, by omega, hj, mj⟩
          · have cc := cnt i d' v' hd' hv'
            rw [List.length_append]
            show i < zs.length + 1 ↔ _
            constructor
            · intro z
              by_cases ee : i = zs.length
              · rw [ee, hd] at hd'
                cases hd'
                rw [hv] at hv'
                cases hv'
                omega
              · have := cc.mp (by omega)
                omega
            · intro z
              by_cases c : i < zs.length + 1
              · exact c
              · have h1 := ch_ord C (show zs.length < i by omega) hd hd' hv
                obtain ⟨rq2, _, v2, hv2, l2, _⟩ := ch_rq C d' (List.mem_of_getElem? hd')
                rw [hv'] at hv2
                cases hv2
                have := rq_gap s0 trq rq2 (by omega)
                omega
          · rw [List.length_append] at hd'
            have h1 := ch_ord C (show zs.length < zs.length + 1 by omega) hd hd' hv
            obtain ⟨rq2, _⟩ := ch_rq C d' (List.mem_of_getElem? hd')
            exact rq_gap s0 trq rq2 (by omega)
        · have hnil : hs = [] := by
            cases hs with
            | nil => rfl
            | cons _ _ => exact absurd (decide_eq_true (fun z => nomatch z)) c
          have h2 : ∀ d, (spsOf ts st ph os)[zs.length]? = some d → T + st ≤ d.first := fun d hd => by
            obtain ⟨rqd, _, v, hv, lv, vq, _⟩ := ch_rq C d (List.mem_of_getElem? hd)
            rcases hst with ⟨_, m, _, _, h3, h4⟩ | ⟨_, h4⟩
            · have := congrArg List.length h4
              rw [hnil, List.length_take, List.length_drop] at this
              simp at this
              omega
            · have := h4 d hd
              by_cases z : T < d.first
              · exact rq_gap s0 trq rqd z
              · rw [in_spell C hd hv (by omega) (by omega)] at hI
                cases hI
          refine ⟨_, here, hs, zs, rfl, se _ _ hf, se _ _ hh, nfh, nhH, sc.trans se, by omega, fun i x hx => ?_, fun i d' v' hd' hv' => ?_, .inr ⟨hnil, h2⟩⟩
          · obtain ⟨a, h1, h2, h3, h4, h5⟩ := items i x hx
            exact ⟨a, h1, h2, h3, h4, h5.of fun o e => se _ _ e⟩
          · have cc := cnt i d' v' hd' hv'
            constructor
            · intro z
              have := cc.mp z
              omega
            · intro z
              by_cases c : i < zs.length
              · exact c
              · obtain ⟨rq2, _, v2, hv2, l2, _⟩ := ch_rq C d' (List.mem_of_getElem? hd')
                rw [hv'] at hv2
                cases hv2
                by_cases ee : i = zs.length
                · have := h2 d' (by rw [← ee]; exact hd')
                  omega
                · have hil := (List.getElem?_eq_some_iff.mp hd').1
                  obtain ⟨d3, hd3⟩ : ∃ d3, (spsOf ts st ph os)[zs.length]? = some d3 := ⟨_, List.getElem?_eq_getElem (by omega)⟩
                  obtain ⟨_, _, v3', hv3, l3, _⟩ := ch_rq C d3 (List.mem_of_getElem? hd3)
                  have := ch_ord C (show zs.length < i by omega) hd3 hd' hv3
                  have := h2 d3 hd3
                  omega
    · rintro σ Hc ⟨v3, here, hs, zs, rfl, hf, hh, nfh, nhH, sc, zl, items, cnt, hst⟩
      rw [hsn.1] at cnt
      exact ⟨_, rfl, k fl zs Hc hf hfl (fun i x hx => by obtain ⟨a, h1, _, _, h2, h3⟩ := items i x hx; exact ⟨a, h1, h2, h3⟩) cnt sc⟩
theorem ok_wruns (T : LX K mg L) : Cal P w K mg base "_law_runs" 1 L.f__law_runs ["_law_played"] (spLRuns) := T.d__law_runs.cal fun fd F => fn_wruns T F
end
/-! ### the list of the outages -/
def spOutL (CR CS C : Addr) : Sp := fun vs H Q _ => ∃ p ts st ph os, vs = [.ref p] ∧ TLV CR CS C H p ts st ph os ∧ ∀ l ys H', H' l = some (.lst ys) → Ots H' ys (outs os) → Same H H' → H l = none → Q (.ref l) H'
section
variable {P : Program} {w : World} {K : PySem.W.Frag} {mg : Str → Option Value} {base : Heap} {L : LA}
abbrev N_Timelineoutagelist : List Str := ["self"]
theorem sc_Timelineoutagelist : FnScope N_Timelineoutagelist ["self"] (defScope st_Timeline_outage_list) := ⟨rfl, rfl, rfl, by decide +kernel, rfl, by decide +kernel, by decide +kernel⟩
theorem fn_Timelineoutagelist (T : LX K mg L) {fd : FuncData} (F : Fun K "outage_list" "Timeline.outage_list" st_Timeline_outage_list L.m_Timeline_outage_list fd) : FnOk P w K mg base CX0 1 L.m_Timeline_outage_list fd ["self"] (spOutL L.c_Row L.c_Spell L.c_Timeline) := by
  have nd := sc_Timelineoutagelist.nd
  refine F.ok sc_Timelineoutagelist (fun vs H Q E h => ?_) (fun cdv A outer S H vs Q E hr h => ?_)
  · obtain ⟨p, ts, st, ph, os, rfl, _⟩ := h
    rfl
  · obtain ⟨p, ts, st, ph, os, rfl, ⟨aR, B, aO, aS, aF, aM, xs, ys, zs, ms, X⟩, k⟩ := h
    refine ⟨_, (pss_one (ps_ret (pe_callTy call_list_of (by rfl) T.b_list (by decide +kernel) (pa_cons (pe_fld (pv 0) rfl) pa_nil)))), ?_⟩
    obtain ⟨dx, hp⟩ := X.ob
    refine ⟨_, rfl, p, L.c_Timeline, dx, _, _, rfl, hp, T.cf_Timeline.cl, T.nf_Timeline_outages, tlF_out _ _ _ _ _, aO, _, rfl, .inr (SqT.of X.hO), fun l hl => ?_⟩
    exact k l ys _ upd_same (X.oO.same (Same.upd hl)) (Same.upd hl) hl
theorem ok_Timelineoutagelist (T : LX K mg L) : Met P w K mg base L.c_Timeline "outage_list" 1 L.m_Timeline_outage_list ["self"] (spOutL L.c_Row L.c_Spell L.c_Timeline) := T.mm_Timeline_outage_list.met fun fd F => fn_Timelineoutagelist T F
end
/-! ### == of rows -/
def spEqR (C : Addr) : Sp := fun vs H Q _ => ∃ p B xs ts st ph v b, vs = [.ref p, v] ∧ RowAt C H p B xs ts st ph ∧ EqOf C H (ts, st, ph) v b ∧ Q (.bl b) H
section
variable {P : Program} {w : World} {K : PySem.W.Frag} {mg : Str → Option Value} {base : Heap} {L : LA}
abbrev N_Roweq : List Str := ["self", "other"]
theorem sc_Roweq : FnScope N_Roweq ["self", "other"] (defScope st_Row_eq) := ⟨rfl, rfl, rfl, by decide +kernel, rfl, by decide +kernel, by decide +kernel⟩
theorem fn_Roweq (T : LX K mg L) {fd : FuncData} (F : Fun K "__eq__" "Row.__eq__" st_Row_eq L.m_Row_eq fd) : FnOk P w K mg base CX0 1 L.m_Row_eq fd ["self", "other"] (spEqR L.c_Row) := by
  have M_Row := T.gc_Row
  have nd := sc_Roweq.nd
  refine F.ok sc_Roweq (fun vs H Q E h => ?_) (fun cdv A outer S H vs Q E hr h => ?_)
  · obtain ⟨p, B, xs, ts, st, ph, v, b, rfl, _⟩ := h
    rfl
  · obtain ⟨p, B, xs, ts, st, ph, v, b, rfl, R, h, k⟩ := h
    refine ⟨_, (pss_one (ps_ret (pe_and (pe_callB call_isi (by rfl) T.b_isinstance (by decide +kernel) (pa_cons (pv 1) (pa_cons (pe_glob rfl M_Row rr) pa_nil))) (pe_and (pe_cmpR (op_eqD hr.units) (pe_fld (pv 0) rfl) (pe_fld (pv 1) rfl) (nomark _)) (pe_and (pe_cmpR op_eq (pe_fld (pv 0) rfl) (pe_fld (pv 1) rfl) (nomark _)) (pe_one (pe_cmpR op_eq (pe_fld (pv 0) rfl) (pe_fld (pv 1) rfl) (nomark _)))))))), ?_⟩
    obtain ⟨dx, hp⟩ := R.ob
    cases h with
    | non => exact ⟨_, rfl, _, .ref L.c_Row, _, _, _, rfl, .own L.c_Row, Kd.non.ty, T.cf_Row.kitT (H := H) .non, _, rfl, iteF k⟩
    | lst e => exact ⟨_, rfl, _, .ref L.c_Row, _, _, _, rfl, .own L.c_Row, (Kd.lst e).ty, T.cf_Row.kitT (.lst e), _, rfl, iteF k⟩
    | tup e => exact ⟨_, rfl, _, .ref L.c_Row, _, _, _, rfl, .own L.c_Row, (Kd.tup e).ty, T.cf_Row.kitT (.tup e), _, rfl, iteF k⟩
    | @row q U ys us st' ph' R' =>
      obtain ⟨dy, hq⟩ := R'.ob
      refine ⟨_, rfl, _, .ref L.c_Row, _, _, _, rfl, .own L.c_Row, T.cf_Row.tyR hq, if_pos (beq_self_eq_true _), _, rfl, iteT ?_⟩
      refine ⟨_, rfl, p, L.c_Row, dx, _, _, rfl, hp, T.cf_Row.cl, T.nf_Row_breakers, rowF_b _ _ _, _, rfl, q, L.c_Row, dy, _, _, rfl, hq, T.cf_Row.cl, T.nf_Row_breakers, rowF_b _ _ _, .tuple (ts.map triD), .tuple (us.map triD), .tup (SqT.of R.tp) R.br.dp, .tup (SqT.of R'.tp) R'.br.dp, shT _, shT _, _, rfl, ?_⟩
      have e0 : PyData.eqv (.tuple (ts.map triD)) (.tuple (us.map triD)) = decide (ts = us) := by rw [PyData.eqv]; exact triDs_eq ts us
      rw [e0]
      have fin : ∀ c : Bool, decide ((ts, st, ph) = (us, st', ph')) = c → Q (.bl c) H := fun c e => by rw [← e]; exact k
      refine ite2 (fun c1 => ?_) (fun c1 => ?_)
      · have c1' : ts = us := of_decide_eq_true c1
        refine ⟨_, rfl, p, L.c_Row, dx, _, _, rfl, hp, T.cf_Row.cl, T.nf_Row_step, rowF_s _ _ _, _, rfl, q, L.c_Row, dy, _, _, rfl, hq, T.cf_Row.cl, T.nf_Row_step, rowF_s _ _ _, rfl, _, rfl, ?_⟩
        refine ite2 (fun c2 => ?_) (fun c2 => ?_)
        · have c2' : st = st' := V.int.inj (of_decide_eq_true c2)
          refine ⟨_, rfl, p, L.c_Row, dx, _, _, rfl, hp, T.cf_Row.cl, T.nf_Row_phase, rowF_p _ _ _, _, rfl, q, L.c_Row, dy, _, _, rfl, hq, T.cf_Row.cl, T.nf_Row_phase, rowF_p _ _ _, rfl, fin _ ?_⟩
          subst c1' c2'
          rw [Bool.eq_iff_iff]
          simp
        · refine fin false (decide_eq_false fun e => c2 (decide_eq_true ?_))
          have e' : st = st' := congrArg (fun z : RDat => z.2.1) e
          rw [e']
      · refine fin false (decide_eq_false fun e => c1 (decide_eq_true ?_))
        exact congrArg (fun z : RDat => z.1) e
theorem ok_Roweq (T : LX K mg L) : Met P w K mg base L.c_Row "__eq__" 1 L.m_Row_eq ["self", "other"] (spEqR L.c_Row) := T.mm_Row_eq.met fun fd F => fn_Roweq T F
end
theorem EqOf.tyN {C : Addr} {H : Hp} {d : RDat} {v : V} {b : Bool} (h : EqOf C H d v b) : ∃ t, TyN H C v t := by
  cases h with
  | row R => obtain ⟨dx, h⟩ := R.ob; exact ⟨_, .ins h⟩
  | non => exact ⟨_, .non⟩
  | lst e => exact ⟨_, .lst e⟩
  | tup e => exact ⟨_, .tup e⟩
theorem ne_row {C : Addr} {H : Hp} {z W : Addr} {xs : List V} {ts : List Tri} {st ph : Int} {v : V} {b : Bool} {Q : VK} (R : RowAt C H z W xs ts st ph) (h : EqOf C H (ts, st, ph) v b) (k : Q (.bl (!b)) H) : rOwnEq C (spEqR C) E0 Bool.not (.ref z) v H Q := by
  obtain ⟨dx, hz⟩ := R.ob
  obtain ⟨t, ty⟩ := h.tyN
  exact ⟨z, dx, _, t, rfl, hz, ty, z, W, xs, ts, st, ph, v, b, rfl, R, h, b, rfl, k⟩
theorem eq_row {C : Addr} {H : Hp} {z W : Addr} {xs : List V} {ts : List Tri} {st ph : Int} {v : V} {b : Bool} {Q : VK} (R : RowAt C H z W xs ts st ph) (h : EqOf C H (ts, st, ph) v b) (k : Q (.bl b) H) : rOwnEq C (spEqR C) E0 _root_.id (.ref z) v H Q := by
  obtain ⟨dx, hz⟩ := R.ob
  obtain ⟨t, ty⟩ := h.tyN
  exact ⟨z, dx, _, t, rfl, hz, ty, z, W, xs, ts, st, ph, v, b, rfl, R, h, b, rfl, k⟩
/-! ### == of timelines -/
def oPD (o : Int × Int) : PyData := .tuple [.int o.1, .int o.2]
theorem oPs_dp {K : PySem.W.Frag} {H : Hp} : ∀ {os : List (Int × Int)} {xs : List V}, Ots H xs (outs os) → DpAll K H xs (os.map oPD)
  | [], _, .nil => .nil
  | _ :: _, _, .cons ⟨a, e, h⟩ t => by
    subst e
    exact .cons (.tup (SqT.of h) (.cons (.int _) (.cons (.int _) .nil))) (oPs_dp t)
theorem oPs_can : ∀ os : List (Int × Int), PyData.canLayAll0 (os.map oPD) = true ∧ PyData.depthAll (os.map oPD) ≤ 10
  | [] => ⟨by simp [PyData.canLayAll0], by simp [PyData.depthAll]⟩
  | o :: r => by
    obtain ⟨h1, h2⟩ := oPs_can r
    refine ⟨by simp [oPD, PyData.canLayAll0, PyData.canLay0, h1], ?_⟩
    rw [List.map_cons, PyData.depthAll]
    have : (oPD o).depth ≤ 10 := by simp [oPD, PyData.depth, PyData.depthAll]
    omega
theorem oPD_eq (a b : Int × Int) : PyData.eqv (oPD a) (oPD b) = decide (a = b) := by
  obtain ⟨a1, a2⟩ := a
  obtain ⟨b1, b2⟩ := b
  simp only [oPD, PyData.eqv, PyData.eqvAll, Bool.and_true]
  rw [Bool.eq_iff_iff]
  simp
theorem oPs_eqA : ∀ as bs : List (Int × Int), PyData.eqvAll (as.map oPD) (bs.map oPD) = decide (as = bs)
  | [], [] => by simp [PyData.eqvAll]
  | [], _ :: _ => by simp [PyData.eqvAll]
  | _ :: _, [] => by simp [PyData.eqvAll]
  | a :: as, b :: bs => by
    rw [List.map_cons, List.map_cons, PyData.eqvAll, oPD_eq, oPs_eqA as bs, Bool.eq_iff_iff]
    simp
theorem oPs_shT (os : List (Int × Int)) : SeqAt.shaped (.tuple (os.map oPD)) = true := by
  obtain ⟨h1, h2⟩ := oPs_can os
  refine Bool.and_eq_true_iff.mpr ⟨?_, decide_eq_true ?_⟩
  · rw [PyData.canLay0]
    exact h1
  · rw [PyData.depth]
    omega
theorem oPs_shL (os : List (Int × Int)) : SeqAt.shaped (.list (os.map oPD)) = true := by
  obtain ⟨h1, h2⟩ := oPs_can os
  refine Bool.and_eq_true_iff.mpr ⟨?_, decide_eq_true ?_⟩
  · rw [PyData.canLay0]
    exact h1
  · rw [PyData.depth]
    omega
theorem oPs_eqT (as bs : List (Int × Int)) : PyData.eqv (.tuple (as.map oPD)) (.tuple (bs.map oPD)) = decide (as = bs) := by
  rw [PyData.eqv]
  exact oPs_eqA as bs
theorem oPs_eqL (as bs : List (Int × Int)) : PyData.eqv (.list (as.map oPD)) (.list (bs.map oPD)) = decide (as = bs) := by
  rw [PyData.eqv]
  exact oPs_eqA as bs
theorem CF.kitC {K : PySem.W.Frag} {C D : Addr} (M : CF K C) (h : PySem.W.mroIn K D (.ref C) = some false) : PySem.W.kitOne K (.ref D) (.ref C) = some false ∧ D ≠ C := by
  have ne : D ≠ C := fun z => by
    subst z
    have sf : (PySem.W.clsIn K D).any (fun cd => cd.mro.head? == some (.ref D)) = true := M.sf
    have h : (PySem.W.clsIn K D).bind (fun cd => if cd.mro.isEmpty then none else some (cd.mro.contains (.ref D))) = some false := h
    cases q : PySem.W.clsIn K D with
    | none => rw [q] at sf; cases sf
    | some cd =>
      rw [q] at sf h
      have sf : (cd.mro.head? == some (.ref D)) = true := sf
      have h : (if cd.mro.isEmpty = true then none else some (cd.mro.contains (.ref D))) = some false := h
      cases e : cd.mro with
      | nil => rw [e] at sf; exact absurd sf Bool.false_ne_true
      | cons a r =>
        rw [e] at sf h
        have e2 : a = .ref D := Option.some.inj (eq_of_beq sf)
        rw [e2, List.contains_cons] at h
        simp at h
  refine ⟨?_, ne⟩
  have e1 : ((PySem.W.clsIn K C).isSome && PySem.W.typeIn K (.ref C) == some (.type "type")) = true := by
    have h2 : (PySem.W.clsIn K C).isSome = true := M.cls
    rw [h2, M.ty] <;> rfl
  show (if (Value.ref D == Value.ref C) = true then some true else PySem.W.kitCls K (.ref D) (.ref C)) = some false
  rw [if_neg (by intro z; have := eq_of_beq z; injection this with this; exact ne this)]
  show (if ((PySem.W.clsIn K C).isSome && PySem.W.typeIn K (.ref C) == some (.type "type")) = true then PySem.W.subIn K (.ref D) (.ref C) else none) = some false
  rw [if_pos e1]
  exact h
abbrev TDat := RDat × List (Int × Int)
inductive EqTL (CR CS C : Addr) (H : Hp) (d : TDat) : V → Bool → Prop where
  | tl {q : Addr} {us : List Tri} {st ph : Int} {qs : List (Int × Int)} (Y : TLV CR CS C H q us st ph qs) : EqTL CR CS C H d (.ref q) (decide (d = ((us, st, ph), qs)))
  | non : EqTL CR CS C H d .non false
  | lst {a : Addr} {xs : List V} (e : H a = some (.lst xs)) : EqTL CR CS C H d (.ref a) false
  | tup {a : Addr} {xs : List V} (e : H a = some (.tup xs)) : EqTL CR CS C H d (.ref a) false
  | row {q U : Addr} {ys : List V} {us : List Tri} {st ph : Int} (R : RowAt CR H q U ys us st ph) : EqTL CR CS C H d (.ref q) false
def spTEq (CR CS C : Addr) : Sp := fun vs H Q _ => ∃ p ts st ph os v b, vs = [.ref p, v] ∧ TLV CR CS C H p ts st ph os ∧ EqTL CR CS C H ((ts, st, ph), os) v b ∧ Q (.bl b) H
/-- a row against an instance of another class -/
def spEqRo (C C2 : Addr) : Sp := fun vs H Q _ => ∃ p B xs ts st ph q dy gs, vs = [.ref p, .ref q] ∧ RowAt C H p B xs ts st ph ∧ H q = some (.ins C2 dy gs) ∧ Q (.bl false) H
section
variable {P : Program} {w : World} {K : PySem.W.Frag} {mg : Str → Option Value} {base : Heap} {L : LA}
abbrev N_Timelineeq : List Str := ["self", "other"]
theorem sc_Timelineeq : FnScope N_Timelineeq ["self", "other"] (defScope st_Timeline_eq) := ⟨rfl, rfl, rfl, by decide +kernel, rfl, by decide +kernel, by decide +kernel⟩
theorem fn_Timelineeq (T : LX K mg L) {fd : FuncData} (F : Fun K "__eq__" "Timeline.__eq__" st_Timeline_eq L.m_Timeline_eq fd) : FnOk P w K mg base CX0 2 L.m_Timeline_eq fd ["self", "other"] (spTEq L.c_Row L.c_Spell L.c_Timeline) := by
  have G_Roweq := ok_Roweq (P := P) (w := w) (base := base) T
  have M_Timeline := T.gc_Timeline
  have nd := sc_Timelineeq.nd
  refine F.ok sc_Timelineeq (fun vs H Q E h => ?_) (fun cdv A outer S H vs Q E hr h => ?_)
  · obtain ⟨p, ts, st, ph, os, v, b, rfl, _⟩ := h
    rfl
  · obtain ⟨p, ts, st, ph, os, v, b, rfl, ⟨aR, B, aO, aS, aF, aM, xs, ys, zs, ms, X⟩, h, k⟩ := h
    refine ⟨_, (pss_one (ps_ret (pe_and (pe_callB call_isi (by rfl) T.b_isinstance (by decide +kernel) (pa_cons (pv 1) (pa_cons (pe_glob rfl M_Timeline rr) pa_nil))) (pe_and (pe_cmpR (G_Roweq.op_eq (hr.mono (by decide))) (pe_fld (pv 0) rfl) (pe_fld (pv 1) rfl) (nomark _)) (pe_one (pe_cmpR (op_eqD hr.units) (pe_fld (pv 0) rfl) (pe_fld (pv 1) rfl) (nomark _))))))), ?_⟩
    obtain ⟨dx, hp⟩ := X.ob
    cases h with
    | non => exact ⟨_, rfl, _, .ref L.c_Timeline, _, _, _, rfl, .own L.c_Timeline, Kd.non.ty, T.cf_Timeline.kitT (H := H) .non, _, rfl, iteF k⟩
    | lst e => exact ⟨_, rfl, _, .ref L.c_Timeline, _, _, _, rfl, .own L.c_Timeline, (Kd.lst e).ty, T.cf_Timeline.kitT (.lst e), _, rfl, iteF k⟩
    | tup e => exact ⟨_, rfl, _, .ref L.c_Timeline, _, _, _, rfl, .own L.c_Timeline, (Kd.tup e).ty, T.cf_Timeline.kitT (.tup e), _, rfl, iteF k⟩
    | row R =>
      obtain ⟨dy, hq⟩ := R.ob
      exact ⟨_, rfl, _, .ref L.c_Timeline, _, _, _, rfl, .own L.c_Timeline, T.cf_Row.tyR hq, (T.cf_Timeline.kitC T.mo_Row_Timeline).1, _, rfl, iteF k⟩
    | @tl q us st' ph' qs Y =>
      obtain ⟨aR2, B2, aO2, aS2, aF2, aM2, xs2, ys2, zs2, ms2, X2⟩ := Y
      obtain ⟨dy, hq⟩ := X2.ob
      refine ⟨_, rfl, _, .ref L.c_Timeline, _, _, _, rfl, .own L.c_Timeline, T.cf_Timeline.tyR hq, if_pos (beq_self_eq_true _), _, rfl, iteT ?_⟩
      refine ⟨_, rfl, p, L.c_Timeline, dx, _, _, rfl, hp, T.cf_Timeline.cl, T.nf_Timeline_row, tlF_row _ _ _ _ _, _, rfl, q, L.c_Timeline, dy, _, _, rfl, hq, T.cf_Timeline.cl, T.nf_Timeline_row, tlF_row _ _ _ _ _, eq_row X.row (.row X2.row) ⟨_, rfl, ?_⟩⟩
      have fin : ∀ c : Bool, decide (((ts, st, ph), os) = ((us, st', ph'), qs)) = c → Q (.bl c) H := fun c e => by rw [← e]; exact k
      refine ite2 (fun c1 => ?_) (fun c1 => ?_)
      · have c1' : (ts, st, ph) = (us, st', ph') := of_decide_eq_true c1
        refine ⟨_, rfl, p, L.c_Timeline, dx, _, _, rfl, hp, T.cf_Timeline.cl, T.nf_Timeline_outages, tlF_out _ _ _ _ _, _, rfl, q, L.c_Timeline, dy, _, _, rfl, hq, T.cf_Timeline.cl, T.nf_Timeline_outages, tlF_out _ _ _ _ _, .tuple (os.map oPD), .tuple (qs.map oPD), .tup (SqT.of X.hO) (oPs_dp X.oO), .tup (SqT.of X2.hO) (oPs_dp X2.oO), oPs_shT _, oPs_shT _, ?_⟩
        rw [oPs_eqT]
        refine fin _ ?_
        rw [c1', Bool.eq_iff_iff]
        simp
      · refine fin false (decide_eq_false fun e => c1 (decide_eq_true ?_))
        exact congrArg (fun z : TDat => z.1) e
theorem ok_Timelineeq (T : LX K mg L) : Met P w K mg base L.c_Timeline "__eq__" 2 L.m_Timeline_eq ["self", "other"] (spTEq L.c_Row L.c_Spell L.c_Timeline) := T.mm_Timeline_eq.met fun fd F => fn_Timelineeq T F
namespace W2
abbrev N_Roweq : List Str := ["self", "other"]
theorem sc_Roweq : FnScope N_Roweq ["self", "other"] (defScope st_Row_eq) := ⟨rfl, rfl, rfl, by decide +kernel, rfl, by decide +kernel, by decide +kernel⟩
theorem fn_Roweq (T : LX K mg L) {fd : FuncData} (F : Fun K "__eq__" "Row.__eq__" st_Row_eq L.m_Row_eq fd) : FnOk P w K mg base CX0 1 L.m_Row_eq fd ["self", "other"] (spEqRo L.c_Row L.c_Timeline) := by
  have M_Row := T.gc_Row
  have nd := sc_Roweq.nd
  refine F.ok sc_Roweq (fun vs H Q E h => ?_) (fun cdv A outer S H vs Q E hr h => ?_)
  · obtain ⟨p, B, xs, ts, st, ph, q, dy, gs, rfl, _⟩ := h
    rfl
  · obtain ⟨p, B, xs, ts, st, ph, q, dy, gs, rfl, R, hq, k⟩ := h
    refine ⟨_, (pss_one (ps_ret (pe_and (pe_callB call_isi (by rfl) T.b_isinstance (by decide +kernel) (pa_cons (pv 1) (pa_cons (pe_glob rfl M_Row rr) pa_nil))) (pe_and (pe_cmpR (op_eqD hr.units) (pe_fld (pv 0) rfl) (pe_fld (pv 1) rfl) (nomark _)) (pe_and (pe_cmpR op_eq (pe_fld (pv 0) rfl) (pe_fld (pv 1) rfl) (nomark _)) (pe_one (pe_cmpR op_eq (pe_fld (pv 0) rfl) (pe_fld (pv 1) rfl) (nomark _)))))))), ?_⟩
    exact ⟨_, rfl, _, .ref L.c_Row, _, _, _, rfl, .own L.c_Row, T.cf_Timeline.tyR hq, (T.cf_Row.kitC T.mo_Timeline_Row).1, _, rfl, iteF k⟩
theorem ok_Roweq (T : LX K mg L) : Met P w K mg base L.c_Row "__eq__" 1 L.m_Row_eq ["self", "other"] (spEqRo L.c_Row L.c_Timeline) := T.mm_Row_eq.met fun fd F => fn_Roweq T F
end W2
end
theorem EqTL.tyN {CR CS C : Addr} {H : Hp} {d : TDat} {v : V} {b : Bool} (h : EqTL CR CS C H d v b) (nr : ∀ q U ys us st ph, v = .ref q → ¬ RowAt CR H q U ys us st ph) : ∃ t, TyN H C v t := by
  cases h with
  | tl Y =>
    obtain ⟨aR, B, aO, aS, aF, aM, xs, ys, zs, ms, X⟩ := Y
    obtain ⟨dx, hp⟩ := X.ob
    exact ⟨_, .ins hp⟩
  | non => exact ⟨_, .non⟩
  | lst e => exact ⟨_, .lst e⟩
  | tup e => exact ⟨_, .tup e⟩
  | row R => exact absurd R (nr _ _ _ _ _ _ rfl)
theorem eq_tl {CR CS C : Addr} {H : Hp} {p q : Addr} {ts us : List Tri} {st ph st' ph' : Int} {os qs : List (Int × Int)} {Q : VK} (Y : TLV CR CS C H p ts st ph os) (Y' : TLV CR CS C H q us st' ph' qs) (k : Q (.bl (decide (((ts, st, ph), os) = ((us, st', ph'), qs)))) H) : rOwnEq C (spTEq CR CS C) E0 _root_.id (.ref p) (.ref q) H Q := by
  obtain ⟨dx, a1, a2, a3, a4, a5, hp⟩ := Y.has
  obtain ⟨dy, b1, b2, b3, b4, b5, hq⟩ := Y'.has
  exact ⟨p, dx, _, _, rfl, hp, .ins hq, p, ts, st, ph, os, _, _, rfl, Y, .tl Y', _, rfl, k⟩
theorem ne_tl {CR CS C : Addr} {H : Hp} {p q : Addr} {ts us : List Tri} {st ph st' ph' : Int} {os qs : List (Int × Int)} {Q : VK} (Y : TLV CR CS C H p ts st ph os) (Y' : TLV CR CS C H q us st' ph' qs) (k : Q (.bl (!decide (((ts, st, ph), os) = ((us, st', ph'), qs)))) H) : rOwnEq C (spTEq CR CS C) E0 Bool.not (.ref p) (.ref q) H Q := by
  obtain ⟨dx, a1, a2, a3, a4, a5, hp⟩ := Y.has
  obtain ⟨dy, b1, b2, b3, b4, b5, hq⟩ := Y'.has
  exact ⟨p, dx, _, _, rfl, hp, .ins hq, p, ts, st, ph, os, _, _, rfl, Y, .tl Y', _, rfl, k⟩
/-! ### «in» of a list of objects of other kinds, none of them equal to what is looked for -/
/-- y answers no to x, or x does in its stead -/
def NoG (X : Cx) (n : Nat) (D : L2.Eqv) : Prop :=
  ∀ (A : Around) (pins : List (Addr × Obj)) (s : Shared) (σ : L2.St) (H : Hp) (y x : V) (u v : Value), L2.Sub X n A → L2.Inv X pins σ H s → L2.RelV y u → L2.RelV x v → D y x H →
    wpAny (model X.prog X.w) A (eqBool u v) (fun r s' => r = false ∧ ∃ H', L2.Inv X pins σ H' s' ∧ L2.Ext H H') X.xe s
theorem NoG.or {X : Cx} {n : Nat} {D D' : L2.Eqv} (h : NoG X n D) (h' : NoG X n D') : NoG X n (fun y x H => D y x H ∨ D' y x H) := fun A pins s σ H y x u v sb I ry rx d => by
  rcases d with d | d
  · exact h A pins s σ H y x u v sb I ry rx d
  · exact h' A pins s σ H y x u v sb I ry rx d
/-- what an own == promises of things that are not equal -/
def spNoE (R : Addr → V → Hp → Prop) : Sp := fun vs H Q _ => ∃ a y, vs = [.ref a, y] ∧ R a y H ∧ ∀ H', L2.Ext H H' → Q (.bl false) H'
/-- the own == is asked -/
theorem ask_own {X : Cx} {CX : CXT} {f : Addr} {fd : FuncData} {ps : List Str} {n : Nat} {R : Addr → V → Hp → Prop} {E : XK} (F : FnOk X.prog X.w X.K X.mg X.base CX n f fd ps (spNoE R)) (hb : Binds X.K fd ps []) (hx : Passes CX X E)
    {A : Around} {pins : List (Addr × Obj)} {s : Shared} {σ : L2.St} {H : Hp} {a : Addr} {y : V} {v : Value} (sb : L2.Sub X n A) (I : L2.Inv X pins σ H s) (ry : L2.RelV y v) (hr : R a y H) :
    wpAny (model X.prog X.w) A (call (.ref f) [.ref a, v]) (fun r s' => r = .bool false ∧ ∃ H', L2.Inv X pins σ H' s' ∧ L2.Ext H H') X.xe s := by
  have hsp : spNoE R [.ref a, y] H (fun v H' => v = .bl false ∧ L2.Ext H H') E := ⟨a, y, rfl, hr, fun H' e => ⟨rfl, e⟩⟩
  have hl := F.len _ _ _ _ hsp
  have e := I.env0
  have e0 : Env0 X.prog X.w X.K X.mg X.base A X.stack s H := ⟨by rw [sb.fr]; exact e.frames, e.mod, e.bs, e.bsz, e.funs, e.frf, e.hok, e.bare⟩
  have r2 : L2.Vals [V.ref a, y] [Value.ref a, v] := .cons rfl (.cons ry .nil)
  have bb := hb s [.ref a, v] I.kIn (by simpa using hl)
  have rn := F.run A X.stack s H ⟨[.ref a, v], []⟩ [.ref a, v] [.ref a, y] _ E sb.room e0 (by simpa using bb) r2 hsp
  refine wpAny_call (codeAny_mono rn ?_)
  intro r s' hq
  match r, hq with
  | .error e, hq => exact hx pins σ H s e s' I hq
  | .ok (.ret w), hq =>
    obtain ⟨z, H', I', rz, ez, ex⟩ := I.after hq
    subst ez
    cases rz
    exact ⟨rfl, H', I', ex⟩
  | .ok .next, hq => exact hq.elim
  | .ok .brk, hq => exact hq.elim
  | .ok .cont, hq => exact hq.elim
/-- an instance of an own class, by its own == -/
def DNoI (C : Addr) (R : Addr → V → Hp → Prop) : L2.Eqv := fun y x H => ∃ a b C2 dx dy fs gs, y = .ref a ∧ x = .ref b ∧ H a = some (.ins C dx fs) ∧ H b = some (.ins C2 dy gs) ∧ R a x H
theorem noG_ins {X : Cx} {CX : CXT} {C f : Addr} {fd : FuncData} {ps : List Str} {n : Nat} {R : Addr → V → Hp → Prop} {E : XK} (F : FnOk X.prog X.w X.K X.mg X.base CX n f fd ps (spNoE R))
    (hs : PySem.W.findIn X.K (.ref C) "__eq__" = some (some (.ref f))) (hf : PySem.W.isFn X.K (.ref f) = true) (hb : Binds X.K fd ps []) (hx : Passes CX X E) (hC : ∀ a b C2 H, R a (.ref b) H → (∃ dy gs, H b = some (.ins C2 dy gs)) → PySem.W.notFirst X.K C (.ref C2) = true ∧ C2 ≠ C) : NoG X n (DNoI C R) := by
  rintro A pins s σ H y x u v sb I ry rx ⟨a, b, C2, dx, dy, fs, gs, rfl, rfl, ha, hb', hr⟩
  cases rx
  cases ry
  obtain ⟨nf, ne⟩ := hC a b C2 H hr ⟨dy, gs, hb'⟩
  have hab : a ≠ b := fun z => by
    rw [z, hb'] at ha
    cases ha
    exact ne rfl
  refine GQ.eqBool_refG hab ?_
  obtain ⟨mA, J, _⟩ := ins_get I.hok ha
  obtain ⟨mB, J', _⟩ := ins_get I.hok hb'
  obtain ⟨od, J, _⟩ := J.look
  obtain ⟨od', J', _⟩ := J'.look
  obtain ⟨m, hF⟩ := I.fr
  refine PySem.W.cmp_K (op := .Eq) (tb := .ref C2) sb.room.units0 hF I.ok.mod.kin J J'.type nf hs hf ?_
  refine wpAny_mono (ask_own F hb hx sb I (y := .ref b) rfl hr) ?_ fun _ _ z => z
  rintro r s' ⟨rfl, q⟩
  exact ⟨false, rfl, rfl, q⟩
/-- a type's name among the classes over object alone -/
theorem only_type (T : String) (hT : (T == "object") = false) : ∀ l : List Value, PySem.W.onlyObject l = true → l.contains (.type T) = false ∧ l.isEmpty = false
  | [.type n], e => by
    have e : n = "object" := beq_iff_eq.mp e
    subst e
    refine ⟨?_, rfl⟩
    rw [List.contains_cons]
    have : (Value.type T == Value.type "object") = false := by
      rw [beq_eq_false_iff_ne]
      intro z
      injection z with z
      rw [z] at hT
      exact absurd hT (by decide)
    rw [this]
    rfl
  | .ref c :: r, e => by
    have e' : PySem.W.onlyObject r = true := by cases r <;> first | exact e | cases e
    obtain ⟨h1, _⟩ := only_type T hT r e'
    refine ⟨?_, rfl⟩
    rw [List.contains_cons, h1]
    rfl
theorem not_under {K : PySem.W.Frag} {C : Addr} (h : PySem.W.plainOver K C = true) {T : String} (hT : (T == "object") = false) : PySem.W.subIn K (.ref C) (.type T) = some false := by
  have h : (PySem.W.clsIn K C).any (fun cd => PySem.W.onlyObject cd.mro) = true := h
  show (PySem.W.clsIn K C).bind (fun cd => if cd.mro.isEmpty then none else some (cd.mro.contains (.type T))) = some false
  cases q : PySem.W.clsIn K C with
  | none => rw [q] at h; cases h
  | some cd =>
    rw [q] at h
    have h : PySem.W.onlyObject cd.mro = true := h
    obtain ⟨h1, h2⟩ := only_type T hT _ h
    show (if cd.mro.isEmpty = true then none else some (cd.mro.contains (.type T))) = some false
    rw [h1, h2]
    rfl
/-- None, a list or a tuple declines, the own == of the other one is asked -/
def Plain (K : PySem.W.Frag) (H : Hp) (y : V) : Prop := y = .non ∨ (∃ a xs, y = .ref a ∧ SqL K H a xs) ∨ ∃ a xs, y = .ref a ∧ SqT K H a xs
theorem decl_list {prog : Program} {w : World} {A : Around} {E : Value → Shared → Prop} {s : Shared} {l b : Addr} {Q : Value → Shared → Prop} (hl : s.TypeIs (.ref l) "list") (hb : PySem.W.Looks (model prog w) s.heap (isInstance (.ref b) (.type "list")) false) (q : Q .notImplemented s) :
    wpAny (model prog w) A (call (.builtin "list.__eq__") [.ref l, .ref b]) Q E s := by
  refine GQ.call_here F.slot_list_eq hl F.entry_list_eq (F.args_list_eq_2 _ _) ?_
  refine wpAny_bind ?_
  unfold slotArgs
  refine wpAny_ite_false (by rfl) ?_
  refine wpAny_ite_false (by rfl) ?_
  refine wpAny_pure ?_
  refine wpAny_bind (hb.here ?_)
  exact wpAny_ite_true rfl (wpAny_pure q)
theorem decl_tup {prog : Program} {w : World} {A : Around} {E : Value → Shared → Prop} {s : Shared} {l b : Addr} {Q : Value → Shared → Prop} (hl : s.TypeIs (.ref l) "tuple") (hb : PySem.W.Looks (model prog w) s.heap (isInstance (.ref b) (.type "tuple")) false) (q : Q .notImplemented s) :
    wpAny (model prog w) A (call (.builtin "tuple.__eq__") [.ref l, .ref b]) Q E s := by
  refine GQ.call_here F.slot_tuple_eq hl F.entry_tuple_eq (F.args_tuple_eq_2 _ _) ?_
  refine wpAny_bind ?_
  unfold slotArgs
  refine wpAny_ite_false (by rfl) ?_
  refine wpAny_ite_false (by rfl) ?_
  refine wpAny_pure ?_
  refine wpAny_bind (hb.here ?_)
  exact wpAny_ite_true rfl (wpAny_pure q)
theorem back_own {X : Cx} {CX : CXT} {C f : Addr} {fd : FuncData} {ps : List Str} {n : Nat} {R : Addr → V → Hp → Prop} {E : XK} (F : FnOk X.prog X.w X.K X.mg X.base CX n f fd ps (spNoE R))
    (hs : PySem.W.findIn X.K (.ref C) "__eq__" = some (some (.ref f))) (hf : PySem.W.isFn X.K (.ref f) = true) (hb : Binds X.K fd ps []) (hx : Passes CX X E) (po : PySem.W.plainOver X.K C = true)
    {A : Around} {pins : List (Addr × Obj)} {s : Shared} {σ : L2.St} {H : Hp} {b dx : Addr} {fs : List (Str × V)} {y : V} {u : Value} (sb : L2.Sub X n A) (I : L2.Inv X pins σ H s) (ry : L2.RelV y u) (hb' : H b = some (.ins C dx fs)) (hr : R b y H)
    {T : String} (hT : s.TypeIs u T) (nT : (T == "object") = false) (dec : ∀ {Q : Option Value → Shared → Prop}, Q none s → wpAny (model X.prog X.w) A (tryCompare u "__eq__" (.ref b)) Q X.xe s) :
    wpAny (model X.prog X.w) A (richCompare .Eq u (.ref b)) (fun r s' => r = .bool false ∧ ∃ H', L2.Inv X pins σ H' s' ∧ L2.Ext H H') X.xe s := by
  obtain ⟨mB, J', _⟩ := ins_get I.hok hb'
  obtain ⟨od', J', _⟩ := J'.look
  have two : wpAny (model X.prog X.w) A (tryCompare (.ref b) "__eq__" u) (fun r s' => r = some (.bool false) ∧ ∃ H', L2.Inv X pins σ H' s' ∧ L2.Ext H H') X.xe s := by
    unfold tryCompare
    refine wpAny_bind (PySem.W.ifBound_K I.kIn J' hs hf (wpAny_mono (ask_own F hb hx sb I ry hr) ?_ fun _ _ z => z))
    rintro r s' ⟨rfl, q⟩
    exact wpAny_pure ⟨rfl, q⟩
  simp only [richCompare, cmpInfo_Eq, hT.oneThing_none]
  refine wpAny_holding (wpAny_bind (wpAny_cRoomFor sb.room.units0 ?_))
  refine wpAny_bind (wpAny_typeOf hT ?_)
  refine wpAny_bind (J'.type.here ?_)
  split
  · refine wpAny_bind ((PySem.W.looks_subIn I.kIn (not_under po nT)).here ?_)
    simp only [Bool.false_eq_true, if_false, Bool.not_false, if_true]
    refine wpAny_bind (m := tryCompare u _ (.ref b)) (dec ?_)
    refine wpAny_bind (m := tryCompare (.ref b) _ u) (wpAny_mono two ?_ fun _ _ z => z)
    rintro r s' ⟨rfl, q⟩
    exact wpAny_pure ⟨rfl, q⟩
  · rename_i q
    exact absurd (by simp) q
/-- None, a list or a tuple against an instance of an own class -/
def DNoB (K : PySem.W.Frag) (C : Addr) (R : Addr → V → Hp → Prop) : L2.Eqv := fun y x H => Plain K H y ∧ ∃ b dx fs, x = .ref b ∧ H b = some (.ins C dx fs) ∧ R b y H
theorem noG_back {X : Cx} {CX : CXT} {C f : Addr} {fd : FuncData} {ps : List Str} {n : Nat} {R : Addr → V → Hp → Prop} {E : XK} (FF : FnOk X.prog X.w X.K X.mg X.base CX n f fd ps (spNoE R))
    (hs : PySem.W.findIn X.K (.ref C) "__eq__" = some (some (.ref f))) (hf : PySem.W.isFn X.K (.ref f) = true) (hb : Binds X.K fd ps []) (hx : Passes CX X E) (po : PySem.W.plainOver X.K C = true) : NoG X n (DNoB X.K C R) := by
  rintro A pins s σ H y x u v sb I ry rx ⟨py, b, dx, fs, rfl, hb', hr⟩
  cases rx
  obtain ⟨mB, J', _⟩ := ins_get I.hok hb'
  obtain ⟨od', J', _⟩ := J'.look
  have fin : ∀ {u : Value}, wpAny (model X.prog X.w) A (richCompare .Eq u (.ref b)) (fun r s' => r = .bool false ∧ ∃ H', L2.Inv X pins σ H' s' ∧ L2.Ext H H') X.xe s → (u == .ref b) = false → (∀ f t, u ≠ .float f t) → wpAny (model X.prog X.w) A (eqBool u (.ref b)) (fun r s' => r = false ∧ ∃ H', L2.Inv X pins σ H' s' ∧ L2.Ext H H') X.xe s := fun {u} h ne nf => by
    unfold eqBool
    refine wpAny_holding ?_
    refine wpAny_ite_split (fun hab => absurd hab (by rw [ne]; decide)) (fun _ => ?_)
    have h2 := wpAny_bind (f := fun v => truthOfDropped v) (wpAny_mono (Q' := fun v s' => wpAny (model X.prog X.w) A (truthOfDropped v) (fun r s' => r = false ∧ ∃ H', L2.Inv X pins σ H' s' ∧ L2.Ext H H') X.xe s') h (fun r s' z => by
      obtain ⟨rfl, q⟩ := z
      exact wpAny_truthy_bool ⟨rfl, q⟩) fun _ _ z => z)
    cases u <;> first | exact h2 | exact absurd rfl (nf _ _)
  have isno : ∀ T : String, (T == "object") = false → PySem.W.Looks (model X.prog X.w) s.heap (isInstance (.ref b) (.type T)) false := fun T nT => by
    unfold isInstance
    exact J'.type.andThen (PySem.W.looks_subIn I.kIn (not_under po nT))
  rcases py with rfl | ⟨a, xs, rfl, ha⟩ | ⟨a, xs, rfl, ha⟩
  · cases ry
    refine fin (back_own FF hs hf hb hx po sb I (y := .non) rfl hb' hr (T := "NoneType") rfl (by decide) fun q => ?_) rfl (fun _ _ z => nomatch z)
    exact wpAny_tryCompare_declines (show s.TypeIs .none "NoneType" from rfl) F.slot_NoneType_eq_refl (call_gives F.slot_NoneType_eq_refl rfl F.entry_NoneType_eq (F.args_NoneType_eq_2 _ _) (SeqAt.NoneType___eq___none_ref_0 b) ⟨rfl, q⟩)
  · cases ry
    obtain ⟨its, rv, hl, _⟩ := I.list ha
    obtain ⟨o, _, ho, hc, _⟩ := hl
    have ne : (Value.ref a == Value.ref b) = false := by
      rw [beq_eq_false_iff_ne]
      intro z
      injection z with z
      subst z
      have := Option.some.inj (ho.symm.trans J'.at_)
      subst this
      have := hc.symm.trans J'.cls
      cases this
    refine fin (back_own FF hs hf hb hx po sb I (y := .ref a) rfl hb' hr (T := "list") ⟨o, ho, hc⟩ (by decide) fun q => ?_) ne (fun _ _ z => nomatch z)
    exact wpAny_tryCompare_declines ⟨o, ho, hc⟩ F.slot_list_eq (decl_list ⟨o, ho, hc⟩ (isno "list" (by decide)) ⟨rfl, q⟩)
  · cases ry
    obtain ⟨its, rv, hl, _⟩ := I.tuple ha
    obtain ⟨o, ho, hc, _⟩ := hl
    have ne : (Value.ref a == Value.ref b) = false := by
      rw [beq_eq_false_iff_ne]
      intro z
      injection z with z
      subst z
      have := Option.some.inj (ho.symm.trans J'.at_)
      subst this
      have := hc.symm.trans J'.cls
      cases this
    refine fin (back_own FF hs hf hb hx po sb I (y := .ref a) rfl hb' hr (T := "tuple") ⟨o, ho, hc⟩ (by decide) fun q => ?_) ne (fun _ _ z => nomatch z)
    exact wpAny_tryCompare_declines ⟨o, ho, hc⟩ F.slot_tuple_eq (decl_tup ⟨o, ho, hc⟩ (isno "tuple" (by decide)) ⟨rfl, q⟩)
/-! the walk through the list -/
def LstI (prog : Program) (w : World) (A : Around) (E : Value → Shared → Prop) (l : Addr) (x : Value) (N : Nat) (I : Nat → Shared → Prop) : Prop :=
  ∀ (i : Nat) (s : Shared), I i s → ∃ (items : Array Value) (n : Nat) (dd : Option Addr) (sl : Array (Option Value)), s.heap.get? l = some { cls := .type "list", dict := dd, data := .seq items n, slots := sl } ∧ items.size = N ∧
    ∀ h1 : i < items.size, wpAny (model prog w) A.in1 (eqBool items[i] x) (fun r s' => r = false ∧ I (i + 1) s') E s
theorem no_loop {prog : Program} {w : World} {A : Around} {R : Result → Shared → Prop} {l : Addr} {x : Value} {N : Nat} {I : Nat → Shared → Prop}
    (hl : LstI prog w A (fun e s' => R (Except.error e) s') l x N I) (fin : ∀ s : Shared, I N s → R (Except.ok (Flow.ret (Value.bool false))) s) : ∀ (k i : Nat), N - i = k → i ≤ N → ∀ s : Shared, I i s →
    wpAny (model prog w) A.in1 (Builtin.«list.__contains__.loop» ⟨[.ref l, x, rawInt i], []⟩) (GQ.FinOf prog w A R) (fun e s' => R (Except.error e) s') s
  | 0, i, hk, hi, s, h => by
    obtain ⟨items, n, dd, sl, ho, hz, _⟩ := hl i s h
    have e : i = N := by omega
    have q := fin s (e ▸ h)
    obtain ⟨hp, g, d, tk, os⟩ := s
    wp_walk using wpAny_loadPart' ho
    have out : items[((i : Nat) : Int).toNat]? = none := by simp; omega
    rw [out]
    wp_walk
    exact q
  | k + 1, i, hk, hi, s, h => by
    obtain ⟨items, n, dd, sl, ho, hz, turn⟩ := hl i s h
    have lt : i < items.size := by omega
    have go := turn lt
    obtain ⟨hp, g, d, tk, os⟩ := s
    wp_walk using wpAny_loadPart' ho
    have at_ : items[((i : Nat) : Int).toNat]? = some items[i] := by simp [lt]
    rw [at_]
    refine wpAny_bind (wpAny_mono go ?_ fun _ _ z => z)
    rintro r s2 ⟨rfl, h2⟩
    have more := no_loop hl fin k (i + 1) (by omega) (by omega) s2 h2
    obtain ⟨hp2, g2, d2, tk2, os2⟩ := s2
    wp_walk
    rw [show ((i : Int) + 1) = ((i + 1 : Nat) : Int) by omega]
    refine ⟨plainId_quiet MeetsSeq.plain_contains_loop _, codeAny_builtin MeetsSeq.entry_contains_loop ?_⟩
    rw [Around.under_plainId MeetsSeq.plain_contains_loop _]
    exact more
theorem no_in {prog : Program} {w : World} {A : Around} {E : Value → Shared → Prop} {l : Addr} {x : Value} {N : Nat} {I : Nat → Shared → Prop} {Q : Value → Shared → Prop} {s : Shared}
    (hl : LstI prog w A E l x N I) (fin : ∀ s : Shared, I N s → Q (.bool false) s) (h : I 0 s) (hT : s.TypeIs (.ref l) "list") : wpAny (model prog w) A (compareOp .In x (.ref l)) Q E s := by
  show wpAny _ A (do return .bool (← contains (.ref l) x)) Q E s
  refine wpAny_bind (wpAny_contains_slot hT F.slot_list_contains (wpAny_mono (Q := fun v s' => v = .bool false ∧ Q (.bool false) s') ?_ (fun v s' hv => ?_) fun _ _ e => e))
  · refine GQ.call_here F.slot_list_contains hT F.entry_list_contains (F.args_list_contains_2 _ _) ?_
    have go := no_loop (R := wants (fun v s' => v = .bool false ∧ Q (.bool false) s') E) hl (fun s' q => ⟨rfl, fin s' q⟩) N 0 rfl (Nat.zero_le _) s h
    obtain ⟨hp, g, d, tk, os⟩ := s
    wp_walk
    refine ⟨plainId_quiet MeetsSeq.plain_contains_loop _, codeAny_builtin MeetsSeq.entry_contains_loop ?_⟩
    rw [Around.under_plainId MeetsSeq.plain_contains_loop _]
    exact go
  · obtain ⟨rfl, hq⟩ := hv
    exact wpAny_truthy_bool (wpAny_pure hq)
def rInNo (D : L2.Eqv) : R2 := fun x y H Q => ∃ l ys, y = .ref l ∧ H l = some (.lst ys) ∧ (∀ z ∈ ys, D z x H) ∧ ∀ H', L2.Ext H H' → Q (.bl false) H'
theorem op_inNo {X : Cx} {n : Nat} {D : L2.Eqv} (hD : L2.Mon D) (h : NoG X n D) (hr : Room (n + 1) X.A) : OpR X (compareOp .In) (rInNo D) := by
  rintro pins s σ H x y v u Q I rx ry ⟨l, ys, rfl, hl, hz, q⟩
  cases ry
  obtain ⟨its0, rv0, hl0, _⟩ := I.list (SqL.of hl)
  obtain ⟨o0, _, ho0, hc0, _⟩ := hl0
  refine no_in (N := ys.length) (I := fun _ s' => L2.LoopI X pins σ H s') ?_ ?_ ⟨H, I, L2.Ext.rfl'⟩ ⟨o0, ho0, hc0⟩
  · rintro i s' ⟨H1, I1, e1⟩
    obtain ⟨z, its, k, r, e⟩ := I1.hok l _ (e1 _ _ hl)
    refine ⟨its.toArray, k, _, _, e, by rw [List.size_toArray, ← r.length], fun h1 => ?_⟩
    have h1' : i < its.length := by simpa using h1
    obtain ⟨w, hw, rw'⟩ := r.get (i := i) (List.getElem?_eq_getElem (show i < ys.length by rw [r.length]; exact h1'))
    have e2 : its.toArray[i] = w := by
      rw [List.getElem?_eq_getElem h1'] at hw
      have := Option.some.inj hw
      simpa using this
    rw [e2]
    refine wpAny_mono (h X.A.in1 pins s' σ H1 _ x w v ⟨hr.in1, rfl⟩ I1 rw' rx (hD _ _ _ _ e1 (hz _ (List.getElem_mem _)))) (fun r2 s2 qq => ?_) fun _ _ z => z
    obtain ⟨hr2, H2, I2, e22⟩ := qq
    exact ⟨hr2, H2, I2, e1.trans e22⟩
  · rintro s' ⟨H1, I1, e1⟩
    exact ⟨V.bl false, H1, I1, rfl, q H1 e1⟩
/-! ### «in» of a list of None, a row, a list and a tuple, of a timeline -/
def RTb (CR CS C : Addr) : Addr → V → Hp → Prop := fun b y H => ∃ ts st ph os, TLV CR CS C H b ts st ph os ∧ EqTL CR CS C H ((ts, st, ph), os) y false
def RRo (CR C : Addr) : Addr → V → Hp → Prop := fun a x H => (∃ B xs ts st ph, RowAt CR H a B xs ts st ph) ∧ ∃ q dy gs, x = .ref q ∧ H q = some (.ins C dy gs)
theorem fnok_imp {P : Program} {w : World} {K : PySem.W.Frag} {mg : Str → Option Value} {base : Heap} {CX : CXT} {k : Nat} {f : Addr} {fd : FuncData} {ps : List Str} {sp sp' : Sp} (F : FnOk P w K mg base CX k f fd ps sp) (imp : ∀ (vs : List V) (H : Hp) (Q : VK) (E : XK), sp' vs H Q E → sp vs H Q E) : FnOk P w K mg base CX k f fd ps sp' :=
  ⟨fun vs H Q E h => F.len vs H Q E (imp vs H Q E h), fun A outer s H args us vs Q E hr he hb hv h => F.run A outer s H args us vs Q E hr he hb hv (imp vs H Q E h)⟩
def D17 (K : PySem.W.Frag) (CR CS C : Addr) : L2.Eqv := fun y x H => DNoB K C (RTb CR CS C) y x H ∨ DNoI CR (RRo CR C) y x H
theorem EqTL.same {CR CS C : Addr} {H H' : Hp} {d : TDat} {v : V} {b : Bool} (h : EqTL CR CS C H d v b) (s : Same H H') : EqTL CR CS C H' d v b := by
  cases h with
  | tl Y => exact .tl (Y.same s)
  | non => exact .non
  | lst e => exact .lst (s _ _ e)
  | tup e => exact .tup (s _ _ e)
  | row R => exact .row (R.nl (NL.of s))
theorem mon_D17 {K : PySem.W.Frag} {CR CS C : Addr} : L2.Mon (D17 K CR CS C) := fun y x H H' e d => by
  rcases d with ⟨p, b, dx, fs, rfl, hb, ts, st, ph, os, Y, q⟩ | ⟨a, b, C2, dx, dy, fs, gs, rfl, rfl, ha, hb, ⟨B, xs, ts, st, ph, R⟩, q, dy', gs', z, hq⟩
  · refine .inl ⟨?_, b, dx, fs, rfl, e _ _ hb, ts, st, ph, os, Y.same e, q.same e⟩
    rcases p with rfl | ⟨a, xs, rfl, h⟩ | ⟨a, xs, rfl, h⟩
    · exact .inl rfl
    · exact .inr (.inl ⟨a, xs, rfl, L2.SqL.ext h e⟩)
    · exact .inr (.inr ⟨a, xs, rfl, L2.SqT.ext h e⟩)
  · exact .inr ⟨a, b, C2, dx, dy, fs, gs, rfl, rfl, e _ _ ha, e _ _ hb, ⟨B, xs, ts, st, ph, R.nl (NL.of e)⟩, q, dy', gs', z, e _ _ hq⟩
theorem op_in17 {X : Cx} {L : LA} (T : LX X.K X.mg L) (hr : Room 3 X.A) : OpR X (compareOp .In) (rInNo (D17 X.K L.c_Row L.c_Spell L.c_Timeline)) := by
  refine op_inNo (n := 2) mon_D17 (.or ?_ ?_) hr
  · have c := ok_Timelineeq (P := X.prog) (w := X.w) (base := X.base) T
    obtain ⟨fd, F, b⟩ := c.ex
    refine noG_back (E := E0) (fnok_imp F ?_) c.me.at_ c.me.fn b pass0 T.cf_Timeline.cl.3
    rintro vs H Q E ⟨a, y, rfl, ⟨ts, st, ph, os, Y, h⟩, k⟩
    exact ⟨a, ts, st, ph, os, y, false, rfl, Y, h, k H L2.Ext.rfl'⟩
  · have c := W2.ok_Roweq (P := X.prog) (w := X.w) (base := X.base) T
    obtain ⟨fd, F, b⟩ := c.ex
    have F2 : FnOk X.prog X.w X.K X.mg X.base CX0 2 L.m_Row_eq fd ["self", "other"] (spNoE (RRo L.c_Row L.c_Timeline)) := by
      refine fnok_imp (F.mono (by decide)) ?_
      rintro vs H Q E ⟨a, y, rfl, ⟨⟨B, xs, ts, st, ph, R⟩, q, dy, gs, rfl, hq⟩, k⟩
      exact ⟨a, B, xs, ts, st, ph, q, dy, gs, rfl, R, hq, k H L2.Ext.rfl'⟩
    refine noG_ins (E := E0) F2 c.me.at_ c.me.fn b pass0 ?_
    rintro a b C2 H ⟨_, q, dy, gs, z, hq⟩ ⟨dy2, gs2, hb⟩
    cases z
    rw [hq] at hb
    have e : C2 = L.c_Timeline := by
      cases hb
      rfl
    subst e
    exact ⟨Bool.or_eq_true_iff.mpr (.inr (beq_iff_eq.mpr T.mo_Timeline_Row)), (T.cf_Row.kitC T.mo_Timeline_Row).2⟩
/-! ### the first of a list -/
theorem req_far {ph st z : Int} (s : 0 < st) (h : ph ≤ z) : reqA ph st z = z + (ph - z) % st := by
  have r1 := reqA_rq (ph := ph) s z
  have r2 := reqA_ge (ph := ph) s z
  obtain ⟨m, m0, e⟩ := (isRq_iff s).mp r1
  have a0 := Int.emod_nonneg (ph - z) (show st ≠ 0 by omega)
  have a1 := Int.emod_lt_of_pos (ph - z) s
  have a2 : ((z + (ph - z) % st) - ph) % st = 0 := by
    have := Int.emod_def (ph - z) st
    have e2 : (z + (ph - z) % st) - ph = st * (-((ph - z) / st)) := by rw [Int.mul_neg]; omega
    rw [e2]
    exact Int.mul_emod_right _ _
  have q : isRq st ph (z + (ph - z) % st) := ⟨by omega, a2⟩
  have h1 := reqA_least s q (show z ≤ z + (ph - z) % st by omega)
  by_cases c : reqA ph st z = z + (ph - z) % st
  · exact c
  · have := rq_gap s r1 q (by omega)
    omega
theorem first_ix {p : Nat → Bool} {j1 : Nat} (h1 : p j1 = true) (h0 : ∀ j, j < j1 → p j = false) : ∀ {N : Nat}, j1 < N → ∃ r, (List.range N).filter p = j1 :: r
  | 0, h => absurd h (Nat.not_lt_zero _)
  | N + 1, h => by
    rw [List.range_succ, List.filter_append]
    by_cases c : j1 < N
    · obtain ⟨r, hr⟩ := first_ix h1 h0 c
      rw [hr]
      exact ⟨_, rfl⟩
    · have e : j1 = N := by omega
      have e3 : (List.range N).filter p = [] := by
        rw [List.filter_eq_nil_iff]
        intro a ha
        rw [h0 a (by have := List.mem_range.mp ha; omega)]
        exact Bool.false_ne_true
      have e2 : [N].filter p = [N] := by rw [List.filter_cons, ← e, h1]; rfl
      rw [e3, e2, e]
      exact ⟨[], rfl⟩
/-! ### k17: when all is closed again -/
section
variable {os : List (Int × Int)} {bs : List Tri} {st ph : Int}
theorem closed_iff (W : RowD bs st ph) (hv : VOut 0 os) (hl : os.length ≤ 50) {i : Nat} {d : SpD} (hd : (spsOf bs st ph os)[i]? = some d) {v : Int} (hr : d.rcv = some v) {t : Int} (ht : isRq st ph t) (h1 : v ≤ t) (h2 : ∀ e, (spsOf bs st ph os)[i + 1]? = some e → t < e.first) (h3 : t ≤ whM bs st d) :
    (∀ s ∈ stM bs st ph os t, s.1 = "closed") ↔ t = whM bs st d := by
  have C := sps_ch W hv
  have s0 : 0 < st := by have := W.s0; omega
  have hm := List.mem_of_getElem? hd
  obtain ⟨rq, _, v', hr', lv, vq, _⟩ := ch_rq C d hm
  rw [hr] at hr'
  cases hr'
  have S := (sps_all W hv hl d hm).1
  have ol := S.ol
  have g0 : d.rcv.getD 0 = v := by rw [hr]; rfl
  obtain ⟨M, hM⟩ : ∃ M, M = mxL (ndL bs d) := ⟨_, rfl⟩
  have m1 : 1 ≤ M := by rw [hM]; exact (mxL_fold (ndL bs d) 1).2.1
  have ew : whM bs st d = v + (M - 1) * st := by unfold whM; rw [g0, hM]
  obtain ⟨m, m0, em⟩ := (isRq_iff s0).mp vq
  obtain ⟨q, q0, eq⟩ := (isRq_iff s0).mp ht
  obtain ⟨z, hz⟩ : ∃ z : Int, z = q - m := ⟨_, rfl⟩
  have et : t = v + z * st := by rw [hz, Int.sub_mul]; omega
  have z0 : 0 ≤ z := by
    by_cases c : 0 ≤ z
    · exact c
    · have := Int.mul_le_mul_of_nonneg_right (show z ≤ -1 by omega) (show 0 ≤ st by omega)
      omega
  have zM : z ≤ M - 1 := by
    by_cases c : z ≤ M - 1
    · exact c
    · have := Int.mul_lt_mul_of_pos_right (show M - 1 < z by omega) s0
      omega
  have quo : (t - v) / st = z := by
    rw [et, show v + z * st - v = z * st by omega]
    exact Int.mul_ediv_cancel _ (by omega)
  have est : stM bs st ph os t = stBeh bs st d t := by
    unfold stM
    rw [lat_at C hd (by omega) h2]
    exact if_pos (by omega)
  rw [est]
  constructor
  · intro h
    by_cases c : z = M - 1
    · rw [et, ew, c]
    · exfalso
      obtain ⟨j, b, o, hb, ho, eb⟩ := nd_one (bs := bs) (d := d) (by omega)
      have hg := beh_get (st := st) (x := t) hb ho
      rw [g0, quo] at hg
      have := h _ (List.mem_of_getElem? hg)
      have e2 : stB (z + 1) b (some o) = ((("half" : Str), z + 1) : StD) := if_pos ⟨rfl, by omega⟩
      rw [e2] at this
      exact absurd this sH_C
  · intro e s hs
    have ez : z = M - 1 := by
      have : z * st = (M - 1) * st := by omega
      exact Int.eq_of_mul_eq_mul_right (by omega) this
    obtain ⟨j, hj⟩ := List.mem_iff_getElem?.mp hs
    have jl := (List.getElem?_eq_some_iff.mp hj).1
    rw [beh_len ol] at jl
    have hb : bs[j]? = some bs[j] := List.getElem?_eq_getElem jl
    have ho : d.op[j]? = some (d.op[j]'(by omega)) := List.getElem?_eq_getElem (by omega)
    rw [beh_get hb ho, g0, quo] at hj
    cases hj
    have : stB (z + 1) bs[j] (d.op[j]'(by omega)) = ((("closed" : Str), (0 : Int)) : StD) := by
      refine if_neg fun y => ?_
      obtain ⟨y1, y2⟩ := y
      obtain ⟨o, eo⟩ := Option.isSome_iff_exists.mp y1
      have := nd_le hb (by rw [ho, eo])
      omega
    rw [this]
end
/-! ### k17: what is due for each spell -/
def tmJ (st ph : Int) (j : Nat) : Int := ph + (j : Int) * st
theorem tmJ_lt {st ph : Int} (s : 0 < st) {i j : Nat} : tmJ st ph i < tmJ st ph j ↔ i < j := by
  unfold tmJ
  constructor
  · intro h
    by_cases c : i < j
    · exact c
    · have := Int.mul_le_mul_of_nonneg_right (show (j : Int) ≤ (i : Int) by omega) (show 0 ≤ st by omega)
      omega
  · intro h
    have := Int.mul_lt_mul_of_pos_right (show (i : Int) < (j : Int) by omega) s
    omega
/-- behind a time and before another one -/
def pLat (st ph v : Int) (o : Option Int) (j : Nat) : Bool := decide (v ≤ tmJ st ph j) && (match o with | none => true | some z => decide (tmJ st ph j < z))
/-- all closed -/
def pClo (ts : List Tri) (st ph : Int) (os : List (Int × Int)) (j : Nat) : Bool := (stM ts st ph os (tmJ st ph j)).all fun s => decide (s.1 = "closed")
def spLDue : Sp := fun vs H Q _ => ∃ rl rows n ts st ph os, vs = [.ref rl] ∧ H rl = some (.lst rows) ∧ Snt H ts st ph os n rows ∧ RowD ts st ph ∧ VOut 0 os ∧ os.length ≤ 50 ∧ n ≤ 10001 ∧
  (∀ d ∈ spsOf ts st ph os, ∀ v, d.rcv = some v → v < ph + (n : Int) * st ∧ whM ts st d < ph + (n : Int) * st) ∧
  ∀ l ms H', H' l = some (.lst ms) → Mks H' ms (mkM ts st (spsOf ts st ph os)) → Same H H' → H l = none → Q (.ref l) H'
theorem due_head {ts : List Tri} {st ph : Int} {os : List (Int × Int)} (W : RowD ts st ph) (vo : VOut 0 os) (ol : os.length ≤ 50) {i : Nat} {d : SpD} (hd : (spsOf ts st ph os)[i]? = some d) {v : Int} (hr : d.rcv = some v) {n : Nat} (hn : whM ts st d < tmJ st ph n) :
    atI (((List.range n).filter fun j => pLat st ph v (((spsOf ts st ph os)[i + 1]?).map SpD.first) j && pClo ts st ph os j).map (fun j => V.int (tmJ st ph j)) ++ [V.non]) 0 = some (cV (match (spsOf ts st ph os)[i + 1]? with | some e => if e.first ≤ whM ts st d then none else some (whM ts st d) | none => some (whM ts st d))) := by
  have C := sps_ch W vo
  have s0 : 0 < st := by have := W.s0; omega
  obtain ⟨rq, _, v', hr', lv, vq, _⟩ := ch_rq C d (List.mem_of_getElem? hd)
  rw [hr] at hr'
  cases hr'
  have g0 : d.rcv.getD 0 = v := by rw [hr]; rfl
  have m1 : 1 ≤ mxL (ndL ts d) := (mxL_fold (ndL ts d) 1).2.1
  obtain ⟨m, m0, em⟩ := (isRq_iff s0).mp vq
  obtain ⟨m, rfl⟩ := Int.eq_ofNat_of_zero_le m0
  obtain ⟨k, hk⟩ := Int.eq_ofNat_of_zero_le (show 0 ≤ mxL (ndL ts d) - 1 by omega)
  have ew : whM ts st d = tmJ st ph (m + k) := by
    unfold whM tmJ
    rw [g0, hk, em, Int.natCast_add, Int.add_mul]
    omega
  have req : ∀ j : Nat, isRq st ph (tmJ st ph j) := fun j => (isRq_iff s0).mpr ⟨j, by omega, rfl⟩
  have evm : v = tmJ st ph m := em
  have clo : ∀ j : Nat, m ≤ j → j ≤ m + k → (∀ e, (spsOf ts st ph os)[i + 1]? = some e → tmJ st ph j < e.first) → (pClo ts st ph os j = true ↔ j = m + k) := fun j h1 h2 h3 => by
    have hle : ∀ {a b : Nat}, a ≤ b → tmJ st ph a ≤ tmJ st ph b := fun {a b} h => by
      have := Int.mul_le_mul_of_nonneg_right (show (a : Int) ≤ (b : Int) by omega) (show 0 ≤ st by omega)
      unfold tmJ
      omega
    have := closed_iff W vo ol hd hr (req j) (by rw [evm]; exact hle h1) h3 (by rw [ew]; exact hle h2)
    rw [ew] at this
    unfold pClo
    rw [List.all_eq_true]
    constructor
    · intro h
      have e := this.mp fun s hs => of_decide_eq_true (h s hs)
      rcases Nat.lt_trichotomy j (m + k) with c | c | c
      · have := (tmJ_lt (ph := ph) s0).mpr c
        omega
      · exact c
      · omega
    · rintro rfl s hs
      exact decide_eq_true (this.mpr rfl s hs)
  have low : ∀ {o : Option Int} {j : Nat}, j < m → pLat st ph v o j = false := fun {o j} h => by
    have := (tmJ_lt (ph := ph) s0).mpr h
    unfold pLat
    rw [decide_eq_false (show ¬ v ≤ tmJ st ph j by omega)]
    rfl
  have nl : m + k < n := (tmJ_lt (ph := ph) s0).mp (by omega)
  have go : (∀ e, (spsOf ts st ph os)[i + 1]? = some e → whM ts st d < e.first) → atI (((List.range n).filter fun j => pLat st ph v (((spsOf ts st ph os)[i + 1]?).map SpD.first) j && pClo ts st ph os j).map (fun j => V.int (tmJ st ph j)) ++ [V.non]) 0 = some (.int (whM ts st d)) := fun he => by
    obtain ⟨r, hr2⟩ := first_ix (p := fun j => pLat st ph v (((spsOf ts st ph os)[i + 1]?).map SpD.first) j && pClo ts st ph os j) (j1 := m + k) (by
      show (pLat st ph v (((spsOf ts st ph os)[i + 1]?).map SpD.first) (m + k) && pClo ts st ph os (m + k)) = true
      rw [(clo (m + k) (by omega) (Nat.le_refl _) (by rw [← ew]; exact he)).mpr rfl, Bool.and_true]
      unfold pLat
      have := Int.mul_nonneg (show (0 : Int) ≤ (k : Int) by omega) (show 0 ≤ st by omega)
      rw [decide_eq_true (show v ≤ tmJ st ph (m + k) by rw [← ew]; unfold whM; rw [g0, hk]; omega), Bool.true_and]
      cases q : (spsOf ts st ph os)[i + 1]? with
      | none => rfl
      | some e => exact decide_eq_true (by rw [← ew]; exact he e q)) (fun j hj => by
      show (pLat st ph v (((spsOf ts st ph os)[i + 1]?).map SpD.first) j && pClo ts st ph os j) = false
      by_cases c : j < m
      · rw [low c]
        rfl
      · have : pClo ts st ph os j = false := by
          cases q : pClo ts st ph os j with
          | false => rfl
          | true =>
            have := (clo j (by omega) (by omega) fun e hx => by have h1 := he e hx; have := (tmJ_lt (ph := ph) s0).mpr hj; omega).mp q
            omega
        rw [this, Bool.and_false]) nl
    rw [hr2, List.map_cons, ew]
    exact atI_nat (j := 0) rfl
  cases q : (spsOf ts st ph os)[i + 1]? with
  | none =>
    have := go fun e he => by rw [q] at he; cases he
    rw [q] at this
    exact this
  | some e =>
    by_cases c : e.first ≤ whM ts st d
    · show atI (((List.range n).filter fun j => pLat st ph v (some e.first) j && pClo ts st ph os j).map (fun j => V.int (tmJ st ph j)) ++ [V.non]) 0 = some (cV (if e.first ≤ whM ts st d then none else some (whM ts st d)))
      rw [if_pos c]
      have : (List.range n).filter (fun j => pLat st ph v (some e.first) j && pClo ts st ph os j) = [] := by
        rw [List.filter_eq_nil_iff]
        intro j hj h
        rw [Bool.and_eq_true] at h
        obtain ⟨h1, h2⟩ := h
        unfold pLat at h1
        rw [Bool.and_eq_true, decide_eq_true_iff] at h1
        have h3 : tmJ st ph j < e.first := of_decide_eq_true h1.2
        have jm : m ≤ j := by
          by_cases z : m ≤ j
          · exact z
          · have := (tmJ_lt (ph := ph) s0).mpr (show j < m by omega)
            omega
        have jk : j < m + k := (tmJ_lt (ph := ph) s0).mp (by omega)
        have := (clo j jm (by omega) fun e' he' => by rw [q] at he'; cases he'; exact h3).mp h2
        omega
      rw [this]
      rfl
    · show atI (((List.range n).filter fun j => pLat st ph v (some e.first) j && pClo ts st ph os j).map (fun j => V.int (tmJ st ph j)) ++ [V.non]) 0 = some (cV (if e.first ≤ whM ts st d then none else some (whM ts st d)))
      rw [if_neg c]
      have := go fun e' he => by rw [q] at he; cases he; omega
      rw [q] at this
      exact this
section
variable {P : Program} {w : World} {K : PySem.W.Frag} {mg : Str → Option Value} {base : Heap} {L : LA}
abbrev N_wdue : List Str := ["_law_played", "_law_found", "_law_runs_here", "_law_at", "_law_rows", "_law_late", "_law_later", "_law_closed", "_law_row_here", "_law_word", "_law_number"]
theorem sc_wdue : FnScope N_wdue ["_law_played"] (defScope st__law_due) := ⟨rfl, rfl, rfl, by decide +kernel, rfl, by decide +kernel, by decide +kernel⟩
theorem fn_wdue (T : LX K mg L) {fd : FuncData} (F : Fun K "_law_due" "_law_due" st__law_due L.f__law_due fd) : FnOk P w K mg base CX0 2 L.f__law_due fd ["_law_played"] (spLDue) := by
  have G_wruns := ok_wruns (P := P) (w := w) (base := base) T
  have nd := sc_wdue.nd
  refine F.ok sc_wdue (fun vs H Q E h => ?_) (fun cdv A outer S H vs Q E hr h => ?_)
  · obtain ⟨rl, rows, n, ts, st, ph, os, rfl, _⟩ := h
    rfl
  · obtain ⟨rl, rows, n, ts, st, ph, os, rfl, hrl, SN, W, vo, ol, nb, fit, k⟩ := h
    refine ⟨_, (pss_cons (ps_par (i := 1) (j := 2) (by rfl) nd rfl rfl (by decide) rfl rfl (pa_cons (pe_lst pa_nil) (pa_cons (pe_c G_wruns (hr.mono (by decide)) rfl (pa_cons (pv 0) pa_nil)) pa_nil)) (by rfl))
       (pss_cons (ps_for PassesOwn.never rfl (pi_enum (by rfl) T.b_enumerate (pa_cons (pv 2) pa_nil)) (pg_tup rfl (pgs_cons (pg_name (i := 3) nd rfl (Or.inl rfl)) (pgs_cons (pg_name (i := 4) nd rfl (Or.inr rfl)) pgs_nil))) (C8.pss_cut (ps_set (i := 5) nd rfl (Or.inr rfl) (pe_ifExp (pt_cmpR op_lt (pe_op op_add (pv 3) pe_int) (pe_callB call_len_seq (by rfl) T.b_len PySem.boot_len (pa_cons (pv 2) pa_nil)) (nomark _)) (pe_ix (r := rIxT K) ix_tup (pe_ix (r := rIxL K) ix_list (pe_ix (r := rIxL K) ix_list (pv 2) (pe_op op_add (pv 3) pe_int) (fun _ _ => rfl)) pe_int (fun _ _ => rfl)) pe_int (fun _ _ => rfl)) pe_non))
       (pss_cons (ps_setLc (i := 6) (own := [("_law_row_here", 8)]) (g := gName 8) rfl nd rfl rfl (sw_true rfl rfl rfl (by decide +kernel)) (pi_list (pv 0)) (blkOk_by (own := [("_law_row_here", 8)]) (N := N_wdue) (sc := defScope st__law_due) (by decide +kernel)) (fun _ _ _ _ _ => pg_name (i := 8) nd rfl (Or.inl rfl)) (fun _ _ _ _ _ => pts_one (PW.pt (pw_and (pt_cmpR op_ge (pe_ix (r := rIxT K) ix_tup (pv 8) pe_int (fun _ _ => rfl)) (pe_ix (r := rIxT K) ix_tup (pe_ix (r := rIxL K) ix_list (pv 4) (pe_un un_neg pe_int) (fun _ _ => rfl)) pe_int (fun _ _ => rfl)) (nomark _)) (pw_and1 (PW.pt (pw_or (pt_cmp (pc_isN (pv 5))) (pw_or1 (pt_cmpR op_lt (pe_ix (r := rIxT K) ix_tup (pv 8) pe_int (fun _ _ => rfl)) (pv 5) (nomark _))))))))) (fun _ _ _ _ _ => (pv 8)))
       (pss_cons (ps_setLc (i := 7) (own := [("_law_row_here", 8)]) (g := gName 8) rfl nd rfl rfl (sw_true rfl rfl rfl (by decide +kernel)) (pi_list (pv 6)) (blkOk_by (own := [("_law_row_here", 8)]) (N := N_wdue) (sc := defScope st__law_due) (by decide +kernel)) (fun _ _ _ _ _ => pg_name (i := 8) nd rfl (Or.inl rfl)) (fun _ _ _ _ _ => pts_one (pt_cmpR (op_eqDK (K := K) rfl hr.units) (pe_lc (wi := iList K _) (own := [("_law_word", 9), ("_law_number", 10)]) (g := gTup K 2 (gCons (gName 9) (gCons (gName 10) (gNil)))) rfl nd (pi_list (pe_ix (r := rIxT K) ix_tup (pv 8) pe_int (fun _ _ => rfl))) (blkOk_by (own := [("_law_word", 9), ("_law_number", 10)]) (N := N_wdue) (sc := { kind := .function, names := [(".0", .local), ("_law_row_here", .local)], isGenerator := false, isCoroutine := false }) (by decide +kernel)) (fun _ _ _ _ _ => pg_tup rfl (pgs_cons (pg_name (i := 9) nd rfl (Or.inl rfl)) (pgs_cons (pg_name (i := 10) nd rfl (Or.inl rfl)) pgs_nil))) (fun _ _ _ _ _ => pts_one (pt_cmpR op_ne (pv 9) pe_str (nomark _))) (fun _ _ _ _ _ => pe_int)) (pe_lst pa_nil) (nomark _))) (fun _ _ _ _ _ => (pe_ix (r := rIxT K) ix_tup (pv 8) pe_int (fun _ _ => rfl))))
       (pss_one (ps_expr (pe_bm PySem.F.plainAttrs_list PySem.F.slot_list_append PySem.F.type_list_append mt_append (pv 1) (pa_cons (pe_tup (pa_cons (pe_ix (r := rIxT K) ix_tup (pe_ix (r := rIxL K) ix_list (pv 4) pe_int (fun _ _ => rfl)) pe_int (fun _ _ => rfl)) (pa_cons (pe_ix (r := rIxT K) ix_tup (pe_ix (r := rIxL K) ix_list (pv 4) (pe_un un_neg pe_int) (fun _ _ => rfl)) pe_int (fun _ _ => rfl)) (pa_cons (pe_ix (r := rIxL K) ix_list (pe_op op_cat (pv 7) (pe_lst (pa_cons pe_non pa_nil))) pe_int (fun _ _ => rfl)) pa_nil)))) pa_nil))))))))
       (pss_one (ps_ret (pv 1))))), ?_⟩
    have s0 : 0 < st := by have := W.s0; omega
    have rlen := SN.1
    have C := sps_ch W vo
    refine ⟨(by show 0 ≤ sizeLine; decide), fun fl hfl => ?_⟩
    have s1 := Same.upd (o := .lst []) hfl
    have hfl1 : (upd H fl (.lst [])) fl = some (.lst []) := upd_same
    generalize upd H fl (.lst []) = H1 at s1 hfl1 ⊢
    refine ⟨_, rfl, rl, rows, n, ts, st, ph, os, rfl, s1 _ _ hrl, SN.same s1, W, vo, ol, nb, fun z zs' H2 hz nz items cnt s2 => ⟨_, _, rfl, ?_⟩⟩
    have zl : zs'.length = (spsOf ts st ph os).length := by
      refine Nat.le_antisymm ?_ ?_
      · by_cases c : zs'.length ≤ (spsOf ts st ph os).length
        · exact c
        · obtain ⟨x, hx⟩ : ∃ x, zs'[(spsOf ts st ph os).length]? = some x := ⟨_, List.getElem?_eq_getElem (by omega)⟩
          obtain ⟨_, _, _, d, _, _, _, _, hd, _⟩ := items _ x hx
          exact absurd (List.getElem?_eq_some_iff.mp hd).1 (Nat.lt_irrefl _)
      · by_cases c : (spsOf ts st ph os).length ≤ zs'.length
        · exact c
        · obtain ⟨d, hd⟩ : ∃ d, (spsOf ts st ph os)[zs'.length]? = some d := ⟨_, List.getElem?_eq_getElem (by omega)⟩
          obtain ⟨_, v, hv⟩ := sps_all W vo ol d (List.mem_of_getElem? hd)
          exact absurd ((cnt _ d v hd hv).mpr (fit d (List.mem_of_getElem? hd) v hv).1) (Nat.lt_irrefl _)
    have dl : (spsOf ts st ph os).length ≤ 50 := Nat.le_trans spM_len ol
    have hfl2 := s2 _ _ hfl1
    have nzf : z ≠ fl := fun e => by rw [e, hfl1] at nz; cases nz
    have s12 : ∀ {Hc : Hp}, Kp fl H2 Hc → Same H Hc := fun kx b o e => kx b o (ne_of_none e hfl) (s2 _ _ (s1 _ _ e))
    refine ⟨_, rfl, z, zs', rfl, SqL.of hz, for_enum (K := K) (a := z) (xs := zs') (fun i σ Hc => ∃ (v3 v4 v5 v6 v7 v8 v9 v10 : Option V) (ms : List V), σ = [some (.ref rl), some (.ref fl), some (.ref z), v3, v4, v5, v6, v7, v8, v9, v10] ∧ Hc fl = some (.lst ms) ∧ Mks Hc ms ((mkM ts st (spsOf ts st ph os)).take i) ∧ Kp fl H2 Hc) ⟨_, _, _, _, _, _, _, _, [], rfl, hfl2, .nil, Kp.refl⟩ (fun i σ Hc _ ⟨_, _, _, _, _, _, _, _, _, _, _, _, kx⟩ => SqL.of (kx _ _ nzf hz)) ?_ ?_⟩
    · rintro i x T' σ Hc hxi ⟨v3, v4, v5, v6, v7, v8, v9, v10, ms, rfl, hms, hmk, kx⟩ hT
      have il := (List.getElem?_eq_some_iff.mp hxi).1
      obtain ⟨a, rfl, na, d, v, m, e, ha, hd, hrv, fm, ve, en, me⟩ := items i x hxi
      have naf : a ≠ fl := fun q => by rw [q, hfl1] at na; cases na
      have sT := Same.upd (o := .tup [.int (i : Nat), .ref a]) hT
      refine ⟨T', _, rfl, SqT.of upd_same, rfl, _, _, rfl, _, _, rfl, rfl, ?_⟩
      generalize upd Hc T' (.tup [.int (i : Nat), .ref a]) = Hd at sT ⊢
      have kd := kx.trans (Kp.of sT)
      have hzd := kd _ _ nzf hz
      have had := kd _ _ naf ha
      have sHd := s12 kd
      have SNd := SN.same sHd
      obtain ⟨x0, hx0⟩ : ∃ x0, rows[m]? = some x0 := ⟨_, List.getElem?_eq_getElem (by omega)⟩
      obtain ⟨x1, hx1⟩ : ∃ x1, rows[e]? = some x1 := ⟨_, List.getElem?_eq_getElem (by omega)⟩
      have h0 : ((rows.drop m).take (e + 1 - m))[0]? = some x0 := by
        rw [List.getElem?_take, if_pos (by omega), List.getElem?_drop, Nat.add_zero]
        exact hx0
      have h1 : atI ((rows.drop m).take (e + 1 - m)) (-1) = some x1 := by
        rw [take_one hx1 (by omega)]
        exact atI_last _ _
      -- the next one
      refine ⟨fun σ' H' => σ' = [some (.ref rl), some (.ref fl), some (.ref z), some (.int (i : Nat)), some (.ref a), some (cV (((spsOf ts st ph os)[i + 1]?).map SpD.first)), v6, v7, v8, v9, v10] ∧ H' = Hd, ?_, ?_⟩
      · refine ⟨_, rfl, _, _, rfl, rfl, _, rfl, z, _, rfl, .inl (SqL.of hzd), _, _, rfl, rfl, _, rfl, ?_⟩
        refine ite2 (fun c => ?_) (fun c => ?_)
        · have c : (i : Int) + 1 < (zs'.length : Int) := of_decide_eq_true c
          obtain ⟨x2, hx2⟩ : ∃ x2, zs'[i + 1]? = some x2 := ⟨_, List.getElem?_eq_getElem (by omega)⟩
          obtain ⟨a2, rfl, na2, d2, v2, m2, e2, ha2, hd2, hrv2, fm2, ve2, en2, me2⟩ := items _ x2 hx2
          have naf2 : a2 ≠ fl := fun q => by rw [q, hfl1] at na2; cases na2
          obtain ⟨y2, hy2⟩ : ∃ y2, rows[m2]? = some y2 := ⟨_, List.getElem?_eq_getElem (by omega)⟩
          obtain ⟨q2, e3, l3, ye3, yl3, kk3, rfl, hq2, _⟩ := SNd.2 m2 y2 hy2
          have h02 : ((rows.drop m2).take (e2 + 1 - m2))[0]? = some (.ref q2) := by
            rw [List.getElem?_take, if_pos (by omega), List.getElem?_drop, Nat.add_zero]
            exact hy2
          rw [fm2] at hq2
          have ix2 : atI zs' ((i : Int) + 1) = some (.ref a2) := by
            have := atI_nat hx2
            rw [show (((i + 1 : Nat)) : Int) = (i : Int) + 1 by omega] at this
            exact this
          rw [hd2]
          exact ⟨_, rfl, _, rfl, _, _, rfl, rfl, z, _, _, .ref a2, rfl, rfl, SqL.of hzd, ix2, a2, _, 0, .ref q2, rfl, rfl, SqL.of (kd _ _ naf2 ha2), atI_nat (j := 0) h02, q2, _, 0, .int d2.first, rfl, rfl, SqT.of hq2, rfl, rfl, rfl⟩
        · have c : ¬ (i : Int) + 1 < (zs'.length : Int) := fun q => c (decide_eq_true q)
          rw [List.getElem?_eq_none (show (spsOf ts st ph os).length ≤ i + 1 by omega)]
          exact ⟨rfl, rfl⟩
      rintro σ' H' ⟨rfl, rfl⟩
      obtain ⟨lo, hlo⟩ : ∃ lo, lo = ((spsOf ts st ph os)[i + 1]?).map SpD.first := ⟨_, rfl⟩
      rw [← hlo]
      obtain ⟨q1, e1, l1, ye1, yl1, kk1, ex1, hq1, _⟩ := SNd.2 e x1 hx1
      rw [ve] at hq1
      -- the later ones
      have hrd := sHd _ _ hrl
      refine ⟨_, rfl, rl, rfl, ⟨_, SqL.of hrd⟩, fun D hD => ?_⟩
      refine lc_list (K := K) (a := rl) (xs := rows) (fun j Hx => Hx D = some (.lst (((List.range j).filter (pLat st ph v lo)).map fun t => rows.getD t .non)) ∧ Same H' Hx) ⟨upd_same, Same.upd hD⟩ (fun j Hx _ ⟨_, sx⟩ => SqL.of (sx _ _ hrd)) ?_ ?_
      · rintro j x Hx hxj ⟨hDx, sx⟩
        have jl := (List.getElem?_eq_some_iff.mp hxj).1
        obtain ⟨q, e', l', ye, yl, kk, rfl, hq, kn, OK, he', hse, hl', hsl⟩ := SNd.2 j x hxj
        have hqx := SqT.of (K := K) (sx _ _ hq)
        have hax := SqL.of (K := K) (sx _ _ had)
        have hq1x := SqT.of (K := K) (sx _ _ hq1)
        have dlen : (((List.range j).filter (pLat st ph v lo)).map fun t => rows.getD t .non).length ≤ 10001 := by
          rw [List.length_map]
          refine Nat.le_trans (List.length_filter_le _ _) ?_
          rw [List.length_range]
          omega
        have yes : pLat st ph v lo j = true → (∃ acc, Hx D = some (.lst acc) ∧ acc.length < sizeLine ∧ ((upd Hx D (.lst (acc ++ [.ref q]))) D = some (.lst (((List.range (j + 1)).filter (pLat st ph v lo)).map fun t => rows.getD t .non)) ∧ Same H' (upd Hx D (.lst (acc ++ [.ref q]))))) := fun h => by
          refine ⟨_, hDx, small1 (by omega), ?_, fun b u eb => by rw [upd_ne (ne_of_none eb hD)]; exact sx _ _ eb⟩
          rw [upd_same, List.range_succ, List.filter_append, List.map_append, List.filter_cons, h]
          show _ = some (HO.lst (_ ++ [rows.getD j .non]))
          rw [List.getD_eq_getElem?_getD, hxj]
          rfl
        have no : pLat st ph v lo j = false → Hx D = some (.lst (((List.range (j + 1)).filter (pLat st ph v lo)).map fun t => rows.getD t .non)) ∧ Same H' Hx := fun h => by
          refine ⟨?_, sx⟩
          rw [List.range_succ, List.filter_append, List.filter_cons, h]
          show _ = some (HO.lst (List.map _ (_ ++ [])))
          rw [List.append_nil]
          exact hDx
        refine ⟨rfl, ?_⟩
        refine ⟨_, rfl, q, _, 0, .int (tmJ st ph j), rfl, rfl, hqx, rfl, _, rfl, 1, rfl, a, _, -1, x1, rfl, rfl, hax, h1, q1, _, 0, .int v, ex1, rfl, hq1x, rfl, _, _, rfl, rfl, _, rfl, ?_⟩
        refine ite2 (fun c => ?_) (fun c => ?_)
        · refine ⟨_, rfl, _, rfl, ?_⟩
          cases lo with
          | none =>
            refine iteT (iteT ⟨_, rfl, yes ?_⟩)
            unfold pLat
            rw [c]
            rfl
          | some zz =>
            refine iteF ⟨_, rfl, q, _, 0, .int (tmJ st ph j), rfl, rfl, hqx, rfl, _, rfl, _, _, rfl, rfl, _, rfl, ?_⟩
            refine ite2 (fun c2 => ⟨_, rfl, yes ?_⟩) (fun c2 => no ?_)
            · unfold pLat
              rw [c]
              exact c2
            · unfold pLat
              rw [c]
              exact Bool.eq_false_iff.mpr c2
        · refine iteF (no ?_)
          unfold pLat
          rw [Bool.eq_false_iff.mpr c]
          rfl
      rintro H3 ⟨hD3, s3⟩
      obtain ⟨js, hjs⟩ : ∃ js, js = (List.range n).filter (pLat st ph v lo) := ⟨_, rfl⟩
      rw [rlen, ← hjs] at hD3
      have jn : ∀ t ∈ js, t < n := fun t ht => by
        rw [hjs] at ht
        exact List.mem_range.mp (List.mem_filter.mp ht).1
      have jl : js.length ≤ 10001 := by
        rw [hjs]
        refine Nat.le_trans (List.length_filter_le _ _) ?_
        rw [List.length_range]
        exact nb
      have SN3 := SNd.same s3
      -- the closed ones
      refine ⟨_, rfl, D, rfl, ⟨_, SqL.of hD3⟩, fun D2 hD2 => ?_⟩
      refine lc_list (K := K) (a := D) (xs := js.map fun t => rows.getD t .non) (fun j Hx => Hx D2 = some (.lst (((js.take j).filter (pClo ts st ph os)).map fun t => V.int (tmJ st ph t))) ∧ Same H3 Hx) ⟨upd_same, Same.upd hD2⟩ (fun j Hx _ ⟨_, sx⟩ => SqL.of (sx _ _ hD3)) ?_ ?_
      · rintro j x Hx hxj ⟨hDx, sx⟩
        rw [List.getElem?_map] at hxj
        obtain ⟨t, hjt, hxt⟩ := Option.map_eq_some_iff.mp hxj
        have tn := jn t (List.mem_of_getElem? hjt)
        have hrt : rows[t]? = some x := by
          rw [List.getD_eq_getElem?_getD] at hxt
          rw [List.getElem?_eq_getElem (by omega)] at hxt ⊢
          exact congrArg some hxt
        obtain ⟨q, e', l', ye, yl, kk, rfl, hq, kn, OK, he', hse, hl', hsl⟩ := SN3.2 t x hrt
        have hqx := SqT.of (K := K) (sx _ _ hq)
        have hlx := sx _ _ hl'
        have hslx := hsl.same sx
        have sl := stM_len W vo ol (ph + (t : Int) * st)
        refine ⟨rfl, _, rfl, q, _, 4, .ref l', rfl, rfl, hqx, rfl, l', rfl, ⟨_, SqL.of hlx⟩, fun D3 hD3' => ?_⟩
        refine lc_list (K := K) (a := l') (xs := yl) (fun jj Hy => ∃ gs : List Int, Hy D3 = some (.lst (gs.map V.int)) ∧ (gs = [] ↔ ∀ s ∈ (stM ts st ph os (ph + (t : Int) * st)).take jj, s.1 = "closed") ∧ gs.length ≤ jj ∧ Same Hx Hy) ⟨[], upd_same, ⟨fun _ s hs => by simp at hs, fun _ => rfl⟩, Nat.le_refl _, Same.upd hD3'⟩ (fun jj Hy _ ⟨_, _, _, _, sy⟩ => SqL.of (sy _ _ hlx)) ?_ ?_
        · rintro jj y Hy hyj ⟨gs, hDy, iff, gl, sy⟩
          obtain ⟨s', hs', u', rfl, hu'⟩ := paired_get hslx hyj
          have jjl := (List.getElem?_eq_some_iff.mp hyj).1
          have ys12 := paired_len hslx
          have t12 := W.ln
          refine ⟨u', _, rfl, SqT.of (sy _ _ hu'), rfl, _, _, rfl, _, _, rfl, rfl, rfl, _, rfl, rfl, _, rfl, ?_⟩
          rw [List.take_add_one, hs']
          by_cases c : s'.1 = "closed"
          · rw [c, decide_eq_true rfl]
            refine iteF ⟨gs, hDy, ?_, by omega, sy⟩
            rw [iff]
            refine ⟨fun h s hs => ?_, fun h s hs => h s (List.mem_append.mpr (.inl hs))⟩
            rcases List.mem_append.mp hs with hs | hs
            · exact h s hs
            · have : s = s' := by simpa using hs
              rw [this]
              exact c
          · rw [decide_eq_false (fun z => c (V.str.inj z))]
            refine iteT ⟨_, hDy, small1 (by rw [List.length_map]; omega), gs ++ [1], by rw [upd_same, List.map_append]; rfl, ?_, by rw [List.length_append]; show gs.length + 1 ≤ jj + 1; omega, fun b u eb => by rw [upd_ne (ne_of_none eb hD3')]; exact sy _ _ eb⟩
            refine ⟨fun h => absurd h (by simp), fun h => absurd (h s' (List.mem_append.mpr (.inr ?_))) c⟩
            simp
        rintro H4 ⟨gs, hD4, iff, gl, s4⟩
        have ylen := paired_len hslx
        rw [ylen, List.take_length] at iff
        refine ⟨(by show 0 ≤ sizeLine; decide), fun le hle => ?_⟩
        have s5 := Same.upd (o := .lst []) hle
        refine ⟨_, _, Dp.ints (s5 _ _ hD4), Dp.ints (ns := []) upd_same, shInts _, shInts _, _, rfl, ?_⟩
        rw [eqInts]
        have s45 := s4.trans s5
        have eqp : decide (gs = []) = pClo ts st ph os t := by
          unfold pClo tmJ
          rw [Bool.eq_iff_iff, decide_eq_true_iff, iff, List.all_eq_true]
          exact ⟨fun h s hs => decide_eq_true (h s hs), fun h s hs => of_decide_eq_true (h s hs)⟩
        rw [eqp, List.take_add_one, hjt, List.filter_append, List.map_append]
        have hDz := s45 _ _ hDx
        refine ite2 (fun c => ?_) (fun c => ?_)
        · refine ⟨_, rfl, q, _, 0, .int (tmJ st ph t), rfl, rfl, SqT.of (s45 _ _ (sx _ _ hq)), rfl, _, hDz, small1 ?_, ?_, fun b u eb => by rw [upd_ne (ne_of_none eb hD2)]; exact s45 _ _ (sx _ _ eb)⟩
          · rw [List.length_map]
            refine Nat.le_trans (List.length_filter_le _ _) ?_
            rw [List.length_take]
            omega
          · rw [upd_same]
            show _ = some (HO.lst (_ ++ List.map _ ([t].filter _)))
            rw [List.filter_cons, c]
            rfl
        · refine ⟨?_, sx.trans s45⟩
          show _ = some (HO.lst (_ ++ List.map _ ([t].filter _)))
          rw [List.filter_cons, if_neg c]
          show _ = some (HO.lst (_ ++ []))
          rw [List.append_nil]
          exact hDz
      rintro H4 ⟨hD4, s4⟩
      rw [List.length_map, List.take_length] at hD4
      have s34 := s3.trans s4
      have k4 := kd.trans (Kp.of s34)
      have sH4 := s12 k4
      have SN4 := SN.same sH4
      obtain ⟨q0, e0, l0, ye0, yl0, kk0, ex0, hq0, _⟩ := SN4.2 m x0 hx0
      obtain ⟨q1', e1', l1', ye1', yl1', kk1', ex1', hq1', _⟩ := SN4.2 e x1 hx1
      rw [fm] at hq0
      rw [ve] at hq1'
      have ha4 := SqL.of (K := K) (k4 _ _ naf ha)
      have hfl4 := (sT.trans s34) _ _ hms
      have hmk4 : Mks H4 ms ((mkM ts st (spsOf ts st ph os)).take i) := hmk.nl (NL.of (sT.trans s34))
      have head := due_head W vo ol hd hrv (n := n) (fit d (List.mem_of_getElem? hd) v hrv).2
      have ejs : (List.range n).filter (fun j => pLat st ph v (((spsOf ts st ph os)[i + 1]?).map SpD.first) j && pClo ts st ph os j) = js.filter (pClo ts st ph os) := by
        rw [hjs, List.filter_filter, hlo]
        refine List.filter_congr fun a _ => ?_
        rw [Bool.and_comm]
      rw [ejs] at head
      have cl : ((js.filter (pClo ts st ph os)).map fun t => V.int (tmJ st ph t)).length ≤ 10001 := by
        rw [List.length_map]
        exact Nat.le_trans (List.length_filter_le _ _) jl
      have ml := paired_len hmk4
      rw [List.length_take] at ml
      refine ⟨_, rfl, .inl ⟨rfl, _, SqL.of hfl4⟩, _, rfl, a, _, 0, x0, rfl, rfl, ha4, atI_nat (j := 0) h0, q0, _, 0, .int d.first, ex0, rfl, SqT.of hq0, rfl, _, rfl, 1, rfl, a, _, -1, x1, rfl, rfl, ha4, h1, q1', _, 0, .int v, ex1', rfl, SqT.of hq1', rfl, _, rfl, (by show 1 ≤ sizeLine; decide), fun ln hln => ?_⟩
      have s6 := Same.upd (o := .lst [.non]) hln
      refine ⟨D2, ln, _, _, rfl, rfl, s6 _ _ hD4, upd_same, small2 (by show _ + 1 ≤ 100000; omega), fun l7 hl7 => ?_⟩
      have s7 := s6.trans (Same.upd (o := .lst (((js.filter (pClo ts st ph os)).map fun t => V.int (tmJ st ph t)) ++ [.non])) hl7)
      refine ⟨l7, _, 0, _, rfl, rfl, SqL.of upd_same, head, (by show 3 ≤ sizeLine; decide), fun tp htp => ?_⟩
      obtain ⟨whn, hwhn⟩ : ∃ whn : Option Int, whn = (match (spsOf ts st ph os)[i + 1]? with | some e => if e.first ≤ whM ts st d then none else some (whM ts st d) | none => some (whM ts st d)) := ⟨_, rfl⟩
      rw [← hwhn]
      have s8 := s7.trans (Same.upd (o := .tup [.int d.first, .int v, cV whn]) htp)
      have hfl8 := s8 _ _ hfl4
      have htp8 : (upd (upd (upd H4 ln (.lst [.non])) l7 (.lst (((js.filter (pClo ts st ph os)).map fun t => V.int (tmJ st ph t)) ++ [.non]))) tp (.tup [.int d.first, .int v, cV whn])) tp = some (.tup [.int d.first, .int v, cV whn]) := upd_same
      generalize upd (upd (upd H4 ln (.lst [.non])) l7 (.lst (((js.filter (pClo ts st ph os)).map fun t => V.int (tmJ st ph t)) ++ [.non]))) tp (.tup [.int d.first, .int v, cV whn]) = H8 at s8 hfl8 htp8 ⊢
      refine ⟨fl, _, _, rfl, rfl, hfl8, small1 (by omega), ?_⟩
      have nl := NL.upd (o := .lst (ms ++ [.ref tp])) hfl8
      have mg : (mkM ts st (spsOf ts st ph os))[i]? = some (d.first, v, whn) := by
        rw [mkM_get (bs := ts) (st := st) hd, hrv, hwhn]
        cases (spsOf ts st ph os)[i + 1]? <;> rfl
      refine ⟨_, _, _, _, _, _, _, _, ms ++ [.ref tp], rfl, upd_same, ?_, (k4.trans (Kp.of s8)).trans Kp.upd⟩
      rw [List.take_add_one, mg]
      exact paired_app ((hmk4.nl (NL.of s8)).nl nl) (.cons ⟨tp, rfl, nl _ _ htp8 fun _ z => nomatch z⟩ .nil)
    · rintro σ Hc ⟨v3, v4, v5, v6, v7, v8, v9, v10, ms, rfl, hms, hmk, kx⟩
      rw [zl, ← mkM_len ts st, List.take_length] at hmk
      exact ⟨_, rfl, k fl ms Hc hms hmk (s12 kx) hfl⟩
theorem ok_wdue (T : LX K mg L) : Cal P w K mg base "_law_due" 2 L.f__law_due ["_law_played"] (spLDue) := T.d__law_due.cal fun fd F => fn_wdue T F
end
/-! ### k17: the law's turns -/
def spLRight : Sp := fun vs H Q _ => ∃ s, vs = [.ref s] ∧ Src H s 0 ∧ ∀ H', Kp s H H' → Q (.bl true) H'
def mkD (m : MkD) : PyData := .tuple [.int m.1, .int m.2.1, match m.2.2 with | none => .none | some z => .int z]
theorem mk_dp {K : PySem.W.Frag} {H : Hp} : ∀ {xs : List V} {ms : List MkD}, Mks H xs ms → DpAll K H xs (ms.map mkD)
  | _, _, .nil => .nil
  | _, _, .cons (b := m) ⟨a, e, h⟩ t => by
    subst e
    obtain ⟨m1, m2, m3⟩ := m
    refine .cons (.tup (SqT.of h) (.cons (.int _) (.cons (.int _) (.cons ?_ .nil)))) (mk_dp t)
    cases m3 with
    | none => exact .non
    | some z => exact .int _
theorem mk_can : ∀ ms : List MkD, PyData.canLayAll0 (ms.map mkD) = true ∧ PyData.depthAll (ms.map mkD) ≤ 10
  | [] => ⟨by simp [PyData.canLayAll0], by simp [PyData.depthAll]⟩
  | (m1, m2, m3) :: r => by
    obtain ⟨h1, h2⟩ := mk_can r
    have e1 : (mkD (m1, m2, m3)).canLay0 = true := by cases m3 <;> simp [mkD, PyData.canLay0, PyData.canLayAll0]
    have e2 : (mkD (m1, m2, m3)).depth ≤ 9 := by cases m3 <;> simp [mkD, PyData.depth, PyData.depthAll]
    refine ⟨by rw [List.map_cons, PyData.canLayAll0, h1, e1]; rfl, ?_⟩
    rw [List.map_cons, PyData.depthAll]
    omega
theorem mk_sh (ms : List MkD) : SeqAt.shaped (.list (ms.map mkD)) = true := by
  obtain ⟨h1, h2⟩ := mk_can ms
  refine Bool.and_eq_true_iff.mpr ⟨?_, decide_eq_true ?_⟩
  · rw [PyData.canLay0]
    exact h1
  · rw [PyData.depth]
    omega
theorem mk_eqA : ∀ ms : List MkD, PyData.eqvAll (ms.map mkD) (ms.map mkD) = true
  | [] => rfl
  | (m1, m2, m3) :: r => by
    have := mk_eqA r
    have e : PyData.eqv (mkD (m1, m2, m3)) (mkD (m1, m2, m3)) = true := by cases m3 <;> simp [mkD, PyData.eqv, PyData.eqvAll]
    rw [List.map_cons, PyData.eqvAll, e, this]
    rfl
theorem mk_eq (ms : List MkD) : PyData.eqv (.list (ms.map mkD)) (.list (ms.map mkD)) = true := by
  rw [PyData.eqv]
  exact mk_eqA ms
theorem mk_refl {K : PySem.W.Frag} {H : Hp} {a b : Addr} {xs ys : List V} {ms : List MkD} (ha : H a = some (.lst xs)) (hb : H b = some (.lst ys)) (h1 : Mks H xs ms) (h2 : Mks H ys ms) : ∃ d e, Dp K H (.ref a) d ∧ Dp K H (.ref b) e ∧ SeqAt.shaped d = true ∧ SeqAt.shaped e = true ∧ PyData.eqv d e = true :=
  ⟨_, _, .lst (SqL.of ha) (mk_dp h1), .lst (SqL.of hb) (mk_dp h2), mk_sh _, mk_sh _, mk_eq _⟩
theorem cutN_to {xs : List V} {k : Nat} : cutV xs none (some (k : Int)) = xs.take k := by
  unfold cutV
  rw [HT.sIx_none, HT.sIx_nat, List.drop_zero, Nat.sub_zero]
  by_cases c : k ≤ xs.length
  · rw [Nat.min_eq_left c]
  · rw [Nat.min_eq_right (by omega), List.take_length, List.take_of_length_le (by omega)]
theorem cutN_from {xs : List V} {k : Nat} : cutV xs (some (k : Int)) none = xs.drop k := by
  unfold cutV
  rw [HT.sIx_none, HT.sIx_nat]
  by_cases c : k ≤ xs.length
  · rw [Nat.min_eq_left c, List.take_of_length_le (by rw [List.length_drop]; omega)]
  · rw [Nat.min_eq_right (by omega), Nat.sub_self, List.take_zero, List.drop_of_length_le (by omega)]
theorem paired_dropK {α β : Type} {F : α → β → Prop} : ∀ {xs : List α} {ys : List β} (n : Nat), Paired F xs ys → Paired F (xs.drop n) (ys.drop n)
  | _, _, 0, h => h
  | _, _, _ + 1, .nil => .nil
  | _, _, n + 1, .cons _ t => paired_dropK n t
theorem paired_takeK {α β : Type} {F : α → β → Prop} : ∀ {xs : List α} {ys : List β} (n : Nat), Paired F xs ys → Paired F (xs.take n) (ys.take n)
  | _, _, 0, _ => .nil
  | _, _, _ + 1, .nil => .nil
  | _, _, n + 1, .cons h t => .cons h (paired_takeK n t)
def lngO (os : List (Int × Int)) : List (Int × Int) := os.take (os.length - 1) ++ (os.drop (os.length - 1)).map fun o => (o.1, o.2 + 1)
theorem lng_cons (a : List (Int × Int)) (o : Int × Int) : lngO (a ++ [o]) = a ++ [(o.1, o.2 + 1)] := by
  unfold lngO
  rw [List.length_append]
  show (a ++ [o]).take (a.length + 1 - 1) ++ ((a ++ [o]).drop (a.length + 1 - 1)).map _ = _
  rw [Nat.add_sub_cancel, List.take_left, List.drop_left]
  rfl
theorem vout_snoc : ∀ {xs : List (Int × Int)} {m : Int} {o : Int × Int}, VOut m (xs ++ [o]) → VOut m xs ∧ (∀ p ∈ xs, p.2 + 1 ≤ o.1) ∧ m ≤ o.1 ∧ o.1 < o.2
  | [], m, o, h => ⟨True.intro, fun p hp => (nomatch hp), h.1, h.2.1⟩
  | x :: r, m, o, h => by
    obtain ⟨h1, h2, h3, h4⟩ := h
    obtain ⟨i1, i2, i3, i4⟩ := vout_snoc (xs := r) h4
    refine ⟨⟨h1, h2, h3, i1⟩, fun p hp => ?_, by omega, i4⟩
    rcases List.mem_cons.mp hp with hp | hp
    · rw [hp]
      exact i3
    · exact i2 p hp
theorem vout_tail {os : List (Int × Int)} (h : VOut 0 os) : VOut 0 (os.drop 1) := by
  cases os with
  | nil => exact True.intro
  | cons o r =>
    obtain ⟨h1, h2, h3, h4⟩ := h
    exact h4.mono (by omega)
theorem lng_ok {os : List (Int × Int)} (vo : VOut 0 os) (ob : ∀ o ∈ os, o.2 ≤ 800) : VOut 0 (lngO os) ∧ (os ≠ [] → os ≠ lngO os) := by
  rcases List.eq_nil_or_concat os with rfl | ⟨a, o, rfl⟩
  · exact ⟨True.intro, fun z => absurd rfl z⟩
  · rw [List.concat_eq_append] at vo ob ⊢
    rw [lng_cons]
    obtain ⟨v1, v2, v3, v4⟩ := vout_snoc vo
    have := ob o (by simp)
    refine ⟨vout_app v1 v2 v3 (by omega) (by omega), fun _ z => ?_⟩
    have z2 := List.append_cancel_left z
    have : o = (o.1, o.2 + 1) := by injection z2
    have := congrArg Prod.snd this
    have : o.2 = o.2 + 1 := this
    omega
/-- what bounds the rows of the law -/
structure SmlR (ts : List Tri) (st ph : Int) : Prop where
  d : RowD ts st ph
  ln : ts.length ≤ 5
  bd : ∀ t ∈ ts, 0 ≤ t.2.1 ∧ t.2.1 ≤ 13 ∧ t.2.2 ≤ 5
  s1 : 1 ≤ st
  s5 : st ≤ 5
  p6 : ph ≤ 6
theorem sml_of {ts : List Tri} {st ph : Int} (h : ∀ t ∈ ts, OkT t ∧ t.2.1 ≤ 13 ∧ t.2.2 ≤ 5) (l : ts.length ≤ 5) (s1 : 1 ≤ st) (s5 : st ≤ 5) (p0 : 0 ≤ ph) (p6 : ph ≤ 6) : SmlR ts st ph :=
  ⟨⟨fun t ht => (h t ht).1, by omega, s1, by omega, p0, by omega⟩, l, fun t ht => by
    have := (h t ht).1.2.2.1
    have := h t ht
    omega, s1, s5, p6⟩
theorem slA_to {K : PySem.W.Frag} {a : Addr} {xs : List V} {lo hi : Option Int} {H : Hp} {Q : VK} (h : SqT K H a xs) (c : ¬ (HT.sIx xs.length 0 lo = 0 ∧ HT.sIx xs.length xs.length hi = xs.length)) (k : ∀ p, H p = none → Q (.ref p) (upd H p (.tup (cutV xs lo hi)))) : rSlA K (.ref a) lo hi H Q :=
  ⟨a, xs, rfl, h, fun z => absurd z c, fun _ => k⟩
theorem catT_to {K : PySem.W.Frag} {a b : Addr} {xs ys : List V} {H : Hp} {Q : VK} (h1 : SqT K H a xs) (h2 : SqT K H b ys) (n1 : xs ≠ []) (n2 : ys ≠ []) (l : xs.length + ys.length ≤ sizeLine) (k : ∀ p, H p = none → Q (.ref p) (upd H p (.tup (xs ++ ys)))) : rCatT K (.ref a) (.ref b) H Q :=
  ⟨a, b, xs, ys, rfl, rfl, h1, h2, n1, l, fun z => absurd z n2, fun _ => k⟩
/-- another row -/
def Oth (H : Hp) (ts : List Tri) (st ph : Int) (x : V) : Prop := ∃ t l xs us st' ph', x = .ref t ∧ LnAt H t l xs us st' ph' ∧ SmlR us st' ph' ∧ ((us, st', ph') : RDat) ≠ (ts, st, ph)
theorem LnAt.same {H H' : Hp} (s : Same H H') {t l : Addr} {xs : List V} {ts : List Tri} {st ph : Int} (h : LnAt H t l xs ts st ph) : LnAt H' t l xs ts st ph := ⟨s _ _ h.1, s _ _ h.2.1, h.2.2.nl (NL.of s)⟩
theorem Oth.same {H H' : Hp} (s : Same H H') {ts : List Tri} {st ph : Int} {x : V} (h : Oth H ts st ph x) : Oth H' ts st ph x := by
  obtain ⟨t, l, xs, us, st', ph', e, h1, h2, h3⟩ := h
  exact ⟨t, l, xs, us, st', ph', e, h1.same s, h2, h3⟩
theorem sml_fit {ts : List Tri} {st ph : Int} {os : List (Int × Int)} (R : SmlR ts st ph) (vo : VOut 0 os) (ol : os.length ≤ 50) {u : Int} (uE : ∀ o ∈ os, o.2 ≤ u) {n : Nat} (hn : ∀ m : Nat, m < n ↔ ph + (m : Int) * st ≤ u + 100) :
    ∀ d ∈ spsOf ts st ph os, ∀ v, d.rcv = some v → v < ph + (n : Int) * st ∧ whM ts st d < ph + (n : Int) * st := fun d hd v hv => by
  have Tn : u + 100 < ph + (n : Int) * st := by
    by_cases c : u + 100 < ph + (n : Int) * st
    · exact c
    · exact absurd ((hn n).mpr (by omega)) (Nat.lt_irrefl _)
  obtain ⟨_, h2⟩ := rcv_le R.d vo ol (B := 13) (E := u) (fun b hb => ⟨(R.bd b hb).1, (R.bd b hb).2.1⟩) uE hd hv
  have h3 := wh_le R.d hv (M := 5) (fun b hb => (R.bd b hb).2.2) (by decide)
  have := R.ln
  have := R.s5
  have : (13 : Int) * (ts.length : Nat) ≤ 65 := by omega
  omega
section
variable {P : Program} {w : World} {K : PySem.W.Frag} {mg : Str → Option Value} {base : Heap} {L : LA}
abbrev N_wright : List Str := ["_law_well_here", "_law_line", "_law_downs_here", "_law_design", "_law_told", "_law_due_here", "_law_longer", "_law_specs", "_law_step", "_law_shift", "_law_others", "_law_other", "_law_twin", "_law_fit", "_law_kept", "_law_begin", "_law_end", "_law_one_here", "_law_at"]
theorem sc_wright : FnScope N_wright ["_law_well_here"] (defScope st__law_right) := ⟨rfl, rfl, rfl, by decide +kernel, rfl, by decide +kernel, by decide +kernel⟩
theorem fn_wright (T : LX K mg L) {fd : FuncData} (F : Fun K "_law_right" "_law_right" st__law_right L.f__law_right fd) : FnOk P w K mg base CX0 11 L.f__law_right fd ["_law_well_here"] (spLRight) := by
  have G_wmade := ok_wmade (P := P) (w := w) (base := base) T
  have G_Roweq := ok_Roweq (P := P) (w := w) (base := base) T
  have G_Timelineeq := ok_Timelineeq (P := P) (w := w) (base := base) T
  have G_wrow := ok_wrow (P := P) (w := w) (base := base) T
  have G_wdowns := ok_wdowns (P := P) (w := w) (base := base) T
  have G_wdue := ok_wdue (P := P) (w := w) (base := base) T
  have G_Timelinelen := ok_Timelinelen (P := P) (w := w) (base := base) T
  have G_Timelinebaserow := ok_Timelinebaserow (P := P) (w := w) (base := base) T
  have G_Timelineoutagelist := ok_Timelineoutagelist (P := P) (w := w) (base := base) T
  have G_Timelinegetitem := ok_Timelinegetitem (P := P) (w := w) (base := base) T
  have G_wplay := ok_wplay (P := P) (w := w) (base := base) T
  have G_wuntil := ok_wuntil (P := P) (w := w) (base := base) T
  have nd := sc_wright.nd
  refine F.ok sc_wright (fun vs H Q E h => ?_) (fun cdv A outer S H vs Q E hr h => ?_)
  · obtain ⟨s, rfl, _⟩ := h
    rfl
  · obtain ⟨s, rfl, src, k⟩ := h
    refine ⟨_, (pss_cons (ps_par (i := 1) (j := 2) (by rfl) nd rfl rfl (by decide) rfl rfl (pa_cons (pe_c G_wrow (hr.mono (by decide)) rfl (pa_cons (pv 0) pa_nil)) (pa_cons (pe_c G_wdowns (hr.mono (by decide)) rfl (pa_cons (pv 0) (pa_cons pe_int pa_nil))) pa_nil)) (by rfl))
       (pss_cons (ps_set (i := 3) nd rfl (Or.inl rfl) (pe_c G_wmade (hr.mono (by decide)) rfl (pa_cons (pv 1) pa_nil)))
       (pss_cons (ps_asg (pe_tup (pa_cons (pe_mkTimeline T (hr.mono (by decide)) rfl (pa_cons (pv 3) (pa_cons (pv 2) pa_nil))) (pa_cons (pe_c G_wdue (hr.mono (by decide)) rfl (pa_cons (pe_c G_wplay (hr.mono (by decide)) rfl (pa_cons (pv 1) (pa_cons (pv 2) (pa_cons (pe_c G_wuntil (hr.mono (by decide)) rfl (pa_cons (pv 2) pa_nil)) pa_nil)))) pa_nil)) pa_nil))) (pg_tup rfl (pgs_cons (pg_name (i := 4) nd rfl (Or.inr rfl)) (pgs_cons (pg_name (i := 5) nd rfl (Or.inl rfl)) pgs_nil))))
       (pss_cons (ps_if (PW.pt (pw_or (pt_cmpR op_ne (pe_callB (G_Timelinelen.c_len (hr.mono (by decide))) (by rfl) T.b_len PySem.boot_len (pa_cons (pv 4) pa_nil)) (pe_callB call_len_seq (by rfl) T.b_len PySem.boot_len (pa_cons (pv 5) pa_nil)) (nomark _)) (pw_or1 (pt_cmpR (op_neD hr.units) (pe_lc (own := [("_law_at", 18)]) (g := gName 18) (tt := tYes) rfl nd (pi_range1 rfl T.b_range (pa_cons (pe_callB call_len_seq (by rfl) T.b_len PySem.boot_len (pa_cons (pv 5) pa_nil)) pa_nil)) (blkOk_by (own := [("_law_at", 18)]) (N := N_wright) (sc := defScope st__law_right) (by decide +kernel)) (fun _ _ _ _ _ => pg_name (i := 18) nd rfl (Or.inl rfl)) (fun _ _ _ _ _ => pts_nil) (fun _ _ _ _ _ => (G_Timelinegetitem.p_ix (hr.mono (by decide)) (pv 4) (pv 18)))) (pv 5) (nomark _))))) (pss_one (ps_ret pe_bl)) pss_nil)
       (pss_cons (ps_if (PW.pt (pw_or (pt_cmpR (G_Roweq.op_ne (hr.mono (by decide)) T.cf_Row.om T.cf_Row.ne) (G_Timelinebaserow.p_m0 T.cf_Timeline.cl (hr.mono (by decide)) (pv 4)) (pv 3) (nomark _)) (pw_or (pt_cmpR (op_neD hr.units) (G_Timelineoutagelist.p_m0 T.cf_Timeline.cl (hr.mono (by decide)) (pv 4)) (pv 2) (nomark _)) (pw_or1 (pt_cmpR (G_Timelineeq.op_ne (hr.mono (by decide)) T.cf_Timeline.om T.cf_Timeline.ne) (pv 4) (pe_mkTimeline T (hr.mono (by decide)) rfl (pa_cons (pe_c G_wmade (hr.mono (by decide)) rfl (pa_cons (pv 1) pa_nil)) (pa_cons (pe_callTy call_list_of (by rfl) T.b_list (by decide +kernel) (pa_cons (pv 2) pa_nil)) pa_nil))) (nomark _)))))) (pss_one (ps_ret pe_bl)) pss_nil)
       (C8.pss_cut (ps_if (PW.pt (pw_and (pt_cmpR (op_neD hr.units) (pv 2) (pe_lst pa_nil) (nomark _)) (pw_and1 (pt_cmpR (G_Timelineeq.op_eq (hr.mono (by decide))) (pv 4) (pe_mkTimeline T (hr.mono (by decide)) rfl (pa_cons (pv 3) (pa_cons (pe_slice (r := rSlL K) sl_list (pv 2) (po_some pe_int) po_none) pa_nil))) (nomark _))))) (pss_one (ps_ret pe_bl)) pss_nil)
       (pss_cons (ps_set (i := 6) nd rfl (Or.inl rfl) (pe_op op_cat (pe_slice (r := rSlL K) sl_list (pv 2) po_none (po_some (pe_un un_neg pe_int))) (pe_lc (own := [("_law_begin", 15), ("_law_end", 16)]) (g := gTup K 2 (gCons (gName 15) (gCons (gName 16) (gNil)))) (tt := tYes) rfl nd (pi_list (pe_slice (r := rSlL K) sl_list (pv 2) (po_some (pe_un un_neg pe_int)) po_none)) (blkOk_by (own := [("_law_begin", 15), ("_law_end", 16)]) (N := N_wright) (sc := defScope st__law_right) (by decide +kernel)) (fun _ _ _ _ _ => pg_tup rfl (pgs_cons (pg_name (i := 15) nd rfl (Or.inl rfl)) (pgs_cons (pg_name (i := 16) nd rfl (Or.inl rfl)) pgs_nil))) (fun _ _ _ _ _ => pts_nil) (fun _ _ _ _ _ => (pe_tup (pa_cons (pv 15) (pa_cons (pe_op op_add (pv 16) pe_int) pa_nil)))))))
       (C8.pss_cut (ps_if (PW.pt (pw_and (pt_cmpR (op_neD hr.units) (pv 2) (pe_lst pa_nil) (nomark _)) (pw_and1 (pt_cmpR (G_Timelineeq.op_eq (hr.mono (by decide))) (pv 4) (pe_mkTimeline T (hr.mono (by decide)) rfl (pa_cons (pv 3) (pa_cons (pv 6) pa_nil))) (nomark _))))) (pss_one (ps_ret pe_bl)) pss_nil)
       (pss_cons (ps_if (PW.pt (pw_or (pt_cmpR (G_Timelineeq.op_eq (hr.mono (by decide))) (pv 4) (pe_mkTimeline T (hr.mono (by decide)) rfl (pa_cons (pv 3) (pa_cons (pe_op op_cat (pv 2) (pe_lst (pa_cons (pe_tup (pa_cons (pe_op op_pow pe_int pe_int) (pa_cons (pe_op op_pow pe_int pe_int) pa_nil))) pa_nil))) pa_nil))) (nomark _)) (pw_or1 (pt_cmpR (op_in17 T (hr.mono (by decide))) (pv 4) (pe_lst (pa_cons pe_non (pa_cons (pv 3) (pa_cons (pv 2) (pa_cons (pe_tup (pa_cons (pv 3) (pa_cons (pv 2) pa_nil))) pa_nil))))) rfl)))) (pss_one (ps_ret pe_bl)) pss_nil)
       (pss_cons (ps_asg (pv 1) (pg_tup rfl (pgs_cons (pg_name (i := 7) nd rfl (Or.inr rfl)) (pgs_cons (pg_name (i := 8) nd rfl (Or.inr rfl)) (pgs_cons (pg_name (i := 9) nd rfl (Or.inr rfl)) pgs_nil)))))
       (pss_cons (ps_set (i := 10) nd rfl (Or.inl rfl) (pe_lst (pa_cons (pe_tup (pa_cons (pv 7) (pa_cons (pe_op op_add (pv 8) pe_int) (pa_cons (pv 9) pa_nil)))) (pa_cons (pe_tup (pa_cons (pv 7) (pa_cons (pv 8) (pa_cons (pe_op op_add (pv 9) pe_int) pa_nil)))) (pa_cons (pe_tup (pa_cons (pe_op op_cat (pv 7) (pe_lst (pa_cons (pe_tup (pa_cons pe_int (pa_cons pe_int (pa_cons pe_int pa_nil)))) pa_nil))) (pa_cons (pv 8) (pa_cons (pv 9) pa_nil)))) pa_nil)))))
       (pss_cons (ps_set (i := 10) nd rfl (Or.inl rfl) (pe_op op_cat (pv 10) (pe_lc (own := [("_law_one_here", 17)]) (g := gName 17) (tt := tYes) rfl nd (pi_list (pe_slice (r := rSlL K) sl_list (pv 7) po_none (po_some pe_int))) (blkOk_by (own := [("_law_one_here", 17)]) (N := N_wright) (sc := defScope st__law_right) (by decide +kernel)) (fun _ _ _ _ _ => pg_name (i := 17) nd rfl (Or.inl rfl)) (fun _ _ _ _ _ => pts_nil) (fun _ _ _ _ _ => (pe_tup (pa_cons (pe_op op_cat (pe_lst (pa_cons (pe_tup (pa_cons (pe_ix (r := rIxT K) ix_tup (pv 17) pe_int (fun _ _ => rfl)) (pa_cons (pe_op op_add (pe_ix (r := rIxT K) ix_tup (pv 17) pe_int (fun _ _ => rfl)) pe_int) (pa_cons (pe_ix (r := rIxT K) ix_tup (pv 17) pe_int (fun _ _ => rfl)) pa_nil)))) pa_nil)) (pe_slice (r := rSlL K) sl_list (pv 7) (po_some pe_int) po_none)) (pa_cons (pv 8) (pa_cons (pv 9) pa_nil))))))))
       (pss_cons (ps_set (i := 10) nd rfl (Or.inl rfl) (pe_op op_cat (pv 10) (pe_lc (own := [("_law_one_here", 17)]) (g := gName 17) (tt := tYes) rfl nd (pi_list (pe_slice (r := rSlL K) sl_list (pv 7) po_none (po_some pe_int))) (blkOk_by (own := [("_law_one_here", 17)]) (N := N_wright) (sc := defScope st__law_right) (by decide +kernel)) (fun _ _ _ _ _ => pg_name (i := 17) nd rfl (Or.inl rfl)) (fun _ _ _ _ _ => pts_nil) (fun _ _ _ _ _ => (pe_tup (pa_cons (pe_op op_cat (pe_lst (pa_cons (pe_op (r := rCatT K) op_catT (pe_tup (pa_cons (pe_op op_add (pe_ix (r := rIxT K) ix_tup (pv 17) pe_int (fun _ _ => rfl)) pe_int) pa_nil)) (pe_slice (r := rSlA K) sl_tupA (pv 17) (po_some pe_int) po_none)) pa_nil)) (pe_slice (r := rSlL K) sl_list (pv 7) (po_some pe_int) po_none)) (pa_cons (pv 8) (pa_cons (pv 9) pa_nil))))))))
       (pss_cons (ps_set (i := 10) nd rfl (Or.inl rfl) (pe_op op_cat (pv 10) (pe_lc (own := [("_law_one_here", 17)]) (g := gName 17) (tt := tYes) rfl nd (pi_list (pe_slice (r := rSlL K) sl_list (pv 7) (po_some (pe_un un_neg pe_int)) po_none)) (blkOk_by (own := [("_law_one_here", 17)]) (N := N_wright) (sc := defScope st__law_right) (by decide +kernel)) (fun _ _ _ _ _ => pg_name (i := 17) nd rfl (Or.inl rfl)) (fun _ _ _ _ _ => pts_nil) (fun _ _ _ _ _ => (pe_tup (pa_cons (pe_op op_cat (pe_slice (r := rSlL K) sl_list (pv 7) po_none (po_some (pe_un un_neg pe_int))) (pe_lst (pa_cons (pe_op (r := rCatT K) op_catT (pe_slice (r := rSlA K) sl_tupA (pv 17) po_none (po_some pe_int)) (pe_tup (pa_cons (pe_op op_add (pe_ix (r := rIxT K) ix_tup (pv 17) pe_int (fun _ _ => rfl)) pe_int) pa_nil))) pa_nil))) (pa_cons (pv 8) (pa_cons (pv 9) pa_nil))))))))
       (pss_cons (ps_for PassesOwn.never rfl (pi_list (pv 10)) (pg_name (i := 11) nd rfl (Or.inr rfl)) (pss_cons (ps_asg (pe_tup (pa_cons (pe_mkTimeline T (hr.mono (by decide)) rfl (pa_cons (pe_c G_wmade (hr.mono (by decide)) rfl (pa_cons (pv 11) pa_nil)) (pa_cons (pv 2) pa_nil))) (pa_cons (pe_c G_wdue (hr.mono (by decide)) rfl (pa_cons (pe_c G_wplay (hr.mono (by decide)) rfl (pa_cons (pv 11) (pa_cons (pv 2) (pa_cons (pe_c G_wuntil (hr.mono (by decide)) rfl (pa_cons (pv 2) pa_nil)) pa_nil)))) pa_nil)) pa_nil))) (pg_tup rfl (pgs_cons (pg_name (i := 12) nd rfl (Or.inr rfl)) (pgs_cons (pg_name (i := 13) nd rfl (Or.inl rfl)) pgs_nil))))
       (pss_one (ps_if (PW.pt (pw_or (pt_cmpR (G_Timelineeq.op_eq (hr.mono (by decide))) (pv 12) (pv 4) (nomark _)) (pw_or1 (pt_cmpR (op_neD hr.units) (pe_lc (own := [("_law_at", 18)]) (g := gName 18) (tt := tYes) rfl nd (pi_range1 rfl T.b_range (pa_cons (pe_callB (G_Timelinelen.c_len (hr.mono (by decide))) (by rfl) T.b_len PySem.boot_len (pa_cons (pv 12) pa_nil)) pa_nil)) (blkOk_by (own := [("_law_at", 18)]) (N := N_wright) (sc := defScope st__law_right) (by decide +kernel)) (fun _ _ _ _ _ => pg_name (i := 18) nd rfl (Or.inl rfl)) (fun _ _ _ _ _ => pts_nil) (fun _ _ _ _ _ => (G_Timelinegetitem.p_ix (hr.mono (by decide)) (pv 12) (pv 18)))) (pv 13) (nomark _))))) (pss_one (ps_ret pe_bl)) pss_nil))))
       (pss_cons (ps_if (pt_cmpR (op_neD hr.units) (pe_lc (own := [("_law_at", 18)]) (g := gName 18) (tt := tYes) rfl nd (pi_range1 rfl T.b_range (pa_cons (pe_callB (G_Timelinelen.c_len (hr.mono (by decide))) (by rfl) T.b_len PySem.boot_len (pa_cons (pv 4) pa_nil)) pa_nil)) (blkOk_by (own := [("_law_at", 18)]) (N := N_wright) (sc := defScope st__law_right) (by decide +kernel)) (fun _ _ _ _ _ => pg_name (i := 18) nd rfl (Or.inl rfl)) (fun _ _ _ _ _ => pts_nil) (fun _ _ _ _ _ => (G_Timelinegetitem.p_ix (hr.mono (by decide)) (pv 4) (pv 18)))) (pv 5) (nomark _)) (pss_one (ps_ret pe_bl)) pss_nil)
       (pss_cons (ps_expr (pe_bm PySem.F.plainAttrs_list PySem.F.slot_list_append PySem.F.type_list_append mt_append (G_Timelineoutagelist.p_m0 T.cf_Timeline.cl (hr.mono (by decide)) (pv 4)) (pa_cons pe_non pa_nil)))
       (pss_cons (ps_set (i := 14) nd rfl (Or.inl rfl) (pe_callTy call_list_of (by rfl) T.b_list (by decide +kernel) (pa_cons (pv 2) pa_nil)))
       (pss_cons (ps_set (i := 11) nd rfl (Or.inr rfl) (pe_mkTimeline T (hr.mono (by decide)) rfl (pa_cons (pv 3) (pa_cons (pv 14) pa_nil))))
       (pss_cons (ps_expr (pe_bm PySem.F.plainAttrs_list PySem.F.slot_list_append PySem.F.type_list_append mt_append (pv 14) (pa_cons (pe_tup (pa_cons (pe_op op_pow pe_int pe_int) (pa_cons (pe_op op_add (pe_op op_pow pe_int pe_int) pe_int) pa_nil))) pa_nil)))
       (pss_one (ps_ret (pe_and (pe_cmpR (G_Timelineeq.op_eq (hr.mono (by decide))) (pv 11) (pv 4) (nomark _)) (pe_one (pe_cmpR (op_eqD hr.units) (pe_lc (own := [("_law_at", 18)]) (g := gName 18) (tt := tYes) rfl nd (pi_range1 rfl T.b_range (pa_cons (pe_callB call_len_seq (by rfl) T.b_len PySem.boot_len (pa_cons (pv 5) pa_nil)) pa_nil)) (blkOk_by (own := [("_law_at", 18)]) (N := N_wright) (sc := defScope st__law_right) (by decide +kernel)) (fun _ _ _ _ _ => pg_name (i := 18) nd rfl (Or.inl rfl)) (fun _ _ _ _ _ => pts_nil) (fun _ _ _ _ _ => (G_Timelinegetitem.p_ix (hr.mono (by decide)) (pv 11) (pv 18)))) (pv 5) (nomark _)))))))))))))))))))))))))), ?_⟩
    refine ⟨_, rfl, s, 0, rfl, src, by decide, fun t0 l xs ts st ph H1 hln okS src1 k1 nt0 nl => ⟨_, rfl, s, _, 5, rfl, src1, by decide, by decide, by decide, fun ld zs os H2 hld hod vo lol ob src2 k2 nld => ⟨_, _, rfl, ?_⟩⟩⟩
    obtain ⟨ys0, hys0⟩ := src.has
    obtain ⟨ys1, hys1⟩ := src1.has
    have nts : t0 ≠ s := fun e => by rw [e, hys0] at nt0; cases nt0
    have nls : l ≠ s := fun e => by rw [e, hys0] at nl; cases nl
    obtain ⟨h1t, h1l, h1b⟩ := hln
    have LN2 : LnAt H2 t0 l xs ts st ph := ⟨k2 _ _ nts h1t, k2 _ _ nls h1l, h1b.nl (Kp.nl k2 hys1)⟩
    obtain ⟨okt, tl, st1, st4, ph0, ph5⟩ := okS
    have W : RowD ts st ph := ⟨fun t ht => (okt t ht).1, by omega, st1, by omega, ph0, by omega⟩
    have okT := fun t ht => (okt t ht).1
    have SR : SmlR ts st ph := ⟨W, by omega, fun t ht => by
      have := (okT t ht).2.2.1
      have := okt t ht
      omega, st1, by omega, by omega⟩
    have ol : os.length ≤ 50 := by omega
    have k12 : Kp s H H2 := k1.trans k2
    clear src src1 src2 hys1 hys0 h1t h1l h1b k1 k2 nt0 nl
    refine ⟨_, rfl, t0, l, xs, ts, st, ph, rfl, LN2, W, fun r B H3 R3 s3 nr => ⟨_, rfl, _, rfl, timeline_made R3 (s3 _ _ hld) (hod.same s3) vo ol fun p H4 Y4 s4 np => ?_⟩⟩
    have s24 := s3.trans s4
    have lns : ∀ {H' : Hp}, Same H2 H' → LnAt H' t0 l xs ts st ph := fun sx => ⟨sx _ _ LN2.1, sx _ _ LN2.2.1, LN2.2.2.nl (NL.of sx)⟩
    refine ⟨_, rfl, _, rfl, _, rfl, ld, zs, os, rfl, s24 _ _ hld, hod.same s24, ol, fun u H5 u1 u2 s5 => ?_⟩
    have s25 := s24.trans s5
    have uE : ∀ o ∈ os, o.2 ≤ u := fun o ho => (u2 (List.ne_nil_of_mem ho)).2 _ (List.mem_map.mpr ⟨o, ho, rfl⟩)
    have ub : 0 ≤ u ∧ u ≤ 1000 := by
      by_cases c : os = []
      · rw [u1 c]
        exact ⟨by decide, by decide⟩
      · obtain ⟨o, ho, e⟩ := List.mem_map.mp (u2 c).1
        have h1 := vout_mem vo o ho
        have h2 := ob o ho
        omega
    refine ⟨t0, l, ld, xs, zs, ts, os, st, ph, u + 100, rfl, lns s25, s25 _ _ hld, hod.same s25, W, by omega, by omega, vo, ol, by omega, by omega, fun n rl rows H6 hn nb hrl nrl SN s6 => ?_⟩
    refine ⟨rl, rows, n, ts, st, ph, os, rfl, hrl, SN.same Fr.le, W, vo, ol, nb, sml_fit SR vo ol uE hn, fun lD mD H7 hlD hmD s7 nlD => ⟨(by show 2 ≤ sizeLine; decide), fun tT htT => ⟨tT, _, rfl, SqT.of upd_same, rfl, _, _, rfl, _, _, rfl, rfl, ?_⟩⟩⟩
    have sT := Same.upd (o := .tup [.ref p, .ref lD]) htT
    have s48 := ((s5.trans s6).trans s7).trans sT
    have Y8 := (Y4.same Fr.le).same s48
    have hlD8 := sT _ _ hlD
    have hmD8 := hmD.nl (NL.of sT)
    have s28 := s24.trans s48
    have R8 := R3.nl (NL.of (s4.trans s48))
    generalize upd H7 tT (.tup [.ref p, .ref lD]) = H8 at s28 Y8 hlD8 hmD8 R8 ⊢
    clear hlD hmD sT s48 Y4 R3 SN hrl s7 s6 s5 s4 s3 s24 s25 htT nlD nrl np nr
    have sl50 : (spsOf ts st ph os).length ≤ 50 := Nat.le_trans spM_len ol
    have mDl := paired_len hmD8
    rw [mkM_len] at mDl
    obtain ⟨dx, aR, aO, aS, aF, aM, hp8⟩ := Y8.has
    -- the marks
    refine ⟨_, rfl, p, dx, _, rfl, hp8, p, ts, st, ph, os, rfl, Y8, _, rfl, by omega, by omega, _, rfl, lD, _, rfl, .inl (SqL.of hlD8), rfl, false, by rw [← mDl, decide_eq_true rfl]; rfl, iteF ?_⟩
    refine ⟨_, rfl, lD, _, rfl, .inl (SqL.of hlD8), _, rfl, by omega, by omega, fun D hD => ?_⟩
    rw [Int.toNat_natCast]
    refine lc_range (lo := 0) (n := mD.length) (fun j Hx => ∃ ws, Hx D = some (.lst ws) ∧ Mks Hx ws ((mkM ts st (spsOf ts st ph os)).take j) ∧ Same H8 Hx) ⟨[], upd_same, .nil, Same.upd hD⟩ ?_ ?_
    · rintro j Hx hj ⟨ws, hDx, hws, sx⟩
      rw [Int.zero_add]
      obtain ⟨m, hm⟩ : ∃ m, (mkM ts st (spsOf ts st ph os))[j]? = some m := ⟨_, List.getElem?_eq_getElem (by rw [mkM_len]; omega)⟩
      have wl := paired_len hws
      rw [List.length_take, mkM_len] at wl
      refine ⟨rfl, tYes_of ⟨_, rfl, _, rfl, p, dx, _, rfl, sx _ _ hp8, p, ts, st, ph, os, j, rfl, Y8.same sx, m, hm, fun x hx => ⟨_, hDx, small1 (by omega), ws ++ [x], upd_same, ?_, fun b o e => by rw [upd_ne (ne_of_none e hD)]; exact sx _ _ e⟩⟩⟩
      have nl := NL.upd (o := .lst (ws ++ [x])) hDx
      rw [List.take_add_one, hm]
      exact paired_app (hws.nl nl) (.cons (hx.nl nl) .nil)
    rintro H9 ⟨wsD, hD9, hws9, s9⟩
    rw [mDl, ← mkM_len ts st, List.take_length] at hws9
    obtain ⟨da, db, q1, q2, q3, q4, q5⟩ := mk_refl (K := K) hD9 (s9 _ _ hlD8) hws9 (hmD8.nl (NL.of s9))
    refine ⟨_, rfl, da, db, q1, q2, q3, q4, false, by rw [q5]; rfl, iteF ?_⟩
    have Y9 := Y8.same s9
    have R9 := R8.nl (NL.of s9)
    have hlD9 := s9 _ _ hlD8
    have hmD9 := hmD8.nl (NL.of s9)
    have s29 := s28.trans s9
    have hp9 := s9 _ _ hp8
    clear hp8 Y8 R8 hlD8 hmD8 s28 s9 hD9 hws9 q1 q2 q5 hD
    -- its row and its outages
    refine ⟨_, rfl, p, dx, _, rfl, hp9, tlF_no _ _ _ _ _ (by decide +kernel) (by decide +kernel) (by decide +kernel) (by decide +kernel) (by decide +kernel), p, ts, st, ph, os, rfl, Y9, fun r2 B2 x2 R2 => ⟨_, rfl, ne_row R2 (.row R9) ⟨false, by rw [decide_eq_true rfl]; rfl, iteF ?_⟩⟩⟩
    refine ⟨_, rfl, p, dx, _, rfl, hp9, tlF_no _ _ _ _ _ (by decide +kernel) (by decide +kernel) (by decide +kernel) (by decide +kernel) (by decide +kernel), p, ts, st, ph, os, rfl, Y9, fun lo yo H10 hlo hyo s10 nlo => ⟨_, rfl, _, _, .lst (SqL.of hlo) (oPs_dp hyo), .lst (SqL.of (s10 _ _ (s29 _ _ hld))) (oPs_dp ((hod.same s29).same s10)), oPs_shL _, oPs_shL _, false, by rw [oPs_eqL, decide_eq_true rfl]; rfl, iteF ?_⟩⟩
    have s2x := s29.trans s10
    refine ⟨_, rfl, _, rfl, t0, l, xs, ts, st, ph, rfl, lns s2x, W, fun r3 B3 H11 R11 s11 nr3 => ⟨_, rfl, ld, _, rfl, .inl (SqL.of ((s2x.trans s11) _ _ hld)), fun lc hlc => ?_⟩⟩
    have sc := Same.upd (o := .lst zs) hlc
    refine timeline_made (R11.nl (NL.of sc)) upd_same (((hod.same s2x).same s11).same sc) vo ol fun p2 H12 Y12 s12 np2 => ?_
    have s912 := ((s10.trans s11).trans sc).trans s12
    refine ne_tl (Y9.same s912) (Y12.same Fr.le) ⟨false, by rw [decide_eq_true rfl]; rfl, iteF ?_⟩
    have Y13 := Y9.same s912
    have R13 := R9.nl (NL.of s912)
    have hlD13 := s912 _ _ hlD9
    have hmD13 : Mks H12 mD _ := hmD9.nl (NL.of s912)
    have s213 := s29.trans s912
    clear hp9 Y9 R9 hlD9 hmD9 s29 s912 s12 Y12 R11 sc hlc s11 s10 hlo hyo s2x R2
    have hld13 := s213 _ _ hld
    have hod13 := hod.same s213
    -- other outages
    refine ⟨fun σ' H' => σ' = [some (.ref s), some (.ref t0), some (.ref ld), some (.ref r), some (.ref p), some (.ref lD), none, none, none, none, none, none, none, none, none, none, none, none, none] ∧ Same H12 H', ?_, ?_⟩
    · refine ⟨_, rfl, (by show 0 ≤ sizeLine; decide), fun le hle => ?_⟩
      have se := Same.upd (o := .lst []) hle
      refine ⟨_, _, .lst (SqL.of (se _ _ hld13)) (oPs_dp (hod13.same se)), .lst (xs := []) (SqL.of upd_same) .nil, oPs_shL _, oPs_shL [], _, rfl, ?_⟩
      show if (!PyData.eqv (.list (os.map oPD)) (.list (([] : List (Int × Int)).map oPD))) = true then _ else _
      rw [oPs_eqL]
      by_cases c : os = []
      · rw [decide_eq_true c]
        exact iteF (iteF ⟨rfl, se⟩)
      · rw [decide_eq_false c]
        refine iteT ⟨_, rfl, _, rfl, _, rfl, 1, rfl, ld, zs, rfl, SqL.of (se _ _ hld13), fun l1 hl1 => ?_⟩
        have s1 := se.trans (Same.upd (o := .lst (cutV zs (some 1) none)) hl1)
        have ec : cutV zs (some 1) none = zs.drop 1 := cutN_from (k := 1)
        have ho1 : Ots (upd (upd H12 le (.lst [])) l1 (.lst (cutV zs (some 1) none))) (zs.drop 1) (outs (os.drop 1)) := by
          have : outs (os.drop 1) = (outs os).drop 1 := List.map_drop
          rw [this]
          exact paired_dropK 1 (hod13.same s1)
        refine timeline_made (R13.nl (NL.of s1)) (by rw [upd_same, ec]) ho1 (vout_tail vo) (by rw [List.length_drop]; omega) fun p3 H14 Y14 s14 np3 => ?_
        refine eq_tl (Y13.same (s1.trans s14)) (Y14.same Fr.le) ⟨false, ?_, iteF ⟨rfl, s1.trans s14⟩⟩
        refine congrArg V.bl (decide_eq_false fun z => c ?_)
        have z : os = os.drop 1 := congrArg (fun d : TDat => d.2) z
        have := congrArg List.length z
        rw [List.length_drop] at this
        exact List.length_eq_zero_iff.mp (by omega)
    rintro σ' H14 ⟨rfl, s14⟩
    have Y14 := Y13.same s14
    have R14 := R13.nl (NL.of s14)
    have hlD14 := s14 _ _ hlD13
    have hmD14 : Mks H14 mD _ := hmD13.nl (NL.of s14)
    have s214 := s213.trans s14
    have hld14 := s214 _ _ hld
    have hod14 := hod.same s214
    clear Y13 R13 hlD13 hmD13 s213 hld13 hod13 s14
    -- a longer outage
    refine ⟨_, rfl, 1, rfl, -1, rfl, ld, zs, rfl, SqL.of hld14, fun l1 hl1 => ?_⟩
    have s1 := Same.upd (o := .lst (cutV zs none (some (-1)))) hl1
    refine ⟨_, rfl, 1, rfl, -1, rfl, ld, zs, rfl, SqL.of (s1 _ _ hld14), fun l2 hl2 => ⟨l2, rfl, ⟨_, SqL.of upd_same⟩, fun D hD => ?_⟩⟩
    have s2 := s1.trans (Same.upd (o := .lst (cutV zs (some (-1)) none)) hl2)
    have e1 : cutV zs none (some (-1)) = zs.take (zs.length - 1) := cut_init zs
    have e2 : cutV zs (some (-1)) none = zs.drop (zs.length - 1) := cut_last zs
    have zl := paired_len hod14
    rw [outs_len] at zl
    have hl12 := (Same.upd (o := .lst (cutV zs (some (-1)) none)) hl2) _ _ (upd_same (H := H14) (a := l1) (o := .lst (cutV zs none (some (-1)))))
    have hl22 : (upd (upd H14 l1 (.lst (cutV zs none (some (-1))))) l2 (.lst (cutV zs (some (-1)) none))) l2 = some (.lst (zs.drop (zs.length - 1))) := by rw [upd_same, e2]
    have hl12 := hl12.trans (congrArg (fun z => some (HO.lst z)) e1)
    have hod15 := hod14.same s2
    generalize upd (upd H14 l1 (.lst (cutV zs none (some (-1))))) l2 (.lst (cutV zs (some (-1)) none)) = H15 at s2 hl12 hl22 hod15 hD ⊢
    have tl1 : Ots H15 (zs.drop (zs.length - 1)) ((outs os).drop (os.length - 1)) := by
      rw [← zl]
      exact paired_dropK _ hod15
    refine lc_list (K := K) (a := l2) (xs := zs.drop (zs.length - 1)) (fun j Hx => ∃ ws, Hx D = some (.lst ws) ∧ Ots Hx ws ((outs ((os.drop (os.length - 1)).map fun o => (o.1, o.2 + 1))).take j) ∧ Same H15 Hx) ⟨[], upd_same, .nil, Same.upd hD⟩ (fun j Hx _ ⟨_, _, _, sx⟩ => SqL.of (sx _ _ hl22)) ?_ ?_
    · rintro j x Hx hxj ⟨ws, hDx, hws, sx⟩
      obtain ⟨o', ho', hox⟩ := paired_get tl1 hxj
      obtain ⟨o, ho, rfl⟩ : ∃ o, (os.drop (os.length - 1))[j]? = some o ∧ o' = (o.1, some o.2) := by
        have : (outs os).drop (os.length - 1) = outs (os.drop (os.length - 1)) := List.map_drop.symm
        rw [this] at ho'
        unfold outs at ho'
        rw [List.getElem?_map] at ho'
        obtain ⟨o, h1, h2⟩ := Option.map_eq_some_iff.mp ho'
        exact ⟨o, h1, h2.symm⟩
      obtain ⟨c0, rfl, hc0⟩ := hox.same sx
      have jl := (List.getElem?_eq_some_iff.mp ho).1
      rw [List.length_drop] at jl
      refine ⟨c0, _, rfl, SqT.of hc0, rfl, _, _, rfl, _, _, rfl, rfl, rfl, tYes_of ⟨_, rfl, _, rfl, _, _, rfl, rfl, (by show 2 ≤ sizeLine; decide), fun tq htq => ?_⟩⟩
      have sq := Same.upd (o := .tup [.int o.1, .int (o.2 + 1)]) htq
      have hDq := sq _ _ hDx
      have wl := paired_len hws
      rw [List.length_take, outs_len, List.length_map, List.length_drop] at wl
      have gq : (upd Hx tq (.tup [.int o.1, .int (o.2 + 1)])) tq = some (.tup [.int o.1, .int (o.2 + 1)]) := upd_same
      have nl := NL.upd (o := .lst (ws ++ [.ref tq])) hDq
      refine ⟨_, hDq, small1 (by omega), ws ++ [.ref tq], upd_same, ?_, fun b u eb => by rw [upd_ne (ne_of_none eb hD)]; exact sq _ _ (sx _ _ eb)⟩
      have eo : (outs ((os.drop (os.length - 1)).map fun o => (o.1, o.2 + 1)))[j]? = some (o.1, some (o.2 + 1)) := by
        unfold outs
        rw [List.getElem?_map, List.getElem?_map, ho]
        rfl
      rw [List.take_add_one, eo]
      exact paired_app ((hws.same sq).nl nl) (.cons ⟨tq, rfl, nl _ _ gq fun _ z => nomatch z⟩ .nil)
    rintro H16 ⟨ws, hD16, hws, s16⟩
    have wfull : (outs ((os.drop (os.length - 1)).map fun o => (o.1, o.2 + 1))).take (zs.drop (zs.length - 1)).length = outs ((os.drop (os.length - 1)).map fun o => (o.1, o.2 + 1)) := by
      refine List.take_of_length_le ?_
      rw [outs_len, List.length_map, List.length_drop, List.length_drop]
      omega
    rw [wfull] at hws
    have wl := paired_len hws
    rw [outs_len, List.length_map, List.length_drop] at wl
    have hl16 := s16 _ _ hl12
    refine ⟨l1, D, _, _, rfl, rfl, hl16, hD16, small2 (by rw [List.length_take]; omega), fun l3 hl3 => ?_⟩
    have s17 := Same.upd (o := .lst (zs.take (zs.length - 1) ++ ws)) hl3
    have hlng : (upd H16 l3 (.lst (zs.take (zs.length - 1) ++ ws))) l3 = some (.lst (zs.take (zs.length - 1) ++ ws)) := upd_same
    have olng : Ots (upd H16 l3 (.lst (zs.take (zs.length - 1) ++ ws))) (zs.take (zs.length - 1) ++ ws) (outs (lngO os)) := by
      have : outs (lngO os) = (outs os).take (os.length - 1) ++ outs ((os.drop (os.length - 1)).map fun o => (o.1, o.2 + 1)) := by
        unfold lngO outs
        rw [List.map_append, List.map_take]
      rw [this, ← zl]
      rw [← zl] at hws
      exact paired_app (paired_takeK _ ((hod15.same s16).same s17)) (hws.same s17)
    have s1417 := s2.trans (s16.trans s17)
    show gName 6 (.ref l3) _ (upd H16 l3 (.lst (zs.take (zs.length - 1) ++ ws))) _
    generalize upd H16 l3 (.lst (zs.take (zs.length - 1) ++ ws)) = H17 at s1417 hlng olng ⊢
    clear s16 s17 hl16 hws hD16 tl1 hod15 hl22 hl12 s2 s1 hD hl1 hl2 hl3
    obtain ⟨vol, nel⟩ := lng_ok vo ob
    have ll : (lngO os).length = os.length := by
      unfold lngO
      rw [List.length_append, List.length_map, List.length_take, List.length_drop]
      omega
    refine ⟨fun σ' H' => σ' = [some (.ref s), some (.ref t0), some (.ref ld), some (.ref r), some (.ref p), some (.ref lD), some (.ref l3), none, none, none, none, none, none, none, none, none, none, none, none] ∧ Same H17 H', ?_, ?_⟩
    · refine ⟨_, rfl, (by show 0 ≤ sizeLine; decide), fun le hle => ?_⟩
      have se := Same.upd (o := .lst []) hle
      have st := s1417.trans se
      refine ⟨_, _, .lst (SqL.of (st _ _ hld14)) (oPs_dp (hod14.same st)), .lst (xs := []) (SqL.of upd_same) .nil, oPs_shL _, oPs_shL [], _, rfl, ?_⟩
      show if (!PyData.eqv (.list (os.map oPD)) (.list (([] : List (Int × Int)).map oPD))) = true then _ else _
      rw [oPs_eqL]
      by_cases c : os = []
      · rw [decide_eq_true c]
        exact iteF (iteF ⟨rfl, se⟩)
      · rw [decide_eq_false c]
        refine iteT ⟨_, rfl, _, rfl, _, rfl, timeline_made (R14.nl (NL.of st)) (se _ _ hlng) (olng.same se) vol (by omega) fun p3 H18 Y18 s18 np3 => ?_⟩
        refine eq_tl (Y14.same (st.trans s18)) (Y18.same Fr.le) ⟨false, ?_, iteF ⟨rfl, se.trans s18⟩⟩
        exact congrArg V.bl (decide_eq_false fun z => nel c (congrArg (fun d : TDat => d.2) z))
    rintro σ' H18 ⟨rfl, s18⟩
    have s1418 := s1417.trans s18
    have Y18 := Y14.same s1418
    have R18 := R14.nl (NL.of s1418)
    have hlD18 := s1418 _ _ hlD14
    have hmD18 : Mks H18 mD _ := hmD14.nl (NL.of s1418)
    have s218 := s214.trans s1418
    have hld18 := s218 _ _ hld
    have hod18 := hod.same s218
    clear Y14 R14 hlD14 hmD14 s214 hld14 hod14 s18 s1417 s1418 hlng olng vol nel
    -- one outage more
    have e9 : (10 : Int) ^ (9 : Int).toNat = 1000000000 := by decide +kernel
    have e10 : (10 : Int) ^ (10 : Int).toNat = 10000000000 := by decide +kernel
    refine ⟨_, rfl, _, rfl, _, rfl, _, _, rfl, rfl, ⟨by decide, by decide, by decide⟩, _, _, rfl, rfl, ⟨by decide, by decide, by decide⟩, (by show 2 ≤ sizeLine; decide), fun tq htq => ⟨(by show 1 ≤ sizeLine; decide), fun l4 hl4 => ?_⟩⟩
    have eT : HO.tup [V.int ((10 : Int) ^ (9 : Int).toNat), V.int ((10 : Int) ^ (10 : Int).toNat)] = HO.tup [V.int 1000000000, V.int 10000000000] := by rw [e9, e10]
    have s5 := (Same.upd (o := HO.tup [V.int ((10 : Int) ^ (9 : Int).toNat), V.int ((10 : Int) ^ (10 : Int).toNat)]) htq).trans (Same.upd (o := .lst [.ref tq]) hl4)
    have gt := (Same.upd (o := .lst [.ref tq]) hl4) _ _ (upd_same (H := H18) (a := tq) (o := HO.tup [V.int ((10 : Int) ^ (9 : Int).toNat), V.int ((10 : Int) ^ (10 : Int).toNat)]))
    have zl := paired_len hod18
    rw [outs_len] at zl
    refine ⟨ld, l4, _, _, rfl, rfl, s5 _ _ hld18, upd_same, small2 (by show _ + 1 ≤ 100000; omega), fun l5 hl5 => ?_⟩
    have s6 := s5.trans (Same.upd (o := .lst (zs ++ [.ref tq])) hl5)
    have gt6 := (Same.upd (o := .lst (zs ++ [.ref tq])) hl5) _ _ gt
    rw [eT] at gt6
    have vo3 : VOut 0 (os ++ [((1000000000 : Int), (10000000000 : Int))]) := vout_app vo (fun o ho => by have := ob o ho; omega) (by decide) (by decide) (by decide)
    have ho3 : Ots (upd (upd (upd H18 tq (HO.tup [V.int ((10 : Int) ^ (9 : Int).toNat), V.int ((10 : Int) ^ (10 : Int).toNat)])) l4 (.lst [.ref tq])) l5 (.lst (zs ++ [.ref tq]))) (zs ++ [.ref tq]) (outs (os ++ [((1000000000 : Int), (10000000000 : Int))])) := by
      unfold outs
      rw [List.map_append]
      refine paired_app (hod18.same s6) (.cons ⟨tq, rfl, ?_⟩ .nil)
      rw [eT]
      exact gt6
    refine timeline_made (R18.nl (NL.of s6)) upd_same ho3 vo3 (by rw [List.length_append]; show os.length + 1 ≤ 50; omega) fun p3 H19 Y19 s19 np3 => ?_
    have s1819 := s6.trans s19
    refine eq_tl (Y18.same s1819) (Y19.same Fr.le) ⟨false, ?_, iteF ?_⟩
    · refine congrArg V.bl (decide_eq_false fun z => ?_)
      have z : os = os ++ [((1000000000 : Int), (10000000000 : Int))] := congrArg (fun d : TDat => d.2) z
      have := congrArg List.length z
      rw [List.length_append] at this
      have : os.length = os.length + 1 := this
      omega
    clear ho3 gt6 s6 gt s5 Y19 s19
    -- in a list of others
    refine ⟨_, rfl, _, rfl, _, rfl, _, rfl, _, rfl, (by show 2 ≤ sizeLine; decide), fun t5 ht5 => ⟨(by show 4 ≤ sizeLine; decide), fun l6 hl6 => ?_⟩⟩
    have s20 := (Same.upd (o := .tup [.ref r, .ref ld]) ht5).trans (Same.upd (o := .lst [.non, .ref r, .ref ld, .ref t5]) hl6)
    have s1820 := s1819.trans s20
    have g5 := (Same.upd (o := .lst [.non, .ref r, .ref ld, .ref t5]) hl6) _ _ (upd_same (H := H19) (a := t5) (o := .tup [.ref r, .ref ld]))
    have Y20 := Y18.same s1820
    have R20 := R18.nl (NL.of s1820)
    have hld20 := s1820 _ _ hld18
    obtain ⟨dx20, b1, b2, b3, b4, b5, hp20⟩ := Y20.has
    obtain ⟨dr20, hr20⟩ := R20.ob
    refine ⟨l6, _, rfl, upd_same, fun z hz => ?_, fun H21 x21 => ⟨_, rfl, iteF ?_⟩⟩
    · have hz : z = .non ∨ z = .ref r ∨ z = .ref ld ∨ z = .ref t5 := by simpa using hz
      rcases hz with rfl | rfl | rfl | rfl
      · exact .inl ⟨.inl rfl, p, dx20, _, rfl, hp20, ts, st, ph, os, Y20, .non⟩
      · exact .inr ⟨r, p, _, dr20, dx20, _, _, rfl, rfl, hr20, hp20, ⟨B, xs, ts, st, ph, R20⟩, p, dx20, _, rfl, hp20⟩
      · exact .inl ⟨.inr (.inl ⟨ld, zs, rfl, SqL.of hld20⟩), p, dx20, _, rfl, hp20, ts, st, ph, os, Y20, .lst hld20⟩
      · exact .inl ⟨.inr (.inr ⟨t5, _, rfl, SqT.of g5⟩), p, dx20, _, rfl, hp20, ts, st, ph, os, Y20, .tup g5⟩
    have s1821 := s1820.trans x21
    have Y21 := Y18.same s1821
    have R21 := R18.nl (NL.of s1821)
    have hlD21 := s1821 _ _ hlD18
    have hmD21 : Mks H21 mD _ := hmD18.nl (NL.of s1821)
    have s221 := s218.trans s1821
    have hld21 := s221 _ _ hld
    have hod21 := hod.same s221
    have LN21 := lns s221
    clear Y18 R18 hlD18 hmD18 s218 hld18 hod18 s1821 s1820 s1819 s20 g5 Y20 R20 hld20 hp20 hr20 x21
    obtain ⟨ht21, hl21, hb21⟩ := LN21
    -- other rows
    refine ⟨_, rfl, t0, _, rfl, SqT.of ht21, rfl, _, _, rfl, _, _, rfl, _, _, rfl, rfl, ?_⟩
    have xl := paired_len hb21
    have small : ∀ t ∈ ts, OkT t ∧ t.2.1 ≤ 13 ∧ t.2.2 ≤ 5 := fun t ht => by
      have := okt t ht
      exact ⟨this.1, by omega, by omega⟩
    refine ⟨_, rfl, _, rfl, _, _, rfl, rfl, _, rfl, (by show 3 ≤ sizeLine; decide), fun a1 ha1 => ⟨_, rfl, _, rfl, _, rfl, _, _, rfl, rfl, (by show 3 ≤ sizeLine; decide), fun a2 ha2 => ⟨_, rfl, (by show 3 ≤ sizeLine; decide), fun b1 hb1 => ⟨(by show 1 ≤ sizeLine; decide), fun b2 hb2 => ?_⟩⟩⟩⟩
    have q1 := Same.upd (o := .tup [.ref l, .int (st + 1), .int ph]) ha1
    have q2 := Same.upd (o := .tup [.ref l, .int st, .int (ph + 1)]) ha2
    have q3 := Same.upd (o := .tup [.int 1, .int 1, .int 1]) hb1
    have q4 := Same.upd (o := .lst [.ref b1]) hb2
    have q14 := ((q1.trans q2).trans q3).trans q4
    refine ⟨l, b2, _, _, rfl, rfl, q14 _ _ hl21, upd_same, small2 (by show _ + 1 ≤ 100000; omega), fun b3 hb3 => ⟨_, rfl, _, rfl, (by show 3 ≤ sizeLine; decide), fun a3 ha3 => ⟨(by show 3 ≤ sizeLine; decide), fun lo hlo => ?_⟩⟩⟩
    have q5 := Same.upd (o := .lst (xs ++ [.ref b1])) hb3
    have q6 := Same.upd (o := .tup [.ref b3, .int st, .int ph]) ha3
    have q7 := Same.upd (o := .lst [.ref a1, .ref a2, .ref a3]) hlo
    have q57 := (q5.trans q6).trans q7
    have q27 := ((q2.trans q3).trans q4).trans q57
    have q37 := (q3.trans q4).trans q57
    have q47 := q4.trans q57
    have q17 := q14.trans q57
    have g1 := q27 _ _ (upd_same (H := H21) (a := a1) (o := .tup [.ref l, .int (st + 1), .int ph]))
    have g2 := q37 _ _ (upd_same (H := upd H21 a1 (.tup [.ref l, .int (st + 1), .int ph])) (a := a2) (o := .tup [.ref l, .int st, .int (ph + 1)]))
    have gb := q47 _ _ (upd_same (H := upd (upd H21 a1 (.tup [.ref l, .int (st + 1), .int ph])) a2 (.tup [.ref l, .int st, .int (ph + 1)])) (a := b1) (o := .tup [.int 1, .int 1, .int 1]))
    have g3 := (q6.trans q7) _ _ (upd_same (a := b3) (o := .lst (xs ++ [.ref b1])) (H := upd (upd (upd (upd H21 a1 (.tup [.ref l, .int (st + 1), .int ph])) a2 (.tup [.ref l, .int st, .int (ph + 1)])) b1 (.tup [.int 1, .int 1, .int 1])) b2 (.lst [.ref b1])))
    have g4 := q7 _ _ (upd_same (a := a3) (o := .tup [.ref b3, .int st, .int ph]) (H := upd (upd (upd (upd (upd H21 a1 (.tup [.ref l, .int (st + 1), .int ph])) a2 (.tup [.ref l, .int st, .int (ph + 1)])) b1 (.tup [.int 1, .int 1, .int 1])) b2 (.lst [.ref b1])) b3 (.lst (xs ++ [.ref b1]))))
    show gName 10 (.ref lo) _ (upd (upd (upd (upd (upd (upd (upd H21 a1 (.tup [.ref l, .int (st + 1), .int ph])) a2 (.tup [.ref l, .int st, .int (ph + 1)])) b1 (.tup [.int 1, .int 1, .int 1])) b2 (.lst [.ref b1])) b3 (.lst (xs ++ [.ref b1]))) a3 (.tup [.ref b3, .int st, .int ph])) lo (.lst [.ref a1, .ref a2, .ref a3])) _
    have glo : (upd (upd (upd (upd (upd (upd (upd H21 a1 (.tup [.ref l, .int (st + 1), .int ph])) a2 (.tup [.ref l, .int st, .int (ph + 1)])) b1 (.tup [.int 1, .int 1, .int 1])) b2 (.lst [.ref b1])) b3 (.lst (xs ++ [.ref b1]))) a3 (.tup [.ref b3, .int st, .int ph])) lo (.lst [.ref a1, .ref a2, .ref a3])) lo = some (.lst [.ref a1, .ref a2, .ref a3]) := upd_same
    generalize upd (upd (upd (upd (upd (upd (upd H21 a1 (.tup [.ref l, .int (st + 1), .int ph])) a2 (.tup [.ref l, .int st, .int (ph + 1)])) b1 (.tup [.int 1, .int 1, .int 1])) b2 (.lst [.ref b1])) b3 (.lst (xs ++ [.ref b1]))) a3 (.tup [.ref b3, .int st, .int ph])) lo (.lst [.ref a1, .ref a2, .ref a3]) = H22 at q17 g1 g2 gb g3 g4 glo ⊢
    have hl22 := q17 _ _ hl21
    have hb22 : Brs H22 xs ts := hb21.nl (NL.of q17)
    have oth0 : ∀ x ∈ [V.ref a1, V.ref a2, V.ref a3], Oth H22 ts st ph x := fun x hx => by
      have hx : x = .ref a1 ∨ x = .ref a2 ∨ x = .ref a3 := by simpa using hx
      rcases hx with rfl | rfl | rfl
      · refine ⟨a1, l, xs, ts, st + 1, ph, rfl, ⟨g1, hl22, hb22⟩, sml_of small (by omega) (by omega) (by omega) ph0 (by omega), fun z => ?_⟩
        have : st + 1 = st := congrArg (fun d : RDat => d.2.1) z
        omega
      · refine ⟨a2, l, xs, ts, st, ph + 1, rfl, ⟨g2, hl22, hb22⟩, sml_of small (by omega) st1 (by omega) (by omega) (by omega), fun z => ?_⟩
        have : ph + 1 = ph := congrArg (fun d : RDat => d.2.2) z
        omega
      · refine ⟨a3, b3, xs ++ [.ref b1], ts ++ [(1, 1, 1)], st, ph, rfl, ⟨g4, g3, paired_app hb22 (.cons ⟨b1, rfl, gb⟩ .nil)⟩, sml_of (fun t ht => ?_) (by rw [List.length_append]; show ts.length + 1 ≤ 5; omega) st1 (by omega) ph0 (by omega), fun z => ?_⟩
        · rcases List.mem_append.mp ht with ht | ht
          · exact small t ht
          · rw [List.mem_singleton.mp ht]
            exact ⟨by show (1 : Int) ≤ 1 ∧ (1 : Int) ≤ 1000000000000 ∧ (1 : Int) ≤ 1 ∧ (1 : Int) ≤ 1000000000000000000000000000000 ∧ (1 : Int) ≤ 1 ∧ (1 : Int) ≤ 1000000000000; decide, by decide, by decide⟩
        · have : ts ++ [(1, 1, 1)] = ts := congrArg (fun d : RDat => d.1) z
          have := congrArg List.length this
          rw [List.length_append] at this
          have : ts.length + 1 = ts.length := this
          omega
    have s2122 := q17
    clear q17 q27 q37 q47 q57 q7 q6 q5 q14 q4 q3 q2 q1 g1 g2 gb g3 g4
    have wv := fun t ht => (okt t ht).2
    have tri : ∀ {x : V}, xs[0]? = some x → ∃ f w su, ts[0]? = some (f, w, su) ∧ (∃ c, x = .ref c ∧ H22 c = some (.tup [.int f, .int w, .int su])) ∧ OkT (f, w, su) ∧ w ≤ 12 ∧ f ≤ 4 ∧ su ≤ 4 := fun {x} hx => by
      obtain ⟨t, ht, c, e, hc⟩ := hb22.get hx
      obtain ⟨f, w, su⟩ := t
      have := okt _ (List.mem_of_getElem? ht)
      exact ⟨f, w, su, ht, ⟨c, e, hc⟩, this.1, this.2.1, this.2.2.1, this.2.2.2⟩
    have one1 : cutV xs none (some 1) = xs.take 1 := cutN_to (k := 1)
    have tl1 : cutV xs (some 1) none = xs.drop 1 := cutN_from (k := 1)
    have tlb : Brs H22 (xs.drop 1) (ts.drop 1) := paired_dropK 1 hb22
    obtain ⟨oL0, hoL0⟩ : ∃ oL0, oL0 = [V.ref a1, V.ref a2, V.ref a3] := ⟨_, rfl⟩
    rw [← hoL0] at glo oth0
    have oll0 : oL0.length ≤ 3 := by rw [hoL0]; exact Nat.le_refl _
    clear hoL0
    -- a longer wait
    refine ⟨_, rfl, _, rfl, 1, rfl, l, xs, rfl, SqL.of hl22, fun c1 hc1 => ⟨c1, rfl, ⟨_, SqL.of upd_same⟩, fun D hD => ?_⟩⟩
    have sc := Same.upd (o := .lst (cutV xs none (some 1))) hc1
    have hc1' : (upd H22 c1 (.lst (cutV xs none (some 1)))) c1 = some (.lst (cutV xs none (some 1))) := upd_same
    generalize upd H22 c1 (.lst (cutV xs none (some 1))) = H23 at sc hc1' hD ⊢
    refine lc_list (K := K) (a := c1) (xs := cutV xs none (some 1)) (fun j Hx => ∃ ws, Hx D = some (.lst ws) ∧ ((j = 0 ∧ ws = []) ∨ (j = 1 ∧ ∃ x, ws = [x] ∧ Oth Hx ts st ph x)) ∧ Same H23 Hx) ⟨[], upd_same, .inl ⟨rfl, rfl⟩, Same.upd hD⟩ (fun j Hx _ ⟨_, _, _, sx⟩ => SqL.of (sx _ _ hc1')) ?_ ?_
    · rintro j x Hx hxj ⟨ws, hDx, hws, sx⟩
      rw [one1, List.getElem?_take] at hxj
      have j0 : j = 0 := by
        by_cases c : j < 1
        · omega
        · rw [if_neg c] at hxj
          cases hxj
      subst j0
      rw [if_pos (by decide)] at hxj
      obtain ⟨f, w', su, ht0, ⟨c, rfl, hc⟩, ok1, ok2, ok3, ok4⟩ := tri hxj
      obtain rfl : ws = [] := by
        rcases hws with ⟨_, e⟩ | ⟨e, _⟩
        · exact e
        · cases e
      have s22x := sc.trans sx
      have hcx := SqT.of (K := K) (s22x _ _ hc)
      refine ⟨rfl, tYes_of ⟨_, rfl, c, _, 0, .int f, rfl, rfl, hcx, rfl, _, rfl, c, _, 1, .int w', rfl, rfl, hcx, rfl, _, _, rfl, rfl, _, rfl, c, _, 2, .int su, rfl, rfl, hcx, rfl, (by show 3 ≤ sizeLine; decide), fun b1 hb1 => ⟨(by show 1 ≤ sizeLine; decide), fun b2 hb2 => ?_⟩⟩⟩
      have q2 := (Same.upd (o := .tup [.int f, .int (w' + 1), .int su]) hb1).trans (Same.upd (o := .lst [.ref b1]) hb2)
      have gb := (Same.upd (o := .lst [.ref b1]) hb2) _ _ (upd_same (H := Hx) (a := b1) (o := .tup [.int f, .int (w' + 1), .int su]))
      have gb2 : (upd (upd Hx b1 (.tup [.int f, .int (w' + 1), .int su])) b2 (.lst [.ref b1])) b2 = some (.lst [.ref b1]) := upd_same
      refine ⟨_, rfl, 1, rfl, l, xs, rfl, SqL.of (q2 _ _ (s22x _ _ hl22)), fun b3 hb3 => ?_⟩
      have q3 := Same.upd (o := .lst (cutV xs (some 1) none)) hb3
      refine ⟨b2, b3, _, _, rfl, rfl, q3 _ _ gb2, upd_same, small2 (by rw [tl1, List.length_drop]; show 1 + _ ≤ 100000; omega), fun b4 hb4 => ⟨_, rfl, _, rfl, (by show 3 ≤ sizeLine; decide), fun a1 ha1 => ?_⟩⟩
      have q4 := Same.upd (o := .lst ([.ref b1] ++ cutV xs (some 1) none)) hb4
      have q5 := Same.upd (o := .tup [.ref b4, .int st, .int ph]) ha1
      have q25 := q2.trans (q3.trans (q4.trans q5))
      have g4 := q5 _ _ (upd_same (a := b4) (o := .lst ([.ref b1] ++ cutV xs (some 1) none)) (H := upd (upd (upd Hx b1 (.tup [.int f, .int (w' + 1), .int su])) b2 (.lst [.ref b1])) b3 (.lst (cutV xs (some 1) none))))
      have g1 := (q3.trans (q4.trans q5)) _ _ gb
      have ga : (upd (upd (upd (upd (upd Hx b1 (.tup [.int f, .int (w' + 1), .int su])) b2 (.lst [.ref b1])) b3 (.lst (cutV xs (some 1) none))) b4 (.lst ([.ref b1] ++ cutV xs (some 1) none))) a1 (.tup [.ref b4, .int st, .int ph])) a1 = some (.tup [.ref b4, .int st, .int ph]) := upd_same
      have hDb := q25 _ _ hDx
      have nb4 : b4 ≠ D := (ne_of_none ((q2.trans q3) _ _ hDx) hb4).symm
      generalize upd (upd (upd (upd (upd Hx b1 (.tup [.int f, .int (w' + 1), .int su])) b2 (.lst [.ref b1])) b3 (.lst (cutV xs (some 1) none))) b4 (.lst ([.ref b1] ++ cutV xs (some 1) none))) a1 (.tup [.ref b4, .int st, .int ph]) = Hz at q25 g4 g1 ga hDb ⊢
      have nl := NL.upd (o := .lst ([] ++ [V.ref a1])) hDb
      refine ⟨_, hDb, small1 (by decide), [.ref a1], upd_same, .inr ⟨rfl, .ref a1, rfl, a1, b4, _, (f, w' + 1, su) :: ts.drop 1, st, ph, rfl, ⟨nl _ _ ga (fun _ z => nomatch z), (upd_ne nb4).trans g4, ?_⟩, sml_of (fun t ht => ?_) (by rw [List.length_cons, List.length_drop]; omega) st1 (by omega) ph0 (by omega), fun z => ?_⟩, fun b u eb => by rw [upd_ne (ne_of_none eb hD)]; exact q25 _ _ (sx _ _ eb)⟩
      · rw [tl1]
        exact .cons ⟨b1, rfl, nl _ _ g1 fun _ z => nomatch z⟩ ((tlb.nl (NL.of (s22x.trans q25))).nl nl)
      · rcases List.mem_cons.mp ht with rfl | ht
        · refine ⟨⟨ok1.1, ok1.2.1, by have := ok1.2.2.1; show 1 ≤ w' + 1; have : 1 ≤ w' := this; omega, by show w' + 1 ≤ _; omega, ok1.2.2.2.2.1, ok1.2.2.2.2.2⟩, by show w' + 1 ≤ 13; omega, by show su ≤ 5; omega⟩
        · exact small t (List.mem_of_mem_drop ht)
      · have z1 : (f, w' + 1, su) :: ts.drop 1 = ts := congrArg (fun d : RDat => d.1) z
        rw [← z1] at ht0
        have : (f, w' + 1, su) = (f, w', su) := Option.some.inj ht0
        have : w' + 1 = w' := congrArg (fun d : Tri => d.2.1) this
        omega
    rintro H24 ⟨ws, hD24, hws, s24⟩
    have ws1 : ws.length ≤ 1 ∧ ∀ x ∈ ws, Oth H24 ts st ph x := by
      rcases hws with ⟨_, rfl⟩ | ⟨_, x, rfl, o⟩
      · exact ⟨Nat.zero_le _, fun x hx => nomatch hx⟩
      · exact ⟨Nat.le_refl _, fun y hy => by rw [List.mem_singleton.mp hy]; exact o⟩
    have s224 := sc.trans s24
    refine ⟨lo, D, _, _, rfl, rfl, s224 _ _ glo, hD24, small2 (by omega), fun lo2 hlo2 => ?_⟩
    have s25 := Same.upd (o := .lst (oL0 ++ ws)) hlo2
    have glo2 : (upd H24 lo2 (.lst (oL0 ++ ws))) lo2 = some (.lst (oL0 ++ ws)) := upd_same
    show gName 10 (.ref lo2) _ (upd H24 lo2 (.lst (oL0 ++ ws))) _
    have s225 := s224.trans s25
    have oth1 : ∀ x ∈ oL0 ++ ws, Oth (upd H24 lo2 (.lst (oL0 ++ ws))) ts st ph x := fun x hx => by
      rcases List.mem_append.mp hx with hx | hx
      · exact (oth0 x hx).same s225
      · exact (ws1.2 x hx).same s25
    generalize upd H24 lo2 (.lst (oL0 ++ ws)) = H25 at glo2 s225 oth1 ⊢
    obtain ⟨oL1, hoL1⟩ : ∃ oL1, oL1 = oL0 ++ ws := ⟨_, rfl⟩
    have oll1 : oL1.length ≤ 4 := by rw [hoL1, List.length_append]; omega
    rw [← hoL1] at glo2 oth1
    have hl25 := s225 _ _ hl22
    clear hoL1 s25 s224 s24 hws hD24 sc hc1' hD hlo2 oth0 glo
    -- more failures
    refine ⟨_, rfl, _, rfl, 1, rfl, l, xs, rfl, SqL.of hl25, fun c1 hc1 => ⟨c1, rfl, ⟨_, SqL.of upd_same⟩, fun D hD => ?_⟩⟩
    have sc := s225.trans (Same.upd (o := .lst (cutV xs none (some 1))) hc1)
    have sc5 := Same.upd (o := .lst (cutV xs none (some 1))) hc1
    have hc1' : (upd H25 c1 (.lst (cutV xs none (some 1)))) c1 = some (.lst (cutV xs none (some 1))) := upd_same
    generalize upd H25 c1 (.lst (cutV xs none (some 1))) = H26 at sc sc5 hc1' hD ⊢
    refine lc_list (K := K) (a := c1) (xs := cutV xs none (some 1)) (fun j Hx => ∃ ws, Hx D = some (.lst ws) ∧ ((j = 0 ∧ ws = []) ∨ (j = 1 ∧ ∃ x, ws = [x] ∧ Oth Hx ts st ph x)) ∧ Same H26 Hx) ⟨[], upd_same, .inl ⟨rfl, rfl⟩, Same.upd hD⟩ (fun j Hx _ ⟨_, _, _, sx⟩ => SqL.of (sx _ _ hc1')) ?_ ?_
    · rintro j x Hx hxj ⟨ws, hDx, hws, sx⟩
      rw [one1, List.getElem?_take] at hxj
      have j0 : j = 0 := by
        by_cases c : j < 1
        · omega
        · rw [if_neg c] at hxj
          cases hxj
      subst j0
      rw [if_pos (by decide)] at hxj
      obtain ⟨f, w', su, ht0, ⟨c, rfl, hc⟩, ok1, ok2, ok3, ok4⟩ := tri hxj
      obtain rfl : ws = [] := by
        rcases hws with ⟨_, e⟩ | ⟨e, _⟩
        · exact e
        · cases e
      have s22x := sc.trans sx
      have hcx := SqT.of (K := K) (s22x _ _ hc)
      refine ⟨rfl, tYes_of ⟨_, rfl, c, _, 0, .int f, rfl, rfl, hcx, rfl, _, _, rfl, rfl, (by show 1 ≤ sizeLine; decide), fun u1 hu1 => ?_⟩⟩
      have p1 := Same.upd (o := .tup [.int (f + 1)]) hu1
      have gu1 : (upd Hx u1 (.tup [.int (f + 1)])) u1 = some (.tup [.int (f + 1)]) := upd_same
      refine ⟨_, rfl, 1, rfl, c, [.int f, .int w', .int su], rfl, SqT.of ((s22x.trans p1) _ _ hc), fun z => absurd z (show ¬ (HT.sIx 3 0 (some 1) = 0 ∧ HT.sIx 3 3 none = 3) by decide), fun _ u2 hu2 => ?_⟩
      have p2 := Same.upd (o := .tup (cutV [.int f, .int w', .int su] (some 1) none)) hu2
      refine ⟨u1, u2, [.int (f + 1)], [.int w', .int su], rfl, rfl, SqT.of (p2 _ _ gu1), SqT.of upd_same, List.cons_ne_nil _ _, (by show 3 ≤ sizeLine; decide), fun z => absurd z (List.cons_ne_nil _ _), fun _ b1 hb1 => ⟨(by show 1 ≤ sizeLine; decide), fun b2 hb2 => ?_⟩⟩
      have q2 := (p1.trans p2).trans ((Same.upd (o := .tup ([.int (f + 1)] ++ [.int w', .int su])) hb1).trans (Same.upd (o := .lst [.ref b1]) hb2))
      have gb := (Same.upd (o := .lst [.ref b1]) hb2) _ _ (upd_same (H := upd (upd Hx u1 (.tup [.int (f + 1)])) u2 (.tup (cutV [.int f, .int w', .int su] (some 1) none))) (a := b1) (o := .tup ([.int (f + 1)] ++ [.int w', .int su])))
      have gb2 : (upd (upd (upd (upd Hx u1 (.tup [.int (f + 1)])) u2 (.tup (cutV [.int f, .int w', .int su] (some 1) none))) b1 (.tup ([.int (f + 1)] ++ [.int w', .int su]))) b2 (.lst [.ref b1])) b2 = some (.lst [.ref b1]) := upd_same
      generalize upd (upd (upd (upd Hx u1 (.tup [.int (f + 1)])) u2 (.tup (cutV [.int f, .int w', .int su] (some 1) none))) b1 (.tup ([.int (f + 1)] ++ [.int w', .int su]))) b2 (.lst [.ref b1]) = Hy at q2 gb gb2 ⊢
      refine ⟨_, rfl, 1, rfl, l, xs, rfl, SqL.of (q2 _ _ (s22x _ _ hl22)), fun b3 hb3 => ?_⟩
      have q3 := Same.upd (o := .lst (cutV xs (some 1) none)) hb3
      refine ⟨b2, b3, _, _, rfl, rfl, q3 _ _ gb2, upd_same, small2 (by rw [tl1, List.length_drop]; show 1 + _ ≤ 100000; omega), fun b4 hb4 => ⟨_, rfl, _, rfl, (by show 3 ≤ sizeLine; decide), fun a1 ha1 => ?_⟩⟩
      have q4 := Same.upd (o := .lst ([.ref b1] ++ cutV xs (some 1) none)) hb4
      have q5 := Same.upd (o := .tup [.ref b4, .int st, .int ph]) ha1
      have q25 := q2.trans (q3.trans (q4.trans q5))
      have g4 := q5 _ _ (upd_same (a := b4) (o := .lst ([.ref b1] ++ cutV xs (some 1) none)) (H := upd Hy b3 (.lst (cutV xs (some 1) none))))
      have g1 := (q3.trans (q4.trans q5)) _ _ gb
      have ga : (upd (upd (upd Hy b3 (.lst (cutV xs (some 1) none))) b4 (.lst ([.ref b1] ++ cutV xs (some 1) none))) a1 (.tup [.ref b4, .int st, .int ph])) a1 = some (.tup [.ref b4, .int st, .int ph]) := upd_same
      have hDb := q25 _ _ hDx
      have nb4 : b4 ≠ D := (ne_of_none ((q2.trans q3) _ _ hDx) hb4).symm
      generalize upd (upd (upd Hy b3 (.lst (cutV xs (some 1) none))) b4 (.lst ([.ref b1] ++ cutV xs (some 1) none))) a1 (.tup [.ref b4, .int st, .int ph]) = Hz at q25 g4 g1 ga hDb ⊢
      have nl := NL.upd (o := .lst ([] ++ [V.ref a1])) hDb
      refine ⟨_, hDb, small1 (by decide), [.ref a1], upd_same, .inr ⟨rfl, .ref a1, rfl, a1, b4, _, (f + 1, w', su) :: ts.drop 1, st, ph, rfl, ⟨nl _ _ ga (fun _ z => nomatch z), (upd_ne nb4).trans g4, ?_⟩, sml_of (fun t ht => ?_) (by rw [List.length_cons, List.length_drop]; omega) st1 (by omega) ph0 (by omega), fun z => ?_⟩, fun b u eb => by rw [upd_ne (ne_of_none eb hD)]; exact q25 _ _ (sx _ _ eb)⟩
      · rw [tl1]
        exact .cons ⟨b1, rfl, nl _ _ g1 fun _ z => nomatch z⟩ ((tlb.nl (NL.of (s22x.trans q25))).nl nl)
      · rcases List.mem_cons.mp ht with rfl | ht
        · refine ⟨⟨by have : 1 ≤ f := ok1.1; show 1 ≤ f + 1; omega, by show f + 1 ≤ 1000000000000; omega, ok1.2.2.1, ok1.2.2.2.1, ok1.2.2.2.2.1, ok1.2.2.2.2.2⟩, by show w' ≤ 13; omega, by show su ≤ 5; omega⟩
        · exact small t (List.mem_of_mem_drop ht)
      · have z1 : (f + 1, w', su) :: ts.drop 1 = ts := congrArg (fun d : RDat => d.1) z
        rw [← z1] at ht0
        have : (f + 1, w', su) = (f, w', su) := Option.some.inj ht0
        have : f + 1 = f := congrArg (fun d : Tri => d.1) this
        omega
    rintro H27 ⟨ws, hD27, hws, s27⟩
    have ws1 : ws.length ≤ 1 ∧ ∀ x ∈ ws, Oth H27 ts st ph x := by
      rcases hws with ⟨_, rfl⟩ | ⟨_, x, rfl, o⟩
      · exact ⟨Nat.zero_le _, fun x hx => nomatch hx⟩
      · exact ⟨Nat.le_refl _, fun y hy => by rw [List.mem_singleton.mp hy]; exact o⟩
    have s257 := sc5.trans s27
    refine ⟨lo2, D, _, _, rfl, rfl, s257 _ _ glo2, hD27, small2 (by omega), fun lo3 hlo3 => ?_⟩
    have s28 := Same.upd (o := .lst (oL1 ++ ws)) hlo3
    have glo3 : (upd H27 lo3 (.lst (oL1 ++ ws))) lo3 = some (.lst (oL1 ++ ws)) := upd_same
    show gName 10 (.ref lo3) _ (upd H27 lo3 (.lst (oL1 ++ ws))) _
    have s228 := (sc.trans s27).trans s28
    have oth2 : ∀ x ∈ oL1 ++ ws, Oth (upd H27 lo3 (.lst (oL1 ++ ws))) ts st ph x := fun x hx => by
      rcases List.mem_append.mp hx with hx | hx
      · exact (oth1 x hx).same (s257.trans s28)
      · exact (ws1.2 x hx).same s28
    generalize upd H27 lo3 (.lst (oL1 ++ ws)) = H28 at glo3 s228 oth2 ⊢
    obtain ⟨oL2, hoL2⟩ : ∃ oL2, oL2 = oL1 ++ ws := ⟨_, rfl⟩
    have oll2 : oL2.length ≤ 5 := by rw [hoL2, List.length_append]; omega
    rw [← hoL2] at glo3 oth2
    have hl28 := s228 _ _ hl22
    clear hoL2 s28 s257 s27 hws hD27 sc sc5 hc1' hD hlo3 oth1 glo2 s225 hl25
    -- more successes of the last one
    have last1 : cutV xs (some (-1)) none = xs.drop (xs.length - 1) := cut_last xs
    have init1 : cutV xs none (some (-1)) = xs.take (xs.length - 1) := cut_init xs
    have inb : Brs H22 (xs.take (xs.length - 1)) (ts.take (xs.length - 1)) := paired_takeK _ hb22
    refine ⟨_, rfl, _, rfl, 1, rfl, -1, rfl, l, xs, rfl, SqL.of hl28, fun c1 hc1 => ⟨c1, rfl, ⟨_, SqL.of upd_same⟩, fun D hD => ?_⟩⟩
    have sc := s228.trans (Same.upd (o := .lst (cutV xs (some (-1)) none)) hc1)
    have sc5 := Same.upd (o := .lst (cutV xs (some (-1)) none)) hc1
    have hc1' : (upd H28 c1 (.lst (cutV xs (some (-1)) none))) c1 = some (.lst (cutV xs (some (-1)) none)) := upd_same
    generalize upd H28 c1 (.lst (cutV xs (some (-1)) none)) = H29 at sc sc5 hc1' hD ⊢
    refine lc_list (K := K) (a := c1) (xs := cutV xs (some (-1)) none) (fun j Hx => ∃ ws, Hx D = some (.lst ws) ∧ ((j = 0 ∧ ws = []) ∨ (j = 1 ∧ ∃ x, ws = [x] ∧ Oth Hx ts st ph x)) ∧ Same H29 Hx) ⟨[], upd_same, .inl ⟨rfl, rfl⟩, Same.upd hD⟩ (fun j Hx _ ⟨_, _, _, sx⟩ => SqL.of (sx _ _ hc1')) ?_ ?_
    · rintro j x Hx hxj ⟨ws, hDx, hws, sx⟩
      rw [last1] at hxj
      have jl := (List.getElem?_eq_some_iff.mp hxj).1
      rw [List.length_drop] at jl
      have j0 : j = 0 := by omega
      subst j0
      rw [List.getElem?_drop, Nat.add_zero] at hxj
      obtain ⟨t9, ht0, c, rfl, hc⟩ := hb22.get hxj
      obtain ⟨f, w', su⟩ := t9
      obtain ⟨ok1, ok2, ok3, ok4⟩ := okt _ (List.mem_of_getElem? ht0)
      have ok2 : w' ≤ 12 := ok2
      have ok4 : su ≤ 4 := ok4
      obtain rfl : ws = [] := by
        rcases hws with ⟨_, e⟩ | ⟨e, _⟩
        · exact e
        · cases e
      have s22x := sc.trans sx
      have hc : H22 c = some (.tup [.int f, .int w', .int su]) := hc
      refine ⟨rfl, tYes_of ⟨_, rfl, 1, rfl, -1, rfl, l, xs, rfl, SqL.of (s22x _ _ hl22), fun b3 hb3 => ?_⟩⟩
      have q3 := Same.upd (o := .lst (cutV xs none (some (-1)))) hb3
      have gb3 : (upd Hx b3 (.lst (cutV xs none (some (-1))))) b3 = some (.lst (cutV xs none (some (-1)))) := upd_same
      generalize upd Hx b3 (.lst (cutV xs none (some (-1)))) = Hy at q3 gb3 ⊢
      have s22y := s22x.trans q3
      refine ⟨_, rfl, 2, rfl, c, [.int f, .int w', .int su], rfl, SqT.of (s22y _ _ hc), fun z => absurd z (show ¬ (HT.sIx 3 0 none = 0 ∧ HT.sIx 3 3 (some 2) = 3) by decide), fun _ u1 hu1 => ?_⟩
      have p1 := Same.upd (o := .tup (cutV [.int f, .int w', .int su] none (some 2))) hu1
      have gu1 : (upd Hy u1 (.tup (cutV [.int f, .int w', .int su] none (some 2)))) u1 = some (.tup [.int f, .int w']) := upd_same
      refine ⟨_, rfl, c, _, 2, .int su, rfl, rfl, SqT.of ((s22y.trans p1) _ _ hc), rfl, _, _, rfl, rfl, (by show 1 ≤ sizeLine; decide), fun u2 hu2 => ?_⟩
      have p2 := Same.upd (o := .tup [.int (su + 1)]) hu2
      refine ⟨u1, u2, [.int f, .int w'], [.int (su + 1)], rfl, rfl, SqT.of (p2 _ _ gu1), SqT.of upd_same, List.cons_ne_nil _ _, (by show 3 ≤ sizeLine; decide), fun z => absurd z (List.cons_ne_nil _ _), fun _ b1 hb1 => ⟨(by show 1 ≤ sizeLine; decide), fun b2 hb2 => ?_⟩⟩
      have q2 := (p1.trans p2).trans ((Same.upd (o := .tup ([.int f, .int w'] ++ [.int (su + 1)])) hb1).trans (Same.upd (o := .lst [.ref b1]) hb2))
      have gb := (Same.upd (o := .lst [.ref b1]) hb2) _ _ (upd_same (H := upd (upd Hy u1 (.tup (cutV [.int f, .int w', .int su] none (some 2)))) u2 (.tup [.int (su + 1)])) (a := b1) (o := .tup ([.int f, .int w'] ++ [.int (su + 1)])))
      have gb2 : (upd (upd (upd (upd Hy u1 (.tup (cutV [.int f, .int w', .int su] none (some 2)))) u2 (.tup [.int (su + 1)])) b1 (.tup ([.int f, .int w'] ++ [.int (su + 1)]))) b2 (.lst [.ref b1])) b2 = some (.lst [.ref b1]) := upd_same
      generalize upd (upd (upd (upd Hy u1 (.tup (cutV [.int f, .int w', .int su] none (some 2)))) u2 (.tup [.int (su + 1)])) b1 (.tup ([.int f, .int w'] ++ [.int (su + 1)]))) b2 (.lst [.ref b1]) = Hv at q2 gb gb2 ⊢
      refine ⟨b3, b2, _, _, rfl, rfl, q2 _ _ gb3, gb2, small2 (by rw [init1, List.length_take]; show _ + 1 ≤ 100000; omega), fun b4 hb4 => ⟨_, rfl, _, rfl, (by show 3 ≤ sizeLine; decide), fun a1 ha1 => ?_⟩⟩
      have q4 := Same.upd (o := .lst (cutV xs none (some (-1)) ++ [.ref b1])) hb4
      have q5 := Same.upd (o := .tup [.ref b4, .int st, .int ph]) ha1
      have q25 := q3.trans (q2.trans (q4.trans q5))
      have g4 := q5 _ _ (upd_same (a := b4) (o := .lst (cutV xs none (some (-1)) ++ [.ref b1])) (H := Hv))
      have g1 := (q4.trans q5) _ _ gb
      have ga : (upd (upd Hv b4 (.lst (cutV xs none (some (-1)) ++ [.ref b1]))) a1 (.tup [.ref b4, .int st, .int ph])) a1 = some (.tup [.ref b4, .int st, .int ph]) := upd_same
      have hDb := q25 _ _ hDx
      have nb4 : b4 ≠ D := (ne_of_none ((q3.trans q2) _ _ hDx) hb4).symm
      generalize upd (upd Hv b4 (.lst (cutV xs none (some (-1)) ++ [.ref b1]))) a1 (.tup [.ref b4, .int st, .int ph]) = Hz at q25 g4 g1 ga hDb ⊢
      have nl := NL.upd (o := .lst ([] ++ [V.ref a1])) hDb
      refine ⟨_, hDb, small1 (by decide), [.ref a1], upd_same, .inr ⟨rfl, .ref a1, rfl, a1, b4, _, ts.take (xs.length - 1) ++ [(f, w', su + 1)], st, ph, rfl, ⟨nl _ _ ga (fun _ z => nomatch z), (upd_ne nb4).trans g4, ?_⟩, sml_of (fun t ht => ?_) (by rw [List.length_append, List.length_take]; show _ + 1 ≤ 5; omega) st1 (by omega) ph0 (by omega), fun z => ?_⟩, fun b u eb => by rw [upd_ne (ne_of_none eb hD)]; exact q25 _ _ (sx _ _ eb)⟩
      · rw [init1]
        exact paired_app ((inb.nl (NL.of (s22x.trans q25))).nl nl) (.cons ⟨b1, rfl, nl _ _ g1 fun _ z => nomatch z⟩ .nil)
      · rcases List.mem_append.mp ht with ht | ht
        · exact small t (List.mem_of_mem_take ht)
        · rw [List.mem_singleton.mp ht]
          refine ⟨⟨ok1.1, ok1.2.1, ok1.2.2.1, ok1.2.2.2.1, by have : 1 ≤ su := ok1.2.2.2.2.1; show 1 ≤ su + 1; omega, by show su + 1 ≤ 1000000000000; omega⟩, by show w' ≤ 13; omega, by show su + 1 ≤ 5; omega⟩
      · have z1 : ts.take (xs.length - 1) ++ [(f, w', su + 1)] = ts := congrArg (fun d : RDat => d.1) z
        rw [← z1, List.getElem?_append_right (by rw [List.length_take]; omega), List.length_take, show xs.length - 1 - min (xs.length - 1) ts.length = 0 by omega] at ht0
        have : (f, w', su + 1) = (f, w', su) := Option.some.inj ht0
        have : su + 1 = su := congrArg (fun d : Tri => d.2.2) this
        omega
    rintro H30 ⟨ws, hD30, hws, s30⟩
    have ws1 : ws.length ≤ 1 ∧ ∀ x ∈ ws, Oth H30 ts st ph x := by
      rcases hws with ⟨_, rfl⟩ | ⟨_, x, rfl, o⟩
      · exact ⟨Nat.zero_le _, fun x hx => nomatch hx⟩
      · exact ⟨Nat.le_refl _, fun y hy => by rw [List.mem_singleton.mp hy]; exact o⟩
    have s285 := sc5.trans s30
    refine ⟨lo3, D, _, _, rfl, rfl, s285 _ _ glo3, hD30, small2 (by omega), fun lo4 hlo4 => ?_⟩
    have s31 := Same.upd (o := .lst (oL2 ++ ws)) hlo4
    have glo4 : (upd H30 lo4 (.lst (oL2 ++ ws))) lo4 = some (.lst (oL2 ++ ws)) := upd_same
    show gName 10 (.ref lo4) _ (upd H30 lo4 (.lst (oL2 ++ ws))) _
    have s231 := (sc.trans s30).trans s31
    have oth3 : ∀ x ∈ oL2 ++ ws, Oth (upd H30 lo4 (.lst (oL2 ++ ws))) ts st ph x := fun x hx => by
      rcases List.mem_append.mp hx with hx | hx
      · exact (oth2 x hx).same (s285.trans s31)
      · exact (ws1.2 x hx).same s31
    generalize upd H30 lo4 (.lst (oL2 ++ ws)) = H31 at glo4 s231 oth3 ⊢
    obtain ⟨oL3, hoL3⟩ : ∃ oL3, oL3 = oL2 ++ ws := ⟨_, rfl⟩
    have oll3 : oL3.length ≤ 6 := by rw [hoL3, List.length_append]; omega
    rw [← hoL3] at glo4 oth3
    have s2131 := s2122.trans s231
    have Y31 := Y21.same s2131
    have R31 := R21.nl (NL.of s2131)
    have hlD31 := s2131 _ _ hlD21
    have hmD31 : Mks H31 mD _ := hmD21.nl (NL.of s2131)
    have s231' := s221.trans s2131
    have hld31 := s231' _ _ hld
    have hod31 := hod.same s231'
    clear hoL3 s31 s285 s30 hws hD30 sc sc5 hc1' hD hlo4 oth2 glo3 s228 hl28 Y21 R21 hlD21 hmD21 s221 hld21 hod21 s2122 s2131 inb tlb hb22 tri hl22 s231 hb21 ht21 hl21
    -- each of them
    refine ⟨_, rfl, lo4, rfl, ⟨_, SqL.of glo4⟩, ?_⟩
    refine for_list (K := K) (a := lo4) (xs := oL3) (fun i σ Hx => ∃ v11 v12 v13 : Option V, σ = [some (.ref s), some (.ref t0), some (.ref ld), some (.ref r), some (.ref p), some (.ref lD), some (.ref l3), some (.ref l), some (.int st), some (.int ph), some (.ref lo4), v11, v12, v13, none, none, none, none, none] ∧ Same H31 Hx)
      ⟨none, none, none, rfl, Same.refl _⟩ (fun i σ Hx _ ⟨_, _, _, _, sx⟩ => SqL.of (sx _ _ glo4)) ?_ ?_
    · rintro i x σ Hx hxi ⟨v11, v12, v13, rfl, sx⟩
      obtain ⟨t', l', xs', us, st', ph', rfl, LN', SR', ne'⟩ := (oth3 x (List.mem_of_getElem? hxi)).same sx
      have W' := SR'.d
      have hldx := sx _ _ hld31
      have hodx := hod31.same sx
      have s5' := SR'.s5
      have p6' := SR'.p6
      refine ⟨_, rfl, t', l', xs', us, st', ph', rfl, LN', W', fun r2 B2 Ha Ra sa na => ⟨_, rfl, timeline_made Ra (sa _ _ hldx) (hodx.same sa) vo ol fun p2 Hb Yb sb npb => ?_⟩⟩
      have sab := sa.trans sb
      refine ⟨_, rfl, _, rfl, _, rfl, ld, zs, os, rfl, sab _ _ hldx, hodx.same sab, ol, fun u' Hc u1' u2' sc => ?_⟩
      have sabc := sab.trans sc
      have uE' : ∀ o ∈ os, o.2 ≤ u' := fun o ho => (u2' (List.ne_nil_of_mem ho)).2 _ (List.mem_map.mpr ⟨o, ho, rfl⟩)
      have ub' : 0 ≤ u' ∧ u' ≤ 1000 := by
        by_cases c : os = []
        · rw [u1' c]
          exact ⟨by decide, by decide⟩
        · obtain ⟨o, ho, e⟩ := List.mem_map.mp (u2' c).1
          have h1 := vout_mem vo o ho
          have h2 := ob o ho
          omega
      refine ⟨t', l', ld, xs', zs, us, os, st', ph', u' + 100, rfl, LN'.same sabc, sabc _ _ hldx, hodx.same sabc, W', by omega, by omega, vo, ol, by omega, by omega, fun n' rl' rows' Hd hn' nb' hrl' nrl' SN' sd => ?_⟩
      refine ⟨rl', rows', n', us, st', ph', os, rfl, hrl', SN'.same Fr.le, W', vo, ol, nb', sml_fit SR' vo ol uE' hn', fun lF mF He hlF hmF se nlF => ⟨(by show 2 ≤ sizeLine; decide), fun tT htT => ⟨tT, _, rfl, SqT.of upd_same, rfl, _, _, rfl, _, _, rfl, rfl, ?_⟩⟩⟩
      have sT := Same.upd (o := .tup [.ref p2, .ref lF]) htT
      have sbT := ((sc.trans sd).trans se).trans sT
      have Yz := (Yb.same Fr.le).same sbT
      have hlFz := sT _ _ hlF
      have hmFz := hmF.nl (NL.of sT)
      have sz := sab.trans sbT
      generalize upd He tT (.tup [.ref p2, .ref lF]) = Hz at sz Yz hlFz hmFz ⊢
      have s31z := sx.trans sz
      have sl2 : (spsOf us st' ph' os).length ≤ 50 := Nat.le_trans spM_len ol
      obtain ⟨dx2, b1, b2, b3, b4, b5, hp2⟩ := Yz.has
      refine ⟨_, rfl, _, rfl, eq_tl Yz (Y31.same s31z) ⟨false, congrArg V.bl (decide_eq_false fun z => ne' (congrArg (fun d : TDat => d.1) z)), iteF ?_⟩⟩
      refine ⟨_, rfl, p2, dx2, _, rfl, hp2, p2, us, st', ph', os, rfl, Yz, _, rfl, by omega, by omega, _, rfl, by omega, by omega, fun D hD => ?_⟩
      rw [Int.toNat_natCast]
      refine lc_range (lo := 0) (n := (spsOf us st' ph' os).length) (fun j Hw => ∃ ws, Hw D = some (.lst ws) ∧ Mks Hw ws ((mkM us st' (spsOf us st' ph' os)).take j) ∧ Same Hz Hw) ⟨[], upd_same, .nil, Same.upd hD⟩ ?_ ?_
      · rintro j Hw hj ⟨ws, hDw, hws, sw⟩
        rw [Int.zero_add]
        obtain ⟨m, hm⟩ : ∃ m, (mkM us st' (spsOf us st' ph' os))[j]? = some m := ⟨_, List.getElem?_eq_getElem (by rw [mkM_len]; omega)⟩
        have wl := paired_len hws
        rw [List.length_take, mkM_len] at wl
        refine ⟨rfl, tYes_of ⟨_, rfl, _, rfl, p2, dx2, _, rfl, sw _ _ hp2, p2, us, st', ph', os, j, rfl, Yz.same sw, m, hm, fun x hx => ⟨_, hDw, small1 (by omega), ws ++ [x], upd_same, ?_, fun b o e => by rw [upd_ne (ne_of_none e hD)]; exact sw _ _ e⟩⟩⟩
        have nl := NL.upd (o := .lst (ws ++ [x])) hDw
        rw [List.take_add_one, hm]
        exact paired_app (hws.nl nl) (.cons (hx.nl nl) .nil)
      rintro Hw ⟨ws, hDw, hws, sw⟩
      rw [← mkM_len us st', List.take_length] at hws
      obtain ⟨da, db, q1, q2, q3, q4, q5⟩ := mk_refl (K := K) hDw (sw _ _ hlFz) hws (hmFz.nl (NL.of sw))
      exact ⟨_, rfl, da, db, q1, q2, q3, q4, false, by rw [q5]; rfl, iteF ⟨_, _, _, rfl, s31z.trans sw⟩⟩
    rintro σ H32 ⟨v11, v12, v13, rfl, s32⟩
    have Y32 := Y31.same s32
    have R32 := R31.nl (NL.of s32)
    have hlD32 := s32 _ _ hlD31
    have hmD32 : Mks H32 mD _ := hmD31.nl (NL.of s32)
    have s232 := s231'.trans s32
    have hld32 := s232 _ _ hld
    have hod32 := hod.same s232
    clear Y31 R31 hlD31 hmD31 s231' hld31 hod31 s32 oth3 glo4 oll3
    -- told is as it was
    obtain ⟨dx32, b1, b2, b3, b4, b5, hp32⟩ := Y32.has
    have mk : ∀ {pp dy : Addr} {fs : List (Str × V)} {Hb : Hp} {D : Addr} {j : Nat} {Hw : Hp}, True := fun {_ _ _ _ _ _ _} => True.intro
    refine ⟨_, rfl, p, dx32, _, rfl, hp32, p, ts, st, ph, os, rfl, Y32, _, rfl, by omega, by omega, _, rfl, by omega, by omega, fun D hD => ?_⟩
    rw [Int.toNat_natCast]
    refine lc_range (lo := 0) (n := (spsOf ts st ph os).length) (fun j Hw => ∃ ws, Hw D = some (.lst ws) ∧ Mks Hw ws ((mkM ts st (spsOf ts st ph os)).take j) ∧ Same H32 Hw) ⟨[], upd_same, .nil, Same.upd hD⟩ ?_ ?_
    · rintro j Hw hj ⟨ws, hDw, hws, sw⟩
      rw [Int.zero_add]
      obtain ⟨m, hm⟩ : ∃ m, (mkM ts st (spsOf ts st ph os))[j]? = some m := ⟨_, List.getElem?_eq_getElem (by rw [mkM_len]; omega)⟩
      have wl := paired_len hws
      rw [List.length_take, mkM_len] at wl
      refine ⟨rfl, tYes_of ⟨_, rfl, _, rfl, p, dx32, _, rfl, sw _ _ hp32, p, ts, st, ph, os, j, rfl, Y32.same sw, m, hm, fun x hx => ⟨_, hDw, small1 (by omega), ws ++ [x], upd_same, ?_, fun b o e => by rw [upd_ne (ne_of_none e hD)]; exact sw _ _ e⟩⟩⟩
      have nl := NL.upd (o := .lst (ws ++ [x])) hDw
      rw [List.take_add_one, hm]
      exact paired_app (hws.nl nl) (.cons (hx.nl nl) .nil)
    rintro H33 ⟨ws, hD33, hws, s33⟩
    rw [← mkM_len ts st, List.take_length] at hws
    obtain ⟨da, db, q1, q2, q3, q4, q5⟩ := mk_refl (K := K) hD33 (s33 _ _ hlD32) hws (hmD32.nl (NL.of s33))
    refine ⟨_, rfl, da, db, q1, q2, q3, q4, false, by rw [q5]; rfl, iteF ?_⟩
    have Y33 := Y32.same s33
    have hp33 := s33 _ _ hp32
    -- its list of outages is another one
    refine ⟨_, rfl, p, dx32, _, rfl, hp33, tlF_no _ _ _ _ _ (by decide +kernel) (by decide +kernel) (by decide +kernel) (by decide +kernel) (by decide +kernel), p, ts, st, ph, os, rfl, Y33, fun lq yq H34 hlq hyq s34 nlq => ?_⟩
    have yl := paired_len hyq
    rw [outs_len] at yl
    refine ⟨.inl ⟨rfl, _, SqL.of hlq⟩, lq, yq, .non, rfl, rfl, hlq, small1 (by omega), ?_⟩
    have s35 : Same H33 (upd H34 lq (.lst (yq ++ [.non]))) := fun b o e => by
      rw [upd_ne (ne_of_none e nlq)]
      exact s34 _ _ e
    generalize upd H34 lq (.lst (yq ++ [.non])) = H35 at s35 ⊢
    have s335 := s33.trans s35
    have Y35 := Y32.same s335
    have R35 := R32.nl (NL.of s335)
    have hlD35 := s335 _ _ hlD32
    have hmD35 : Mks H35 mD _ := hmD32.nl (NL.of s335)
    have s235 := s232.trans s335
    have hld35 := s235 _ _ hld
    have hod35 := hod.same s235
    clear Y32 R32 hlD32 hmD32 s232 hld32 hod32 s335 s35 hlq hyq s34 nlq Y33 hp33 q1 q2 q5 hws hD33 s33
    -- what was passed may change
    refine ⟨_, rfl, ld, _, rfl, .inl (SqL.of hld35), fun lk hlk => ?_⟩
    have s36 := Same.upd (o := .lst zs) hlk
    have hlk36 : (upd H35 lk (.lst zs)) lk = some (.lst zs) := upd_same
    show gName 14 (.ref lk) _ (upd H35 lk (.lst zs)) _
    generalize upd H35 lk (.lst zs) = H36 at s36 hlk36 ⊢
    refine ⟨_, rfl, _, rfl, timeline_made (R35.nl (NL.of s36)) hlk36 (hod35.same s36) vo ol fun p4 H37 Y37 s37 np4 => ?_⟩
    have hlk37 := s37 _ _ hlk36
    have zl := paired_len hod35
    rw [outs_len] at zl
    refine ⟨_, rfl, .inl ⟨rfl, _, SqL.of hlk37⟩, _, _, rfl, rfl, ⟨by decide, by decide, by decide⟩, _, _, rfl, rfl, ⟨by decide, by decide, by decide⟩, _, _, rfl, rfl, (by show 2 ≤ sizeLine; decide), fun tq htq => ?_⟩
    have s38 := Same.upd (o := HO.tup [V.int ((10 : Int) ^ (9 : Int).toNat), V.int ((10 : Int) ^ (9 : Int).toNat + 1)]) htq
    have Y38 := Y37.same (Fr.same (H0 := H36) s38)
    have hlk38 := s38 _ _ hlk37
    have s3538 := (s36.trans s37).trans s38
    refine ⟨lk, zs, _, rfl, rfl, hlk38, small1 (by omega), ?_⟩
    have Y39 := Y38.same (Fr.kp (H' := upd (upd H37 tq (HO.tup [V.int ((10 : Int) ^ (9 : Int).toNat), V.int ((10 : Int) ^ (9 : Int).toNat + 1)])) lk (.lst (zs ++ [.ref tq]))) Kp.upd (by rw [hlk36]; exact fun z => nomatch z) hlk38)
    have s39 : Same H35 (upd (upd H37 tq (HO.tup [V.int ((10 : Int) ^ (9 : Int).toNat), V.int ((10 : Int) ^ (9 : Int).toNat + 1)])) lk (.lst (zs ++ [.ref tq]))) := fun b o e => by
      rw [upd_ne (ne_of_none e hlk)]
      exact s3538 _ _ e
    generalize upd (upd H37 tq (HO.tup [V.int ((10 : Int) ^ (9 : Int).toNat), V.int ((10 : Int) ^ (9 : Int).toNat + 1)])) lk (.lst (zs ++ [.ref tq])) = H39 at Y39 s39 ⊢
    have Y39 := Y39.same Fr.le
    obtain ⟨dx39, b1, b2, b3, b4, b5, hp39⟩ := Y39.has
    have hlD39 := s39 _ _ hlD35
    have hmD39 : Mks H39 mD _ := hmD35.nl (NL.of s39)
    refine ⟨_, rfl, _, rfl, eq_tl Y39 (Y35.same s39) ⟨true, congrArg V.bl (decide_eq_true rfl), iteT ?_⟩⟩
    refine ⟨_, rfl, lD, _, rfl, .inl (SqL.of hlD39), _, rfl, by omega, by omega, fun D hD => ?_⟩
    rw [Int.toNat_natCast]
    refine lc_range (lo := 0) (n := mD.length) (fun j Hw => ∃ ws, Hw D = some (.lst ws) ∧ Mks Hw ws ((mkM ts st (spsOf ts st ph os)).take j) ∧ Same H39 Hw) ⟨[], upd_same, .nil, Same.upd hD⟩ ?_ ?_
    · rintro j Hw hj ⟨ws, hDw, hws, sw⟩
      rw [Int.zero_add]
      obtain ⟨m, hm⟩ : ∃ m, (mkM ts st (spsOf ts st ph os))[j]? = some m := ⟨_, List.getElem?_eq_getElem (by rw [mkM_len]; omega)⟩
      have wl := paired_len hws
      rw [List.length_take, mkM_len] at wl
      refine ⟨rfl, tYes_of ⟨_, rfl, _, rfl, p4, dx39, _, rfl, sw _ _ hp39, p4, ts, st, ph, os, j, rfl, Y39.same sw, m, hm, fun x hx => ⟨_, hDw, small1 (by omega), ws ++ [x], upd_same, ?_, fun b o e => by rw [upd_ne (ne_of_none e hD)]; exact sw _ _ e⟩⟩⟩
      have nl := NL.upd (o := .lst (ws ++ [x])) hDw
      rw [List.take_add_one, hm]
      exact paired_app (hws.nl nl) (.cons (hx.nl nl) .nil)
    rintro H40 ⟨ws, hD40, hws, s40⟩
    rw [mDl, ← mkM_len ts st, List.take_length] at hws
    obtain ⟨da, db, q1, q2, q3, q4, q5⟩ := mk_refl (K := K) hD40 (s40 _ _ hlD39) hws (hmD39.nl (NL.of s40))
    refine ⟨_, rfl, da, db, q1, q2, q3, q4, ?_⟩
    rw [q5]
    exact k H40 (k12.trans (Kp.of ((s235.trans s39).trans s40)))
theorem ok_wright (T : LX K mg L) : Cal P w K mg base "_law_right" 11 L.f__law_right ["_law_well_here"] (spLRight) := T.d__law_right.cal fun fd F => fn_wright T F
end
/-! ### the law over its cells -/
def spLaw (K : PySem.W.Frag) : Sp := fun vs H Q _ => ∃ (a : Addr) (ns : List Int), vs = [.ref a] ∧ SqL K H a (ns.map V.int) ∧ ns.length ≤ 63 ∧ ∀ H', Q (.bl true) H'
section
variable {P : Program} {w : World} {K : PySem.W.Frag} {mg : Str → Option Value} {base : Heap} {L : LA}
abbrev N_law : List Str := ["_law_script", "_law_cell"]
theorem sc_law : FnScope N_law ["_law_script"] (defScope st_law) := ⟨rfl, rfl, rfl, by decide +kernel, rfl, by decide +kernel, by decide +kernel⟩
theorem ok_law {aLaw : Addr} {fd : FuncData} (F : Fun K "law" "law" st_law aLaw fd) (T : LX K mg L) : FnOk P w K mg base CX0 12 aLaw fd ["_law_script"] (spLaw K) := by
  have G_wright := ok_wright (P := P) (w := w) (base := base) T
  have G_wwell := ok_wwell (P := P) (w := w) (base := base) T
  have nd := sc_law.nd
  refine F.ok sc_law (fun vs H Q E h => ?_) (fun cdv A outer S H vs Q E hr h => ?_)
  · obtain ⟨a, ns, rfl, _⟩ := h
    rfl
  · obtain ⟨a, ns, rfl, hS, ln, k⟩ := h
    refine ⟨_, (pss_cons (ps_for PassesOwn.never rfl (pi_list (pe_op op_cat (pe_slice (r := rSlL K) sl_list (pv 0) po_none (po_some pe_int)) (pe_lst (pa_cons pe_int pa_nil)))) (pg_name (i := 1) nd rfl (Or.inl rfl)) (pss_one (ps_if (pt_not (pt_val (pe_c G_wright (hr.mono (by decide)) rfl (pa_cons (pe_c G_wwell (hr.mono (by decide)) rfl (pa_cons (pv 1) pa_nil)) pa_nil)))) (pss_one (ps_ret pe_bl)) pss_nil)))
       (pss_one (ps_ret pe_bl))), ?_⟩
    refine ⟨_, rfl, 3, rfl, a, ns.map V.int, rfl, hS, fun l1 hl1 => ⟨(by show 1 ≤ sizeLine; decide), fun l2 hl2 => ?_⟩⟩
    refine ⟨l1, l2, _, _, rfl, rfl, (Same.upd hl2) _ _ upd_same, upd_same, small2 (by have := cutV_length (ns.map V.int) none (some 3); rw [List.length_map] at this; show _ + 1 ≤ 100000; omega), fun l3 hl3 => ?_⟩
    have items : ∀ v ∈ cutV (ns.map V.int) none (some 3) ++ [V.int 0], ∃ c, v = .int c := fun v hv => by
      rcases List.mem_append.mp hv with hv | hv
      · obtain ⟨c, _, e⟩ := List.mem_map.mp (List.mem_of_mem_drop (List.mem_of_mem_take hv))
        exact ⟨c, e.symm⟩
      · exact ⟨0, by simpa using hv⟩
    generalize hit : cutV (ns.map V.int) none (some 3) ++ [V.int 0] = its at items
    refine ⟨l3, rfl, ⟨_, SqL.of upd_same⟩, ?_⟩
    refine for_list (K := K) (a := l3) (xs := its) (fun i σ H2 => ∃ v1 : Option V, σ = [some (.ref a), v1] ∧ H2 l3 = some (.lst its)) ⟨none, rfl, by rw [upd_same]⟩ (fun i σ H2 _ ⟨_, _, e⟩ => SqL.of e) ?_ ?_
    · rintro i v σ H0 hi ⟨v1, rfl, hL⟩
      obtain ⟨cc, rfl⟩ := items v (List.mem_of_getElem? hi)
      refine ⟨_, rfl, cc, rfl, fun s H1 hs0 y1 src1 => ⟨s, rfl, src1, fun H2 k2 => ⟨_, rfl, iteF ⟨_, rfl, ?_⟩⟩⟩⟩
      exact k2 _ _ (ne_of_none hL hs0) (y1 _ _ hL)
    · rintro σ H2 ⟨v1, rfl, _⟩
      exact k H2
end
/-! ### the end -/
theorem bn_q0 (kV doc pm : Value) (an : Option Addr) (cdv ct : Value) (us : List Value) (hl : us.length = (["k"] : List Str).length) : bindArgs (PySem.W.fnOf "_wall" "_wall" (defArgs st__wall) (defBody st__wall) (defScope st__wall) .none kV doc pm an cdv ct) ⟨us, []⟩ = pure ((["k"] : List Str).zip us) :=
  match us, hl with | [_], _ => rfl
theorem bn_q1 (kV doc pm : Value) (an : Option Addr) (cdv ct : Value) (us : List Value) (hl : us.length = (["value"] : List Str).length) : bindArgs (PySem.W.fnOf "is_integer" "is_integer" (defArgs st_is_integer) (defBody st_is_integer) (defScope st_is_integer) .none kV doc pm an cdv ct) ⟨us, []⟩ = pure ((["value"] : List Str).zip us) :=
  match us, hl with | [_], _ => rfl
theorem bn_q2 (kV doc pm : Value) (an : Option Addr) (cdv ct : Value) (us : List Value) (hl : us.length = (["value", "least"] : List Str).length) : bindArgs (PySem.W.fnOf "is_at_least" "is_at_least" (defArgs st_is_at_least) (defBody st_is_at_least) (defScope st_is_at_least) .none kV doc pm an cdv ct) ⟨us, []⟩ = pure ((["value", "least"] : List Str).zip us) :=
  match us, hl with | [_, _], _ => rfl
theorem bn_q3 (kV doc pm : Value) (an : Option Addr) (cdv ct : Value) (us : List Value) (hl : us.length = (["value", "least", "most"] : List Str).length) : bindArgs (PySem.W.fnOf "is_within" "is_within" (defArgs st_is_within) (defBody st_is_within) (defScope st_is_within) .none kV doc pm an cdv ct) ⟨us, []⟩ = pure ((["value", "least", "most"] : List Str).zip us) :=
  match us, hl with | [_, _, _], _ => rfl
theorem bn_q4 (kV doc pm : Value) (an : Option Addr) (cdv ct : Value) (us : List Value) (hl : us.length = (["distance", "step"] : List Str).length) : bindArgs (PySem.W.fnOf "steps_to" "steps_to" (defArgs st_steps_to) (defBody st_steps_to) (defScope st_steps_to) .none kV doc pm an cdv ct) ⟨us, []⟩ = pure ((["distance", "step"] : List Str).zip us) :=
  match us, hl with | [_, _], _ => rfl
theorem bn_q5 (kV doc pm : Value) (an : Option Addr) (cdv ct : Value) (us : List Value) (hl : us.length = (["value"] : List Str).length) : bindArgs (PySem.W.fnOf "is_breaker" "is_breaker" (defArgs st_is_breaker) (defBody st_is_breaker) (defScope st_is_breaker) .none kV doc pm an cdv ct) ⟨us, []⟩ = pure ((["value"] : List Str).zip us) :=
  match us, hl with | [_], _ => rfl
theorem bn_q6 (kV doc pm : Value) (an : Option Addr) (cdv ct : Value) (us : List Value) (hl : us.length = (["breakers", "part"] : List Str).length) : bindArgs (PySem.W.fnOf "check_breakers" "check_breakers" (defArgs st_check_breakers) (defBody st_check_breakers) (defScope st_check_breakers) .none kV doc pm an cdv ct) ⟨us, []⟩ = pure ((["breakers", "part"] : List Str).zip us) :=
  match us, hl with | [_, _], _ => rfl
theorem bn_q7 (kV doc pm : Value) (an : Option Addr) (cdv ct : Value) (us : List Value) (hl : us.length = (["step"] : List Str).length) : bindArgs (PySem.W.fnOf "check_step" "check_step" (defArgs st_check_step) (defBody st_check_step) (defScope st_check_step) .none kV doc pm an cdv ct) ⟨us, []⟩ = pure ((["step"] : List Str).zip us) :=
  match us, hl with | [_], _ => rfl
theorem bn_q8 (kV doc pm : Value) (an : Option Addr) (cdv ct : Value) (us : List Value) (hl : us.length = (["row", "number"] : List Str).length) : bindArgs (PySem.W.fnOf "request_time" "request_time" (defArgs st_request_time) (defBody st_request_time) (defScope st_request_time) .none kV doc pm an cdv ct) ⟨us, []⟩ = pure ((["row", "number"] : List Str).zip us) :=
  match us, hl with | [_, _], _ => rfl
theorem bn_q9 (kV doc pm : Value) (an : Option Addr) (cdv ct : Value) (us : List Value) (hl : us.length = (["row", "time"] : List Str).length) : bindArgs (PySem.W.fnOf "first_request" "first_request" (defArgs st_first_request) (defBody st_first_request) (defScope st_first_request) .none kV doc pm an cdv ct) ⟨us, []⟩ = pure ((["row", "time"] : List Str).zip us) :=
  match us, hl with | [_, _], _ => rfl
theorem bn_q10 (kV doc pm : Value) (an : Option Addr) (cdv ct : Value) (us : List Value) (hl : us.length = (["train"] : List Str).length) : bindArgs (PySem.W.fnOf "last_time" "last_time" (defArgs st_last_time) (defBody st_last_time) (defScope st_last_time) .none kV doc pm an cdv ct) ⟨us, []⟩ = pure ((["train"] : List Str).zip us) :=
  match us, hl with | [_], _ => rfl
theorem bn_q11 (kV doc pm : Value) (an : Option Addr) (cdv ct : Value) (us : List Value) (hl : us.length = (["train", "time"] : List Str).length) : bindArgs (PySem.W.fnOf "times_before" "times_before" (defArgs st_times_before) (defBody st_times_before) (defScope st_times_before) .none kV doc pm an cdv ct) ⟨us, []⟩ = pure ((["train", "time"] : List Str).zip us) :=
  match us, hl with | [_, _], _ => rfl
theorem bn_q12 (kV doc pm : Value) (an : Option Addr) (cdv ct : Value) (us : List Value) (hl : us.length = (["train", "low", "high"] : List Str).length) : bindArgs (PySem.W.fnOf "part_of" "part_of" (defArgs st_part_of) (defBody st_part_of) (defScope st_part_of) .none kV doc pm an cdv ct) ⟨us, []⟩ = pure ((["train", "low", "high"] : List Str).zip us) :=
  match us, hl with | [_, _, _], _ => rfl
theorem bn_q13 (kV doc pm : Value) (an : Option Addr) (cdv ct : Value) (us : List Value) (hl : us.length = (["train", "wait", "time"] : List Str).length) : bindArgs (PySem.W.fnOf "thinned_run" "thinned_run" (defArgs st_thinned_run) (defBody st_thinned_run) (defScope st_thinned_run) .none kV doc pm an cdv ct) ⟨us, []⟩ = pure ((["train", "wait", "time"] : List Str).zip us) :=
  match us, hl with | [_, _, _], _ => rfl
theorem bn_q14 (kV doc pm : Value) (an : Option Addr) (cdv ct : Value) (us : List Value) (hl : us.length = (["trains", "wait", "time"] : List Str).length) : bindArgs (PySem.W.fnOf "thinned_runs" "thinned_runs" (defArgs st_thinned_runs) (defBody st_thinned_runs) (defScope st_thinned_runs) .none kV doc pm an cdv ct) ⟨us, []⟩ = pure ((["trains", "wait", "time"] : List Str).zip us) :=
  match us, hl with | [_, _, _], _ => rfl
theorem bn_q15 (kV doc pm : Value) (an : Option Addr) (cdv ct : Value) (us : List Value) (hl : us.length = (["trains", "count"] : List Str).length) : bindArgs (PySem.W.fnOf "divided_runs" "divided_runs" (defArgs st_divided_runs) (defBody st_divided_runs) (defScope st_divided_runs) .none kV doc pm an cdv ct) ⟨us, []⟩ = pure ((["trains", "count"] : List Str).zip us) :=
  match us, hl with | [_, _], _ => rfl
theorem bn_q16 (kV doc pm : Value) (an : Option Addr) (cdv ct : Value) (us : List Value) (hl : us.length = (["trains", "time"] : List Str).length) : bindArgs (PySem.W.fnOf "time_from" "time_from" (defArgs st_time_from) (defBody st_time_from) (defScope st_time_from) .none kV doc pm an cdv ct) ⟨us, []⟩ = pure ((["trains", "time"] : List Str).zip us) :=
  match us, hl with | [_, _], _ => rfl
theorem bn_q17 (kV doc pm : Value) (an : Option Addr) (cdv ct : Value) (us : List Value) (hl : us.length = (["number"] : List Str).length) : bindArgs (PySem.W.fnOf "closed_states" "closed_states" (defArgs st_closed_states) (defBody st_closed_states) (defScope st_closed_states) .none kV doc pm an cdv ct) ⟨us, []⟩ = pure ((["number"] : List Str).zip us) :=
  match us, hl with | [_], _ => rfl
theorem bn_q18 (kV doc pm : Value) (an : Option Addr) (cdv ct : Value) (us : List Value) (hl : us.length = (["row", "outages"] : List Str).length) : bindArgs (PySem.W.fnOf "spells_of" "spells_of" (defArgs st_spells_of) (defBody st_spells_of) (defScope st_spells_of) .none kV doc pm an cdv ct) ⟨us, []⟩ = pure ((["row", "outages"] : List Str).zip us) :=
  match us, hl with | [_, _], _ => rfl
theorem bn_q19 (kV doc pm : Value) (an : Option Addr) (cdv ct : Value) (us : List Value) (hl : us.length = (["row", "first", "begun", "outages", "at"] : List Str).length) : bindArgs (PySem.W.fnOf "spell_from" "spell_from" (defArgs st_spell_from) (defBody st_spell_from) (defScope st_spell_from) .none kV doc pm an cdv ct) ⟨us, []⟩ = pure ((["row", "first", "begun", "outages", "at"] : List Str).zip us) :=
  match us, hl with | [_, _, _, _, _], _ => rfl
theorem bn_q20 (kV doc pm : Value) (an : Option Addr) (cdv ct : Value) (us : List Value) (hl : us.length = (["runs", "breaker", "state"] : List Str).length) : bindArgs (PySem.W.fnOf "passed_runs" "passed_runs" (defArgs st_passed_runs) (defBody st_passed_runs) (defScope st_passed_runs) .none kV doc pm an cdv ct) ⟨us, []⟩ = pure ((["runs", "breaker", "state"] : List Str).zip us) :=
  match us, hl with | [_, _, _], _ => rfl
theorem bn_q21 (kV doc pm : Value) (an : Option Addr) (cdv ct : Value) (us : List Value) (hl : us.length = (["runs", "outages", "at"] : List Str).length) : bindArgs (PySem.W.fnOf "recovery" "recovery" (defArgs st_recovery) (defBody st_recovery) (defScope st_recovery) .none kV doc pm an cdv ct) ⟨us, []⟩ = pure ((["runs", "outages", "at"] : List Str).zip us) :=
  match us, hl with | [_, _, _], _ => rfl
theorem bn_q22 (kV doc pm : Value) (an : Option Addr) (cdv ct : Value) (us : List Value) (hl : us.length = (["row", "spell", "time"] : List Str).length) : bindArgs (PySem.W.fnOf "states_behind" "states_behind" (defArgs st_states_behind) (defBody st_states_behind) (defScope st_states_behind) .none kV doc pm an cdv ct) ⟨us, []⟩ = pure ((["row", "spell", "time"] : List Str).zip us) :=
  match us, hl with | [_, _, _], _ => rfl
theorem bn_q23 (kV doc pm : Value) (an : Option Addr) (cdv ct : Value) (us : List Value) (hl : us.length = (["row", "spell"] : List Str).length) : bindArgs (PySem.W.fnOf "whole_time" "whole_time" (defArgs st_whole_time) (defBody st_whole_time) (defScope st_whole_time) .none kV doc pm an cdv ct) ⟨us, []⟩ = pure ((["row", "spell"] : List Str).zip us) :=
  match us, hl with | [_, _], _ => rfl
theorem bn_q24 (kV doc pm : Value) (an : Option Addr) (cdv ct : Value) (us : List Value) (hl : us.length = (["outages"] : List Str).length) : bindArgs (PySem.W.fnOf "check_outages" "check_outages" (defArgs st_check_outages) (defBody st_check_outages) (defScope st_check_outages) .none kV doc pm an cdv ct) ⟨us, []⟩ = pure ((["outages"] : List Str).zip us) :=
  match us, hl with | [_], _ => rfl
theorem bn_q25 (kV doc pm : Value) (an : Option Addr) (cdv ct : Value) (us : List Value) (hl : us.length = (["value"] : List Str).length) : bindArgs (PySem.W.fnOf "is_outage" "is_outage" (defArgs st_is_outage) (defBody st_is_outage) (defScope st_is_outage) .none kV doc pm an cdv ct) ⟨us, []⟩ = pure ((["value"] : List Str).zip us) :=
  match us, hl with | [_], _ => rfl
theorem bn_q26 (kV doc pm : Value) (an : Option Addr) (cdv ct : Value) (us : List Value) (hl : us.length = (["row", "spells"] : List Str).length) : bindArgs (PySem.W.fnOf "marks_of" "marks_of" (defArgs st_marks_of) (defBody st_marks_of) (defScope st_marks_of) .none kV doc pm an cdv ct) ⟨us, []⟩ = pure ((["row", "spells"] : List Str).zip us) :=
  match us, hl with | [_, _], _ => rfl
theorem bn_q27 (kV doc pm : Value) (an : Option Addr) (cdv ct : Value) (us : List Value) (hl : us.length = (["_law_cell", "_law_k"] : List Str).length) : bindArgs (PySem.W.fnOf "_law_mixed" "_law_mixed" (defArgs st__law_mixed) (defBody st__law_mixed) (defScope st__law_mixed) .none kV doc pm an cdv ct) ⟨us, []⟩ = pure ((["_law_cell", "_law_k"] : List Str).zip us) :=
  match us, hl with | [_, _], _ => rfl
theorem bn_q28 (kV doc pm : Value) (an : Option Addr) (cdv ct : Value) (us : List Value) (hl : us.length = (["_law_cell"] : List Str).length) : bindArgs (PySem.W.fnOf "_law_well" "_law_well" (defArgs st__law_well) (defBody st__law_well) (defScope st__law_well) .none kV doc pm an cdv ct) ⟨us, []⟩ = pure ((["_law_cell"] : List Str).zip us) :=
  match us, hl with | [_], _ => rfl
theorem bn_q29 (kV doc pm : Value) (an : Option Addr) (cdv ct : Value) (us : List Value) (hl : us.length = (["_law_well_here", "_law_many"] : List Str).length) : bindArgs (PySem.W.fnOf "_law_draw" "_law_draw" (defArgs st__law_draw) (defBody st__law_draw) (defScope st__law_draw) .none kV doc pm an cdv ct) ⟨us, []⟩ = pure ((["_law_well_here", "_law_many"] : List Str).zip us) :=
  match us, hl with | [_, _], _ => rfl
theorem bn_q30 (kV doc pm : Value) (an : Option Addr) (cdv ct : Value) (us : List Value) (hl : us.length = (["_law_well_here", "_law_some"] : List Str).length) : bindArgs (PySem.W.fnOf "_law_one" "_law_one" (defArgs st__law_one) (defBody st__law_one) (defScope st__law_one) .none kV doc pm an cdv ct) ⟨us, []⟩ = pure ((["_law_well_here", "_law_some"] : List Str).zip us) :=
  match us, hl with | [_, _], _ => rfl
theorem bn_q31 (kV doc pm : Value) (an : Option Addr) (cdv ct : Value) (us : List Value) (hl : us.length = (["_law_well_here"] : List Str).length) : bindArgs (PySem.W.fnOf "_law_row" "_law_row" (defArgs st__law_row) (defBody st__law_row) (defScope st__law_row) .none kV doc pm an cdv ct) ⟨us, []⟩ = pure ((["_law_well_here"] : List Str).zip us) :=
  match us, hl with | [_], _ => rfl
theorem bn_q32 (kV doc pm : Value) (an : Option Addr) (cdv ct : Value) (us : List Value) (hl : us.length = (["_law_well_here", "_law_most"] : List Str).length) : bindArgs (PySem.W.fnOf "_law_downs" "_law_downs" (defArgs st__law_downs) (defBody st__law_downs) (defScope st__law_downs) .none kV doc pm an cdv ct) ⟨us, []⟩ = pure ((["_law_well_here", "_law_most"] : List Str).zip us) :=
  match us, hl with | [_, _], _ => rfl
theorem bn_q33 (kV doc pm : Value) (an : Option Addr) (cdv ct : Value) (us : List Value) (hl : us.length = (["_law_specs", "_law_states", "_law_time", "_law_is_fine"] : List Str).length) : bindArgs (PySem.W.fnOf "_law_send" "_law_send" (defArgs st__law_send) (defBody st__law_send) (defScope st__law_send) .none kV doc pm an cdv ct) ⟨us, []⟩ = pure ((["_law_specs", "_law_states", "_law_time", "_law_is_fine"] : List Str).zip us) :=
  match us, hl with | [_, _, _, _], _ => rfl
theorem bn_q34 (kV doc pm : Value) (an : Option Addr) (cdv ct : Value) (us : List Value) (hl : us.length = (["_law_line", "_law_downs_here", "_law_until_here"] : List Str).length) : bindArgs (PySem.W.fnOf "_law_play" "_law_play" (defArgs st__law_play) (defBody st__law_play) (defScope st__law_play) .none kV doc pm an cdv ct) ⟨us, []⟩ = pure ((["_law_line", "_law_downs_here", "_law_until_here"] : List Str).zip us) :=
  match us, hl with | [_, _, _], _ => rfl
theorem bn_q35 (kV doc pm : Value) (an : Option Addr) (cdv ct : Value) (us : List Value) (hl : us.length = (["_law_played"] : List Str).length) : bindArgs (PySem.W.fnOf "_law_runs" "_law_runs" (defArgs st__law_runs) (defBody st__law_runs) (defScope st__law_runs) .none kV doc pm an cdv ct) ⟨us, []⟩ = pure ((["_law_played"] : List Str).zip us) :=
  match us, hl with | [_], _ => rfl
theorem bn_q36 (kV doc pm : Value) (an : Option Addr) (cdv ct : Value) (us : List Value) (hl : us.length = (["_law_downs_here"] : List Str).length) : bindArgs (PySem.W.fnOf "_law_until" "_law_until" (defArgs st__law_until) (defBody st__law_until) (defScope st__law_until) .none kV doc pm an cdv ct) ⟨us, []⟩ = pure ((["_law_downs_here"] : List Str).zip us) :=
  match us, hl with | [_], _ => rfl
theorem bn_q37 (kV doc pm : Value) (an : Option Addr) (cdv ct : Value) (us : List Value) (hl : us.length = (["_law_line"] : List Str).length) : bindArgs (PySem.W.fnOf "_law_made" "_law_made" (defArgs st__law_made) (defBody st__law_made) (defScope st__law_made) .none kV doc pm an cdv ct) ⟨us, []⟩ = pure ((["_law_line"] : List Str).zip us) :=
  match us, hl with | [_], _ => rfl
theorem bn_q38 (kV doc pm : Value) (an : Option Addr) (cdv ct : Value) (us : List Value) (hl : us.length = (["_law_played"] : List Str).length) : bindArgs (PySem.W.fnOf "_law_due" "_law_due" (defArgs st__law_due) (defBody st__law_due) (defScope st__law_due) .none kV doc pm an cdv ct) ⟨us, []⟩ = pure ((["_law_played"] : List Str).zip us) :=
  match us, hl with | [_], _ => rfl
theorem bn_q39 (kV doc pm : Value) (an : Option Addr) (cdv ct : Value) (us : List Value) (hl : us.length = (["_law_well_here"] : List Str).length) : bindArgs (PySem.W.fnOf "_law_right" "_law_right" (defArgs st__law_right) (defBody st__law_right) (defScope st__law_right) .none kV doc pm an cdv ct) ⟨us, []⟩ = pure ((["_law_well_here"] : List Str).zip us) :=
  match us, hl with | [_], _ => rfl
theorem bn_q40 (kV doc pm : Value) (an : Option Addr) (cdv ct : Value) (us : List Value) (hl : us.length = (["self"] : List Str).length) : bindArgs (PySem.W.fnOf "breaker_list" "Row.breaker_list" (defArgs st_Row_breaker_list) (defBody st_Row_breaker_list) (defScope st_Row_breaker_list) .none kV doc pm an cdv ct) ⟨us, []⟩ = pure ((["self"] : List Str).zip us) :=
  match us, hl with | [_], _ => rfl
theorem bn_q41 (kV doc pm : Value) (an : Option Addr) (cdv ct : Value) (us : List Value) (hl : us.length = (["self"] : List Str).length) : bindArgs (PySem.W.fnOf "step_length" "Row.step_length" (defArgs st_Row_step_length) (defBody st_Row_step_length) (defScope st_Row_step_length) .none kV doc pm an cdv ct) ⟨us, []⟩ = pure ((["self"] : List Str).zip us) :=
  match us, hl with | [_], _ => rfl
theorem bn_q42 (kV doc pm : Value) (an : Option Addr) (cdv ct : Value) (us : List Value) (hl : us.length = (["self"] : List Str).length) : bindArgs (PySem.W.fnOf "phase_time" "Row.phase_time" (defArgs st_Row_phase_time) (defBody st_Row_phase_time) (defScope st_Row_phase_time) .none kV doc pm an cdv ct) ⟨us, []⟩ = pure ((["self"] : List Str).zip us) :=
  match us, hl with | [_], _ => rfl
theorem bn_q43 (kV doc pm : Value) (an : Option Addr) (cdv ct : Value) (us : List Value) (hl : us.length = (["self"] : List Str).length) : bindArgs (PySem.W.fnOf "__len__" "Row.__len__" (defArgs st_Row_len) (defBody st_Row_len) (defScope st_Row_len) .none kV doc pm an cdv ct) ⟨us, []⟩ = pure ((["self"] : List Str).zip us) :=
  match us, hl with | [_], _ => rfl
theorem bn_q44 (kV doc pm : Value) (an : Option Addr) (cdv ct : Value) (us : List Value) (hl : us.length = (["self", "at"] : List Str).length) : bindArgs (PySem.W.fnOf "__getitem__" "Row.__getitem__" (defArgs st_Row_getitem) (defBody st_Row_getitem) (defScope st_Row_getitem) .none kV doc pm an cdv ct) ⟨us, []⟩ = pure ((["self", "at"] : List Str).zip us) :=
  match us, hl with | [_, _], _ => rfl
theorem bn_q45 (kV doc pm : Value) (an : Option Addr) (cdv ct : Value) (us : List Value) (hl : us.length = (["self", "x"] : List Str).length) : bindArgs (PySem.W.fnOf "__contains__" "Row.__contains__" (defArgs st_Row_contains) (defBody st_Row_contains) (defScope st_Row_contains) .none kV doc pm an cdv ct) ⟨us, []⟩ = pure ((["self", "x"] : List Str).zip us) :=
  match us, hl with | [_, _], _ => rfl
theorem bn_q46 (kV doc pm : Value) (an : Option Addr) (cdv ct : Value) (us : List Value) (hl : us.length = (["self", "other"] : List Str).length) : bindArgs (PySem.W.fnOf "__add__" "Row.__add__" (defArgs st_Row_add) (defBody st_Row_add) (defScope st_Row_add) .none kV doc pm an cdv ct) ⟨us, []⟩ = pure ((["self", "other"] : List Str).zip us) :=
  match us, hl with | [_, _], _ => rfl
theorem bn_q47 (kV doc pm : Value) (an : Option Addr) (cdv ct : Value) (us : List Value) (hl : us.length = (["self", "other"] : List Str).length) : bindArgs (PySem.W.fnOf "__eq__" "Row.__eq__" (defArgs st_Row_eq) (defBody st_Row_eq) (defScope st_Row_eq) .none kV doc pm an cdv ct) ⟨us, []⟩ = pure ((["self", "other"] : List Str).zip us) :=
  match us, hl with | [_, _], _ => rfl
theorem bn_NSpell (kV doc pm : Value) (an : Option Addr) (cdv ct : Value) (us : List Value) (hl : us.length = (["self", "first", "recovered", "begun", "runs", "opened"] : List Str).length) : bindArgs (PySem.W.fnOf "__init__" "Spell.__init__" (defArgs st_Spell_init) (defBody st_Spell_init) (defScope st_Spell_init) .none kV doc pm an cdv ct) ⟨us, []⟩ = pure ((["self", "first", "recovered", "begun", "runs", "opened"] : List Str).zip us) :=
  match us, hl with | [_, _, _, _, _, _], _ => rfl
theorem bn_NTimeline (kV doc pm : Value) (an : Option Addr) (cdv ct : Value) (us : List Value) (hl : us.length = (["self", "row", "outages"] : List Str).length) : bindArgs (PySem.W.fnOf "__init__" "Timeline.__init__" (defArgs st_Timeline_init) (defBody st_Timeline_init) (defScope st_Timeline_init) .none kV doc pm an cdv ct) ⟨us, []⟩ = pure ((["self", "row", "outages"] : List Str).zip us) :=
  match us, hl with | [_, _, _], _ => rfl
theorem bn_q48 (kV doc pm : Value) (an : Option Addr) (cdv ct : Value) (us : List Value) (hl : us.length = (["self"] : List Str).length) : bindArgs (PySem.W.fnOf "base_row" "Timeline.base_row" (defArgs st_Timeline_base_row) (defBody st_Timeline_base_row) (defScope st_Timeline_base_row) .none kV doc pm an cdv ct) ⟨us, []⟩ = pure ((["self"] : List Str).zip us) :=
  match us, hl with | [_], _ => rfl
theorem bn_q49 (kV doc pm : Value) (an : Option Addr) (cdv ct : Value) (us : List Value) (hl : us.length = (["self"] : List Str).length) : bindArgs (PySem.W.fnOf "outage_list" "Timeline.outage_list" (defArgs st_Timeline_outage_list) (defBody st_Timeline_outage_list) (defScope st_Timeline_outage_list) .none kV doc pm an cdv ct) ⟨us, []⟩ = pure ((["self"] : List Str).zip us) :=
  match us, hl with | [_], _ => rfl
theorem bn_q50 (kV doc pm : Value) (an : Option Addr) (cdv ct : Value) (us : List Value) (hl : us.length = (["self"] : List Str).length) : bindArgs (PySem.W.fnOf "__len__" "Timeline.__len__" (defArgs st_Timeline_len) (defBody st_Timeline_len) (defScope st_Timeline_len) .none kV doc pm an cdv ct) ⟨us, []⟩ = pure ((["self"] : List Str).zip us) :=
  match us, hl with | [_], _ => rfl
theorem bn_q51 (kV doc pm : Value) (an : Option Addr) (cdv ct : Value) (us : List Value) (hl : us.length = (["self", "at"] : List Str).length) : bindArgs (PySem.W.fnOf "__getitem__" "Timeline.__getitem__" (defArgs st_Timeline_getitem) (defBody st_Timeline_getitem) (defScope st_Timeline_getitem) .none kV doc pm an cdv ct) ⟨us, []⟩ = pure ((["self", "at"] : List Str).zip us) :=
  match us, hl with | [_, _], _ => rfl
theorem bn_q52 (kV doc pm : Value) (an : Option Addr) (cdv ct : Value) (us : List Value) (hl : us.length = (["self", "other"] : List Str).length) : bindArgs (PySem.W.fnOf "__eq__" "Timeline.__eq__" (defArgs st_Timeline_eq) (defBody st_Timeline_eq) (defScope st_Timeline_eq) .none kV doc pm an cdv ct) ⟨us, []⟩ = pure ((["self", "other"] : List Str).zip us) :=
  match us, hl with | [_, _], _ => rfl
theorem mk_dfn {K : PySem.W.Frag} {h : Heap} {mg : Str → Option Value} {x : Str} {st : Stmt} {f : Addr} {ps : List Str} {oc : Value} {od an : Option Addr} {sl : Array (Option Value)} {kV dc pm cd ct : Value} (X : K.In h) (G : h.Ns mainGlobals mg) (a : PySem.W.nsIn K mainGlobals x = some (some (.ref f)))
    (l : K.lookup f = some ⟨oc, od, .func (PySem.W.fnOf x x (defArgs st) (defBody st) (defScope st) .none kV dc pm an cd ct), sl⟩) (c : PySem.W.codeIn K cd x = true) (k : PySem.W.keepIn K (.ref f) = true)
    (hb : ∀ (kV doc pm : Value) (an : Option Addr) (cdv ct : Value) (us : List Value), us.length = ps.length → bindArgs (PySem.W.fnOf x x (defArgs st) (defBody st) (defScope st) .none kV doc pm an cdv ct) ⟨us, []⟩ = pure (ps.zip us)) : Dfn K mg x st f ps :=
  ⟨⟨_, fun_mk l c k, (fun_mk l c k).binds hb⟩, PySem.W.mg_of X G a⟩
theorem mk_mth {K : PySem.W.Frag} {C : Addr} {x q : Str} {st : Stmt} {f : Addr} {ps : List Str} {oc : Value} {od an : Option Addr} {sl : Array (Option Value)} {kV dc pm cd ct : Value} (a : PySem.W.findIn K (.ref C) x = some (some (.ref f))) (i : PySem.W.isFn K (.ref f) = true) (fk : PySem.W.fnIn K f = true)
    (l : K.lookup f = some ⟨oc, od, .func (PySem.W.fnOf x q (defArgs st) (defBody st) (defScope st) .none kV dc pm an cd ct), sl⟩) (c : PySem.W.codeIn K cd q = true) (k : PySem.W.keepIn K (.ref f) = true)
    (hb : ∀ (kV doc pm : Value) (an : Option Addr) (cdv ct : Value) (us : List Value), us.length = ps.length → bindArgs (PySem.W.fnOf x q (defArgs st) (defBody st) (defScope st) .none kV doc pm an cdv ct) ⟨us, []⟩ = pure (ps.zip us)) : Mth K C x q st f ps :=
  ⟨⟨_, fun_mk l c k, (fun_mk l c k).binds hb⟩, a, i, fk⟩
set_option maxHeartbeats 16000000 in
theorem all_mk {P : Program} {w : World} {K : PySem.W.Frag} {h : Heap} {mg : Str → Option Value} {lv : List (Str × PySem.W.WData)} {fa aLaw fq0 fq1 fq2 fq3 fq4 fq5 fq6 fq7 fq8 fq9 fq10 fq11 fq12 fq13 fq14 fq15 fq16 fq17 fq18 fq19 fq20 fq21 fq22 fq23 fq24 fq25 fq26 fq27 fq28 fq29 fq30 fq31 fq32 fq33 fq34 fq35 fq36 fq37 fq38 fq39 CRow aIRow aDRow fq40 fq41 fq42 fq43 fq44 fq45 fq46 fq47 CSpell aISpell CTimeline aITimeline fq48 fq49 fq50 fq51 fq52 : Addr} {tkRow tNMOST_BREAKERS tNMOST_OUTAGES : Tok} {odq0 anq0 odq1 anq1 odq2 anq2 odq3 anq3 odq4 anq4 odq5 anq5 odq6 anq6 odq7 anq7 odq8 anq8 odq9 anq9 odq10 anq10 odq11 anq11 odq12 anq12 odq13 anq13 odq14 anq14 odq15 anq15 odq16 anq16 odq17 anq17 odq18 anq18 odq19 anq19 odq20 anq20 odq21 anq21 odq22 anq22 odq23 anq23 odq24 anq24 odq25 anq25 odq26 anq26 odq27 anq27 odq28 anq28 odq29 anq29 odq30 anq30 odq31 anq31 odq32 anq32 odq33 anq33 odq34 anq34 odq35 anq35 odq36 anq36 odq37 anq37 odq38 anq38 odq39 anq39 odq40 anq40 odq41 anq41 odq42 anq42 odq43 anq43 odq44 anq44 odq45 anq45 odq46 anq46 odq47 anq47 odq48 anq48 odq49 anq49 odq50 anq50 odq51 anq51 odq52 anq52 odY anY odNRow anNRow odNSpell anNSpell odNTimeline anNTimeline : Option Addr} {slq0 slq1 slq2 slq3 slq4 slq5 slq6 slq7 slq8 slq9 slq10 slq11 slq12 slq13 slq14 slq15 slq16 slq17 slq18 slq19 slq20 slq21 slq22 slq23 slq24 slq25 slq26 slq27 slq28 slq29 slq30 slq31 slq32 slq33 slq34 slq35 slq36 slq37 slq38 slq39 slq40 slq41 slq42 slq43 slq44 slq45 slq46 slq47 slq48 slq49 slq50 slq51 slq52 slY slNRow slNSpell slNTimeline : Array (Option Value)} {ocq0 kVq0 dcq0 pmq0 cdq0 ctq0 ocq1 kVq1 dcq1 pmq1 cdq1 ctq1 ocq2 kVq2 dcq2 pmq2 cdq2 ctq2 ocq3 kVq3 dcq3 pmq3 cdq3 ctq3 ocq4 kVq4 dcq4 pmq4 cdq4 ctq4 ocq5 kVq5 dcq5 pmq5 cdq5 ctq5 ocq6 kVq6 dcq6 pmq6 cdq6 ctq6 ocq7 kVq7 dcq7 pmq7 cdq7 ctq7 ocq8 kVq8 dcq8 pmq8 cdq8 ctq8 ocq9 kVq9 dcq9 pmq9 cdq9 ctq9 ocq10 kVq10 dcq10 pmq10 cdq10 ctq10 ocq11 kVq11 dcq11 pmq11 cdq11 ctq11 ocq12 kVq12 dcq12 pmq12 cdq12 ctq12 ocq13 kVq13 dcq13 pmq13 cdq13 ctq13 ocq14 kVq14 dcq14 pmq14 cdq14 ctq14 ocq15 kVq15 dcq15 pmq15 cdq15 ctq15 ocq16 kVq16 dcq16 pmq16 cdq16 ctq16 ocq17 kVq17 dcq17 pmq17 cdq17 ctq17 ocq18 kVq18 dcq18 pmq18 cdq18 ctq18 ocq19 kVq19 dcq19 pmq19 cdq19 ctq19 ocq20 kVq20 dcq20 pmq20 cdq20 ctq20 ocq21 kVq21 dcq21 pmq21 cdq21 ctq21 ocq22 kVq22 dcq22 pmq22 cdq22 ctq22 ocq23 kVq23 dcq23 pmq23 cdq23 ctq23 ocq24 kVq24 dcq24 pmq24 cdq24 ctq24 ocq25 kVq25 dcq25 pmq25 cdq25 ctq25 ocq26 kVq26 dcq26 pmq26 cdq26 ctq26 ocq27 kVq27 dcq27 pmq27 cdq27 ctq27 ocq28 kVq28 dcq28 pmq28 cdq28 ctq28 ocq29 kVq29 dcq29 pmq29 cdq29 ctq29 ocq30 kVq30 dcq30 pmq30 cdq30 ctq30 ocq31 kVq31 dcq31 pmq31 cdq31 ctq31 ocq32 kVq32 dcq32 pmq32 cdq32 ctq32 ocq33 kVq33 dcq33 pmq33 cdq33 ctq33 ocq34 kVq34 dcq34 pmq34 cdq34 ctq34 ocq35 kVq35 dcq35 pmq35 cdq35 ctq35 ocq36 kVq36 dcq36 pmq36 cdq36 ctq36 ocq37 kVq37 dcq37 pmq37 cdq37 ctq37 ocq38 kVq38 dcq38 pmq38 cdq38 ctq38 ocq39 kVq39 dcq39 pmq39 cdq39 ctq39 ocq40 kVq40 dcq40 pmq40 cdq40 ctq40 ocq41 kVq41 dcq41 pmq41 cdq41 ctq41 ocq42 kVq42 dcq42 pmq42 cdq42 ctq42 ocq43 kVq43 dcq43 pmq43 cdq43 ctq43 ocq44 kVq44 dcq44 pmq44 cdq44 ctq44 ocq45 kVq45 dcq45 pmq45 cdq45 ctq45 ocq46 kVq46 dcq46 pmq46 cdq46 ctq46 ocq47 kVq47 dcq47 pmq47 cdq47 ctq47 ocq48 kVq48 dcq48 pmq48 cdq48 ctq48 ocq49 kVq49 dcq49 pmq49 cdq49 ctq49 ocq50 kVq50 dcq50 pmq50 cdq50 ctq50 ocq51 kVq51 dcq51 pmq51 cdq51 ctq51 ocq52 kVq52 dcq52 pmq52 cdq52 ctq52 ocY kVY dcY pmY cdY ctY ocNRow dcNRow pmNRow cdNRow ctNRow ocNSpell dcNSpell pmNSpell cdNSpell ctNSpell kVNSpell ocNTimeline dcNTimeline pmNTimeline cdNTimeline ctNTimeline kVNTimeline : Value}
    (X : K.In h) (G : h.Ns mainGlobals mg) (LL : PySem.W.LooseAre lv mg h) (hLMOST_COUNT : (("MOST_COUNT" : Str), PySem.W.WData.int 1000000000000) ∈ lv) (hLMOST_TIME : (("MOST_TIME" : Str), PySem.W.WData.int 1000000000000000000000000000000) ∈ lv) (hfa : mg "law" = some (.ref fa))
    (aq0 : PySem.W.nsIn K mainGlobals "_wall" = some (some (.ref fq0)))
    (lq0 : K.lookup fq0 = some ⟨ocq0, odq0, .func (PySem.W.fnOf "_wall" "_wall" (defArgs st__wall) (defBody st__wall) (defScope st__wall) .none kVq0 dcq0 pmq0 anq0 cdq0 ctq0), slq0⟩)
    (cq0 : PySem.W.codeIn K cdq0 "_wall" = true)
    (kq0 : PySem.W.keepIn K (.ref fq0) = true)
    (aq1 : PySem.W.nsIn K mainGlobals "is_integer" = some (some (.ref fq1)))
    (lq1 : K.lookup fq1 = some ⟨ocq1, odq1, .func (PySem.W.fnOf "is_integer" "is_integer" (defArgs st_is_integer) (defBody st_is_integer) (defScope st_is_integer) .none kVq1 dcq1 pmq1 anq1 cdq1 ctq1), slq1⟩)
    (cq1 : PySem.W.codeIn K cdq1 "is_integer" = true)
    (kq1 : PySem.W.keepIn K (.ref fq1) = true)
    (aq2 : PySem.W.nsIn K mainGlobals "is_at_least" = some (some (.ref fq2)))
    (lq2 : K.lookup fq2 = some ⟨ocq2, odq2, .func (PySem.W.fnOf "is_at_least" "is_at_least" (defArgs st_is_at_least) (defBody st_is_at_least) (defScope st_is_at_least) .none kVq2 dcq2 pmq2 anq2 cdq2 ctq2), slq2⟩)
    (cq2 : PySem.W.codeIn K cdq2 "is_at_least" = true)
    (kq2 : PySem.W.keepIn K (.ref fq2) = true)
    (aq3 : PySem.W.nsIn K mainGlobals "is_within" = some (some (.ref fq3)))
    (lq3 : K.lookup fq3 = some ⟨ocq3, odq3, .func (PySem.W.fnOf "is_within" "is_within" (defArgs st_is_within) (defBody st_is_within) (defScope st_is_within) .none kVq3 dcq3 pmq3 anq3 cdq3 ctq3), slq3⟩)
    (cq3 : PySem.W.codeIn K cdq3 "is_within" = true)
    (kq3 : PySem.W.keepIn K (.ref fq3) = true)
    (aq4 : PySem.W.nsIn K mainGlobals "steps_to" = some (some (.ref fq4)))
    (lq4 : K.lookup fq4 = some ⟨ocq4, odq4, .func (PySem.W.fnOf "steps_to" "steps_to" (defArgs st_steps_to) (defBody st_steps_to) (defScope st_steps_to) .none kVq4 dcq4 pmq4 anq4 cdq4 ctq4), slq4⟩)
    (cq4 : PySem.W.codeIn K cdq4 "steps_to" = true)
    (kq4 : PySem.W.keepIn K (.ref fq4) = true)
    (aq5 : PySem.W.nsIn K mainGlobals "is_breaker" = some (some (.ref fq5)))
    (lq5 : K.lookup fq5 = some ⟨ocq5, odq5, .func (PySem.W.fnOf "is_breaker" "is_breaker" (defArgs st_is_breaker) (defBody st_is_breaker) (defScope st_is_breaker) .none kVq5 dcq5 pmq5 anq5 cdq5 ctq5), slq5⟩)
    (cq5 : PySem.W.codeIn K cdq5 "is_breaker" = true)
    (kq5 : PySem.W.keepIn K (.ref fq5) = true)
    (aq6 : PySem.W.nsIn K mainGlobals "check_breakers" = some (some (.ref fq6)))
    (lq6 : K.lookup fq6 = some ⟨ocq6, odq6, .func (PySem.W.fnOf "check_breakers" "check_breakers" (defArgs st_check_breakers) (defBody st_check_breakers) (defScope st_check_breakers) .none kVq6 dcq6 pmq6 anq6 cdq6 ctq6), slq6⟩)
    (cq6 : PySem.W.codeIn K cdq6 "check_breakers" = true)
    (kq6 : PySem.W.keepIn K (.ref fq6) = true)
    (aq7 : PySem.W.nsIn K mainGlobals "check_step" = some (some (.ref fq7)))
    (lq7 : K.lookup fq7 = some ⟨ocq7, odq7, .func (PySem.W.fnOf "check_step" "check_step" (defArgs st_check_step) (defBody st_check_step) (defScope st_check_step) .none kVq7 dcq7 pmq7 anq7 cdq7 ctq7), slq7⟩)
    (cq7 : PySem.W.codeIn K cdq7 "check_step" = true)
    (kq7 : PySem.W.keepIn K (.ref fq7) = true)
    (aq8 : PySem.W.nsIn K mainGlobals "request_time" = some (some (.ref fq8)))
    (lq8 : K.lookup fq8 = some ⟨ocq8, odq8, .func (PySem.W.fnOf "request_time" "request_time" (defArgs st_request_time) (defBody st_request_time) (defScope st_request_time) .none kVq8 dcq8 pmq8 anq8 cdq8 ctq8), slq8⟩)
    (cq8 : PySem.W.codeIn K cdq8 "request_time" = true)
    (kq8 : PySem.W.keepIn K (.ref fq8) = true)
    (aq9 : PySem.W.nsIn K mainGlobals "first_request" = some (some (.ref fq9)))
    (lq9 : K.lookup fq9 = some ⟨ocq9, odq9, .func (PySem.W.fnOf "first_request" "first_request" (defArgs st_first_request) (defBody st_first_request) (defScope st_first_request) .none kVq9 dcq9 pmq9 anq9 cdq9 ctq9), slq9⟩)
    (cq9 : PySem.W.codeIn K cdq9 "first_request" = true)
    (kq9 : PySem.W.keepIn K (.ref fq9) = true)
    (aq10 : PySem.W.nsIn K mainGlobals "last_time" = some (some (.ref fq10)))
    (lq10 : K.lookup fq10 = some ⟨ocq10, odq10, .func (PySem.W.fnOf "last_time" "last_time" (defArgs st_last_time) (defBody st_last_time) (defScope st_last_time) .none kVq10 dcq10 pmq10 anq10 cdq10 ctq10), slq10⟩)
    (cq10 : PySem.W.codeIn K cdq10 "last_time" = true)
    (kq10 : PySem.W.keepIn K (.ref fq10) = true)
    (aq11 : PySem.W.nsIn K mainGlobals "times_before" = some (some (.ref fq11)))
    (lq11 : K.lookup fq11 = some ⟨ocq11, odq11, .func (PySem.W.fnOf "times_before" "times_before" (defArgs st_times_before) (defBody st_times_before) (defScope st_times_before) .none kVq11 dcq11 pmq11 anq11 cdq11 ctq11), slq11⟩)
    (cq11 : PySem.W.codeIn K cdq11 "times_before" = true)
    (kq11 : PySem.W.keepIn K (.ref fq11) = true)
    (aq12 : PySem.W.nsIn K mainGlobals "part_of" = some (some (.ref fq12)))
    (lq12 : K.lookup fq12 = some ⟨ocq12, odq12, .func (PySem.W.fnOf "part_of" "part_of" (defArgs st_part_of) (defBody st_part_of) (defScope st_part_of) .none kVq12 dcq12 pmq12 anq12 cdq12 ctq12), slq12⟩)
    (cq12 : PySem.W.codeIn K cdq12 "part_of" = true)
    (kq12 : PySem.W.keepIn K (.ref fq12) = true)
    (aq13 : PySem.W.nsIn K mainGlobals "thinned_run" = some (some (.ref fq13)))
    (lq13 : K.lookup fq13 = some ⟨ocq13, odq13, .func (PySem.W.fnOf "thinned_run" "thinned_run" (defArgs st_thinned_run) (defBody st_thinned_run) (defScope st_thinned_run) .none kVq13 dcq13 pmq13 anq13 cdq13 ctq13), slq13⟩)
    (cq13 : PySem.W.codeIn K cdq13 "thinned_run" = true)
    (kq13 : PySem.W.keepIn K (.ref fq13) = true)
    (aq14 : PySem.W.nsIn K mainGlobals "thinned_runs" = some (some (.ref fq14)))
    (lq14 : K.lookup fq14 = some ⟨ocq14, odq14, .func (PySem.W.fnOf "thinned_runs" "thinned_runs" (defArgs st_thinned_runs) (defBody st_thinned_runs) (defScope st_thinned_runs) .none kVq14 dcq14 pmq14 anq14 cdq14 ctq14), slq14⟩)
    (cq14 : PySem.W.codeIn K cdq14 "thinned_runs" = true)
    (kq14 : PySem.W.keepIn K (.ref fq14) = true)
    (aq15 : PySem.W.nsIn K mainGlobals "divided_runs" = some (some (.ref fq15)))
    (lq15 : K.lookup fq15 = some ⟨ocq15, odq15, .func (PySem.W.fnOf "divided_runs" "divided_runs" (defArgs st_divided_runs) (defBody st_divided_runs) (defScope st_divided_runs) .none kVq15 dcq15 pmq15 anq15 cdq15 ctq15), slq15⟩)
    (cq15 : PySem.W.codeIn K cdq15 "divided_runs" = true)
    (kq15 : PySem.W.keepIn K (.ref fq15) = true)
    (aq16 : PySem.W.nsIn K mainGlobals "time_from" = some (some (.ref fq16)))
    (lq16 : K.lookup fq16 = some ⟨ocq16, odq16, .func (PySem.W.fnOf "time_from" "time_from" (defArgs st_time_from) (defBody st_time_from) (defScope st_time_from) .none kVq16 dcq16 pmq16 anq16 cdq16 ctq16), slq16⟩)
    (cq16 : PySem.W.codeIn K cdq16 "time_from" = true)
    (kq16 : PySem.W.keepIn K (.ref fq16) = true)
    (aq17 : PySem.W.nsIn K mainGlobals "closed_states" = some (some (.ref fq17)))
    (lq17 : K.lookup fq17 = some ⟨ocq17, odq17, .func (PySem.W.fnOf "closed_states" "closed_states" (defArgs st_closed_states) (defBody st_closed_states) (defScope st_closed_states) .none kVq17 dcq17 pmq17 anq17 cdq17 ctq17), slq17⟩)
    (cq17 : PySem.W.codeIn K cdq17 "closed_states" = true)
    (kq17 : PySem.W.keepIn K (.ref fq17) = true)
    (aq18 : PySem.W.nsIn K mainGlobals "spells_of" = some (some (.ref fq18)))
    (lq18 : K.lookup fq18 = some ⟨ocq18, odq18, .func (PySem.W.fnOf "spells_of" "spells_of" (defArgs st_spells_of) (defBody st_spells_of) (defScope st_spells_of) .none kVq18 dcq18 pmq18 anq18 cdq18 ctq18), slq18⟩)
    (cq18 : PySem.W.codeIn K cdq18 "spells_of" = true)
    (kq18 : PySem.W.keepIn K (.ref fq18) = true)
    (aq19 : PySem.W.nsIn K mainGlobals "spell_from" = some (some (.ref fq19)))
    (lq19 : K.lookup fq19 = some ⟨ocq19, odq19, .func (PySem.W.fnOf "spell_from" "spell_from" (defArgs st_spell_from) (defBody st_spell_from) (defScope st_spell_from) .none kVq19 dcq19 pmq19 anq19 cdq19 ctq19), slq19⟩)
    (cq19 : PySem.W.codeIn K cdq19 "spell_from" = true)
    (kq19 : PySem.W.keepIn K (.ref fq19) = true)
    (aq20 : PySem.W.nsIn K mainGlobals "passed_runs" = some (some (.ref fq20)))
    (lq20 : K.lookup fq20 = some ⟨ocq20, odq20, .func (PySem.W.fnOf "passed_runs" "passed_runs" (defArgs st_passed_runs) (defBody st_passed_runs) (defScope st_passed_runs) .none kVq20 dcq20 pmq20 anq20 cdq20 ctq20), slq20⟩)
    (cq20 : PySem.W.codeIn K cdq20 "passed_runs" = true)
    (kq20 : PySem.W.keepIn K (.ref fq20) = true)
    (aq21 : PySem.W.nsIn K mainGlobals "recovery" = some (some (.ref fq21)))
    (lq21 : K.lookup fq21 = some ⟨ocq21, odq21, .func (PySem.W.fnOf "recovery" "recovery" (defArgs st_recovery) (defBody st_recovery) (defScope st_recovery) .none kVq21 dcq21 pmq21 anq21 cdq21 ctq21), slq21⟩)
    (cq21 : PySem.W.codeIn K cdq21 "recovery" = true)
    (kq21 : PySem.W.keepIn K (.ref fq21) = true)
    (aq22 : PySem.W.nsIn K mainGlobals "states_behind" = some (some (.ref fq22)))
    (lq22 : K.lookup fq22 = some ⟨ocq22, odq22, .func (PySem.W.fnOf "states_behind" "states_behind" (defArgs st_states_behind) (defBody st_states_behind) (defScope st_states_behind) .none kVq22 dcq22 pmq22 anq22 cdq22 ctq22), slq22⟩)
    (cq22 : PySem.W.codeIn K cdq22 "states_behind" = true)
    (kq22 : PySem.W.keepIn K (.ref fq22) = true)
    (aq23 : PySem.W.nsIn K mainGlobals "whole_time" = some (some (.ref fq23)))
    (lq23 : K.lookup fq23 = some ⟨ocq23, odq23, .func (PySem.W.fnOf "whole_time" "whole_time" (defArgs st_whole_time) (defBody st_whole_time) (defScope st_whole_time) .none kVq23 dcq23 pmq23 anq23 cdq23 ctq23), slq23⟩)
    (cq23 : PySem.W.codeIn K cdq23 "whole_time" = true)
    (kq23 : PySem.W.keepIn K (.ref fq23) = true)
    (aq24 : PySem.W.nsIn K mainGlobals "check_outages" = some (some (.ref fq24)))
    (lq24 : K.lookup fq24 = some ⟨ocq24, odq24, .func (PySem.W.fnOf "check_outages" "check_outages" (defArgs st_check_outages) (defBody st_check_outages) (defScope st_check_outages) .none kVq24 dcq24 pmq24 anq24 cdq24 ctq24), slq24⟩)
    (cq24 : PySem.W.codeIn K cdq24 "check_outages" = true)
    (kq24 : PySem.W.keepIn K (.ref fq24) = true)
    (aq25 : PySem.W.nsIn K mainGlobals "is_outage" = some (some (.ref fq25)))
    (lq25 : K.lookup fq25 = some ⟨ocq25, odq25, .func (PySem.W.fnOf "is_outage" "is_outage" (defArgs st_is_outage) (defBody st_is_outage) (defScope st_is_outage) .none kVq25 dcq25 pmq25 anq25 cdq25 ctq25), slq25⟩)
    (cq25 : PySem.W.codeIn K cdq25 "is_outage" = true)
    (kq25 : PySem.W.keepIn K (.ref fq25) = true)
    (aq26 : PySem.W.nsIn K mainGlobals "marks_of" = some (some (.ref fq26)))
    (lq26 : K.lookup fq26 = some ⟨ocq26, odq26, .func (PySem.W.fnOf "marks_of" "marks_of" (defArgs st_marks_of) (defBody st_marks_of) (defScope st_marks_of) .none kVq26 dcq26 pmq26 anq26 cdq26 ctq26), slq26⟩)
    (cq26 : PySem.W.codeIn K cdq26 "marks_of" = true)
    (kq26 : PySem.W.keepIn K (.ref fq26) = true)
    (aq27 : PySem.W.nsIn K mainGlobals "_law_mixed" = some (some (.ref fq27)))
    (lq27 : K.lookup fq27 = some ⟨ocq27, odq27, .func (PySem.W.fnOf "_law_mixed" "_law_mixed" (defArgs st__law_mixed) (defBody st__law_mixed) (defScope st__law_mixed) .none kVq27 dcq27 pmq27 anq27 cdq27 ctq27), slq27⟩)
    (cq27 : PySem.W.codeIn K cdq27 "_law_mixed" = true)
    (kq27 : PySem.W.keepIn K (.ref fq27) = true)
    (aq28 : PySem.W.nsIn K mainGlobals "_law_well" = some (some (.ref fq28)))
    (lq28 : K.lookup fq28 = some ⟨ocq28, odq28, .func (PySem.W.fnOf "_law_well" "_law_well" (defArgs st__law_well) (defBody st__law_well) (defScope st__law_well) .none kVq28 dcq28 pmq28 anq28 cdq28 ctq28), slq28⟩)
    (cq28 : PySem.W.codeIn K cdq28 "_law_well" = true)
    (kq28 : PySem.W.keepIn K (.ref fq28) = true)
    (aq29 : PySem.W.nsIn K mainGlobals "_law_draw" = some (some (.ref fq29)))
    (lq29 : K.lookup fq29 = some ⟨ocq29, odq29, .func (PySem.W.fnOf "_law_draw" "_law_draw" (defArgs st__law_draw) (defBody st__law_draw) (defScope st__law_draw) .none kVq29 dcq29 pmq29 anq29 cdq29 ctq29), slq29⟩)
    (cq29 : PySem.W.codeIn K cdq29 "_law_draw" = true)
    (kq29 : PySem.W.keepIn K (.ref fq29) = true)
    (aq30 : PySem.W.nsIn K mainGlobals "_law_one" = some (some (.ref fq30)))
    (lq30 : K.lookup fq30 = some ⟨ocq30, odq30, .func (PySem.W.fnOf "_law_one" "_law_one" (defArgs st__law_one) (defBody st__law_one) (defScope st__law_one) .none kVq30 dcq30 pmq30 anq30 cdq30 ctq30), slq30⟩)
    (cq30 : PySem.W.codeIn K cdq30 "_law_one" = true)
    (kq30 : PySem.W.keepIn K (.ref fq30) = true)
    (aq31 : PySem.W.nsIn K mainGlobals "_law_row" = some (some (.ref fq31)))
    (lq31 : K.lookup fq31 = some ⟨ocq31, odq31, .func (PySem.W.fnOf "_law_row" "_law_row" (defArgs st__law_row) (defBody st__law_row) (defScope st__law_row) .none kVq31 dcq31 pmq31 anq31 cdq31 ctq31), slq31⟩)
    (cq31 : PySem.W.codeIn K cdq31 "_law_row" = true)
    (kq31 : PySem.W.keepIn K (.ref fq31) = true)
    (aq32 : PySem.W.nsIn K mainGlobals "_law_downs" = some (some (.ref fq32)))
    (lq32 : K.lookup fq32 = some ⟨ocq32, odq32, .func (PySem.W.fnOf "_law_downs" "_law_downs" (defArgs st__law_downs) (defBody st__law_downs) (defScope st__law_downs) .none kVq32 dcq32 pmq32 anq32 cdq32 ctq32), slq32⟩)
    (cq32 : PySem.W.codeIn K cdq32 "_law_downs" = true)
    (kq32 : PySem.W.keepIn K (.ref fq32) = true)
    (aq33 : PySem.W.nsIn K mainGlobals "_law_send" = some (some (.ref fq33)))
    (lq33 : K.lookup fq33 = some ⟨ocq33, odq33, .func (PySem.W.fnOf "_law_send" "_law_send" (defArgs st__law_send) (defBody st__law_send) (defScope st__law_send) .none kVq33 dcq33 pmq33 anq33 cdq33 ctq33), slq33⟩)
    (cq33 : PySem.W.codeIn K cdq33 "_law_send" = true)
    (kq33 : PySem.W.keepIn K (.ref fq33) = true)
    (aq34 : PySem.W.nsIn K mainGlobals "_law_play" = some (some (.ref fq34)))
    (lq34 : K.lookup fq34 = some ⟨ocq34, odq34, .func (PySem.W.fnOf "_law_play" "_law_play" (defArgs st__law_play) (defBody st__law_play) (defScope st__law_play) .none kVq34 dcq34 pmq34 anq34 cdq34 ctq34), slq34⟩)
    (cq34 : PySem.W.codeIn K cdq34 "_law_play" = true)
    (kq34 : PySem.W.keepIn K (.ref fq34) = true)
    (aq35 : PySem.W.nsIn K mainGlobals "_law_runs" = some (some (.ref fq35)))
    (lq35 : K.lookup fq35 = some ⟨ocq35, odq35, .func (PySem.W.fnOf "_law_runs" "_law_runs" (defArgs st__law_runs) (defBody st__law_runs) (defScope st__law_runs) .none kVq35 dcq35 pmq35 anq35 cdq35 ctq35), slq35⟩)
    (cq35 : PySem.W.codeIn K cdq35 "_law_runs" = true)
    (kq35 : PySem.W.keepIn K (.ref fq35) = true)
    (aq36 : PySem.W.nsIn K mainGlobals "_law_until" = some (some (.ref fq36)))
    (lq36 : K.lookup fq36 = some ⟨ocq36, odq36, .func (PySem.W.fnOf "_law_until" "_law_until" (defArgs st__law_until) (defBody st__law_until) (defScope st__law_until) .none kVq36 dcq36 pmq36 anq36 cdq36 ctq36), slq36⟩)
    (cq36 : PySem.W.codeIn K cdq36 "_law_until" = true)
    (kq36 : PySem.W.keepIn K (.ref fq36) = true)
    (aq37 : PySem.W.nsIn K mainGlobals "_law_made" = some (some (.ref fq37)))
    (lq37 : K.lookup fq37 = some ⟨ocq37, odq37, .func (PySem.W.fnOf "_law_made" "_law_made" (defArgs st__law_made) (defBody st__law_made) (defScope st__law_made) .none kVq37 dcq37 pmq37 anq37 cdq37 ctq37), slq37⟩)
    (cq37 : PySem.W.codeIn K cdq37 "_law_made" = true)
    (kq37 : PySem.W.keepIn K (.ref fq37) = true)
    (aq38 : PySem.W.nsIn K mainGlobals "_law_due" = some (some (.ref fq38)))
    (lq38 : K.lookup fq38 = some ⟨ocq38, odq38, .func (PySem.W.fnOf "_law_due" "_law_due" (defArgs st__law_due) (defBody st__law_due) (defScope st__law_due) .none kVq38 dcq38 pmq38 anq38 cdq38 ctq38), slq38⟩)
    (cq38 : PySem.W.codeIn K cdq38 "_law_due" = true)
    (kq38 : PySem.W.keepIn K (.ref fq38) = true)
    (aq39 : PySem.W.nsIn K mainGlobals "_law_right" = some (some (.ref fq39)))
    (lq39 : K.lookup fq39 = some ⟨ocq39, odq39, .func (PySem.W.fnOf "_law_right" "_law_right" (defArgs st__law_right) (defBody st__law_right) (defScope st__law_right) .none kVq39 dcq39 pmq39 anq39 cdq39 ctq39), slq39⟩)
    (cq39 : PySem.W.codeIn K cdq39 "_law_right" = true)
    (kq39 : PySem.W.keepIn K (.ref fq39) = true)
    (gcRow : PySem.W.nsIn K mainGlobals "Row" = some (some (.ref CRow)))
    (gRow0 : PySem.W.plainGet K CRow Str.empty = true)
    (gRow1 : PySem.W.hasDictIn K CRow = true)
    (gRow2 : PySem.W.plainOver K CRow = true)
    (gRow3 : PySem.W.findIn K (.ref CRow) "__setattr__" = some (some (.builtin "object.__setattr__")))
    (gRow4 : PySem.W.makesIn K CRow = true)
    (gRow5 : PySem.W.keepIn K (.ref CRow) = true)
    (gRow6 : PySem.W.isClsIn K CRow = true)
    (gRow7 : PySem.W.typeIn K (.ref CRow) = some (.type "type"))
    (gRow8 : PySem.W.findIn K (.ref CRow) "__class__" = some (some (.builtin "object.__class__")))
    (gRow9 : PySem.W.mroIn K CRow (.type "object") = some true)
    (gRow10 : PySem.W.selfFirst K CRow = true)
    (gRow11 : PySem.W.findIn K (.ref CRow) "__ne__" = some (some (.builtin "object.__ne__")))
    (gO1 : PySem.W.specialIn K (.builtin "object.__class__") "__get__" = some (some (.builtin "getset_descriptor.__get__")))
    (gO2 : PySem.W.takesIn K (.builtin "object.__class__") = some true)
    (nfRow_breakers : PySem.W.findIn K (.ref CRow) "breakers" = some none)
    (nfRow_step : PySem.W.findIn K (.ref CRow) "step" = some none)
    (nfRow_phase : PySem.W.findIn K (.ref CRow) "phase" = some none)
    (aNRow : PySem.W.findIn K (.ref CRow) "__init__" = some (some (.ref aIRow)))
    (iNRow : PySem.W.isFn K (.ref aIRow) = true)
    (lNRow : K.lookup aIRow = some ⟨ocNRow, odNRow, .func (PySem.W.fnOf "__init__" "Row.__init__" (defArgs st_Row_init) (defBody st_Row_init) (defScope st_Row_init) .none (.ref aDRow) dcNRow pmNRow anNRow cdNRow ctNRow), slNRow⟩)
    (cNRow : PySem.W.codeIn K cdNRow "Row.__init__" = true)
    (kNRow : PySem.W.keepIn K (.ref aIRow) = true)
    (dRow : PySem.W.nsIn K aDRow "phase" = some (some (.int 0 tkRow)))
    (aq40 : PySem.W.findIn K (.ref CRow) "breaker_list" = some (some (.ref fq40)))
    (iq40 : PySem.W.isFn K (.ref fq40) = true)
    (nq40 : PySem.W.fnIn K fq40 = true)
    (lq40 : K.lookup fq40 = some ⟨ocq40, odq40, .func (PySem.W.fnOf "breaker_list" "Row.breaker_list" (defArgs st_Row_breaker_list) (defBody st_Row_breaker_list) (defScope st_Row_breaker_list) .none kVq40 dcq40 pmq40 anq40 cdq40 ctq40), slq40⟩)
    (cq40 : PySem.W.codeIn K cdq40 "Row.breaker_list" = true)
    (kq40 : PySem.W.keepIn K (.ref fq40) = true)
    (aq41 : PySem.W.findIn K (.ref CRow) "step_length" = some (some (.ref fq41)))
    (iq41 : PySem.W.isFn K (.ref fq41) = true)
    (nq41 : PySem.W.fnIn K fq41 = true)
    (lq41 : K.lookup fq41 = some ⟨ocq41, odq41, .func (PySem.W.fnOf "step_length" "Row.step_length" (defArgs st_Row_step_length) (defBody st_Row_step_length) (defScope st_Row_step_length) .none kVq41 dcq41 pmq41 anq41 cdq41 ctq41), slq41⟩)
    (cq41 : PySem.W.codeIn K cdq41 "Row.step_length" = true)
    (kq41 : PySem.W.keepIn K (.ref fq41) = true)
    (aq42 : PySem.W.findIn K (.ref CRow) "phase_time" = some (some (.ref fq42)))
    (iq42 : PySem.W.isFn K (.ref fq42) = true)
    (nq42 : PySem.W.fnIn K fq42 = true)
    (lq42 : K.lookup fq42 = some ⟨ocq42, odq42, .func (PySem.W.fnOf "phase_time" "Row.phase_time" (defArgs st_Row_phase_time) (defBody st_Row_phase_time) (defScope st_Row_phase_time) .none kVq42 dcq42 pmq42 anq42 cdq42 ctq42), slq42⟩)
    (cq42 : PySem.W.codeIn K cdq42 "Row.phase_time" = true)
    (kq42 : PySem.W.keepIn K (.ref fq42) = true)
    (aq43 : PySem.W.findIn K (.ref CRow) "__len__" = some (some (.ref fq43)))
    (iq43 : PySem.W.isFn K (.ref fq43) = true)
    (nq43 : PySem.W.fnIn K fq43 = true)
    (lq43 : K.lookup fq43 = some ⟨ocq43, odq43, .func (PySem.W.fnOf "__len__" "Row.__len__" (defArgs st_Row_len) (defBody st_Row_len) (defScope st_Row_len) .none kVq43 dcq43 pmq43 anq43 cdq43 ctq43), slq43⟩)
    (cq43 : PySem.W.codeIn K cdq43 "Row.__len__" = true)
    (kq43 : PySem.W.keepIn K (.ref fq43) = true)
    (aq44 : PySem.W.findIn K (.ref CRow) "__getitem__" = some (some (.ref fq44)))
    (iq44 : PySem.W.isFn K (.ref fq44) = true)
    (nq44 : PySem.W.fnIn K fq44 = true)
    (lq44 : K.lookup fq44 = some ⟨ocq44, odq44, .func (PySem.W.fnOf "__getitem__" "Row.__getitem__" (defArgs st_Row_getitem) (defBody st_Row_getitem) (defScope st_Row_getitem) .none kVq44 dcq44 pmq44 anq44 cdq44 ctq44), slq44⟩)
    (cq44 : PySem.W.codeIn K cdq44 "Row.__getitem__" = true)
    (kq44 : PySem.W.keepIn K (.ref fq44) = true)
    (aq45 : PySem.W.findIn K (.ref CRow) "__contains__" = some (some (.ref fq45)))
    (iq45 : PySem.W.isFn K (.ref fq45) = true)
    (nq45 : PySem.W.fnIn K fq45 = true)
    (lq45 : K.lookup fq45 = some ⟨ocq45, odq45, .func (PySem.W.fnOf "__contains__" "Row.__contains__" (defArgs st_Row_contains) (defBody st_Row_contains) (defScope st_Row_contains) .none kVq45 dcq45 pmq45 anq45 cdq45 ctq45), slq45⟩)
    (cq45 : PySem.W.codeIn K cdq45 "Row.__contains__" = true)
    (kq45 : PySem.W.keepIn K (.ref fq45) = true)
    (aq46 : PySem.W.findIn K (.ref CRow) "__add__" = some (some (.ref fq46)))
    (iq46 : PySem.W.isFn K (.ref fq46) = true)
    (nq46 : PySem.W.fnIn K fq46 = true)
    (lq46 : K.lookup fq46 = some ⟨ocq46, odq46, .func (PySem.W.fnOf "__add__" "Row.__add__" (defArgs st_Row_add) (defBody st_Row_add) (defScope st_Row_add) .none kVq46 dcq46 pmq46 anq46 cdq46 ctq46), slq46⟩)
    (cq46 : PySem.W.codeIn K cdq46 "Row.__add__" = true)
    (kq46 : PySem.W.keepIn K (.ref fq46) = true)
    (aq47 : PySem.W.findIn K (.ref CRow) "__eq__" = some (some (.ref fq47)))
    (iq47 : PySem.W.isFn K (.ref fq47) = true)
    (nq47 : PySem.W.fnIn K fq47 = true)
    (lq47 : K.lookup fq47 = some ⟨ocq47, odq47, .func (PySem.W.fnOf "__eq__" "Row.__eq__" (defArgs st_Row_eq) (defBody st_Row_eq) (defScope st_Row_eq) .none kVq47 dcq47 pmq47 anq47 cdq47 ctq47), slq47⟩)
    (cq47 : PySem.W.codeIn K cdq47 "Row.__eq__" = true)
    (kq47 : PySem.W.keepIn K (.ref fq47) = true)
    (gcSpell : PySem.W.nsIn K mainGlobals "Spell" = some (some (.ref CSpell)))
    (gSpell0 : PySem.W.plainGet K CSpell Str.empty = true)
    (gSpell1 : PySem.W.hasDictIn K CSpell = true)
    (gSpell2 : PySem.W.plainOver K CSpell = true)
    (gSpell3 : PySem.W.findIn K (.ref CSpell) "__setattr__" = some (some (.builtin "object.__setattr__")))
    (gSpell4 : PySem.W.makesIn K CSpell = true)
    (gSpell5 : PySem.W.keepIn K (.ref CSpell) = true)
    (gSpell6 : PySem.W.isClsIn K CSpell = true)
    (gSpell7 : PySem.W.typeIn K (.ref CSpell) = some (.type "type"))
    (gSpell8 : PySem.W.findIn K (.ref CSpell) "__class__" = some (some (.builtin "object.__class__")))
    (gSpell9 : PySem.W.mroIn K CSpell (.type "object") = some true)
    (gSpell10 : PySem.W.selfFirst K CSpell = true)
    (gSpell11 : PySem.W.findIn K (.ref CSpell) "__ne__" = some (some (.builtin "object.__ne__")))
    (nfSpell_first : PySem.W.findIn K (.ref CSpell) "first" = some none)
    (nfSpell_recovered : PySem.W.findIn K (.ref CSpell) "recovered" = some none)
    (nfSpell_begun : PySem.W.findIn K (.ref CSpell) "begun" = some none)
    (nfSpell_runs : PySem.W.findIn K (.ref CSpell) "runs" = some none)
    (nfSpell_opened : PySem.W.findIn K (.ref CSpell) "opened" = some none)
    (aNSpell : PySem.W.findIn K (.ref CSpell) "__init__" = some (some (.ref aISpell)))
    (iNSpell : PySem.W.isFn K (.ref aISpell) = true)
    (lNSpell : K.lookup aISpell = some ⟨ocNSpell, odNSpell, .func (PySem.W.fnOf "__init__" "Spell.__init__" (defArgs st_Spell_init) (defBody st_Spell_init) (defScope st_Spell_init) .none kVNSpell dcNSpell pmNSpell anNSpell cdNSpell ctNSpell), slNSpell⟩)
    (cNSpell : PySem.W.codeIn K cdNSpell "Spell.__init__" = true)
    (kNSpell : PySem.W.keepIn K (.ref aISpell) = true)
    (gcTimeline : PySem.W.nsIn K mainGlobals "Timeline" = some (some (.ref CTimeline)))
    (gTimeline0 : PySem.W.plainGet K CTimeline Str.empty = true)
    (gTimeline1 : PySem.W.hasDictIn K CTimeline = true)
    (gTimeline2 : PySem.W.plainOver K CTimeline = true)
    (gTimeline3 : PySem.W.findIn K (.ref CTimeline) "__setattr__" = some (some (.builtin "object.__setattr__")))
    (gTimeline4 : PySem.W.makesIn K CTimeline = true)
    (gTimeline5 : PySem.W.keepIn K (.ref CTimeline) = true)
    (gTimeline6 : PySem.W.isClsIn K CTimeline = true)
    (gTimeline7 : PySem.W.typeIn K (.ref CTimeline) = some (.type "type"))
    (gTimeline8 : PySem.W.findIn K (.ref CTimeline) "__class__" = some (some (.builtin "object.__class__")))
    (gTimeline9 : PySem.W.mroIn K CTimeline (.type "object") = some true)
    (gTimeline10 : PySem.W.selfFirst K CTimeline = true)
    (gTimeline11 : PySem.W.findIn K (.ref CTimeline) "__ne__" = some (some (.builtin "object.__ne__")))
    (nfTimeline_row : PySem.W.findIn K (.ref CTimeline) "row" = some none)
    (nfTimeline_outages : PySem.W.findIn K (.ref CTimeline) "outages" = some none)
    (nfTimeline_spells : PySem.W.findIn K (.ref CTimeline) "spells" = some none)
    (nfTimeline_firsts : PySem.W.findIn K (.ref CTimeline) "firsts" = some none)
    (nfTimeline_marks : PySem.W.findIn K (.ref CTimeline) "marks" = some none)
    (aNTimeline : PySem.W.findIn K (.ref CTimeline) "__init__" = some (some (.ref aITimeline)))
    (iNTimeline : PySem.W.isFn K (.ref aITimeline) = true)
    (lNTimeline : K.lookup aITimeline = some ⟨ocNTimeline, odNTimeline, .func (PySem.W.fnOf "__init__" "Timeline.__init__" (defArgs st_Timeline_init) (defBody st_Timeline_init) (defScope st_Timeline_init) .none kVNTimeline dcNTimeline pmNTimeline anNTimeline cdNTimeline ctNTimeline), slNTimeline⟩)
    (cNTimeline : PySem.W.codeIn K cdNTimeline "Timeline.__init__" = true)
    (kNTimeline : PySem.W.keepIn K (.ref aITimeline) = true)
    (aq48 : PySem.W.findIn K (.ref CTimeline) "base_row" = some (some (.ref fq48)))
    (iq48 : PySem.W.isFn K (.ref fq48) = true)
    (nq48 : PySem.W.fnIn K fq48 = true)
    (lq48 : K.lookup fq48 = some ⟨ocq48, odq48, .func (PySem.W.fnOf "base_row" "Timeline.base_row" (defArgs st_Timeline_base_row) (defBody st_Timeline_base_row) (defScope st_Timeline_base_row) .none kVq48 dcq48 pmq48 anq48 cdq48 ctq48), slq48⟩)
    (cq48 : PySem.W.codeIn K cdq48 "Timeline.base_row" = true)
    (kq48 : PySem.W.keepIn K (.ref fq48) = true)
    (aq49 : PySem.W.findIn K (.ref CTimeline) "outage_list" = some (some (.ref fq49)))
    (iq49 : PySem.W.isFn K (.ref fq49) = true)
    (nq49 : PySem.W.fnIn K fq49 = true)
    (lq49 : K.lookup fq49 = some ⟨ocq49, odq49, .func (PySem.W.fnOf "outage_list" "Timeline.outage_list" (defArgs st_Timeline_outage_list) (defBody st_Timeline_outage_list) (defScope st_Timeline_outage_list) .none kVq49 dcq49 pmq49 anq49 cdq49 ctq49), slq49⟩)
    (cq49 : PySem.W.codeIn K cdq49 "Timeline.outage_list" = true)
    (kq49 : PySem.W.keepIn K (.ref fq49) = true)
    (aq50 : PySem.W.findIn K (.ref CTimeline) "__len__" = some (some (.ref fq50)))
    (iq50 : PySem.W.isFn K (.ref fq50) = true)
    (nq50 : PySem.W.fnIn K fq50 = true)
    (lq50 : K.lookup fq50 = some ⟨ocq50, odq50, .func (PySem.W.fnOf "__len__" "Timeline.__len__" (defArgs st_Timeline_len) (defBody st_Timeline_len) (defScope st_Timeline_len) .none kVq50 dcq50 pmq50 anq50 cdq50 ctq50), slq50⟩)
    (cq50 : PySem.W.codeIn K cdq50 "Timeline.__len__" = true)
    (kq50 : PySem.W.keepIn K (.ref fq50) = true)
    (aq51 : PySem.W.findIn K (.ref CTimeline) "__getitem__" = some (some (.ref fq51)))
    (iq51 : PySem.W.isFn K (.ref fq51) = true)
    (nq51 : PySem.W.fnIn K fq51 = true)
    (lq51 : K.lookup fq51 = some ⟨ocq51, odq51, .func (PySem.W.fnOf "__getitem__" "Timeline.__getitem__" (defArgs st_Timeline_getitem) (defBody st_Timeline_getitem) (defScope st_Timeline_getitem) .none kVq51 dcq51 pmq51 anq51 cdq51 ctq51), slq51⟩)
    (cq51 : PySem.W.codeIn K cdq51 "Timeline.__getitem__" = true)
    (kq51 : PySem.W.keepIn K (.ref fq51) = true)
    (aq52 : PySem.W.findIn K (.ref CTimeline) "__eq__" = some (some (.ref fq52)))
    (iq52 : PySem.W.isFn K (.ref fq52) = true)
    (nq52 : PySem.W.fnIn K fq52 = true)
    (lq52 : K.lookup fq52 = some ⟨ocq52, odq52, .func (PySem.W.fnOf "__eq__" "Timeline.__eq__" (defArgs st_Timeline_eq) (defBody st_Timeline_eq) (defScope st_Timeline_eq) .none kVq52 dcq52 pmq52 anq52 cdq52 ctq52), slq52⟩)
    (cq52 : PySem.W.codeIn K cdq52 "Timeline.__eq__" = true)
    (kq52 : PySem.W.keepIn K (.ref fq52) = true)
    (moRow_Spell : PySem.W.mroIn K CRow (.ref CSpell) = some false)
    (moRow_Timeline : PySem.W.mroIn K CRow (.ref CTimeline) = some false)
    (moSpell_Row : PySem.W.mroIn K CSpell (.ref CRow) = some false)
    (moSpell_Timeline : PySem.W.mroIn K CSpell (.ref CTimeline) = some false)
    (moTimeline_Row : PySem.W.mroIn K CTimeline (.ref CRow) = some false)
    (moTimeline_Spell : PySem.W.mroIn K CTimeline (.ref CSpell) = some false)
    (gNMOST_BREAKERS : PySem.W.nsIn K mainGlobals "MOST_BREAKERS" = some (some (.int 12 tNMOST_BREAKERS)))
    (gNMOST_OUTAGES : PySem.W.nsIn K mainGlobals "MOST_OUTAGES" = some (some (.int 50 tNMOST_OUTAGES)))
    (aY : PySem.W.nsIn K mainGlobals "law" = some (some (.ref aLaw)))
    (lY : K.lookup aLaw = some ⟨ocY, odY, .func (PySem.W.fnOf "law" "law" (defArgs st_law) (defBody st_law) (defScope st_law) .none kVY dcY pmY anY cdY ctY), slY⟩)
    (cY : PySem.W.codeIn K cdY "law" = true)
    (kY : PySem.W.keepIn K (.ref aLaw) = true)
    (z_bool : PySem.W.nsIn K mainGlobals "bool" = some none)
    (z_enumerate : PySem.W.nsIn K mainGlobals "enumerate" = some none)
    (z_int : PySem.W.nsIn K mainGlobals "int" = some none)
    (z_isinstance : PySem.W.nsIn K mainGlobals "isinstance" = some none)
    (z_len : PySem.W.nsIn K mainGlobals "len" = some none)
    (z_list : PySem.W.nsIn K mainGlobals "list" = some none)
    (z_max : PySem.W.nsIn K mainGlobals "max" = some none)
    (z_min : PySem.W.nsIn K mainGlobals "min" = some none)
    (z_range : PySem.W.nsIn K mainGlobals "range" = some none)
    (z_tuple : PySem.W.nsIn K mainGlobals "tuple" = some none)
    (z_zip : PySem.W.nsIn K mainGlobals "zip" = some none) :
    ∃ fd : FuncData, (∀ (s : Shared) (v : Value), BindsTo s fd ⟨[v], []⟩ [("_law_script", v)]) ∧ ∀ base : Heap, K.In base → base.Ns mainGlobals mg → FnOk P w K mg base CX0 12 fa fd ["_law_script"] (spLaw K) := by
  have e := hfa.symm.trans (PySem.W.mg_of X G aY)
  cases e
  obtain ⟨vMOST_COUNT, hvMOST_COUNT, rMOST_COUNT⟩ := LL.val _ hLMOST_COUNT
  obtain ⟨tMOST_COUNT, rfl, -⟩ := PySem.W.readsW_int_inv rMOST_COUNT
  obtain ⟨vMOST_TIME, hvMOST_TIME, rMOST_TIME⟩ := LL.val _ hLMOST_TIME
  obtain ⟨tMOST_TIME, rfl, -⟩ := PySem.W.readsW_int_inv rMOST_TIME
  have T : LX K mg ⟨fq0, fq1, fq2, fq3, fq4, fq5, fq6, fq7, fq8, fq9, fq10, fq11, fq12, fq13, fq14, fq15, fq16, fq17, fq18, fq19, fq20, fq21, fq22, fq23, fq24, fq25, fq26, fq27, fq28, fq29, fq30, fq31, fq32, fq33, fq34, fq35, fq36, fq37, fq38, fq39, CRow, aIRow, fq40, fq41, fq42, fq43, fq44, fq45, fq46, fq47, CSpell, aISpell, CTimeline, aITimeline, fq48, fq49, fq50, fq51, fq52⟩ := ⟨PySem.W.mg_none_of X G z_bool,
    PySem.W.mg_none_of X G z_enumerate,
    PySem.W.mg_none_of X G z_int,
    PySem.W.mg_none_of X G z_isinstance,
    PySem.W.mg_none_of X G z_len,
    PySem.W.mg_none_of X G z_list,
    PySem.W.mg_none_of X G z_max,
    PySem.W.mg_none_of X G z_min,
    PySem.W.mg_none_of X G z_range,
    PySem.W.mg_none_of X G z_tuple,
    PySem.W.mg_none_of X G z_zip,
    ⟨_, PySem.W.mg_of X G gNMOST_BREAKERS⟩,
    ⟨_, hvMOST_COUNT⟩,
    ⟨_, hvMOST_TIME⟩,
    ⟨_, PySem.W.mg_of X G gNMOST_OUTAGES⟩,
    mk_dfn X G aq0 lq0 cq0 kq0 bn_q0,
    mk_dfn X G aq1 lq1 cq1 kq1 bn_q1,
    mk_dfn X G aq2 lq2 cq2 kq2 bn_q2,
    mk_dfn X G aq3 lq3 cq3 kq3 bn_q3,
    mk_dfn X G aq4 lq4 cq4 kq4 bn_q4,
    mk_dfn X G aq5 lq5 cq5 kq5 bn_q5,
    mk_dfn X G aq6 lq6 cq6 kq6 bn_q6,
    mk_dfn X G aq7 lq7 cq7 kq7 bn_q7,
    mk_dfn X G aq8 lq8 cq8 kq8 bn_q8,
    mk_dfn X G aq9 lq9 cq9 kq9 bn_q9,
    mk_dfn X G aq10 lq10 cq10 kq10 bn_q10,
    mk_dfn X G aq11 lq11 cq11 kq11 bn_q11,
    mk_dfn X G aq12 lq12 cq12 kq12 bn_q12,
    mk_dfn X G aq13 lq13 cq13 kq13 bn_q13,
    mk_dfn X G aq14 lq14 cq14 kq14 bn_q14,
    mk_dfn X G aq15 lq15 cq15 kq15 bn_q15,
    mk_dfn X G aq16 lq16 cq16 kq16 bn_q16,
    mk_dfn X G aq17 lq17 cq17 kq17 bn_q17,
    mk_dfn X G aq18 lq18 cq18 kq18 bn_q18,
    mk_dfn X G aq19 lq19 cq19 kq19 bn_q19,
    mk_dfn X G aq20 lq20 cq20 kq20 bn_q20,
    mk_dfn X G aq21 lq21 cq21 kq21 bn_q21,
    mk_dfn X G aq22 lq22 cq22 kq22 bn_q22,
    mk_dfn X G aq23 lq23 cq23 kq23 bn_q23,
    mk_dfn X G aq24 lq24 cq24 kq24 bn_q24,
    mk_dfn X G aq25 lq25 cq25 kq25 bn_q25,
    mk_dfn X G aq26 lq26 cq26 kq26 bn_q26,
    mk_dfn X G aq27 lq27 cq27 kq27 bn_q27,
    mk_dfn X G aq28 lq28 cq28 kq28 bn_q28,
    mk_dfn X G aq29 lq29 cq29 kq29 bn_q29,
    mk_dfn X G aq30 lq30 cq30 kq30 bn_q30,
    mk_dfn X G aq31 lq31 cq31 kq31 bn_q31,
    mk_dfn X G aq32 lq32 cq32 kq32 bn_q32,
    mk_dfn X G aq33 lq33 cq33 kq33 bn_q33,
    mk_dfn X G aq34 lq34 cq34 kq34 bn_q34,
    mk_dfn X G aq35 lq35 cq35 kq35 bn_q35,
    mk_dfn X G aq36 lq36 cq36 kq36 bn_q36,
    mk_dfn X G aq37 lq37 cq37 kq37 bn_q37,
    mk_dfn X G aq38 lq38 cq38 kq38 bn_q38,
    mk_dfn X G aq39 lq39 cq39 kq39 bn_q39,
    PySem.W.mg_of X G gcRow,
    ⟨⟨gRow0, gRow1, gRow2, gRow3⟩, gRow6, gRow7, gRow8, gO1, gO2, gRow9, gRow10, gRow11⟩,
    ⟨gRow4, aNRow, iNRow, gRow5⟩,
    nfRow_breakers,
    nfRow_step,
    nfRow_phase,
    ⟨_, ⟨⟨ocNRow, odNRow, .none, .ref aDRow, dcNRow, pmNRow, anNRow, cdNRow, ctNRow, slNRow, rfl, lNRow, cNRow, .inl ⟨rfl, rfl⟩, .inr ⟨aDRow, rfl, fun q hq => by rw [List.mem_singleton.mp hq]; exact ⟨_, dRow, _, rfl⟩⟩⟩, kNRow⟩⟩,
    mk_mth aq40 iq40 nq40 lq40 cq40 kq40 bn_q40,
    mk_mth aq41 iq41 nq41 lq41 cq41 kq41 bn_q41,
    mk_mth aq42 iq42 nq42 lq42 cq42 kq42 bn_q42,
    mk_mth aq43 iq43 nq43 lq43 cq43 kq43 bn_q43,
    mk_mth aq44 iq44 nq44 lq44 cq44 kq44 bn_q44,
    mk_mth aq45 iq45 nq45 lq45 cq45 kq45 bn_q45,
    mk_mth aq46 iq46 nq46 lq46 cq46 kq46 bn_q46,
    mk_mth aq47 iq47 nq47 lq47 cq47 kq47 bn_q47,
    PySem.W.mg_of X G gcSpell,
    ⟨⟨gSpell0, gSpell1, gSpell2, gSpell3⟩, gSpell6, gSpell7, gSpell8, gO1, gO2, gSpell9, gSpell10, gSpell11⟩,
    ⟨gSpell4, aNSpell, iNSpell, gSpell5⟩,
    nfSpell_first,
    nfSpell_recovered,
    nfSpell_begun,
    nfSpell_runs,
    nfSpell_opened,
    ⟨_, fun_mk lNSpell cNSpell kNSpell, (fun_mk lNSpell cNSpell kNSpell).binds bn_NSpell⟩,
    PySem.W.mg_of X G gcTimeline,
    ⟨⟨gTimeline0, gTimeline1, gTimeline2, gTimeline3⟩, gTimeline6, gTimeline7, gTimeline8, gO1, gO2, gTimeline9, gTimeline10, gTimeline11⟩,
    ⟨gTimeline4, aNTimeline, iNTimeline, gTimeline5⟩,
    nfTimeline_row,
    nfTimeline_outages,
    nfTimeline_spells,
    nfTimeline_firsts,
    nfTimeline_marks,
    ⟨_, fun_mk lNTimeline cNTimeline kNTimeline, (fun_mk lNTimeline cNTimeline kNTimeline).binds bn_NTimeline⟩,
    mk_mth aq48 iq48 nq48 lq48 cq48 kq48 bn_q48,
    mk_mth aq49 iq49 nq49 lq49 cq49 kq49 bn_q49,
    mk_mth aq50 iq50 nq50 lq50 cq50 kq50 bn_q50,
    mk_mth aq51 iq51 nq51 lq51 cq51 kq51 bn_q51,
    mk_mth aq52 iq52 nq52 lq52 cq52 kq52 bn_q52,
    moRow_Spell,
    moRow_Timeline,
    moSpell_Row,
    moSpell_Timeline,
    moTimeline_Row,
    moTimeline_Spell⟩
  exact ⟨_, fun s v => .of_eq rfl, fun base _ _ => ok_law (fun_mk lY cY kY) T⟩
/-- as the hand layer's end, with what the loose names hold -/
theorem walk_loose {l : PySem.W.OpenLaw} {q p : Program} {lv : List (Str × PySem.W.WData)} {loose : List Str} {YP : World → Heap → Prop} {d : DefRec} {K : Params → PySem.W.Frag} (hn : l.most = some 63) (hd : d.params.defaults = []) (hY : ∀ (w : World) (h : Heap), YP w h → (K w.params).In h)
    (F : ∀ (w : World) (mg : Str → Option Value) (fa : Addr) (h : Heap), (K w.params).In h → h.Ns mainGlobals mg → PySem.W.LooseAre lv mg h → mg d.name = some (.ref fa) → ∃ fd : FuncData, (∀ (s : Shared) (u : Value), BindsTo s fd ⟨[u], []⟩ [("_law_script", u)]) ∧ ∀ base : Heap, (K w.params).In base → base.Ns mainGlobals mg → FnOk l.prog w (K w.params) mg base CX0 12 fa fd ["_law_script"] (spLaw (K w.params))) :
    PySem.W.WalkO q loose (PySem.W.XL p lv) YP l.row.toRowW d [] (fun f vs => PySem.call f vs) := Att.attach_call hn hd fun w _ s₁ mg mb fa _ _ _ _ a vs ns G Y _ _ _ hmg hobj hints hlen hg => by
  obtain ⟨fd, hb, hF⟩ := F w mg fa s₁.heap (hY w s₁.heap Y) G.T.g G.X.2 hmg
  exact law_call (hY w s₁.heap Y) G.T.g G.T.b G.T.builtins G.T.nolimit hg hobj hints (Nat.le_trans hlen (by decide)) ⟨rfl, by decide, by decide⟩ hF hb (fun H _ hS => ⟨a, ns, rfl, hS, hlen, fun _ => rfl⟩) fun _ _ _ z => z

end Toy
open PySem PySem.W PyProof.Rows
set_option maxRecDepth 100000 in
set_option maxHeartbeats 0 in
theorem PySem.Challenge.cw_breakerrow_k17_spells_of_outages_holds : PySem.Challenge.rw_breakerrow_k17_spells_of_outages.Holds := by
  w_on; o_law; k_head; (case hw => w_witness2)
  k_fill
  refine Toy.walk_loose (l := PySem.Challenge.rw_breakerrow_k17_spells_of_outages) rfl rfl (fun w h Y => PySem.W.kIn_of Y) ?F
  intro w mg fa h KX G LL hmg
  refine' Toy.all_mk KX G LL (by first | exact .head _ | exact .tail _ (.head _) | exact .tail _ (.tail _ (.head _)) | exact .tail _ (.tail _ (.tail _ (.head _))) | exact .tail _ (.tail _ (.tail _ (.tail _ (.head _)))) | exact .tail _ (.tail _ (.tail _ (.tail _ (.tail _ (.head _))))) | exact .tail _ (.tail _ (.tail _ (.tail _ (.tail _ (.tail _ (.head _)))))) | exact .tail _ (.tail _ (.tail _ (.tail _ (.tail _ (.tail _ (.tail _ (.head _))))))) | exact .tail _ (.tail _ (.tail _ (.tail _ (.tail _ (.tail _ (.tail _ (.tail _ (.head _)))))))) | exact .tail _ (.tail _ (.tail _ (.tail _ (.tail _ (.tail _ (.tail _ (.tail _ (.tail _ (.head _)))))))))) (by first | exact .head _ | exact .tail _ (.head _) | exact .tail _ (.tail _ (.head _)) | exact .tail _ (.tail _ (.tail _ (.head _))) | exact .tail _ (.tail _ (.tail _ (.tail _ (.head _)))) | exact .tail _ (.tail _ (.tail _ (.tail _ (.tail _ (.head _))))) | exact .tail _ (.tail _ (.tail _ (.tail _ (.tail _ (.tail _ (.head _)))))) | exact .tail _ (.tail _ (.tail _ (.tail _ (.tail _ (.tail _ (.tail _ (.head _))))))) | exact .tail _ (.tail _ (.tail _ (.tail _ (.tail _ (.tail _ (.tail _ (.tail _ (.head _)))))))) | exact .tail _ (.tail _ (.tail _ (.tail _ (.tail _ (.tail _ (.tail _ (.tail _ (.tail _ (.head _)))))))))) hmg ?aq0 ?lq0 ?cq0 ?kq0 ?aq1 ?lq1 ?cq1 ?kq1 ?aq2 ?lq2 ?cq2 ?kq2 ?aq3 ?lq3 ?cq3 ?kq3 ?aq4 ?lq4 ?cq4 ?kq4 ?aq5 ?lq5 ?cq5 ?kq5 ?aq6 ?lq6 ?cq6 ?kq6 ?aq7 ?lq7 ?cq7 ?kq7 ?aq8 ?lq8 ?cq8 ?kq8 ?aq9 ?lq9 ?cq9 ?kq9 ?aq10 ?lq10 ?cq10 ?kq10 ?aq11 ?lq11 ?cq11 ?kq11 ?aq12 ?lq12 ?cq12 ?kq12 ?aq13 ?lq13 ?cq13 ?kq13 ?aq14 ?lq14 ?cq14 ?kq14 ?aq15 ?lq15 ?cq15 ?kq15 ?aq16 ?lq16 ?cq16 ?kq16 ?aq17 ?lq17 ?cq17 ?kq17 ?aq18 ?lq18 ?cq18 ?kq18 ?aq19 ?lq19 ?cq19 ?kq19 ?aq20 ?lq20 ?cq20 ?kq20 ?aq21 ?lq21 ?cq21 ?kq21 ?aq22 ?lq22 ?cq22 ?kq22 ?aq23 ?lq23 ?cq23 ?kq23 ?aq24 ?lq24 ?cq24 ?kq24 ?aq25 ?lq25 ?cq25 ?kq25 ?aq26 ?lq26 ?cq26 ?kq26 ?aq27 ?lq27 ?cq27 ?kq27 ?aq28 ?lq28 ?cq28 ?kq28 ?aq29 ?lq29 ?cq29 ?kq29 ?aq30 ?lq30 ?cq30 ?kq30 ?aq31 ?lq31 ?cq31 ?kq31 ?aq32 ?lq32 ?cq32 ?kq32 ?aq33 ?lq33 ?cq33 ?kq33 ?aq34 ?lq34 ?cq34 ?kq34 ?aq35 ?lq35 ?cq35 ?kq35 ?aq36 ?lq36 ?cq36 ?kq36 ?aq37 ?lq37 ?cq37 ?kq37 ?aq38 ?lq38 ?cq38 ?kq38 ?aq39 ?lq39 ?cq39 ?kq39 ?gcRow ?gRow0 ?gRow1 ?gRow2 ?gRow3 ?gRow4 ?gRow5 ?gRow6 ?gRow7 ?gRow8 ?gRow9 ?gRow10 ?gRow11 ?gO1 ?gO2 ?nfRow_breakers ?nfRow_step ?nfRow_phase ?aNRow ?iNRow ?lNRow ?cNRow ?kNRow ?dRow ?aq40 ?iq40 ?nq40 ?lq40 ?cq40 ?kq40 ?aq41 ?iq41 ?nq41 ?lq41 ?cq41 ?kq41 ?aq42 ?iq42 ?nq42 ?lq42 ?cq42 ?kq42 ?aq43 ?iq43 ?nq43 ?lq43 ?cq43 ?kq43 ?aq44 ?iq44 ?nq44 ?lq44 ?cq44 ?kq44 ?aq45 ?iq45 ?nq45 ?lq45 ?cq45 ?kq45 ?aq46 ?iq46 ?nq46 ?lq46 ?cq46 ?kq46 ?aq47 ?iq47 ?nq47 ?lq47 ?cq47 ?kq47 ?gcSpell ?gSpell0 ?gSpell1 ?gSpell2 ?gSpell3 ?gSpell4 ?gSpell5 ?gSpell6 ?gSpell7 ?gSpell8 ?gSpell9 ?gSpell10 ?gSpell11 ?nfSpell_first ?nfSpell_recovered ?nfSpell_begun ?nfSpell_runs ?nfSpell_opened ?aNSpell ?iNSpell ?lNSpell ?cNSpell ?kNSpell ?gcTimeline ?gTimeline0 ?gTimeline1 ?gTimeline2 ?gTimeline3 ?gTimeline4 ?gTimeline5 ?gTimeline6 ?gTimeline7 ?gTimeline8 ?gTimeline9 ?gTimeline10 ?gTimeline11 ?nfTimeline_row ?nfTimeline_outages ?nfTimeline_spells ?nfTimeline_firsts ?nfTimeline_marks ?aNTimeline ?iNTimeline ?lNTimeline ?cNTimeline ?kNTimeline ?aq48 ?iq48 ?nq48 ?lq48 ?cq48 ?kq48 ?aq49 ?iq49 ?nq49 ?lq49 ?cq49 ?kq49 ?aq50 ?iq50 ?nq50 ?lq50 ?cq50 ?kq50 ?aq51 ?iq51 ?nq51 ?lq51 ?cq51 ?kq51 ?aq52 ?iq52 ?nq52 ?lq52 ?cq52 ?kq52 ?moRow_Spell ?moRow_Timeline ?moSpell_Row ?moSpell_Timeline ?moTimeline_Row ?moTimeline_Spell ?gNMOST_BREAKERS ?gNMOST_OUTAGES ?aY ?lY ?cY ?kY ?z_bool ?z_enumerate ?z_int ?z_isinstance ?z_len ?z_list ?z_max ?z_min ?z_range ?z_tuple ?z_zip
  (case aq0 => k_is)
  (case lq0 => k_is)
  (case cq0 => k_is)
  (case kq0 => k_is)
  (case aq1 => k_is)
  (case lq1 => k_is)
  (case cq1 => k_is)
  (case kq1 => k_is)
  (case aq2 => k_is)
  (case lq2 => k_is)
  (case cq2 => k_is)
  (case kq2 => k_is)
  (case aq3 => k_is)
  (case lq3 => k_is)
  (case cq3 => k_is)
  (case kq3 => k_is)
  (case aq4 => k_is)
  (case lq4 => k_is)
  (case cq4 => k_is)
  (case kq4 => k_is)
  (case aq5 => k_is)
  (case lq5 => k_is)
  (case cq5 => k_is)
  (case kq5 => k_is)
  (case aq6 => k_is)
  (case lq6 => k_is)
  (case cq6 => k_is)
  (case kq6 => k_is)
  (case aq7 => k_is)
  (case lq7 => k_is)
  (case cq7 => k_is)
  (case kq7 => k_is)
  (case aq8 => k_is)
  (case lq8 => k_is)
  (case cq8 => k_is)
  (case kq8 => k_is)
  (case aq9 => k_is)
  (case lq9 => k_is)
  (case cq9 => k_is)
  (case kq9 => k_is)
  (case aq10 => k_is)
  (case lq10 => k_is)
  (case cq10 => k_is)
  (case kq10 => k_is)
  (case aq11 => k_is)
  (case lq11 => k_is)
  (case cq11 => k_is)
  (case kq11 => k_is)
  (case aq12 => k_is)
  (case lq12 => k_is)
  (case cq12 => k_is)
  (case kq12 => k_is)
  (case aq13 => k_is)
  (case lq13 => k_is)
  (case cq13 => k_is)
  (case kq13 => k_is)
  (case aq14 => k_is)
  (case lq14 => k_is)
  (case cq14 => k_is)
  (case kq14 => k_is)
  (case aq15 => k_is)
  (case lq15 => k_is)
  (case cq15 => k_is)
  (case kq15 => k_is)
  (case aq16 => k_is)
  (case lq16 => k_is)
  (case cq16 => k_is)
  (case kq16 => k_is)
  (case aq17 => k_is)
  (case lq17 => k_is)
  (case cq17 => k_is)
  (case kq17 => k_is)
  (case aq18 => k_is)
  (case lq18 => k_is)
  (case cq18 => k_is)
  (case kq18 => k_is)
  (case aq19 => k_is)
  (case lq19 => k_is)
  (case cq19 => k_is)
  (case kq19 => k_is)
  (case aq20 => k_is)
  (case lq20 => k_is)
  (case cq20 => k_is)
  (case kq20 => k_is)
  (case aq21 => k_is)
  (case lq21 => k_is)
  (case cq21 => k_is)
  (case kq21 => k_is)
  (case aq22 => k_is)
  (case lq22 => k_is)
  (case cq22 => k_is)
  (case kq22 => k_is)
  (case aq23 => k_is)
  (case lq23 => k_is)
  (case cq23 => k_is)
  (case kq23 => k_is)
  (case aq24 => k_is)
  (case lq24 => k_is)
  (case cq24 => k_is)
  (case kq24 => k_is)
  (case aq25 => k_is)
  (case lq25 => k_is)
  (case cq25 => k_is)
  (case kq25 => k_is)
  (case aq26 => k_is)
  (case lq26 => k_is)
  (case cq26 => k_is)
  (case kq26 => k_is)
  (case aq27 => k_is)
  (case lq27 => k_is)
  (case cq27 => k_is)
  (case kq27 => k_is)
  (case aq28 => k_is)
  (case lq28 => k_is)
  (case cq28 => k_is)
  (case kq28 => k_is)
  (case aq29 => k_is)
  (case lq29 => k_is)
  (case cq29 => k_is)
  (case kq29 => k_is)
  (case aq30 => k_is)
  (case lq30 => k_is)
  (case cq30 => k_is)
  (case kq30 => k_is)
  (case aq31 => k_is)
  (case lq31 => k_is)
  (case cq31 => k_is)
  (case kq31 => k_is)
  (case aq32 => k_is)
  (case lq32 => k_is)
  (case cq32 => k_is)
  (case kq32 => k_is)
  (case aq33 => k_is)
  (case lq33 => k_is)
  (case cq33 => k_is)
  (case kq33 => k_is)
  (case aq34 => k_is)
  (case lq34 => k_is)
  (case cq34 => k_is)
  (case kq34 => k_is)
  (case aq35 => k_is)
  (case lq35 => k_is)
  (case cq35 => k_is)
  (case kq35 => k_is)
  (case aq36 => k_is)
  (case lq36 => k_is)
  (case cq36 => k_is)
  (case kq36 => k_is)
  (case aq37 => k_is)
  (case lq37 => k_is)
  (case cq37 => k_is)
  (case kq37 => k_is)
  (case aq38 => k_is)
  (case lq38 => k_is)
  (case cq38 => k_is)
  (case kq38 => k_is)
  (case aq39 => k_is)
  (case lq39 => k_is)
  (case cq39 => k_is)
  (case kq39 => k_is)
  (case gcRow => k_is)
  (case gRow0 => k_is)
  (case gRow1 => k_is)
  (case gRow2 => k_is)
  (case gRow3 => k_is)
  (case gRow4 => k_is)
  (case gRow5 => k_is)
  (case gRow6 => k_is)
  (case gRow7 => k_is)
  (case gRow8 => k_is)
  (case gRow9 => k_is)
  (case gRow10 => k_is)
  (case gRow11 => k_is)
  (case gO1 => k_is)
  (case gO2 => k_is)
  (case nfRow_breakers => k_is)
  (case nfRow_step => k_is)
  (case nfRow_phase => k_is)
  (case aNRow => k_is)
  (case iNRow => k_is)
  (case lNRow => k_is)
  (case cNRow => k_is)
  (case kNRow => k_is)
  (case dRow => k_is)
  (case aq40 => k_is)
  (case iq40 => k_is)
  (case nq40 => k_is)
  (case lq40 => k_is)
  (case cq40 => k_is)
  (case kq40 => k_is)
  (case aq41 => k_is)
  (case iq41 => k_is)
  (case nq41 => k_is)
  (case lq41 => k_is)
  (case cq41 => k_is)
  (case kq41 => k_is)
  (case aq42 => k_is)
  (case iq42 => k_is)
  (case nq42 => k_is)
  (case lq42 => k_is)
  (case cq42 => k_is)
  (case kq42 => k_is)
  (case aq43 => k_is)
  (case iq43 => k_is)
  (case nq43 => k_is)
  (case lq43 => k_is)
  (case cq43 => k_is)
  (case kq43 => k_is)
  (case aq44 => k_is)
  (case iq44 => k_is)
  (case nq44 => k_is)
  (case lq44 => k_is)
  (case cq44 => k_is)
  (case kq44 => k_is)
  (case aq45 => k_is)
  (case iq45 => k_is)
  (case nq45 => k_is)
  (case lq45 => k_is)
  (case cq45 => k_is)
  (case kq45 => k_is)
  (case aq46 => k_is)
  (case iq46 => k_is)
  (case nq46 => k_is)
  (case lq46 => k_is)
  (case cq46 => k_is)
  (case kq46 => k_is)
  (case aq47 => k_is)
  (case iq47 => k_is)
  (case nq47 => k_is)
  (case lq47 => k_is)
  (case cq47 => k_is)
  (case kq47 => k_is)
  (case gcSpell => k_is)
  (case gSpell0 => k_is)
  (case gSpell1 => k_is)
  (case gSpell2 => k_is)
  (case gSpell3 => k_is)
  (case gSpell4 => k_is)
  (case gSpell5 => k_is)
  (case gSpell6 => k_is)
  (case gSpell7 => k_is)
  (case gSpell8 => k_is)
  (case gSpell9 => k_is)
  (case gSpell10 => k_is)
  (case gSpell11 => k_is)
  (case nfSpell_first => k_is)
  (case nfSpell_recovered => k_is)
  (case nfSpell_begun => k_is)
  (case nfSpell_runs => k_is)
  (case nfSpell_opened => k_is)
  (case aNSpell => k_is)
  (case iNSpell => k_is)
  (case lNSpell => k_is)
  (case cNSpell => k_is)
  (case kNSpell => k_is)
  (case gcTimeline => k_is)
  (case gTimeline0 => k_is)
  (case gTimeline1 => k_is)
  (case gTimeline2 => k_is)
  (case gTimeline3 => k_is)
  (case gTimeline4 => k_is)
  (case gTimeline5 => k_is)
  (case gTimeline6 => k_is)
  (case gTimeline7 => k_is)
  (case gTimeline8 => k_is)
  (case gTimeline9 => k_is)
  (case gTimeline10 => k_is)
  (case gTimeline11 => k_is)
  (case nfTimeline_row => k_is)
  (case nfTimeline_outages => k_is)
  (case nfTimeline_spells => k_is)
  (case nfTimeline_firsts => k_is)
  (case nfTimeline_marks => k_is)
  (case aNTimeline => k_is)
  (case iNTimeline => k_is)
  (case lNTimeline => k_is)
  (case cNTimeline => k_is)
  (case kNTimeline => k_is)
  (case aq48 => k_is)
  (case iq48 => k_is)
  (case nq48 => k_is)
  (case lq48 => k_is)
  (case cq48 => k_is)
  (case kq48 => k_is)
  (case aq49 => k_is)
  (case iq49 => k_is)
  (case nq49 => k_is)
  (case lq49 => k_is)
  (case cq49 => k_is)
  (case kq49 => k_is)
  (case aq50 => k_is)
  (case iq50 => k_is)
  (case nq50 => k_is)
  (case lq50 => k_is)
  (case cq50 => k_is)
  (case kq50 => k_is)
  (case aq51 => k_is)
  (case iq51 => k_is)
  (case nq51 => k_is)
  (case lq51 => k_is)
  (case cq51 => k_is)
  (case kq51 => k_is)
  (case aq52 => k_is)
  (case iq52 => k_is)
  (case nq52 => k_is)
  (case lq52 => k_is)
  (case cq52 => k_is)
  (case kq52 => k_is)
  (case moRow_Spell => k_is)
  (case moRow_Timeline => k_is)
  (case moSpell_Row => k_is)
  (case moSpell_Timeline => k_is)
  (case moTimeline_Row => k_is)
  (case moTimeline_Spell => k_is)
  (case gNMOST_BREAKERS => k_is)
  (case gNMOST_OUTAGES => k_is)
  (case aY => k_is)
  (case lY => k_is)
  (case cY => k_is)
  (case kY => k_is)
  (case z_bool => k_is)
  (case z_enumerate => k_is)
  (case z_int => k_is)
  (case z_isinstance => k_is)
  (case z_len => k_is)
  (case z_list => k_is)
  (case z_max => k_is)
  (case z_min => k_is)
  (case z_range => k_is)
  (case z_tuple => k_is)
  (case z_zip => k_is)
