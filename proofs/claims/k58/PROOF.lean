import PyProof.Rows.All
import Wide.All
import OpenK.AllK
import Wide.FinOn
import HandS.ForMost
import HandS.IsInst
import HandS.Wide
import HandS.Style
import HandS.Defaults
import HandS.MakeKwOnly
import HandS.Zip
import HandS.SortRule
import HandS.TupAny
import HandS.Lambda
import KE.GoesEnum
import HandS.Flow
import HandS.Codes
import HandS.WideBits
import HandS.OwnEq
import HandS.TryOnly
import HandS.TupLe
import HandS.SetFor
import KE.DataMinMax
import HandS.Conv
import KE.DataFind
import PyProof.Rows.CallKwBuiltin
import PySem.Challenge.RW_breakerrow_k58_whole_first_openings
set_option Elab.async false
set_option linter.all false
set_option maxRecDepth 100000
set_option maxHeartbeats 4000000
namespace Own
open PySem PySem.Spec PyProof.Rows L2
open Builtin

section
variable {X : Cx} {CX : CXT} {k : Nat} {f C : Addr} {fd : FuncData} {ps : List Str} {sp : Sp} {E : XK}

theorem rr {p : Addr} : L2.RelV (.ref p) (.ref p) := rfl
/-- a promise used under any frame below the body -/
theorem run_at {A : Around} {pins : List (Addr × Obj)} {σ : L2.St} {H : Hp} {s : Shared} {Q : VK} {us : List Value} {vs : List V} (F : FnOk X.prog X.w X.K X.mg X.base CX k f fd ps sp) (hr : Room k A) (hA : A.frames = X.A.frames)
    (hb : Binds X.K fd ps []) (hx : Passes CX X E) (I : Inv X pins σ H s) (r : Vals vs us) (h : sp vs H Q E) : wpAny (model X.prog X.w) A (call (.ref f) us) (EP X pins σ Q) X.xe s := by
  have hl : us.length = ps.length := by rw [← r.length]; exact F.len _ _ _ _ h
  have e0 : Env0 X.prog X.w X.K X.mg X.base A X.stack s H := by
    have e := I.env0
    exact ⟨by rw [hA]; exact e.frames, e.mod, e.bs, e.bsz, e.funs, e.frf, e.hok, e.bare⟩
  have hB : BindsTo s fd ⟨us, []⟩ (ps.zip us) := by
    have := hb s us I.kIn (by rw [List.append_nil]; exact hl)
    rwa [List.append_nil] at this
  refine wpAny_call (codeAny_mono (F.run A X.stack s H ⟨us, []⟩ us vs Q E hr e0 hB r h) fun r s' hq => ?_)
  cases r with
  | error e => exact hx pins σ H s e s' I hq
  | ok fl =>
    cases fl with
    | ret u => exact I.after hq
    | next => exact False.elim hq
    | brk => exact False.elim hq
    | cont => exact False.elim hq

theorem inst_of {pins : List (Addr × Obj)} {σ : L2.St} {H : Hp} {s : Shared} {p dx : Addr} {fs : List (Str × V)} (I : Inv X pins σ H s) (e : H p = some (.ins C dx fs)) : ∃ od, PySem.W.InstAt s.heap p (PySem.W.instObj C dx) C od := by
  obtain ⟨mA, O, _⟩ := ins_get I.hok e
  obtain ⟨od, J, _⟩ := O.look
  exact ⟨_, J⟩

/-- a bool is wanted of the method -/
def BlQ (Q : VK) (g : Bool → Bool) : VK := fun v H' => ∃ b, v = .bl b ∧ Q (.bl (g b)) H'
def rOwnIn (C : Addr) (sp : Sp) (E : XK) (g : Bool → Bool) : R2 := fun x y H Q => ∃ p dx fs, y = .ref p ∧ H p = some (.ins C dx fs) ∧ sp [.ref p, x] H (BlQ Q g) E
theorem op_own_in (F : FnOk X.prog X.w X.K X.mg X.base CX k f fd ps sp) (hr : Room k X.A) (hs : PySem.W.findIn X.K (.ref C) "__contains__" = some (some (.ref f))) (hf : PySem.W.isFn X.K (.ref f) = true) (hb : Binds X.K fd ps []) (hx : Passes CX X E) :
    OpR X (compareOp .In) (rOwnIn C sp E id) := by
  intro pins s σ H x y v u Q I rx ry h
  obtain ⟨p, dx, fs, rfl, hp, q⟩ := h
  cases ry
  obtain ⟨od, J⟩ := inst_of I hp
  obtain ⟨m, hF⟩ := I.fr
  refine PySem.W.in_K hF I.ok.mod.kin J hs hf (thn (run_at F hr rfl hb hx I (.cons rr (.cons rx .nil)) q) fun r s' hh => ?_)
  obtain ⟨z, H', I', rz, b, ez, q'⟩ := hh
  subst ez
  cases rz
  exact wpAny_truthy_bool ⟨.bl b, H', I', rfl, q'⟩
theorem op_own_notin (F : FnOk X.prog X.w X.K X.mg X.base CX k f fd ps sp) (hr : Room k X.A) (hs : PySem.W.findIn X.K (.ref C) "__contains__" = some (some (.ref f))) (hf : PySem.W.isFn X.K (.ref f) = true) (hb : Binds X.K fd ps []) (hx : Passes CX X E) :
    OpR X (compareOp .NotIn) (rOwnIn C sp E not) := by
  intro pins s σ H x y v u Q I rx ry h
  obtain ⟨p, dx, fs, rfl, hp, q⟩ := h
  cases ry
  obtain ⟨od, J⟩ := inst_of I hp
  obtain ⟨m, hF⟩ := I.fr
  refine PySem.W.notIn_K hF I.ok.mod.kin J hs hf (thn (run_at F hr rfl hb hx I (.cons rr (.cons rx .nil)) q) fun r s' hh => ?_)
  obtain ⟨z, H', I', rz, b, ez, q'⟩ := hh
  subst ez
  cases rz
  exact wpAny_truthy_bool ⟨.bl (!b), H', I', rfl, q'⟩
/-- len(o) -/
def rOwnLen (C : Addr) (sp : Sp) (E : XK) : List V → Hp → VK → Prop := fun xs H Q => ∃ p dx fs, xs = [.ref p] ∧ H p = some (.ins C dx fs) ∧ sp [.ref p] H (fun v H' => ∃ n : Int, v = .int n ∧ 0 ≤ n ∧ n < 2 ^ 63 ∧ Q (.int n) H') E
theorem call_own_len (F : FnOk X.prog X.w X.K X.mg X.base CX k f fd ps sp) (hr : Room (k + 1) X.A) (hs : PySem.W.findIn X.K (.ref C) "__len__" = some (some (.ref f))) (hf : PySem.W.isFn X.K (.ref f) = true) (hb : Binds X.K fd ps []) (hx : Passes CX X E) :
    CallR X (.builtin "len") (rOwnLen C sp E) := by
  intro pins s σ H xs us Q I r h
  obtain ⟨p, dx, fs, rfl, hp, q⟩ := h
  obtain ⟨u, rfl, ru⟩ := vals1 r
  cases ru
  obtain ⟨od, J⟩ := inst_of I hp
  obtain ⟨m, hF⟩ := I.fr
  refine PySem.W.len_K hF I.ok.mod.kin J hs hf (thn (run_at F hr.in1 rfl hb hx I (.cons rr .nil) q) fun r s' hh => ?_)
  obtain ⟨z, H', I', rz, n, ez, h0, h1, q'⟩ := hh
  subst ez
  obtain ⟨t, rfl⟩ := rz
  exact ⟨⟨h0, h1⟩, ⟨.int n, H', I'.tok _, ⟨_, rfl⟩, q'⟩⟩
/-- o + p, both of the class -/
def rOwnAdd (C : Addr) (sp : Sp) (E : XK) : R2 := fun x y H Q => ∃ p dx fs q dy gs, x = .ref p ∧ H p = some (.ins C dx fs) ∧ y = .ref q ∧ H q = some (.ins C dy gs) ∧ sp [.ref p, .ref q] H (fun v H' => (∃ a, v = .ref a) ∧ Q v H') E
theorem op_own_add (F : FnOk X.prog X.w X.K X.mg X.base CX k f fd ps sp) (hr : Room k X.A) (hc : PySem.W.selfFirst X.K C = true) (hs : PySem.W.findIn X.K (.ref C) "__add__" = some (some (.ref f))) (hf : PySem.W.isFn X.K (.ref f) = true) (hb : Binds X.K fd ps []) (hx : Passes CX X E) :
    OpR X (binaryOp .Add) (rOwnAdd C sp E) := by
  intro pins s σ H x y v u Q I rx ry h
  obtain ⟨p, dx, fs, q, dy, gs, rfl, hp, rfl, hq, hh⟩ := h
  cases rx
  cases ry
  obtain ⟨od, J⟩ := inst_of I hp
  obtain ⟨od', J'⟩ := inst_of I hq
  obtain ⟨m, hF⟩ := I.fr
  refine PySem.W.binop_K hF I.ok.mod.kin J J'.type hc hs hf (thn (run_at F hr rfl hb hx I (.cons rr (.cons rr .nil)) hh) fun r s' hh => ?_)
  obtain ⟨z, H', I', rz, ⟨a, ez⟩, q'⟩ := hh
  subst ez
  cases rz
  exact ⟨.ref a, H', I', rfl, q'⟩
/-- o[i] -/
def rOwnIx (C : Addr) (sp : Sp) (E : XK) : R2 := fun x y H Q => ∃ p dx fs, x = .ref p ∧ H p = some (.ins C dx fs) ∧ sp [.ref p, y] H Q E
theorem pe_own_ix {a b : Expr} {ta tb : TE} {pos : Pos} (F : FnOk X.prog X.w X.K X.mg X.base CX k f fd ps sp) (hr : Room (k + 1) X.A) (hs : PySem.W.findIn X.K (.ref C) "__getitem__" = some (some (.ref f))) (hfn : PySem.W.fnIn X.K f = true) (hf : PySem.W.isFn X.K (.ref f) = true)
    (hb : Binds X.K fd ps []) (hx : Passes CX X E) (ha : PE X a ta) (hb' : PE X b tb) (hsl : ∀ o i, subscripted b true o i = runValue (.builtin "lifetime.subscript" ⟨[o, i], []⟩) := by exact fun _ _ => rfl) :
    PE X (.Subscript a b pos) (tOp (rOwnIx C sp E) ta tb) := by
  refine ⟨fun pins s σ H Q I h => ?_⟩
  refine Subscript_ (binT ha hb' I h fun v u s2 x y H2 I2 rx ry q => ?_)
  obtain ⟨p, dx, fs, rfl, hp, q⟩ := q
  cases rx
  obtain ⟨od, J⟩ := inst_of I2 hp
  obtain ⟨m, hF⟩ := I2.fr
  exact PySem.W.sub_K hF I2.ok.mod.kin J hs hfn hf (run_at F hr.in1 rfl hb hx I2 (.cons rr (.cons ry .nil)) q) (hsl _ _)

/-! ### own == and the != that comes with it -/
theorem sub_ty {K : PySem.W.Frag} {C : Addr} {T : String} {l : List String} (e : fastBuiltinMro T = some (l.map Value.type)) : PySem.W.subIn K (.type T) (.ref C) = some false := by
  show (fastBuiltinMro T).map (·.contains (.ref C)) = some false
  rw [e]
  have : ∀ l : List String, (l.map Value.type).contains (Value.ref C) = false := by
    intro l
    induction l with
    | nil => rfl
    | cons a r ih =>
      rw [List.map_cons, List.contains_cons, ih]
      rfl
  rw [Option.map_some, this]
/-- a value's type, not one below the class C -/
inductive TyN (H : Hp) (C : Addr) : V → Value → Prop where
  | non : TyN H C .non (.type "NoneType")
  | bl (x : Bool) : TyN H C (.bl x) (.type "bool")
  | int (i : Int) : TyN H C (.int i) (.type "int")
  | str (x : Str) : TyN H C (.str x) (.type "str")
  | lst {a : Addr} {xs : List V} (e : H a = some (.lst xs)) : TyN H C (.ref a) (.type "list")
  | tup {a : Addr} {xs : List V} (e : H a = some (.tup xs)) : TyN H C (.ref a) (.type "tuple")
  | ins {a dx : Addr} {fs : List (Str × V)} (e : H a = some (.ins C dx fs)) : TyN H C (.ref a) (.ref C)
theorem TyN.notFirst {K : PySem.W.Frag} {H : Hp} {x : V} {t : Value} (h : TyN H C x t) : PySem.W.notFirst K C t = true := by
  cases h with
  | non => exact Bool.or_eq_true_iff.mpr (.inr (beq_iff_eq.mpr (sub_ty (l := ["NoneType", "object"]) (by decide +kernel))))
  | bl _ => exact Bool.or_eq_true_iff.mpr (.inr (beq_iff_eq.mpr (sub_ty (l := ["bool", "int", "object"]) (by decide +kernel))))
  | int _ => exact Bool.or_eq_true_iff.mpr (.inr (beq_iff_eq.mpr (sub_ty (l := ["int", "object"]) (by decide +kernel))))
  | str _ => exact Bool.or_eq_true_iff.mpr (.inr (beq_iff_eq.mpr (sub_ty (l := ["str", "object"]) (by decide +kernel))))
  | lst _ => exact Bool.or_eq_true_iff.mpr (.inr (beq_iff_eq.mpr (sub_ty (l := ["list", "object"]) (by decide +kernel))))
  | tup _ => exact Bool.or_eq_true_iff.mpr (.inr (beq_iff_eq.mpr (sub_ty (l := ["tuple", "object"]) (by decide +kernel))))
  | ins _ => exact Bool.or_eq_true_iff.mpr (.inl (by simp))
theorem looks_obj {M : Model} {h : Heap} {a : Addr} {o : Obj} (e : h.get? a = some o) : PySem.W.Looks M h (typeOf (.ref a)) o.cls := fun A Q E s kp q => PySem.wpAny_typeOf_ref (kp _ _ e) q
theorem TyN.looks {M : Model} {pins : List (Addr × Obj)} {σ : L2.St} {H : Hp} {s : Shared} {x : V} {u t : Value} (I : Inv X pins σ H s) (r : RelV x u) (h : TyN H C x t) : PySem.W.Looks M s.heap (typeOf u) t := by
  cases h with
  | non => cases r; exact PySem.W.Looks.of_pure rfl
  | bl _ => cases r; exact PySem.W.Looks.of_pure rfl
  | int _ => obtain ⟨_, rfl⟩ := r; exact PySem.W.Looks.of_pure rfl
  | str _ => obtain ⟨_, rfl⟩ := r; exact PySem.W.Looks.of_pure rfl
  | @lst a xs e =>
    cases r
    obtain ⟨_, _, n, _, h1⟩ := (show ObjOk X.prog X.w H s.heap a (.lst xs) from I.hok a _ e)
    exact looks_obj h1
  | @tup a xs e =>
    cases r
    obtain ⟨_, _, _, o, h1, h2, _⟩ := (show ObjOk X.prog X.w H s.heap a (.tup xs) from I.hok a _ e)
    have := looks_obj (M := M) h1
    rw [h2] at this
    exact this
  | ins e =>
    cases r
    obtain ⟨od, J⟩ := inst_of I e
    exact J.type
def rOwnEq (C : Addr) (sp : Sp) (E : XK) (g : Bool → Bool) : R2 := fun x y H Q => ∃ p dx fs t, x = .ref p ∧ H p = some (.ins C dx fs) ∧ TyN H C y t ∧ sp [.ref p, y] H (BlQ Q g) E
theorem op_own_eq (F : FnOk X.prog X.w X.K X.mg X.base CX k f fd ps sp) (hr : Room k X.A) (hs : PySem.W.findIn X.K (.ref C) "__eq__" = some (some (.ref f))) (hf : PySem.W.isFn X.K (.ref f) = true) (hb : Binds X.K fd ps []) (hx : Passes CX X E) :
    OpR X (compareOp .Eq) (rOwnEq C sp E id) := by
  intro pins s σ H x y v u Q I rx ry h
  obtain ⟨p, dx, fs, t, rfl, hp, ty, q⟩ := h
  cases rx
  obtain ⟨od, J⟩ := inst_of I hp
  obtain ⟨m, hF⟩ := I.fr
  show wpAny (model X.prog X.w) X.A (richCompare .Eq (.ref p) u) (EP X pins σ Q) X.xe s
  refine PySem.W.cmp_K (op := .Eq) hr.units0 hF I.ok.mod.kin J (ty.looks I ry) ty.notFirst hs hf (thn (run_at F hr rfl hb hx I (.cons rr (.cons ry .nil)) q) fun r s' hh => ?_)
  obtain ⟨z, H', I', rz, b, ez, q'⟩ := hh
  subst ez
  cases rz
  exact ⟨.bl b, H', I', rfl, q'⟩
section
variable {prog : Program} {w : World} {A : Around} {E' : Value → Shared → Prop} {s : Shared} {K : PySem.W.Frag} {x : Addr} {ox : Obj} {od : Option Obj} {b : Value}
theorem objNe_entry (hX : K.In s.heap) (I : PySem.W.InstAt s.heap x ox C od) (hs : PySem.W.findIn K (.ref C) "__eq__" = some (some (.ref f))) (hf : PySem.W.isFn K (.ref f) = true) (hu : A.units < cLine) {Q : Fin → Shared → Prop}
    (hcall : wpAny (model prog w) A (call (.ref f) [.ref x, b]) (fun v s' => ∃ k, v = .bool k ∧ Q (.done (.ret (.bool (!k)))) s') E' s) :
    wpAny (model prog w) A (Builtin.«object.__ne__» ⟨[.ref x, b], []⟩) Q E' s := by
  unfold Builtin.«object.__ne__»
  repeat (first
    | with_reducible refine wpAny_cRoomFor hu ?_
    | (refine wpAny_bind (m := callSpecialIfBound? (.ref x) (Str.ofString "__eq__") [b])
        (PySem.W.ifBound_K hX I hs hf (wpAny_mono hcall (fun r s' hr => by
          obtain ⟨k, rfl, hq⟩ := hr
          repeat (first | exact hq | exact wpAny_pure hq | exact wpAny_truthy_bool hq | (refine wpAny_bind (m := truthy (.bool _)) (wpAny_truthy_bool ?_)) | wp_step)) fun _ _ e => e)))
    | wp_step)
theorem call_objNe (hX : K.In s.heap) (I : PySem.W.InstAt s.heap x ox C od) (hm : PySem.W.mroIn K C (.type "object") = some true) (hs : PySem.W.findIn K (.ref C) "__eq__" = some (some (.ref f))) (hf : PySem.W.isFn K (.ref f) = true) (hu : A.units + 1 < cLine) {Q : Value → Shared → Prop}
    (hcall : wpAny (model prog w) A.in1 (call (.ref f) [.ref x, b]) (fun v s' => ∃ k, v = .bool k ∧ Q (.bool (!k)) s') E' s) :
    wpAny (model prog w) A (call (.builtin "object.__ne__") [.ref x, b]) Q E' s :=
  wpAny_call (codeAny_call_builtin PySem.F.cmp_object.ne.plain PySem.F.cmpEntry_ne (PySem.W.check_slot PySem.F.cmpKind_ne PySem.F.cmpSplit_ne (I.type.andThen (PySem.W.looks_mroIn hX hm)) (PySem.F.cmpArgs_ne _ _)
    (objNe_entry (A := A.in1) hX I hs hf hu (wpAny_mono hcall (fun v s' hv => by
      obtain ⟨k, e, hq⟩ := hv
      exact ⟨k, e, hq⟩) fun _ _ e => e))))
theorem ifBound_objNe {M : Model} {args : List Value} {Q : Option Value → Shared → Prop} (hX : K.In s.heap) (I : PySem.W.InstAt s.heap x ox C od) (hs : PySem.W.findIn K (.ref C) "__ne__" = some (some (.builtin "object.__ne__")))
    (h : wpAny M A (call (.builtin "object.__ne__") (.ref x :: args)) (fun v => Q (some v)) E' s) : wpAny M A (callSpecialIfBound? (.ref x) "__ne__" args) Q E' s := by
  simp only [callSpecialIfBound?, bindSpecialIfBound?]
  refine wpAny_holding (wpAny_bind (wpAny_bind (wpAny_bind (I.type.here ((PySem.W.looks_findIn hX hs).here ?_)))))
  refine wpAny_bind (wpAny_askSetting (wpAny_ite ?_))
  have fin : wpAny M A (call (.builtin "object.__ne__") ([.ref x] ++ args) >>= fun v => pure (some v)) Q E' s := wpAny_bind (wpAny_mono h (fun v s' h' => wpAny_pure h') fun _ _ h' => h')
  split
  · exact wpAny_bind (wpAny_of_eq (PySem.F.cmp_object.ne.bind _) (wpAny_pure (by exact fin)))
  · exact wpAny_tryCatch (wpAny_bind (wpAny_of_eq (PySem.F.cmp_object.ne.bind _) (wpAny_pure (by exact fin))))
theorem rc_ne {tb : Value} {Q : Value → Shared → Prop} (hu : A.units + 1 < cLine) (hX : K.In s.heap) (I : PySem.W.InstAt s.heap x ox C od) (hb : PySem.W.Looks (model prog w) s.heap (typeOf b) tb) (hn : PySem.W.notFirst K C tb = true)
    (hm : PySem.W.mroIn K C (.type "object") = some true) (hne : PySem.W.findIn K (.ref C) "__ne__" = some (some (.builtin "object.__ne__"))) (hs : PySem.W.findIn K (.ref C) "__eq__" = some (some (.ref f))) (hf : PySem.W.isFn K (.ref f) = true)
    (hcall : wpAny (model prog w) A.in1 (call (.ref f) [.ref x, b]) (fun v s' => ∃ k, v = .bool k ∧ Q (.bool (!k)) s') E' s) : wpAny (model prog w) A (richCompare .NotEq (.ref x) b) Q E' s := by
  have one : wpAny (model prog w) A (tryCompare (.ref x) "__ne__" b) (fun r s' => ∃ v, r = some v ∧ Q v s') E' s := by
    unfold tryCompare
    refine wpAny_bind (ifBound_objNe hX I hne (call_objNe hX I hm hs hf hu (wpAny_mono hcall (fun v s' hv => ?_) fun _ _ e => e)))
    obtain ⟨k, rfl, hq⟩ := hv
    exact ⟨k, rfl, wpAny_pure ⟨_, rfl, hq⟩⟩
  unfold richCompare
  simp only [oneThing_ref, cmpInfo_NotEq]
  refine wpAny_holding (wpAny_bind (wpAny_cRoomFor (Nat.lt_of_succ_lt hu) ?_))
  refine wpAny_bind (I.type.here (wpAny_bind (hb.here ?_)))
  split
  · rename_i q
    have e : PySem.W.subIn K tb (.ref C) = some false := by
      rcases Bool.or_eq_true_iff.mp hn with e | e
      · rw [beq_iff_eq.mp e] at q; simp at q
      · exact beq_iff_eq.mp e
    refine wpAny_bind ((PySem.W.looks_subIn hX e).here ?_)
    simp only [Bool.false_eq_true, if_false]
    refine wpAny_bind (wpAny_mono one (fun r s' z => ?_) fun _ _ e => e)
    obtain ⟨v, rfl, hq⟩ := z
    exact wpAny_pure hq
  · refine wpAny_bind (wpAny_pure ?_)
    simp only [Bool.false_eq_true, if_false]
    refine wpAny_bind (wpAny_mono one (fun r s' z => ?_) fun _ _ e => e)
    obtain ⟨v, rfl, hq⟩ := z
    exact wpAny_pure hq
end
theorem op_own_ne (F : FnOk X.prog X.w X.K X.mg X.base CX k f fd ps sp) (hr : Room (k + 1) X.A) (hm : PySem.W.mroIn X.K C (.type "object") = some true) (hne : PySem.W.findIn X.K (.ref C) "__ne__" = some (some (.builtin "object.__ne__")))
    (hs : PySem.W.findIn X.K (.ref C) "__eq__" = some (some (.ref f))) (hf : PySem.W.isFn X.K (.ref f) = true) (hb : Binds X.K fd ps []) (hx : Passes CX X E) :
    OpR X (compareOp .NotEq) (rOwnEq C sp E not) := by
  intro pins s σ H x y v u Q I rx ry h
  obtain ⟨p, dx, fs, t, rfl, hp, ty, q⟩ := h
  cases rx
  obtain ⟨od, J⟩ := inst_of I hp
  show wpAny (model X.prog X.w) X.A (richCompare .NotEq (.ref p) u) (EP X pins σ Q) X.xe s
  refine rc_ne (hu_of hr) I.kIn J (ty.looks I ry) ty.notFirst hm hne hs hf (thn (run_at F hr.in1 rfl hb hx I (.cons rr (.cons ry .nil)) q) fun r s' hh => ?_)
  obtain ⟨z, H', I', rz, b, ez, q'⟩ := hh
  subst ez
  cases rz
  exact ⟨b, rfl, .bl (!b), H', I', rfl, q'⟩
end
end Own

namespace Toy
open PySem L2 Own
/-! ### the text by places -/
def top (i : Nat) : Stmt := PySem.Challenge.pw_breakerrow_k58_whole_first_openings.main.body.getD i (.Pass ⟨0, 0, 0, 0⟩)
abbrev st__wall : Stmt := top 0
abbrev st_InvalidRow_init : Stmt := inClass (top 3) 0
abbrev st_InvalidOutages_init : Stmt := inClass (top 4) 0
abbrev st_InvalidBound_init : Stmt := inClass (top 5) 0
abbrev st_is_integer : Stmt := top 7
abbrev st_is_at_least : Stmt := top 8
abbrev st_is_within : Stmt := top 9
abbrev st_is_breaker : Stmt := top 14
abbrev st_check_breakers : Stmt := top 15
abbrev st_check_step : Stmt := top 16
abbrev st_closed_states : Stmt := top 21
abbrev st_passes : Stmt := top 22
abbrev st_state_behind : Stmt := top 23
abbrev st_sent : Stmt := top 24
abbrev st_check_outages : Stmt := top 27
abbrev st_is_outage : Stmt := top 28
abbrev st_Routes_init : Stmt := inClass (top 32) 0
abbrev st_Routes_parts : Stmt := inClass (top 32) 1
abbrev st_Routes_eq : Stmt := inClass (top 32) 2
abbrev st_is_service : Stmt := top 33
abbrev st_check_services : Stmt := top 34
abbrev st_check_pattern : Stmt := top 35
abbrev st_is_up : Stmt := top 36
abbrev st_sent_requests : Stmt := top 37
abbrev st_common_openings : Stmt := top 38
abbrev st_check_down : Stmt := top 39
abbrev st_failing_runs : Stmt := top 40
abbrev st_longest_failure : Stmt := top 41
abbrev st_first_opening : Stmt := top 42
abbrev st__law_source_of : Stmt := top 44
abbrev st__law_next : Stmt := top 45
abbrev st__law_one : Stmt := top 46
abbrev st__law_cell_at : Stmt := top 47
abbrev st__law_specs : Stmt := top 48
abbrev st__law_longest : Stmt := top 49
abbrev st__law_due : Stmt := top 50
abbrev st_law : Stmt := top 51
/-- a def of the top -/
structure Dfn (K : PySem.W.Frag) (mg : Str → Option Value) (x : Str) (st : Stmt) (f : Addr) (ps : List Str) : Prop where
  ex : ∃ fd, Fun K x x st f fd ∧ Binds K fd ps []
  g : mg x = some (.ref f)
structure Mth (K : PySem.W.Frag) (C : Addr) (m q : Str) (st : Stmt) (f : Addr) (ps : List Str) : Prop where
  ex : ∃ fd, Fun K m q st f fd ∧ Binds K fd ps []
  at_ : PySem.W.findIn K (.ref C) m = some (some (.ref f))
  fn : PySem.W.isFn K (.ref f) = true
  fk : PySem.W.fnIn K f = true
/-- a def that is called by its name, with its promise -/
structure Cal (P : Program) (w : World) (K : PySem.W.Frag) (mg : Str → Option Value) (base : Heap) (x : Str) (k : Nat) (f : Addr) (ps : List Str) (sp : Sp) : Prop where
  ex : ∃ fd, FnOk P w K mg base CX0 k f fd ps sp ∧ Binds K fd ps []
  g : mg x = some (.ref f)
  kp : PySem.W.keepIn K (.ref f) = true
theorem Dfn.cal {P : Program} {w : World} {K : PySem.W.Frag} {mg : Str → Option Value} {base : Heap} {x : Str} {st : Stmt} {f : Addr} {ps : List Str} {k : Nat} {sp : Sp} (D : Dfn K mg x st f ps) (h : ∀ fd, Fun K x x st f fd → FnOk P w K mg base CX0 k f fd ps sp) : Cal P w K mg base x k f ps sp := by
  obtain ⟨fd, F, b⟩ := D.ex
  exact ⟨⟨fd, h fd F, b⟩, D.g, F.kp⟩
theorem pe_c {X : Cx} {x : Str} {k : Nat} {f : Addr} {ps : List Str} {sp : Sp} {t : TA} {e : Expr} {es : List Expr} {p pos : Pos} (c : Cal X.prog X.w X.K X.mg X.base x k f ps sp) (hr : Room k X.A) (hg : Gl X x)
    (ha : PA X (e :: es) t) (hdb : (x == ("__debug__" : Str)) = false := by decide) (he : starEach (e :: es) X.env = (false, eval e X.env) :: starEach es X.env := by rfl) (hpl : (backTo pos (starEach es X.env)).any (·.1) = false := by rfl) :
    PE X (.Call (.Name x p) (e :: es) [] pos) (tCall sp [] E0 t) := by
  obtain ⟨fd, F, b⟩ := c.ex
  exact pe_call F hr hg c.g c.kp b .nil pass0 ha hdb he hpl
/-- a method with its promise -/
structure Met (P : Program) (w : World) (K : PySem.W.Frag) (mg : Str → Option Value) (base : Heap) (C : Addr) (m : Str) (k : Nat) (f : Addr) (ps : List Str) (sp : Sp) : Prop where
  ex : ∃ fd, FnOk P w K mg base CX0 k f fd ps sp ∧ Binds K fd ps []
  me : Meth K C m f
  fk : PySem.W.fnIn K f = true
theorem Mth.met {P : Program} {w : World} {K : PySem.W.Frag} {mg : Str → Option Value} {base : Heap} {C : Addr} {m q : Str} {st : Stmt} {f : Addr} {ps : List Str} {k : Nat} {sp : Sp} (D : Mth K C m q st f ps) (h : ∀ fd, Fun K m q st f fd → FnOk P w K mg base CX0 k f fd ps sp) : Met P w K mg base C m k f ps sp := by
  obtain ⟨fd, F, b⟩ := D.ex
  exact ⟨⟨fd, h fd F, b⟩, ⟨D.at_, D.fn, F.kp⟩, D.fk⟩

/-! ### values of plain kinds -/
inductive Kd (H : Hp) : V → String → Prop where
  | non : Kd H .non "NoneType"
  | bl (b : Bool) : Kd H (.bl b) "bool"
  | int (i : Int) : Kd H (.int i) "int"
  | str (x : Str) : Kd H (.str x) "str"
  | lst {a : Addr} {xs : List V} (e : H a = some (.lst xs)) : Kd H (.ref a) "list"
  | tup {a : Addr} {xs : List V} (e : H a = some (.tup xs)) : Kd H (.ref a) "tuple"
  | dK {a : Addr} {xs : List (Key × V)} (e : H a = some (.dK xs)) : Kd H (.ref a) "dict"
theorem Kd.ty {K : PySem.W.Frag} {H : Hp} {v : V} {n : String} (h : Kd H v n) : TyX K H v (.type n) := by
  cases h with
  | non => exact .base .non
  | bl b => exact .base (.bl b)
  | int i => exact .base (.int i)
  | str x => exact .base (.str x)
  | lst e => exact .base (.lst e)
  | tup e => exact .base (.tup e)
  | dK e => exact .base (.dK e)
def isI : V → Bool
  | .int _ => true
  | _ => false
def toI : V → Int
  | .int i => i
  | _ => 0
theorem Kd.kit {K : PySem.W.Frag} {H : Hp} {v : V} {n : String} (h : Kd H v n) (c : String) (b : Bool) (hc : c = "int" ∧ b = (n == "int" || n == "bool") ∨ c ≠ "int" ∧ c ∈ ["bool", "list", "tuple"] ∧ b = (n == c)) : PySem.W.kitOne K (.type n) (.type c) = some b := by
  rcases hc with ⟨rfl, rfl⟩ | ⟨_, hc, rfl⟩
  · cases h <;> exact kit_ty (by decide +kernel)
  · simp only [List.mem_cons, List.mem_nil_iff, or_false] at hc
    rcases hc with rfl | rfl | rfl <;> cases h <;> exact kit_ty (by decide +kernel)
theorem Kd.same {H H' : Hp} {v : V} {n : String} (h : Kd H v n) (s : ∀ b o, v = .ref b → H b = some o → H' b = some o) : Kd H' v n := by
  cases h with
  | non => exact .non
  | bl b => exact .bl b
  | int i => exact .int i
  | str x => exact .str x
  | lst e => exact .lst (s _ _ rfl e)
  | tup e => exact .tup (s _ _ rfl e)
  | dK e => exact .dK (s _ _ rfl e)
/-- all but what stands at a is kept -/
def Kp (a : Addr) (H H' : Hp) : Prop := ∀ b o, b ≠ a → H b = some o → H' b = some o
theorem Kp.refl {a : Addr} {H : Hp} : Kp a H H := fun _ _ _ h => h
theorem Kp.trans {a : Addr} {H H1 H2 : Hp} (h : Kp a H H1) (h' : Kp a H1 H2) : Kp a H H2 := fun b o n e => h' b o n (h b o n e)
theorem Kp.of {a : Addr} {H H' : Hp} (s : Same H H') : Kp a H H' := fun b o _ e => s b o e
theorem Kp.upd {a : Addr} {H : Hp} {o : HO} : Kp a H (upd H a o) := fun b _ n e => by rw [upd_ne n]; exact e
theorem Same.upd {H : Hp} {p : Addr} {o : HO} (h : H p = none) : Same H (L2.upd H p o) := fun b u e => by rw [upd_ne (ne_of_none e h)]; exact e
theorem Kp.free {a b : Addr} {H H' : Hp} {o : HO} (k : Kp a H H') (ha : H a = some o) (h : H' b = none) (n : b ≠ a) : H b = none := by
  cases q : H b with
  | none => rfl
  | some u => rw [k b u n q] at h; cases h

/-! ### the promises of the small defs -/
def spIsInt : Sp := fun vs H Q _ => ∃ v n, vs = [v] ∧ Kd H v n ∧ Q (.bl (isI v)) H
def spAtL : Sp := fun vs H Q _ => ∃ v n l, vs = [v, .int l] ∧ Kd H v n ∧ Q (.bl (isI v && decide (l ≤ toI v))) H
def spWithin : Sp := fun vs H Q _ => ∃ v n l m, vs = [v, .int l, .int m] ∧ Kd H v n ∧ Q (.bl (isI v && (decide (l ≤ toI v) && decide (toI v ≤ m)))) H
/-- how many steps -/
def stepsUp (d s : Int) : Int := if -(-d / s) > 0 then -(-d / s) else 0
def spSteps : Sp := fun vs H Q _ => ∃ d s, vs = [.int d, .int s] ∧ 0 < s ∧ s.natAbs.log2 < 9000 ∧ Q (.int (stepsUp d s)) H

/-- what is no list is kept -/
def NL (H H' : Hp) : Prop := ∀ b o, H b = some o → (∀ xs, o ≠ .lst xs) → H' b = some o
theorem NL.refl {H : Hp} : NL H H := fun _ _ h _ => h
theorem NL.trans {H H1 H2 : Hp} (a : NL H H1) (b : NL H1 H2) : NL H H2 := fun c o h n => b c o (a c o h n) n
theorem NL.of {H H' : Hp} (s : Same H H') : NL H H' := fun b o e _ => s b o e
theorem Kp.nl {a : Addr} {H H' : Hp} {xs : List V} (k : Kp a H H') (h : H a = some (.lst xs)) : NL H H' := fun b o e n => k b o (fun z => by subst z; rw [h] at e; exact n xs (Option.some.inj e).symm) e
theorem NL.upd {H : Hp} {p : Addr} {xs : List V} {o : HO} (h : H p = some (.lst xs)) : NL H (L2.upd H p o) := Kp.nl Kp.upd h
theorem pe_gI {X : Cx} {x : Str} {i : Int} {t : Tok} {pos : Pos} (hm : X.mg x = some (.int i t)) (hg : Gl X x := by rfl) (hd : (x == ("__debug__" : Str)) = false := by decide) : PE X (.Name x pos) (tC (.int i)) := pe_glob hg hm ⟨t, rfl⟩ hd
@[irreducible] def PB (n : Nat) : Int := 2 ^ n
theorem PB_succ (n : Nat) : PB (n + 1) = PB n + PB n := by
  unfold PB
  rw [Int.pow_succ]
  omega
theorem PB_pos (n : Nat) : 1 ≤ PB n := by
  unfold PB
  have : (0 : Int) < 2 ^ n := Int.pow_pos (by decide)
  omega
theorem PB_le {n m : Nat} (h : n ≤ m) : PB n ≤ PB m := by
  induction m with
  | zero => rw [Nat.le_zero.mp h]; exact Int.le_refl _
  | succ m ih =>
    by_cases e : n = m + 1
    · rw [e]; exact Int.le_refl _
    · have h1 := ih (by omega)
      have h2 := PB_succ m
      have h3 := PB_pos m
      omega
theorem PB_abs {i : Int} {n : Nat} (h0 : 0 ≤ i) (h : i ≤ PB n) : i.natAbs < 2 ^ (n + 1) := by
  unfold PB at h
  have e : (2 : Nat) ^ (n + 1) = 2 ^ n * 2 := Nat.pow_succ 2 n
  have e2 : ((2 ^ n : Nat) : Int) = 2 ^ n := by rw [Int.natCast_pow]; rfl
  rw [← e2] at h
  have : 0 < 2 ^ n := Nat.pow_pos (by decide)
  rw [e]
  generalize 2 ^ n = w at *
  omega
theorem PB_of {i : Int} {n : Nat} (h : i.natAbs < 2 ^ n) : i ≤ PB n := by
  unfold PB
  have e2 : ((2 ^ n : Nat) : Int) = 2 ^ n := by rw [Int.natCast_pow]; rfl
  rw [← e2]
  generalize 2 ^ n = w at *
  omega
def BB : Int := PB 5000
theorem BB0 : 0 ≤ BB := by
  have := PB_pos 5000
  unfold BB
  omega
theorem bb_lt {i : Int} (h0 : 0 ≤ i) (h : i ≤ BB + BB) : i.natAbs < 2 ^ 5002 := PB_abs h0 (by rw [PB_succ]; exact h)
theorem mulBB {i j : Int} (i0 : 0 ≤ i) (i1 : i ≤ BB + BB) (j0 : 0 ≤ j) (j1 : j ≤ BB + BB) : CMulW i j := wide_mul (bb_lt i0 i1) (bb_lt j0 j1) (by decide) (by decide) (by decide)
theorem BB1 : 1 ≤ BB := PB_pos 5000
theorem divBB {j : Int} (j0 : 1 ≤ j) (j1 : j ≤ BB) : j.natAbs.log2 < 9000 := (wide_div (i := 0) (by omega : 0 < j) (bb_lt (by omega) (by have := BB0; omega)) (by decide) (by decide)).2
theorem small2 {n : Nat} (h : n ≤ 100000) : n ≤ sizeLine := Nat.le_trans h (by decide)
theorem small1 {n : Nat} (h : n ≤ 100000) : n < sizeLine := Nat.lt_of_le_of_lt h (by decide)
theorem tYes_of {σ : L2.St} {H : Hp} {A B : Hp → Prop} (h : A H) : tYes σ H (fun b H3 => if b = true then A H3 else B H3) := by
  show if true = true then A H else B H
  rw [if_pos rfl]
  exact h
theorem cut_init (xs : List V) : cutV xs none (some (-1)) = xs.take (xs.length - 1) := by
  show (xs.drop 0).take ((if (-1 : Int) < 0 then ((-1 : Int) + (xs.length : Int)).toNat else min (-1 : Int).toNat xs.length) - 0) = _
  rw [if_pos (by decide), List.drop_zero]
  congr 1
  omega
theorem cut_last (xs : List V) : cutV xs (some (-1)) none = xs.drop (xs.length - 1) := by
  show (xs.drop (if (-1 : Int) < 0 then ((-1 : Int) + (xs.length : Int)).toNat else min (-1 : Int).toNat xs.length)).take (xs.length - (if (-1 : Int) < 0 then ((-1 : Int) + (xs.length : Int)).toNat else min (-1 : Int).toNat xs.length)) = _
  rw [if_pos (by decide)]
  have e : ((-1 : Int) + (xs.length : Int)).toNat = xs.length - 1 := by omega
  rw [e]
  refine List.take_of_length_le ?_
  rw [List.length_drop]
  exact Nat.le_refl _
theorem none_of {H H' : Hp} {l : Addr} (s : Same H H') (h : H' l = none) : H l = none := by
  cases q : H l with
  | none => rfl
  | some o => rw [s _ _ q] at h; cases h
theorem for_enum {K : PySem.W.Frag} {a : Addr} {xs : List V} {g : TG} {tb : TS} {D : Ends} {σ : L2.St} {H : Hp} (Pv : Nat → L2.St → Hp → Prop) (h0 : Pv 0 σ H) (hl : ∀ i σ H, i ≤ xs.length → Pv i σ H → SqL K H a xs)
    (hs : ∀ i x T σ H, xs[i]? = some x → Pv i σ H → H T = none → g (.ref T) σ (upd H T (.tup [.int (i : Nat), x])) fun σ2 H2 => tb { D with nx := Pv (i + 1), ct := Pv (i + 1), bk := D.nx } σ2 H2) (hd : ∀ σ H, Pv xs.length σ H → D.nx σ H) :
    ∃ W : Nat → Nat → L2.St → Hp → Prop, (∃ m, W 0 m σ H) ∧ ∀ i m σ H, W i m σ H →
      ((Ite K a).stop i H ∧ D.nx σ H) ∨ ((Ite K a).go i H ∧ ∃ N : L2.St → Hp → Prop, (∀ σ' H', N σ' H' → ∃ m', m' < m ∧ W (i + 1) m' σ' H') ∧ ∀ x H', (Ite K a).yld i H x H' → g x σ H' fun σ2 H2 => tb { D with nx := N, ct := N, bk := D.nx } σ2 H2) := by
  refine ⟨fun i m σ H => m = xs.length - i ∧ i ≤ xs.length ∧ Pv i σ H, ⟨xs.length, by simp, Nat.zero_le _, h0⟩, ?_⟩
  rintro i m σ H ⟨rfl, hi, p⟩
  have q := hl i σ H hi p
  by_cases hlt : i < xs.length
  · refine .inr ⟨⟨xs, xs[i], q, by simp [hlt]⟩, Pv (i + 1), fun σ' H' p' => ⟨xs.length - (i + 1), by omega, rfl, hlt, p'⟩, fun x H' y => ?_⟩
    obtain ⟨T, x', rfl, hT, rfl, hx⟩ := y
    exact hs i x' T σ H (hx xs q) p hT
  · have e : i = xs.length := by omega
    subst e
    exact .inl ⟨⟨xs, q, Nat.le_refl _⟩, hd σ H p⟩
theorem pe_callN0 {X : Cx} {CX : CXT} {k : Nat} {f : Addr} {fd : FuncData} {ps ks : List Str} {sp : Sp} {E : XK} {x : Str} {p pos : Pos} {kws : List Keyword} {tk : TA} {g : List Value → List Value → List Value} {gV : List V → List V → List V}
    (F : FnOk X.prog X.w X.K X.mg X.base CX k f fd ps sp) (hr : Room k X.A) (hg : Gl X x) (hm : X.mg x = some (.ref f)) (hk : PySem.W.keepIn X.K (.ref f) = true) (hb : KBn X.K fd ps 0 ks g gV) (hx : Passes CX X E) (hkw : PK X kws tk)
    (hall : (backToKw pos (keywordEach kws X.env)).all (·.1.isSome) = true := by rfl) (hks : (backToKw pos (keywordEach kws X.env)).filterMap (·.1) = ks := by rfl) (hdb : (x == ("__debug__" : Str)) = false := by decide)
    (hpl : ((backTo pos (starEach [] X.env)).any (·.1) || (backToKw pos (keywordEach kws X.env)).any (·.1.isNone)) = false := by rfl) :
    PE X (.Call (.Name x p) [] kws pos) (tCallN 0 ks.length sp gV E tNil tk) := by
  refine ⟨fun pins s σ H Q I h => ?_⟩
  refine wpAny_Call_Name_kw (ld_glob I hg hm ?_ hdb)
  refine PySem.W.callWith_KW0 (h₀ := X.base) I.ok.mod.kin hk hall ?_ hpl
  refine thn (hkw.run pos pins s σ H _ I h) fun ws s2 ⟨zs, H2, I2, rz, l1, l2, q2⟩ => ⟨I2.kIn, ?_⟩
  rw [hks]
  exact run_fnN F hr hb hx I2 .nil rz rfl l2 q2
section
variable {X : Cx} {C : Addr} {k : Nat} {f : Addr} {ps : List Str} {sp : Sp}
theorem Met.op_in (c : Met X.prog X.w X.K X.mg X.base C "__contains__" k f ps sp) (hr : Room k X.A) : OpR X (compareOp .In) (rOwnIn C sp E0 _root_.id) := by
  obtain ⟨fd, F, b⟩ := c.ex
  exact op_own_in F hr c.me.at_ c.me.fn b pass0
theorem Met.op_notin (c : Met X.prog X.w X.K X.mg X.base C "__contains__" k f ps sp) (hr : Room k X.A) : OpR X (compareOp .NotIn) (rOwnIn C sp E0 Bool.not) := by
  obtain ⟨fd, F, b⟩ := c.ex
  exact op_own_notin F hr c.me.at_ c.me.fn b pass0
theorem Met.c_len (c : Met X.prog X.w X.K X.mg X.base C "__len__" k f ps sp) (hr : Room (k + 1) X.A) : CallR X (.builtin "len") (rOwnLen C sp E0) := by
  obtain ⟨fd, F, b⟩ := c.ex
  exact call_own_len F hr c.me.at_ c.me.fn b pass0
theorem Met.op_add (c : Met X.prog X.w X.K X.mg X.base C "__add__" k f ps sp) (hr : Room k X.A) (hc : PySem.W.selfFirst X.K C = true) : OpR X (binaryOp .Add) (rOwnAdd C sp E0) := by
  obtain ⟨fd, F, b⟩ := c.ex
  exact op_own_add F hr hc c.me.at_ c.me.fn b pass0
theorem Met.op_eq (c : Met X.prog X.w X.K X.mg X.base C "__eq__" k f ps sp) (hr : Room k X.A) : OpR X (compareOp .Eq) (rOwnEq C sp E0 _root_.id) := by
  obtain ⟨fd, F, b⟩ := c.ex
  exact op_own_eq F hr c.me.at_ c.me.fn b pass0
theorem Met.op_ne (c : Met X.prog X.w X.K X.mg X.base C "__eq__" k f ps sp) (hr : Room (k + 1) X.A) (hm : PySem.W.mroIn X.K C (.type "object") = some true) (hne : PySem.W.findIn X.K (.ref C) "__ne__" = some (some (.builtin "object.__ne__"))) : OpR X (compareOp .NotEq) (rOwnEq C sp E0 Bool.not) := by
  obtain ⟨fd, F, b⟩ := c.ex
  exact op_own_ne F hr hm hne c.me.at_ c.me.fn b pass0
theorem Met.p_ix {a b : Expr} {ta tb : TE} {pos : Pos} (c : Met X.prog X.w X.K X.mg X.base C "__getitem__" k f ps sp) (hr : Room (k + 1) X.A) (ha : PE X a ta) (hb' : PE X b tb) (hsl : ∀ o i, subscripted b true o i = runValue (.builtin "lifetime.subscript" ⟨[o, i], []⟩) := by exact fun _ _ => rfl) :
    PE X (.Subscript a b pos) (tOp (rOwnIx C sp E0) ta tb) := by
  obtain ⟨fd, F, bb⟩ := c.ex
  exact pe_own_ix F hr c.me.at_ c.fk c.me.fn bb pass0 ha hb' hsl
end
theorem Met.p_m0 {X : Cx} {C : Addr} {k : Nat} {f : Addr} {ps : List Str} {sp : Sp} {m : Str} {o : Expr} {ta : TE} {apos pos : Pos} {pl : Sem Bool} (c : Met X.prog X.w X.K X.mg X.base C m k f ps sp) (cl : Cls X.K C) (hr : Room k X.A) (he : PE X o ta)
    (ht : eval (.Call (.Attribute o m apos) [] [] pos) X.env = (do
      let ov ← eval o X.env
      standAt apos.atName
      let (f, first) ← holding [ov] (getMethod ov m pl)
      callWith pos f first (backTo pos (starEach [] X.env)) (backToKw pos (keywordEach [] X.env))) := by rfl) :
    PE X (.Call (.Attribute o m apos) [] [] pos) (tMeth C m sp [] E0 ta tNil) := by
  obtain ⟨fd, F, b⟩ := c.ex
  exact pe_meth0 he cl c.me F hr b .nil pass0 ht
/-! ### a class of the text -/
structure CF (K : PySem.W.Frag) (C : Addr) : Prop where
  cl : Cls K C
  cls : PySem.W.isClsIn K C = true
  ty : PySem.W.typeIn K (.ref C) = some (.type "type")
  oc : PySem.W.findIn K (.ref C) "__class__" = some (some (.builtin "object.__class__"))
  og : PySem.W.specialIn K (.builtin "object.__class__") "__get__" = some (some (.builtin "getset_descriptor.__get__"))
  ot : PySem.W.takesIn K (.builtin "object.__class__") = some true
  om : PySem.W.mroIn K C (.type "object") = some true
  sf : PySem.W.selfFirst K C = true
  ne : PySem.W.findIn K (.ref C) "__ne__" = some (some (.builtin "object.__ne__"))
theorem CF.kitT {K : PySem.W.Frag} {C : Addr} (M : CF K C) {H : Hp} {v : V} {n : String} (h : Kd H v n) : PySem.W.kitOne K (.type n) (.ref C) = some false := by
  have e1 : ((PySem.W.clsIn K C).isSome && PySem.W.typeIn K (.ref C) == some (.type "type")) = true := by
    have h2 : (PySem.W.clsIn K C).isSome = true := M.cls
    rw [h2, M.ty] <;> rfl
  have e2 : PySem.W.subIn K (.type n) (.ref C) = some false := by
    cases h with
    | non => exact sub_ty (l := ["NoneType", "object"]) (by decide +kernel)
    | bl _ => exact sub_ty (l := ["bool", "int", "object"]) (by decide +kernel)
    | int _ => exact sub_ty (l := ["int", "object"]) (by decide +kernel)
    | str _ => exact sub_ty (l := ["str", "object"]) (by decide +kernel)
    | lst _ => exact sub_ty (l := ["list", "object"]) (by decide +kernel)
    | tup _ => exact sub_ty (l := ["tuple", "object"]) (by decide +kernel)
    | dK _ => exact sub_ty (l := ["dict", "object"]) (by decide +kernel)
  show (if (Value.type n == Value.ref C) = true then some true else PySem.W.kitCls K (.type n) (.ref C)) = some false
  rw [if_neg (by intro z; cases z)]
  show (if ((PySem.W.clsIn K C).isSome && PySem.W.typeIn K (.ref C) == some (.type "type")) = true then PySem.W.subIn K (.type n) (.ref C) else none) = some false
  rw [if_pos e1, e2]
theorem CF.tyR {K : PySem.W.Frag} {C : Addr} (M : CF K C) {H : Hp} {p dx : Addr} {fs : List (Str × V)} (h : H p = some (.ins C dx fs)) : TyX K H (.ref p) (.ref C) := .base (.ins h M.cl M.oc M.og M.ot M.om)
theorem vals_rev {vs : List V} {us : List Value} (r : Vals vs us) : Vals vs.reverse us.reverse := by
  induction r with
  | nil => exact .nil
  | cons h t ih =>
    rw [List.reverse_cons, List.reverse_cons]
    exact ih.append (.cons h .nil)
/-- f(c = .., b = .., a = ..) of a def f(a, b, c) -/
theorem pe_kr {X : Cx} {k : Nat} {f : Addr} {sp : Sp} {x : Str} {ps : List Str} {st : Stmt} {kws : List Keyword} {tk : TA} {p pos : Pos} (D : Dfn X.K X.mg x st f ps) (h : ∀ fd, Fun X.K x x st f fd → FnOk X.prog X.w X.K X.mg X.base CX0 k f fd ps sp)
    (hbind : ∀ (kV doc pm : Value) (an : Option Addr) (cdv ct : Value) (us : List Value), us.length = ps.reverse.length → bindArgs (PySem.W.fnOf x x (defArgs st) (defBody st) (defScope st) .none kV doc pm an cdv ct) ⟨[], ps.reverse.zip us⟩ = pure (ps.zip us.reverse))
    (hr : Room k X.A) (hg : Gl X x) (hkw : PK X kws tk) (hall : (backToKw pos (keywordEach kws X.env)).all (·.1.isSome) = true := by rfl) (hks : (backToKw pos (keywordEach kws X.env)).filterMap (·.1) = ps.reverse := by rfl) (hdb : (x == ("__debug__" : Str)) = false := by decide)
    (hpl : ((backTo pos (starEach [] X.env)).any (·.1) || (backToKw pos (keywordEach kws X.env)).any (·.1.isNone)) = false := by rfl) :
    PE X (.Call (.Name x p) [] kws pos) (tCallN 0 ps.reverse.length sp (fun us ws => us ++ ws.reverse) E0 tNil tk) := by
  obtain ⟨fd, F, _⟩ := D.ex
  have hb : KBn X.K fd ps 0 ps.reverse (fun us ws => us ++ ws.reverse) (fun us ws => us ++ ws.reverse) := by
    refine ⟨fun s us ws hX h1 h2 => ?_, fun r1 r2 => r1.append (vals_rev r2)⟩
    obtain ⟨oc, od, kV, doc, pm, an, cdv, ct, osl, rfl, lk, hcd⟩ := F.ex
    match us, h1 with
    | [], _ => exact .of_eq (hbind kV doc pm an cdv ct ws h2)
  exact pe_callN0 (h fd F) hr hg D.g F.kp hb pass0 hkw hall hks hdb hpl
/-- where the defs and classes of the text stand -/
structure LA where
  f__wall : Addr
  f_is_integer : Addr
  f_is_at_least : Addr
  f_is_within : Addr
  f_is_breaker : Addr
  f_check_breakers : Addr
  f_check_step : Addr
  f_closed_states : Addr
  f_passes : Addr
  f_state_behind : Addr
  f_sent : Addr
  f_check_outages : Addr
  f_is_outage : Addr
  f_is_service : Addr
  f_check_services : Addr
  f_check_pattern : Addr
  f_is_up : Addr
  f_sent_requests : Addr
  f_common_openings : Addr
  f_check_down : Addr
  f_failing_runs : Addr
  f_longest_failure : Addr
  f_first_opening : Addr
  f__law_source_of : Addr
  f__law_next : Addr
  f__law_one : Addr
  f__law_cell_at : Addr
  f__law_specs : Addr
  f__law_longest : Addr
  f__law_due : Addr
  c_Routes : Addr
  i_Routes : Addr
  m_Routes_parts : Addr
  m_Routes_eq : Addr
/-- what the text says of them -/
structure LX (K : PySem.W.Frag) (mg : Str → Option Value) (L : LA) : Prop where
  b_bool : mg "bool" = none
  b_enumerate : mg "enumerate" = none
  b_int : mg "int" = none
  b_isinstance : mg "isinstance" = none
  b_len : mg "len" = none
  b_list : mg "list" = none
  b_max : mg "max" = none
  b_min : mg "min" = none
  b_range : mg "range" = none
  b_tuple : mg "tuple" = none
  b_zip : mg "zip" = none
  n_MOST_BREAKERS : ∃ t, mg "MOST_BREAKERS" = some (.int 12 t)
  n_MOST_COUNT : ∃ t, mg "MOST_COUNT" = some (.int 1000000000000 t)
  n_MOST_TIME : ∃ t, mg "MOST_TIME" = some (.int 1000000000000000000000000000000 t)
  n_MOST_REQUESTS : ∃ t, mg "MOST_REQUESTS" = some (.int 10000 t)
  n_MOST_OUTAGES : ∃ t, mg "MOST_OUTAGES" = some (.int 50 t)
  n_MOST_SERVICES : ∃ t, mg "MOST_SERVICES" = some (.int 10 t)
  n_MOST_PLACES : ∃ t, mg "MOST_PLACES" = some (.int 20 t)
  n_SERVED : ∃ a, mg "SERVED" = some (.ref a) ∧ ∀ H : Hp, SqT K H a [.str "served"]
  n_FAILED : ∃ a, mg "FAILED" = some (.ref a) ∧ ∀ H : Hp, SqT K H a [.str "failed"]
  d__wall : Dfn K mg "_wall" st__wall L.f__wall ["k"]
  d_is_integer : Dfn K mg "is_integer" st_is_integer L.f_is_integer ["value"]
  d_is_at_least : Dfn K mg "is_at_least" st_is_at_least L.f_is_at_least ["value", "least"]
  d_is_within : Dfn K mg "is_within" st_is_within L.f_is_within ["value", "least", "most"]
  d_is_breaker : Dfn K mg "is_breaker" st_is_breaker L.f_is_breaker ["value"]
  d_check_breakers : Dfn K mg "check_breakers" st_check_breakers L.f_check_breakers ["breakers", "part"]
  d_check_step : Dfn K mg "check_step" st_check_step L.f_check_step ["step"]
  d_closed_states : Dfn K mg "closed_states" st_closed_states L.f_closed_states ["number"]
  d_passes : Dfn K mg "passes" st_passes L.f_passes ["breaker", "state", "time"]
  d_state_behind : Dfn K mg "state_behind" st_state_behind L.f_state_behind ["breaker", "state", "time", "succeeded"]
  d_sent : Dfn K mg "sent" st_sent L.f_sent ["breakers", "states", "time", "up"]
  d_check_outages : Dfn K mg "check_outages" st_check_outages L.f_check_outages ["outages"]
  d_is_outage : Dfn K mg "is_outage" st_is_outage L.f_is_outage ["value"]
  d_is_service : Dfn K mg "is_service" st_is_service L.f_is_service ["value"]
  d_check_services : Dfn K mg "check_services" st_check_services L.f_check_services ["services"]
  d_check_pattern : Dfn K mg "check_pattern" st_check_pattern L.f_check_pattern ["pattern", "number"]
  d_is_up : Dfn K mg "is_up" st_is_up L.f_is_up ["outages", "time"]
  d_sent_requests : Dfn K mg "sent_requests" st_sent_requests L.f_sent_requests ["routes", "count"]
  d_common_openings : Dfn K mg "common_openings" st_common_openings L.f_common_openings ["routes", "count"]
  d_check_down : Dfn K mg "check_down" st_check_down L.f_check_down ["routes", "down"]
  d_failing_runs : Dfn K mg "failing_runs" st_failing_runs L.f_failing_runs ["routes", "down"]
  d_longest_failure : Dfn K mg "longest_failure" st_longest_failure L.f_longest_failure ["routes", "down"]
  d_first_opening : Dfn K mg "first_opening" st_first_opening L.f_first_opening ["routes", "down"]
  d__law_source_of : Dfn K mg "_law_source_of" st__law_source_of L.f__law_source_of ["_law_cell"]
  d__law_next : Dfn K mg "_law_next" st__law_next L.f__law_next ["_law_source", "_law_many"]
  d__law_one : Dfn K mg "_law_one" st__law_one L.f__law_one ["_law_source", "_law_options"]
  d__law_cell_at : Dfn K mg "_law_cell_at" st__law_cell_at L.f__law_cell_at ["_law_script", "_law_k"]
  d__law_specs : Dfn K mg "_law_specs" st__law_specs L.f__law_specs ["_law_source", "_law_most", "_law_wide", "_law_many"]
  d__law_longest : Dfn K mg "_law_longest" st__law_longest L.f__law_longest ["_law_marks"]
  d__law_due : Dfn K mg "_law_due" st__law_due L.f__law_due ["_law_common", "_law_marks"]
  gc_Routes : mg "Routes" = some (.ref L.c_Routes)
  cf_Routes : CF K L.c_Routes
  mk_Routes : Mk K L.c_Routes L.i_Routes
  nf_Routes_common : NoAttr K L.c_Routes "common"
  nf_Routes_services : NoAttr K L.c_Routes "services"
  nf_Routes_pattern : NoAttr K L.c_Routes "pattern"
  nf_Routes_step : NoAttr K L.c_Routes "step"
  in_Routes : ∃ fd, Fun K "__init__" "Routes.__init__" st_Routes_init L.i_Routes fd ∧ Binds K fd ["self", "common", "services", "pattern", "step"] []
  mm_Routes_parts : Mth K L.c_Routes "parts" "Routes.parts" st_Routes_parts L.m_Routes_parts ["self"]
  mm_Routes_eq : Mth K L.c_Routes "__eq__" "Routes.__eq__" st_Routes_eq L.m_Routes_eq ["self", "other"]

/-- a comprehension over zip of two lists -/
theorem lc_zip {K : PySem.W.Frag} {a b : Addr} {xs ys : List V} {g : TG} {tt : TT} {te : TE} {vs : List Nat} {σ : L2.St} {H1 : Hp} {D : Addr} {Qd : Hp → Prop} (hlen : ys.length ≤ xs.length) (Pv : Nat → Hp → Prop) (h0 : Pv 0 (upd H1 D (.lst []))) (hl : ∀ i H, Pv i H → SqL K H a xs ∧ SqL K H b ys)
    (hs : ∀ (i : Nat) (x y : V) (T : Addr) (H : Hp), xs[i]? = some x → ys[i]? = some y → Pv i H → H T = none → g (.ref T) (wipe σ vs) (upd H T (.tup [x, y])) fun σ2 H2 => wipe σ2 vs = wipe σ vs ∧ tt σ2 H2 fun b H3 =>
      if b = true then te σ2 H3 fun y H4 => ∃ acc, H4 D = some (.lst acc) ∧ acc.length < sizeLine ∧ Pv (i + 1) (upd H4 D (.lst (acc ++ [y]))) else Pv (i + 1) H3) (hd : ∀ H, Pv ys.length H → Qd H) :
    ∃ W : Nat → Nat → Hp → Prop, (∃ m, W 0 m (upd H1 D (.lst []))) ∧ ∀ i m H, W i m H → ((Itz K a b).stop i H ∧ Qd H) ∨ ((Itz K a b).go i H ∧ ∃ Nx : Hp → Prop, (∀ H', Nx H' → ∃ m', m' < m ∧ W (i + 1) m' H') ∧ ∀ x H', (Itz K a b).yld i H x H' → g x (wipe σ vs) H' fun σ2 H2 => wipe σ2 vs = wipe σ vs ∧ tt σ2 H2 fun b H3 =>
        if b = true then te σ2 H3 fun y H4 => ∃ acc, H4 D = some (.lst acc) ∧ acc.length < sizeLine ∧ Nx (upd H4 D (.lst (acc ++ [y]))) else Nx H3) := by
  refine ⟨fun i m H => m = ys.length - i ∧ i ≤ ys.length ∧ Pv i H, ⟨ys.length, by omega, Nat.zero_le _, h0⟩, ?_⟩
  rintro i m H ⟨rfl, hi, p⟩
  obtain ⟨qx, qy⟩ := hl i H p
  by_cases hlt : i < ys.length
  · have hx : xs[i]? = some xs[i] := List.getElem?_eq_getElem (by omega)
    have hy : ys[i]? = some ys[i] := List.getElem?_eq_getElem hlt
    refine .inr ⟨⟨xs, ys, _, _, qx, qy, hx, hy⟩, Pv (i + 1), fun H' p' => ⟨ys.length - (i + 1), by omega, rfl, hlt, p'⟩, fun v H' y => ?_⟩
    obtain ⟨T, x', y', rfl, hT, rfl, f1, f2⟩ := y
    exact hs i x' y' T H (f1 xs qx) (f2 ys qy) p hT
  · have e : i = ys.length := by omega
    subst e
    exact .inl ⟨⟨xs, ys, qx, qy, .inr (Nat.le_refl _)⟩, hd H p⟩
/-- an attribute inside a comprehension -/
theorem pe_fldK {X : Cx} {K : PySem.W.Frag} {e : Expr} {f : Str} {pos : Pos} {ta : TE} (hK : X.K = K) (he : PE X e ta) (hb : attributeBase e f X.env (eval e X.env) = eval e X.env) : PE X (.Attribute e f pos) (tFld K ta f) := by
  subst hK
  exact pe_fld he hb
theorem putF_len (f : Str) (v : V) (fs : List (Str × V)) {n : Nat} (h : fs.length ≤ n) : (putF f v fs).length ≤ n + 1 := Nat.le_trans (length_putF f v fs) (Nat.succ_le_succ h)
def spRup : Sp := fun vs H Q _ => ∃ v u : Int, vs = [.int v, .int u] ∧ 0 < u ∧ u.natAbs.log2 < 9000 ∧ CMulW (stepsUp v u) u ∧ Q (.int (stepsUp v u * u)) H
/-! ### the small defs -/
section
variable {P : Program} {w : World} {K : PySem.W.Frag} {mg : Str → Option Value} {base : Heap} {L : LA}
abbrev N_isinteger : List Str := ["value"]
theorem sc_isinteger : FnScope N_isinteger ["value"] (defScope st_is_integer) := ⟨rfl, rfl, rfl, by decide +kernel, rfl, by decide +kernel, by decide +kernel⟩
theorem fn_isinteger (T : LX K mg L) {fd : FuncData} (F : Fun K "is_integer" "is_integer" st_is_integer L.f_is_integer fd) : FnOk P w K mg base CX0 1 L.f_is_integer fd ["value"] (spIsInt) := by
  have nd := sc_isinteger.nd
  refine F.ok sc_isinteger (fun vs H Q E h => ?_) (fun cdv A outer S H vs Q E hr h => ?_)
  · obtain ⟨v, n, rfl, _⟩ := h
    rfl
  · obtain ⟨v, n, rfl, hv, k⟩ := h
    refine ⟨_, (pss_one (ps_ret (pe_and (pe_callB call_isi (by rfl) T.b_isinstance (by decide +kernel) (pa_cons (pv 0) (pa_cons (pe_bltn (by rfl) T.b_int (by decide +kernel : bootBuiltins "int" = some (.type "int")) (v := .ty "int") rfl) pa_nil))) (pe_one (pe_not (pe_callB call_isi (by rfl) T.b_isinstance (by decide +kernel) (pa_cons (pv 0) (pa_cons (pe_bltn (by rfl) T.b_bool (by decide +kernel : bootBuiltins "bool" = some (.type "bool")) (v := .ty "bool") rfl) pa_nil)))))))), ?_⟩
    refine ⟨_, rfl, v, .ty "int", _, _, _, rfl, .ty "int", hv.ty, hv.kit "int" _ (.inl ⟨rfl, rfl⟩), _, rfl, ?_⟩
    refine ite2 (fun c => ?_) (fun c => ?_)
    · refine ⟨_, rfl, v, .ty "bool", _, _, _, rfl, .ty "bool", hv.ty, hv.kit "bool" _ (.inr ⟨by decide, by decide, rfl⟩), _, rfl, ?_⟩
      cases hv <;> first | exact k | (exact absurd c (by decide))
    · cases hv <;> first | exact k | (exact absurd (by decide) c)
theorem ok_isinteger (T : LX K mg L) : Cal P w K mg base "is_integer" 1 L.f_is_integer ["value"] (spIsInt) := T.d_is_integer.cal fun fd F => fn_isinteger T F
abbrev N_isatleast : List Str := ["value", "least"]
theorem sc_isatleast : FnScope N_isatleast ["value", "least"] (defScope st_is_at_least) := ⟨rfl, rfl, rfl, by decide +kernel, rfl, by decide +kernel, by decide +kernel⟩
theorem fn_isatleast (T : LX K mg L) {fd : FuncData} (F : Fun K "is_at_least" "is_at_least" st_is_at_least L.f_is_at_least fd) : FnOk P w K mg base CX0 2 L.f_is_at_least fd ["value", "least"] (spAtL) := by
  have G_isinteger := ok_isinteger (P := P) (w := w) (base := base) T
  have nd := sc_isatleast.nd
  refine F.ok sc_isatleast (fun vs H Q E h => ?_) (fun cdv A outer S H vs Q E hr h => ?_)
  · obtain ⟨v, n, l, rfl, _⟩ := h
    rfl
  · obtain ⟨v, n, l, rfl, hv, k⟩ := h
    refine ⟨_, (pss_one (ps_ret (pe_and (pe_c G_isinteger (hr.mono (by decide)) rfl (pa_cons (pv 0) pa_nil)) (pe_one (pe_cmpR op_ge (pv 0) (pv 1) (nomark _)))))), ?_⟩
    refine ⟨_, rfl, v, n, rfl, hv, _, rfl, ?_⟩
    cases v with
    | int i => exact iteT ⟨_, rfl, _, rfl, _, _, rfl, rfl, k⟩
    | _ => exact iteF k
theorem ok_isatleast (T : LX K mg L) : Cal P w K mg base "is_at_least" 2 L.f_is_at_least ["value", "least"] (spAtL) := T.d_is_at_least.cal fun fd F => fn_isatleast T F
abbrev N_iswithin : List Str := ["value", "least", "most"]
theorem sc_iswithin : FnScope N_iswithin ["value", "least", "most"] (defScope st_is_within) := ⟨rfl, rfl, rfl, by decide +kernel, rfl, by decide +kernel, by decide +kernel⟩
theorem fn_iswithin (T : LX K mg L) {fd : FuncData} (F : Fun K "is_within" "is_within" st_is_within L.f_is_within fd) : FnOk P w K mg base CX0 2 L.f_is_within fd ["value", "least", "most"] (spWithin) := by
  have G_isinteger := ok_isinteger (P := P) (w := w) (base := base) T
  have nd := sc_iswithin.nd
  refine F.ok sc_iswithin (fun vs H Q E h => ?_) (fun cdv A outer S H vs Q E hr h => ?_)
  · obtain ⟨v, n, l, m, rfl, _⟩ := h
    rfl
  · obtain ⟨v, n, l, m, rfl, hv, k⟩ := h
    refine ⟨_, (pss_one (ps_ret (pe_and (pe_c G_isinteger (hr.mono (by decide)) rfl (pa_cons (pv 0) pa_nil)) (pe_one (pe_chain op_le op_le (pv 1) (pv 0) (pv 2)))))), ?_⟩
    refine ⟨_, rfl, v, n, rfl, hv, _, rfl, ?_⟩
    cases v with
    | int i =>
      refine iteT ⟨_, rfl, _, rfl, _, _, rfl, rfl, _, rfl, ?_⟩
      refine ite2 (fun c => ?_) (fun c => ?_)
      · refine ⟨_, rfl, _, _, rfl, rfl, ?_⟩
        have c' : decide (l ≤ i) = true := c
        have k' : Q (.bl (decide (l ≤ i) && decide (i ≤ m))) H := k
        rw [c', Bool.true_and] at k'
        exact k'
      · have c' : decide (l ≤ i) = false := by simpa using c
        have k' : Q (.bl (decide (l ≤ i) && decide (i ≤ m))) H := k
        rw [c', Bool.false_and] at k'
        exact k'
    | _ => exact iteF k
theorem ok_iswithin (T : LX K mg L) : Cal P w K mg base "is_within" 2 L.f_is_within ["value", "least", "most"] (spWithin) := T.d_is_within.cal fun fd F => fn_iswithin T F
end
/-! ### trains as data -/
abbrev Trn := Int × Int × Option Int
def OkTr (t : Trn) : Prop := 0 ≤ t.1 ∧ 1 ≤ t.2.1 ∧ ∀ c, t.2.2 = some c → 1 ≤ c
/-- all times of the first are before the second -/
def Lt (t u : Trn) : Prop := ∃ c, t.2.2 = some c ∧ t.1 + (c - 1) * t.2.1 < u.1
def Srt (ts : List Trn) : Prop := (∀ t ∈ ts, OkTr t) ∧ ts.Pairwise Lt
def minO (n : Int) : Option Int → Int
  | none => n
  | some c => if c < n then c else n
/-- how many times of a train are before x -/
def nbT (t : Trn) (x : Int) : Int := minO (stepsUp (x - t.1) t.2.1) t.2.2
def NB : List Trn → Int → Int
  | [], _ => 0
  | t :: ts, x => nbT t x + NB ts x
def At : List Trn → Int → Option Int
  | [], _ => none
  | t :: ts, i => match t.2.2 with
    | none => some (t.1 + i * t.2.1)
    | some c => if i < c then some (t.1 + i * t.2.1) else At ts (i - c)
def addO (c : Int) : Option Int → Option Int
  | none => none
  | some n => some (c + n)
def Tot : List Trn → Option Int
  | [] => some 0
  | t :: ts => match t.2.2 with
    | none => none
    | some c => addO c (Tot ts)
/-- d / s, rounded up -/
def cl (d s : Int) : Int := -(-d / s)
theorem stepsUp_cl (d s : Int) : stepsUp d s = if cl d s > 0 then cl d s else 0 := rfl
theorem cl_sub (d s c : Int) (hs : 0 < s) : cl (d - c * s) s = cl d s - c := by
  unfold cl
  have e : -(d - c * s) = -d + c * s := by omega
  rw [e, Int.add_mul_ediv_right _ _ (show s ≠ 0 by omega)]
  omega
theorem cl_le {d s n : Int} (hs : 0 < s) : cl d s ≤ n ↔ d ≤ n * s := by
  unfold cl
  have h : -n ≤ -d / s ↔ -n * s ≤ -d := Int.le_ediv_iff_mul_le hs
  rw [Int.neg_mul] at h
  omega
theorem cl_gt {d s n : Int} (hs : 0 < s) : n < cl d s ↔ n * s < d := by
  have h := cl_le (d := d) (s := s) (n := n) hs
  omega
def subO (k : Option Int) (c : Int) : Option Int := match k with
  | none => none
  | some n => some (n - c)
/-- a train is its first c times, and the others -/
theorem nbT_split {s p c : Int} {k : Option Int} (hp : 0 < p) (hc : 0 ≤ c) (hk : ∀ n, k = some n → c ≤ n) (x : Int) : nbT (s, p, k) x = nbT (s, p, some c) x + nbT (s + c * p, p, subO k c) x := by
  have e : x - (s + c * p) = x - s - c * p := by omega
  show minO (stepsUp (x - s) p) k = minO (stepsUp (x - s) p) (some c) + minO (stepsUp (x - (s + c * p)) p) (subO k c)
  rw [e, stepsUp_cl, stepsUp_cl, cl_sub _ _ _ hp]
  cases k with
  | none =>
    show (if cl (x - s) p > 0 then cl (x - s) p else 0) = (if c < (if cl (x - s) p > 0 then cl (x - s) p else 0) then c else (if cl (x - s) p > 0 then cl (x - s) p else 0)) + (if cl (x - s) p - c > 0 then cl (x - s) p - c else 0)
    split <;> split <;> split <;> omega
  | some n =>
    have := hk n rfl
    show (if n < (if cl (x - s) p > 0 then cl (x - s) p else 0) then n else (if cl (x - s) p > 0 then cl (x - s) p else 0)) = (if c < (if cl (x - s) p > 0 then cl (x - s) p else 0) then c else (if cl (x - s) p > 0 then cl (x - s) p else 0)) + (if n - c < (if cl (x - s) p - c > 0 then cl (x - s) p - c else 0) then n - c else (if cl (x - s) p - c > 0 then cl (x - s) p - c else 0))
    split <;> split <;> split <;> split <;> (try split) <;> omega
/-- the step of a single time is nothing -/
theorem nbT_one {s p q : Int} (hp : 0 < p) (hq : 0 < q) (x : Int) : nbT (s, p, some 1) x = nbT (s, q, some 1) x := by
  have one : ∀ p : Int, 0 < p → nbT (s, p, some 1) x = if s < x then 1 else 0 := fun p hp => by
    show (if (1 : Int) < (if cl (x - s) p > 0 then cl (x - s) p else 0) then (1 : Int) else (if cl (x - s) p > 0 then cl (x - s) p else 0)) = _
    have h0 : 0 < cl (x - s) p ↔ 0 * p < x - s := cl_gt hp
    rw [Int.zero_mul] at h0
    split <;> split <;> split <;> omega
  rw [one p hp, one q hq]
theorem NB_app : ∀ (ts us : List Trn) (x : Int), NB (ts ++ us) x = NB ts x + NB us x
  | [], us, x => by show NB us x = 0 + NB us x; omega
  | t :: ts, us, x => by
    show nbT t x + NB (ts ++ us) x = nbT t x + NB ts x + NB us x
    rw [NB_app ts us x]
    omega
theorem addO_addO (a b : Int) (k : Option Int) : addO a (addO b k) = addO (a + b) k := by
  cases k with
  | none => rfl
  | some n => show some (a + (b + n)) = some (a + b + n); rw [Int.add_assoc]
theorem nbT_nn {t : Trn} (h : OkTr t) (x : Int) : 0 ≤ nbT t x := by
  obtain ⟨s, p, k⟩ := t
  show 0 ≤ minO (stepsUp (x - s) p) k
  rw [stepsUp_cl]
  cases k with
  | none => show 0 ≤ if cl (x - s) p > 0 then cl (x - s) p else 0; split <;> omega
  | some c =>
    have := h.2.2 c rfl
    show 0 ≤ if c < (if cl (x - s) p > 0 then cl (x - s) p else 0) then c else (if cl (x - s) p > 0 then cl (x - s) p else 0)
    split <;> (try split) <;> omega
theorem nbT_zero {t : Trn} (h : OkTr t) {x : Int} (hx : x ≤ t.1) : nbT t x = 0 := by
  obtain ⟨s, p, k⟩ := t
  have hp : 0 < p := by
    have h2 : 1 ≤ p := h.2.1
    omega
  have h1 : cl (x - s) p ≤ 0 := (cl_le hp).mpr (by
    have h2 : x ≤ s := hx
    omega)
  show minO (stepsUp (x - s) p) k = 0
  rw [stepsUp_cl, if_neg (by omega)]
  cases k with
  | none => rfl
  | some c =>
    have := h.2.2 c rfl
    show (if c < 0 then c else 0) = 0
    rw [if_neg (by omega)]
theorem nbT_all {t : Trn} (h : OkTr t) {x c : Int} (hc : t.2.2 = some c) (hx : t.1 + (c - 1) * t.2.1 < x) : nbT t x = c := by
  obtain ⟨s, p, k⟩ := t
  have hp : 0 < p := by
    have h2 : 1 ≤ p := h.2.1
    omega
  have h0 : k = some c := hc
  subst h0
  have h1 : c - 1 < cl (x - s) p := (cl_gt hp).mpr (by
    have h2 : s + (c - 1) * p < x := hx
    omega)
  have := h.2.2 c rfl
  show (if c < stepsUp (x - s) p then c else stepsUp (x - s) p) = c
  rw [stepsUp_cl]
  split <;> (try split at *) <;> omega
theorem NB_nn {ts : List Trn} (h : ∀ t ∈ ts, OkTr t) (x : Int) : 0 ≤ NB ts x := by
  induction ts with
  | nil => exact Int.le_refl _
  | cons t ts ih =>
    have h1 := nbT_nn (h t (List.mem_cons_self ..)) x
    have h2 := ih fun u hu => h u (List.mem_cons_of_mem _ hu)
    show 0 ≤ nbT t x + NB ts x
    omega
theorem NB_zero {ts : List Trn} (h : ∀ t ∈ ts, OkTr t) {x : Int} (hx : ∀ t ∈ ts, x ≤ t.1) : NB ts x = 0 := by
  induction ts with
  | nil => rfl
  | cons t ts ih =>
    show nbT t x + NB ts x = 0
    rw [nbT_zero (h t (List.mem_cons_self ..)) (hx t (List.mem_cons_self ..)), ih (fun u hu => h u (List.mem_cons_of_mem _ hu)) fun u hu => hx u (List.mem_cons_of_mem _ hu)]
    rfl
theorem Srt.tail {t : Trn} {ts : List Trn} (h : Srt (t :: ts)) : Srt ts := ⟨fun u hu => h.1 u (List.mem_cons_of_mem _ hu), (List.pairwise_cons.mp h.2).2⟩
theorem Srt.head {t : Trn} {ts : List Trn} (h : Srt (t :: ts)) : OkTr t := h.1 t (List.mem_cons_self ..)
theorem Srt.lt {t : Trn} {ts : List Trn} (h : Srt (t :: ts)) : ∀ u ∈ ts, Lt t u := (List.pairwise_cons.mp h.2).1
theorem lt_start {t u : Trn} (h : OkTr t) (l : Lt t u) : t.1 < u.1 := by
  obtain ⟨c, e, q⟩ := l
  have hc := h.2.2 c e
  have : 0 ≤ (c - 1) * t.2.1 := Int.mul_nonneg (by omega) (by have := h.2.1; omega)
  omega
/-! what is before x, and which time is the i-th -/
theorem nbT_le {t : Trn} {x c : Int} (e : t.2.2 = some c) : nbT t x ≤ c := by
  unfold nbT
  rw [e]
  show (if c < stepsUp (x - t.1) t.2.1 then c else stepsUp (x - t.1) t.2.1) ≤ c
  split <;> omega
/-- the times before x are those with an index below nbT -/
theorem nbT_lt {t : Trn} (h : OkTr t) {x i : Int} (i0 : 0 ≤ i) (hi : ∀ c, t.2.2 = some c → i < c) : i < nbT t x ↔ t.1 + i * t.2.1 < x := by
  obtain ⟨s, p, k⟩ := t
  have hp : 0 < p := by
    have h2 : 1 ≤ p := h.2.1
    omega
  have h1 : i < cl (x - s) p ↔ i * p < x - s := cl_gt hp
  have e : (s + i * p < x) ↔ i * p < x - s := by omega
  show i < minO (stepsUp (x - s) p) k ↔ s + i * p < x
  rw [stepsUp_cl, e, ← h1]
  cases k with
  | none =>
    show i < (if cl (x - s) p > 0 then cl (x - s) p else 0) ↔ _
    split <;> omega
  | some c =>
    have := hi c rfl
    show i < (if c < (if cl (x - s) p > 0 then cl (x - s) p else 0) then c else (if cl (x - s) p > 0 then cl (x - s) p else 0)) ↔ _
    split <;> (try split) <;> (try split at *) <;> omega
theorem At_lt : ∀ {ts : List Trn}, Srt ts → ∀ {i y : Int}, 0 ≤ i → At ts i = some y → ∀ x, i < NB ts x ↔ y < x
  | [], _, i, y, _, e, _ => by cases e
  | t :: ts, h, i, y, i0, e, x => by
    have ht := h.head
    have hs := h.tail
    have nn := NB_nn hs.1 x
    cases hk : t.2.2 with
    | none =>
      have e' : At (t :: ts) i = some (t.1 + i * t.2.1) := by
        show (match t.2.2 with | none => some (t.1 + i * t.2.1) | some c => if i < c then some (t.1 + i * t.2.1) else At ts (i - c)) = _
        rw [hk]
      rw [e'] at e
      have ey := Option.some.inj e
      subst ey
      have nt : ts = [] := by
        cases ts with
        | nil => rfl
        | cons u us =>
          obtain ⟨c, hc, _⟩ := h.lt u (List.mem_cons_self ..)
          rw [hk] at hc
          cases hc
      subst nt
      have := nbT_lt ht (x := x) i0 (fun c hc => by rw [hk] at hc; cases hc)
      show i < nbT t x + 0 ↔ _
      rw [Int.add_zero]
      exact this
    | some c =>
      have e' : At (t :: ts) i = if i < c then some (t.1 + i * t.2.1) else At ts (i - c) := by
        show (match t.2.2 with | none => some (t.1 + i * t.2.1) | some c => if i < c then some (t.1 + i * t.2.1) else At ts (i - c)) = _
        rw [hk]
      rw [e'] at e
      show i < nbT t x + NB ts x ↔ y < x
      by_cases hi : i < c
      · rw [if_pos hi] at e
        have ey := Option.some.inj e
        have h1 := nbT_lt ht (x := x) i0 (fun c' hc => by rw [hk] at hc; cases hc; exact hi)
        by_cases hl : t.1 + (c - 1) * t.2.1 < x
        · have h2 := nbT_all ht hk hl
          omega
        · have h3 : NB ts x = 0 := NB_zero hs.1 fun u hu => by
            obtain ⟨c', hc, q⟩ := h.lt u hu
            rw [hk] at hc
            cases hc
            omega
          omega
      · rw [if_neg hi] at e
        have ih := At_lt hs (i := i - c) (by omega) e x
        have h2 := nbT_le (x := x) hk
        by_cases hl : t.1 + (c - 1) * t.2.1 < x
        · have h3 := nbT_all ht hk hl
          omega
        · have h3 : NB ts x = 0 := NB_zero hs.1 fun u hu => by
            obtain ⟨c', hc, q⟩ := h.lt u hu
            rw [hk] at hc
            cases hc
            omega
          omega
theorem tot_nn : ∀ {ts : List Trn}, (∀ t ∈ ts, OkTr t) → ∀ n, Tot ts = some n → 0 ≤ n
  | [], _, n, e => by cases e; exact Int.le_refl _
  | t :: ts, h, n, e => by
    cases hk : t.2.2 with
    | none =>
      have e2 : Tot (t :: ts) = none := by
        show (match t.2.2 with | none => none | some c => addO c (Tot ts)) = _
        rw [hk]
      rw [e2] at e
      cases e
    | some c =>
      have e2 : Tot (t :: ts) = addO c (Tot ts) := by
        show (match t.2.2 with | none => none | some c => addO c (Tot ts)) = _
        rw [hk]
      rw [e2] at e
      cases ht : Tot ts with
      | none => rw [ht] at e; cases e
      | some m =>
        rw [ht] at e
        have z' : c + m = n := Option.some.inj e
        have := tot_nn (fun u hu => h u (List.mem_cons_of_mem _ hu)) m ht
        have := (h t (List.mem_cons_self ..)).2.2 c hk
        omega
theorem At_none : ∀ {ts : List Trn}, (∀ t ∈ ts, OkTr t) → ∀ {i : Int}, 0 ≤ i → (At ts i = none ↔ ∃ n, Tot ts = some n ∧ n ≤ i)
  | [], _, i, i0 => ⟨fun _ => ⟨0, rfl, i0⟩, fun _ => rfl⟩
  | t :: ts, h, i, i0 => by
    cases hk : t.2.2 with
    | none =>
      have e' : At (t :: ts) i = some (t.1 + i * t.2.1) := by
        show (match t.2.2 with | none => some (t.1 + i * t.2.1) | some c => if i < c then some (t.1 + i * t.2.1) else At ts (i - c)) = _
        rw [hk]
      have e2 : Tot (t :: ts) = none := by
        show (match t.2.2 with | none => none | some c => addO c (Tot ts)) = _
        rw [hk]
      rw [e', e2]
      exact ⟨fun z => (by cases z), fun ⟨n, z, _⟩ => (by cases z)⟩
    | some c =>
      have e' : At (t :: ts) i = if i < c then some (t.1 + i * t.2.1) else At ts (i - c) := by
        show (match t.2.2 with | none => some (t.1 + i * t.2.1) | some c => if i < c then some (t.1 + i * t.2.1) else At ts (i - c)) = _
        rw [hk]
      have e2 : Tot (t :: ts) = addO c (Tot ts) := by
        show (match t.2.2 with | none => none | some c => addO c (Tot ts)) = _
        rw [hk]
      have tn : ∀ n, Tot ts = some n → 0 ≤ n := tot_nn fun u hu => h u (List.mem_cons_of_mem _ hu)
      rw [e', e2]
      by_cases hi : i < c
      · rw [if_pos hi]
        refine ⟨fun z => (by cases z), fun ⟨n, z, hn⟩ => ?_⟩
        cases ht : Tot ts with
        | none => rw [ht] at z; cases z
        | some m =>
          rw [ht] at z
          have := tn m ht
          have z' : c + m = n := Option.some.inj z
          omega
      · rw [if_neg hi]
        have ih := At_none (ts := ts) (fun u hu => h u (List.mem_cons_of_mem _ hu)) (i := i - c) (by omega)
        rw [ih]
        constructor
        · rintro ⟨n, e, hn⟩
          exact ⟨c + n, by rw [e]; rfl, by omega⟩
        · rintro ⟨n, e, hn⟩
          cases ht : Tot ts with
          | none => rw [ht] at e; cases e
          | some m =>
            rw [ht] at e
            have z' : c + m = n := Option.some.inj e
            exact ⟨m, rfl, by omega⟩
theorem NB_tot : ∀ {ts : List Trn}, (∀ t ∈ ts, OkTr t) → ∀ {n : Int}, Tot ts = some n → ∀ x, NB ts x ≤ n
  | [], _, n, e, x => by cases e; exact Int.le_refl _
  | t :: ts, h, n, e, x => by
    cases hk : t.2.2 with
    | none =>
      have e2 : Tot (t :: ts) = none := by
        show (match t.2.2 with | none => none | some c => addO c (Tot ts)) = _
        rw [hk]
      rw [e2] at e
      cases e
    | some c =>
      have e2 : Tot (t :: ts) = addO c (Tot ts) := by
        show (match t.2.2 with | none => none | some c => addO c (Tot ts)) = _
        rw [hk]
      rw [e2] at e
      cases ht : Tot ts with
      | none => rw [ht] at e; cases e
      | some m =>
        rw [ht] at e
        have z' : c + m = n := Option.some.inj e
        have h1 := nbT_le (x := x) hk
        have h2 := NB_tot (fun u hu => h u (List.mem_cons_of_mem _ hu)) ht x
        show nbT t x + NB ts x ≤ n
        omega
theorem nbT_step {t : Trn} (h : OkTr t) (x : Int) : nbT t (x + 1) ≤ nbT t x + 1 := by
  obtain ⟨s, p, k⟩ := t
  have hp : 1 ≤ p := h.2.1
  have h1 : cl (x + 1 - s) p ≤ cl (x - s) p + 1 := by
    refine (cl_le (by omega)).mpr ?_
    have h2 : x - s ≤ cl (x - s) p * p := (cl_le (by omega)).mp (Int.le_refl _)
    rw [Int.add_mul, Int.one_mul]
    omega
  show minO (stepsUp (x + 1 - s) p) k ≤ minO (stepsUp (x - s) p) k + 1
  rw [stepsUp_cl, stepsUp_cl]
  cases k with
  | none =>
    show (if cl (x + 1 - s) p > 0 then cl (x + 1 - s) p else 0) ≤ (if cl (x - s) p > 0 then cl (x - s) p else 0) + 1
    split <;> split <;> omega
  | some c =>
    show (if c < (if cl (x + 1 - s) p > 0 then cl (x + 1 - s) p else 0) then c else (if cl (x + 1 - s) p > 0 then cl (x + 1 - s) p else 0)) ≤ (if c < (if cl (x - s) p > 0 then cl (x - s) p else 0) then c else (if cl (x - s) p > 0 then cl (x - s) p else 0)) + 1
    repeat' split
    all_goals omega
theorem NB_step : ∀ {ts : List Trn}, Srt ts → ∀ x, NB ts (x + 1) ≤ NB ts x + 1
  | [], _, x => by show (0 : Int) ≤ 0 + 1; omega
  | t :: ts, h, x => by
    have ht := h.head
    have hs := h.tail
    have st := nbT_step ht x
    show nbT t (x + 1) + NB ts (x + 1) ≤ nbT t x + NB ts x + 1
    cases hk : t.2.2 with
    | none =>
      have nt : ts = [] := by
        cases ts with
        | nil => rfl
        | cons u us =>
          obtain ⟨c, hc, _⟩ := h.lt u (List.mem_cons_self ..)
          rw [hk] at hc
          cases hc
      subst nt
      show nbT t (x + 1) + 0 ≤ nbT t x + 0 + 1
      omega
    | some c =>
      by_cases hl : t.1 + (c - 1) * t.2.1 < x
      · have h1 := nbT_all ht hk hl
        have h2 := nbT_all ht hk (show t.1 + (c - 1) * t.2.1 < x + 1 by omega)
        have h3 := NB_step hs x
        omega
      · have z : ∀ y, y ≤ x + 1 → NB ts y = 0 := fun y hy => NB_zero hs.1 fun u hu => by
          obtain ⟨c', hc, q⟩ := h.lt u hu
          rw [hk] at hc
          cases hc
          omega
        have h1 := z x (by omega)
        have h2 := z (x + 1) (Int.le_refl _)
        omega
/-- the i-th time is told by what is before x -/
theorem At_iff {ts : List Trn} (h : Srt ts) {i y : Int} (i0 : 0 ≤ i) : At ts i = some y ↔ NB ts y = i ∧ NB ts (y + 1) = i + 1 := by
  have one : ∀ {z}, At ts i = some z → NB ts z = i ∧ NB ts (z + 1) = i + 1 := fun {z} e => by
    have h1 := At_lt h i0 e z
    have h2 := At_lt h i0 e (z + 1)
    have h3 := NB_step h z
    omega
  refine ⟨one, fun ⟨e1, e2⟩ => ?_⟩
  cases q : At ts i with
  | none =>
    obtain ⟨n, e3, e4⟩ := (At_none h.1 i0).mp q
    have := NB_tot h.1 e3 (y + 1)
    omega
  | some w =>
    have h3 := At_lt h i0 q y
    have h4 := At_lt h i0 q (y + 1)
    congr 1
    omega
/-- trains with the same counts have the same times -/
theorem At_same {ts us : List Trn} (h : Srt ts) (h' : Srt us) (e : ∀ x, NB ts x = NB us x) {i : Int} (i0 : 0 ≤ i) : At ts i = At us i := by
  cases q : At ts i with
  | some y =>
    obtain ⟨e1, e2⟩ := (At_iff h i0).mp q
    exact ((At_iff h' i0).mpr ⟨by rw [← e]; exact e1, by rw [← e]; exact e2⟩).symm
  | none =>
    cases q2 : At us i with
    | none => rfl
    | some y =>
      obtain ⟨e1, e2⟩ := (At_iff h' i0).mp q2
      rw [(At_iff h i0).mpr ⟨by rw [e]; exact e1, by rw [e]; exact e2⟩] at q
      cases q
/-! ### rows in the heap -/
/-! ### breakers and rows -/
abbrev Tri := Int × Int × Int
def TriV (t : Tri) : List V := [.int t.1, .int t.2.1, .int t.2.2]
def BrAt (H : Hp) (x : V) (t : Tri) : Prop := ∃ a, x = .ref a ∧ H a = some (.tup (TriV t))
def OkT (t : Tri) : Prop := 1 ≤ t.1 ∧ t.1 ≤ 1000000000000 ∧ 1 ≤ t.2.1 ∧ t.2.1 ≤ 1000000000000000000000000000000 ∧ 1 ≤ t.2.2 ∧ t.2.2 ≤ 1000000000000
abbrev Brs (H : Hp) (xs : List V) (ts : List Tri) : Prop := Paired (BrAt H) xs ts
theorem BrAt.nl {H H' : Hp} (k : NL H H') {x : V} {t : Tri} (h : BrAt H x t) : BrAt H' x t := by
  obtain ⟨a, e, h⟩ := h
  exact ⟨a, e, k _ _ h fun _ z => nomatch z⟩
theorem Brs.nl {H H' : Hp} (k : NL H H') {xs : List V} {ts : List Tri} (h : Brs H xs ts) : Brs H' xs ts := L2.Paired.mapP h fun _ _ z => z.nl k
theorem Brs.len {H : Hp} : ∀ {xs : List V} {ts : List Tri}, Brs H xs ts → xs.length = ts.length
  | _, _, .nil => rfl
  | _, _, .cons _ t => congrArg Nat.succ (Brs.len t)
theorem Brs.get {H : Hp} : ∀ {xs : List V} {ts : List Tri} {i : Nat} {x : V}, Brs H xs ts → xs[i]? = some x → ∃ t, ts[i]? = some t ∧ BrAt H x t
  | _, _, _, _, .nil, e => by simp at e
  | _, _, 0, _, .cons r _, e => by simp at e; subst e; exact ⟨_, rfl, r⟩
  | _, _, i + 1, x, .cons _ t, e => by
    obtain ⟨u, h1, h2⟩ := Brs.get (i := i) (x := x) t (by simpa using e)
    exact ⟨u, by simpa using h1, h2⟩
theorem Brs.app {H : Hp} : ∀ {xs ys : List V} {ts us : List Tri}, Brs H xs ts → Brs H ys us → Brs H (xs ++ ys) (ts ++ us)
  | _, _, _, _, .nil, s => s
  | _, _, _, _, .cons r t, s => .cons r (Brs.app t s)
theorem Brs.rev {H : Hp} : ∀ {xs : List V} {ts : List Tri}, Brs H xs ts → Brs H xs.reverse ts.reverse
  | _, _, .nil => .nil
  | _, _, .cons r t => by
    rw [List.reverse_cons, List.reverse_cons]
    exact Brs.app (Brs.rev t) (.cons r .nil)
theorem Brs.take {H : Hp} : ∀ {xs : List V} {ts : List Tri} (n : Nat), Brs H xs ts → Brs H (xs.take n) (ts.take n)
  | _, _, 0, _ => .nil
  | _, _, _ + 1, .nil => .nil
  | _, _, n + 1, .cons r t => .cons r (Brs.take n t)
theorem Brs.drop {H : Hp} : ∀ {xs : List V} {ts : List Tri} (n : Nat), Brs H xs ts → Brs H (xs.drop n) (ts.drop n)
  | _, _, 0, r => r
  | _, _, _ + 1, .nil => .nil
  | _, _, n + 1, .cons _ t => Brs.drop n t
/-! the attributes of a row, as __init__ stores them -/
theorem k1 : ¬ (("breakers" : Str) = "step") := by decide +kernel
theorem k2 : ¬ (("breakers" : Str) = "phase") := by decide +kernel
theorem k3 : ¬ (("step" : Str) = "phase") := by decide +kernel
def rowF (T : Addr) (st ph : Int) : List (Str × V) := putF "phase" (.int ph) (putF "step" (.int st) (putF "breakers" (.ref T) []))
theorem rowF_b (T : Addr) (st ph : Int) : (rowF T st ph).lookup ("breakers" : Str) = some (.ref T) := by
  unfold rowF
  rw [lookup_putF, if_neg k2, lookup_putF, if_neg k1, lookup_putF, if_pos rfl]
theorem rowF_s (T : Addr) (st ph : Int) : (rowF T st ph).lookup ("step" : Str) = some (.int st) := by
  unfold rowF
  rw [lookup_putF, if_neg k3, lookup_putF, if_pos rfl]
theorem rowF_p (T : Addr) (st ph : Int) : (rowF T st ph).lookup ("phase" : Str) = some (.int ph) := by
  unfold rowF
  rw [lookup_putF, if_pos rfl]
theorem rowF_no (T : Addr) (st ph : Int) {m : Str} (h1 : ¬ m = "phase") (h2 : ¬ m = "step") (h3 : ¬ m = "breakers") : (rowF T st ph).lookup m = none := by
  unfold rowF
  rw [lookup_putF, if_neg h1, lookup_putF, if_neg h2, lookup_putF, if_neg h3]
  all_goals rfl
/-- a Row stands at p -/
structure RowAt (C : Addr) (H : Hp) (p T : Addr) (xs : List V) (ts : List Tri) (st ph : Int) : Prop where
  ob : ∃ dx, H p = some (.ins C dx (rowF T st ph))
  tp : H T = some (.tup xs)
  br : Brs H xs ts
  ok : ∀ t ∈ ts, OkT t
  ln : ts.length ≤ 12
  s0 : 1 ≤ st
  s1 : st ≤ 1000000000000000000000000000000
  p0 : 0 ≤ ph
  p1 : ph ≤ 1000000000000000000000000000000
theorem RowAt.nl {C : Addr} {H H' : Hp} {p T : Addr} {xs : List V} {ts : List Tri} {st ph : Int} (R : RowAt C H p T xs ts st ph) (k : NL H H') : RowAt C H' p T xs ts st ph := by
  obtain ⟨dx, h⟩ := R.ob
  exact ⟨⟨dx, k _ _ h fun _ z => nomatch z⟩, k _ _ R.tp fun _ z => (nomatch z), R.br.nl k, R.ok, R.ln, R.s0, R.s1, R.p0, R.p1⟩
/-! ### promises -/
def spIsBr : Sp := fun vs H Q _ => ∃ x t, vs = [x] ∧ BrAt H x t ∧ OkT t ∧ Q (.bl true) H
def spRChk : Sp := fun vs H Q _ => ∃ a xs ts pt, vs = [.ref a, .str pt] ∧ H a = some (.lst xs) ∧ Brs H xs ts ∧ (∀ t ∈ ts, OkT t) ∧ ts.length ≤ 12 ∧ ∀ H', Same H H' → Q .non H'
def spRStep : Sp := fun vs H Q _ => ∃ st : Int, vs = [.int st] ∧ 1 ≤ st ∧ st ≤ 1000000000000000000000000000000 ∧ Q .non H
def spRInit (C : Addr) : Sp := fun vs H Q _ => ∃ p a st ph xs ts dx, vs = [.ref p, .ref a, .int st, .int ph] ∧ H p = some (.ins C dx []) ∧ H a = some (.lst xs) ∧ Brs H xs ts ∧ (∀ t ∈ ts, OkT t) ∧ ts.length ≤ 12 ∧
  (1 ≤ st ∧ st ≤ 1000000000000000000000000000000 ∧ 0 ≤ ph ∧ ph ≤ 1000000000000000000000000000000) ∧ ∀ T H', RowAt C H' p T xs ts st ph → Kp p H H' → Q .non H'
def spRBl (C : Addr) : Sp := fun vs H Q _ => ∃ p T xs ts st ph, vs = [.ref p] ∧ RowAt C H p T xs ts st ph ∧ ∀ l H', H l = none → H' = upd H l (.lst xs) → Q (.ref l) H'
def spRSt (C : Addr) : Sp := fun vs H Q _ => ∃ p T xs ts st ph, vs = [.ref p] ∧ RowAt C H p T xs ts st ph ∧ Q (.int st) H
def spRPh (C : Addr) : Sp := fun vs H Q _ => ∃ p T xs ts st ph, vs = [.ref p] ∧ RowAt C H p T xs ts st ph ∧ Q (.int ph) H
def spRLen (C : Addr) : Sp := fun vs H Q _ => ∃ p T xs ts st ph, vs = [.ref p] ∧ RowAt C H p T xs ts st ph ∧ Q (.int xs.length) H
def spRGet (C : Addr) : Sp := fun vs H Q _ => ∃ p T xs ts st ph i x, vs = [.ref p, .int i] ∧ RowAt C H p T xs ts st ph ∧ 0 ≤ i ∧ atI xs i = some x ∧ i < xs.length ∧ Q x H
def spRCon (C : Addr) : Sp := fun vs H Q _ => ∃ p T xs ts st ph x n, vs = [.ref p, x] ∧ RowAt C H p T xs ts st ph ∧ Kd H x n ∧ Q (.bl (isI x && (decide (ph ≤ toI x) && decide ((toI x - ph) % st = 0)))) H
def spRRt (C : Addr) : Sp := fun vs H Q _ => ∃ p T xs ts st ph i, vs = [.ref p, .int i] ∧ RowAt C H p T xs ts st ph ∧ 0 ≤ i ∧ i ≤ BB ∧ Q (.int (ph + i * st)) H
def spRFr (C : Addr) : Sp := fun vs H Q _ => ∃ p T xs ts st ph i, vs = [.ref p, .int i] ∧ RowAt C H p T xs ts st ph ∧ 0 ≤ i ∧ Q (.int (stepsUp (i - ph) st)) H
theorem row_made {C : Addr} {H : Hp} {Q : Addr → Hp → Prop} {a : Addr} {st ph : Int} {xs : List V} {ts : List Tri} (ha : H a = some (.lst xs)) (hb : Brs H xs ts) (ho : ∀ t ∈ ts, OkT t) (hl : ts.length ≤ 12)
    (bd : 1 ≤ st ∧ st ≤ 1000000000000000000000000000000 ∧ 0 ≤ ph ∧ ph ≤ 1000000000000000000000000000000) (k : ∀ p T H', RowAt C H' p T xs ts st ph → Same H H' → H p = none → Q p H') :
    ∀ x dx, H x = none → H dx = none → dx ≠ x → spRInit C [.ref x, .ref a, .int st, .int ph] (upd (upd H dx (.own x)) x (.ins C dx [])) (fun v H3 => v = .non ∧ Q x H3) E0 := by
  intro x dx hx hd hne
  have s0 : Same H (upd (upd H dx (.own x)) x (.ins C dx [])) := fun b o e => by
    rw [upd_ne (ne_of_none e hx), upd_ne (ne_of_none e hd)]
    exact e
  refine ⟨x, a, st, ph, xs, ts, dx, rfl, upd_same, s0 _ _ ha, hb.nl (NL.of s0), ho, hl, bd, fun T H' R kp => ⟨rfl, k x T H' R (fun b o e => kp b o (ne_of_none e hx) (s0 b o e)) hx⟩⟩
abbrev RDat := List Tri × Int × Int
/-- what == is asked of -/
inductive EqOf (C : Addr) (H : Hp) (d : RDat) : V → Bool → Prop where
  | row {q U : Addr} {ys : List V} {us : List Tri} {st ph : Int} (R : RowAt C H q U ys us st ph) : EqOf C H d (.ref q) (decide (d = (us, st, ph)))
  | non : EqOf C H d .non false
  | lst {a : Addr} {xs : List V} (e : H a = some (.lst xs)) : EqOf C H d (.ref a) false
  | tup {a : Addr} {xs : List V} (e : H a = some (.tup xs)) : EqOf C H d (.ref a) false
theorem EqOf.nl {C : Addr} {H H' : Hp} {d : RDat} {v : V} {b : Bool} (h : EqOf C H d v b) (k : Same H H') : EqOf C H' d v b := by
  cases h with
  | row R => exact .row (R.nl (NL.of k))
  | non => exact .non
  | lst e => exact .lst (k _ _ e)
  | tup e => exact .tup (k _ _ e)
/-- breakers as data -/
def triD (t : Tri) : PyData := .tuple [.int t.1, .int t.2.1, .int t.2.2]
theorem Brs.dp {K : PySem.W.Frag} {H : Hp} : ∀ {xs : List V} {ts : List Tri}, Brs H xs ts → DpAll K H xs (ts.map triD)
  | _, _, .nil => .nil
  | _, _, .cons ⟨a, e, h⟩ t => by
    subst e
    exact .cons (.tup (SqT.of h) (.cons (.int _) (.cons (.int _) (.cons (.int _) .nil)))) (Brs.dp t)
theorem triD_eq (t u : Tri) : PyData.eqv (triD t) (triD u) = decide (t = u) := by
  obtain ⟨a, b, c⟩ := t
  obtain ⟨a', b', c'⟩ := u
  simp only [triD, PyData.eqv, PyData.eqvAll, Bool.and_true]
  rw [Bool.eq_iff_iff]
  simp [Prod.ext_iff]
theorem triDs_eq : ∀ ts us : List Tri, PyData.eqvAll (ts.map triD) (us.map triD) = decide (ts = us)
  | [], [] => by simp [PyData.eqvAll]
  | [], _ :: _ => by simp [PyData.eqvAll]
  | _ :: _, [] => by simp [PyData.eqvAll]
  | t :: ts, u :: us => by
    rw [List.map_cons, List.map_cons, PyData.eqvAll, triD_eq, triDs_eq ts us, Bool.eq_iff_iff]
    simp
theorem canAll : ∀ ts : List Tri, PyData.canLayAll0 (ts.map triD) = true
  | [] => by simp [PyData.canLayAll0]
  | t :: ts => by
    rw [List.map_cons, PyData.canLayAll0, canAll ts]
    simp [triD, PyData.canLay0, PyData.canLayAll0]
theorem depAll : ∀ ts : List Tri, PyData.depthAll (ts.map triD) ≤ 10
  | [] => by simp [PyData.depthAll]
  | t :: ts => by
    have := depAll ts
    rw [List.map_cons, PyData.depthAll]
    have h2 : (triD t).depth ≤ 10 := by simp [triD, PyData.depth, PyData.depthAll]
    omega
theorem shT (ts : List Tri) : SeqAt.shaped (.tuple (ts.map triD)) = true := by
  refine Bool.and_eq_true_iff.mpr ⟨?_, decide_eq_true ?_⟩
  · rw [PyData.canLay0]
    exact canAll ts
  · have := depAll ts
    rw [PyData.depth]
    omega

theorem wide200 {i j : Int} (h1 : i.natAbs < 2 ^ 200) (h2 : j.natAbs < 2 ^ 200) : CMulW i j := wide_mul h1 h2 (by decide) (by decide) (by decide)
theorem lt200 {i : Int} (h0 : 0 ≤ i) (h : i ≤ 1000000000000000000000000000000) : i.natAbs < 2 ^ 200 := Nat.lt_of_le_of_lt (show i.natAbs ≤ 1000000000000000000000000000000 by omega) (by decide)
theorem log200 {i : Int} (h0 : 1 ≤ i) (h : i ≤ 1000000000000000000000000000000) : i.natAbs.log2 < 9000 := (wide_div (by omega : 0 < i) (lt200 (by omega) h) (by decide) (by decide) (i := 0)).2
theorem st_bb {s : Int} (h : s ≤ 1000000000000000000000000000000) : s ≤ BB := Int.le_trans h (Int.le_trans (PB_of (n := 100) (by decide +kernel)) (PB_le (by decide)))
theorem k6_pos {P : Prop} {q : Prop} [Decidable P] [Decidable q] (h : P) (h' : q) : (decide P && decide q) = true := by rw [decide_eq_true h, decide_eq_true h']; rfl
section
variable {P : Program} {w : World} {K : PySem.W.Frag} {mg : Str → Option Value} {base : Heap} {L : LA}
abbrev N_isbreaker : List Str := ["value", "failures", "wait", "successes"]
theorem sc_isbreaker : FnScope N_isbreaker ["value"] (defScope st_is_breaker) := ⟨rfl, rfl, rfl, by decide +kernel, rfl, by decide +kernel, by decide +kernel⟩
theorem fn_isbreaker (T : LX K mg L) {fd : FuncData} (F : Fun K "is_breaker" "is_breaker" st_is_breaker L.f_is_breaker fd) : FnOk P w K mg base CX0 3 L.f_is_breaker fd ["value"] (spIsBr) := by
  have G_iswithin := ok_iswithin (P := P) (w := w) (base := base) T
  obtain ⟨tk_MOST_COUNT, c_MOST_COUNT⟩ := T.n_MOST_COUNT
  obtain ⟨tk_MOST_TIME, c_MOST_TIME⟩ := T.n_MOST_TIME
  have nd := sc_isbreaker.nd
  refine F.ok sc_isbreaker (fun vs H Q E h => ?_) (fun cdv A outer S H vs Q E hr h => ?_)
  · obtain ⟨x, t, rfl, _⟩ := h
    rfl
  · obtain ⟨x, t, rfl, ⟨a, rfl, ha⟩, ⟨h1, h2, h3, h4, h5, h6⟩, k⟩ := h
    refine ⟨_, (pss_cons (ps_if (PW.pt (pw_or (pt_not (pt_val (pe_callB call_isi (by rfl) T.b_isinstance (by decide +kernel) (pa_cons (pv 0) (pa_cons (pe_bltn (by rfl) T.b_tuple (by decide +kernel : bootBuiltins "tuple" = some (.type "tuple")) (v := .ty "tuple") rfl) pa_nil))))) (pw_or1 (pt_cmpR op_ne (pe_callB call_len_seq (by rfl) T.b_len PySem.boot_len (pa_cons (pv 0) pa_nil)) pe_int (nomark _))))) (pss_one (ps_ret pe_bl)) pss_nil)
       (pss_cons (ps_asg (pv 0) (pg_tup rfl (pgs_cons (pg_name (i := 1) nd rfl (Or.inl rfl)) (pgs_cons (pg_name (i := 2) nd rfl (Or.inl rfl)) (pgs_cons (pg_name (i := 3) nd rfl (Or.inl rfl)) pgs_nil)))))
       (pss_one (ps_ret (pe_and (pe_c G_iswithin (hr.mono (by decide)) rfl (pa_cons (pv 1) (pa_cons pe_int (pa_cons (pe_gI c_MOST_COUNT) pa_nil)))) (pe_and (pe_c G_iswithin (hr.mono (by decide)) rfl (pa_cons (pv 2) (pa_cons pe_int (pa_cons (pe_gI c_MOST_TIME) pa_nil)))) (pe_one (pe_c G_iswithin (hr.mono (by decide)) rfl (pa_cons (pv 3) (pa_cons pe_int (pa_cons (pe_gI c_MOST_COUNT) pa_nil))))))))))), ?_⟩
    refine ⟨_, rfl, _, .ty "tuple", _, _, _, rfl, .ty "tuple", (Kd.tup ha).ty, (Kd.tup ha).kit "tuple" _ (.inr ⟨by decide, by decide, rfl⟩), _, rfl, iteF ?_⟩
    refine ⟨_, rfl, a, _, rfl, .inr (SqT.of ha), rfl, _, rfl, iteF ?_⟩
    refine ⟨_, rfl, a, _, rfl, SqT.of ha, rfl, _, _, rfl, _, _, rfl, _, _, rfl, rfl, ?_⟩
    refine ⟨_, rfl, _, _, _, _, rfl, .int _, _, rfl, ?_⟩
    have e1 : (decide ((1 : Int) ≤ t.1) && decide (t.1 ≤ 1000000000000)) = true := k6_pos h1 h2
    have e2 : (decide ((1 : Int) ≤ t.2.1) && decide (t.2.1 ≤ 1000000000000000000000000000000)) = true := k6_pos h3 h4
    have e3 : (decide ((1 : Int) ≤ t.2.2) && decide (t.2.2 ≤ 1000000000000)) = true := k6_pos h5 h6
    show if (decide ((1 : Int) ≤ t.1) && decide (t.1 ≤ 1000000000000)) = true then _ else _
    rw [e1]
    refine iteT ?_
    refine ⟨_, rfl, _, _, _, _, rfl, .int _, _, rfl, ?_⟩
    show if (decide ((1 : Int) ≤ t.2.1) && decide (t.2.1 ≤ 1000000000000000000000000000000)) = true then _ else _
    rw [e2]
    refine iteT ?_
    refine ⟨_, rfl, _, _, _, _, rfl, .int _, ?_⟩
    show Q (.bl (decide ((1 : Int) ≤ t.2.2) && decide (t.2.2 ≤ 1000000000000))) H
    rw [e3]
    exact k
theorem ok_isbreaker (T : LX K mg L) : Cal P w K mg base "is_breaker" 3 L.f_is_breaker ["value"] (spIsBr) := T.d_is_breaker.cal fun fd F => fn_isbreaker T F
abbrev N_checkbreakers : List Str := ["breakers", "part", "at", "breaker"]
theorem sc_checkbreakers : FnScope N_checkbreakers ["breakers", "part"] (defScope st_check_breakers) := ⟨rfl, rfl, rfl, by decide +kernel, rfl, by decide +kernel, by decide +kernel⟩
theorem fn_checkbreakers (T : LX K mg L) {fd : FuncData} (F : Fun K "check_breakers" "check_breakers" st_check_breakers L.f_check_breakers fd) : FnOk P w K mg base CX0 4 L.f_check_breakers fd ["breakers", "part"] (spRChk) := by
  obtain ⟨tk_MOST_BREAKERS, c_MOST_BREAKERS⟩ := T.n_MOST_BREAKERS
  have G_isbreaker := ok_isbreaker (P := P) (w := w) (base := base) T
  have nd := sc_checkbreakers.nd
  refine F.ok sc_checkbreakers (fun vs H Q E h => ?_) (fun cdv A outer S H vs Q E hr h => ?_)
  · obtain ⟨a, xs, ts, pt, rfl, _⟩ := h
    rfl
  · obtain ⟨a, xs, ts, pt, rfl, ha, hb, ho, hl, k⟩ := h
    refine ⟨_, (pss_cons (ps_if (PW.pt (pw_or (pt_not (pt_val (pe_callB call_isi (by rfl) T.b_isinstance (by decide +kernel) (pa_cons (pv 0) (pa_cons (pe_bltn (by rfl) T.b_list (by decide +kernel : bootBuiltins "list" = some (.type "list")) (v := .ty "list") rfl) pa_nil))))) (pw_or1 (pt_cmpR op_gt (pe_callB call_len_seq (by rfl) T.b_len PySem.boot_len (pa_cons (pv 0) pa_nil)) (pe_gI c_MOST_BREAKERS) (nomark _))))) (pss_one (ps_never)) pss_nil)
       (pss_one (ps_for PassesOwn.never rfl (pi_enum (by rfl) T.b_enumerate (pa_cons (pv 0) pa_nil)) (pg_tup rfl (pgs_cons (pg_name (i := 2) nd rfl (Or.inl rfl)) (pgs_cons (pg_name (i := 3) nd rfl (Or.inl rfl)) pgs_nil))) (pss_one (ps_if (pt_not (pt_val (pe_c G_isbreaker (hr.mono (by decide)) rfl (pa_cons (pv 3) pa_nil)))) (pss_one (ps_never)) pss_nil))))), ?_⟩
    refine ⟨_, rfl, _, .ty "list", _, _, _, rfl, .ty "list", (Kd.lst ha).ty, (Kd.lst ha).kit "list" _ (.inr ⟨by decide, by decide, rfl⟩), _, rfl, iteF ?_⟩
    refine ⟨_, rfl, a, _, rfl, .inl (SqL.of ha), _, _, rfl, rfl, _, rfl, ?_⟩
    have hn : ¬ ((12 : Int) < (xs.length : Nat)) := by rw [hb.len]; omega
    rw [decide_eq_false hn]
    refine iteF ?_
    refine ⟨_, rfl, a, xs, rfl, SqL.of ha, for_enum (K := K) (a := a) (xs := xs) (fun i σ H2 => ∃ u v : Option V, σ = [some (.ref a), some (.str pt), u, v] ∧ Same H H2) ⟨none, none, rfl, Same.refl H⟩ (fun i σ H2 _ ⟨_, _, _, s2⟩ => SqL.of (s2 _ _ ha)) ?_ ?_⟩
    · rintro i x T' σ H2 hx ⟨u, v, rfl, s2⟩ hT
      obtain ⟨t, ht, hbr⟩ := hb.get hx
      have s3 : Same H (upd H2 T' (.tup [.int (i : Nat), x])) := s2.trans (Same.upd hT)
      refine ⟨T', _, rfl, SqT.of upd_same, rfl, _, _, rfl, _, _, rfl, rfl, ?_⟩
      refine ⟨_, rfl, x, t, rfl, hbr.nl (NL.of s3), ho t (List.mem_of_getElem? ht), _, rfl, iteF ?_⟩
      exact ⟨_, _, rfl, s3⟩
    · rintro σ H2 ⟨u, v, rfl, s2⟩
      exact k H2 s2
theorem ok_checkbreakers (T : LX K mg L) : Cal P w K mg base "check_breakers" 4 L.f_check_breakers ["breakers", "part"] (spRChk) := T.d_check_breakers.cal fun fd F => fn_checkbreakers T F
abbrev N_checkstep : List Str := ["step"]
theorem sc_checkstep : FnScope N_checkstep ["step"] (defScope st_check_step) := ⟨rfl, rfl, rfl, by decide +kernel, rfl, by decide +kernel, by decide +kernel⟩
theorem fn_checkstep (T : LX K mg L) {fd : FuncData} (F : Fun K "check_step" "check_step" st_check_step L.f_check_step fd) : FnOk P w K mg base CX0 3 L.f_check_step fd ["step"] (spRStep) := by
  have G_iswithin := ok_iswithin (P := P) (w := w) (base := base) T
  obtain ⟨tk_MOST_TIME, c_MOST_TIME⟩ := T.n_MOST_TIME
  have nd := sc_checkstep.nd
  refine F.ok sc_checkstep (fun vs H Q E h => ?_) (fun cdv A outer S H vs Q E hr h => ?_)
  · obtain ⟨st, rfl, _⟩ := h
    rfl
  · obtain ⟨st, rfl, b1, b2, k⟩ := h
    refine ⟨_, (pss_one (ps_if (pt_not (pt_val (pe_c G_iswithin (hr.mono (by decide)) rfl (pa_cons (pv 0) (pa_cons pe_int (pa_cons (pe_gI c_MOST_TIME) pa_nil)))))) (pss_one (ps_never)) pss_nil)), ?_⟩
    have e1 : (decide ((1 : Int) ≤ st) && decide (st ≤ 1000000000000000000000000000000)) = true := k6_pos b1 b2
    refine ⟨_, rfl, _, _, _, _, rfl, .int _, _, rfl, ?_⟩
    show if (!(decide ((1 : Int) ≤ st) && decide (st ≤ 1000000000000000000000000000000))) = true then _ else _
    rw [e1]
    exact iteF k
theorem ok_checkstep (T : LX K mg L) : Cal P w K mg base "check_step" 3 L.f_check_step ["step"] (spRStep) := T.d_check_step.cal fun fd F => fn_checkstep T F
end
/-! ### states of breakers, and data of them -/
abbrev StD := Str × Int
def StAt (H : Hp) (x : V) (s : StD) : Prop := ∃ a, x = .ref a ∧ H a = some (.tup [.str s.1, .int s.2])
abbrev Sts (H : Hp) (xs : List V) (ss : List StD) : Prop := Paired (StAt H) xs ss
theorem StAt.nl {H H' : Hp} (k : NL H H') {x : V} {d : StD} (h : StAt H x d) : StAt H' x d := by
  obtain ⟨a, e, h⟩ := h
  exact ⟨a, e, k _ _ h fun _ z => nomatch z⟩
theorem Sts.nl {H H' : Hp} (k : NL H H') {xs : List V} {ss : List StD} (h : Sts H xs ss) : Sts H' xs ss := L2.Paired.mapP h fun _ _ z => z.nl k
theorem paired_len {α β : Type} {F : α → β → Prop} : ∀ {xs : List α} {ys : List β}, Paired F xs ys → xs.length = ys.length
  | _, _, .nil => rfl
  | _, _, .cons _ p => by rw [List.length_cons, List.length_cons, paired_len p]
theorem paired_get {α β : Type} {F : α → β → Prop} : ∀ {xs : List α} {ys : List β} {i : Nat} {x : α}, Paired F xs ys → xs[i]? = some x → ∃ y, ys[i]? = some y ∧ F x y
  | _, _, i, x, .nil, e => by cases e
  | _, _, 0, x, .cons h _, e => by cases e; exact ⟨_, rfl, h⟩
  | _, _, i + 1, x, .cons _ p, e => paired_get (i := i) p e
theorem paired_get2 {α β : Type} {F : α → β → Prop} : ∀ {xs : List α} {ys : List β} {i : Nat} {y : β}, Paired F xs ys → ys[i]? = some y → ∃ x, xs[i]? = some x ∧ F x y
  | _, _, i, x, .nil, e => by cases e
  | _, _, 0, x, .cons h _, e => by cases e; exact ⟨_, rfl, h⟩
  | _, _, i + 1, x, .cons _ p, e => paired_get2 (i := i) p e
theorem paired_app {α β : Type} {F : α → β → Prop} : ∀ {xs us : List α} {ys vs : List β}, Paired F xs ys → Paired F us vs → Paired F (xs ++ us) (ys ++ vs)
  | _, _, _, _, .nil, q => q
  | _, _, _, _, .cons h p, q => .cons h (paired_app p q)
theorem StAt.same {H H' : Hp} (s : Same H H') {x : V} {d : StD} (h : StAt H x d) : StAt H' x d := by
  obtain ⟨a, e, h⟩ := h
  exact ⟨a, e, s _ _ h⟩
theorem Sts.same {H H' : Hp} (s : Same H H') {xs : List V} {ss : List StD} (h : Sts H xs ss) : Sts H' xs ss := L2.Paired.mapP h fun _ _ z => z.same s
/-- the breaker passes a request at t -/
def psB (b : Tri) (s : StD) (t : Int) : Prop := s.1 = "open" → b.2.1 ≤ t - s.2
def hfS (s : StD) : StD := if s.1 = "open" then ("half", 0) else s
def okS (b : Tri) (s : StD) : StD := if (hfS s).1 = "half" ∧ (hfS s).2 + 1 < b.2.2 then ("half", (hfS s).2 + 1) else ("closed", 0)
def badS (b : Tri) (s : StD) (t : Int) : StD := if (hfS s).1 = "closed" ∧ (hfS s).2 + 1 < b.1 then ("closed", (hfS s).2 + 1) else ("open", t)
theorem sC_O : ¬ (("closed" : Str) = "open") := by decide +kernel
theorem sH_O : ¬ (("half" : Str) = "open") := by decide +kernel
theorem sO_C : ¬ (("open" : Str) = "closed") := by decide +kernel
theorem sH_C : ¬ (("half" : Str) = "closed") := by decide +kernel
theorem sC_H : ¬ (("closed" : Str) = "half") := by decide +kernel
theorem sO_H : ¬ (("open" : Str) = "half") := by decide +kernel
theorem hf_closed (n : Int) : hfS (("closed" : Str), n) = (("closed" : Str), n) := if_neg sC_O
theorem hf_half (n : Int) : hfS (("half" : Str), n) = (("half" : Str), n) := if_neg sH_O
theorem hf_open (n : Int) : hfS (("open" : Str), n) = (("half" : Str), 0) := if_pos rfl
/-- what is told of a request that k of n breakers pass -/
def outV (n k : Nat) (inS : Bool) : List V := if k < n then [.str "rejected", .int k] else if inS then [.str "failed"] else [.str "served"]
def okW (s : StD) : Prop := s.1 = "closed" ∨ s.1 = "open" ∨ s.1 = "half"
def stD (s : StD) : PyData := .tuple [.str s.1, .int s.2]
theorem Sts.dp {K : PySem.W.Frag} {H : Hp} : ∀ {xs : List V} {ss : List StD}, Sts H xs ss → DpAll K H xs (ss.map stD)
  | _, _, .nil => .nil
  | _, _, .cons ⟨a, e, h⟩ t => by
    subst e
    exact .cons (.tup (SqT.of h) (.cons (.str _) (.cons (.int _) .nil))) (Sts.dp t)
theorem stD_eq (s u : StD) : PyData.eqv (stD s) (stD u) = decide (s = u) := by
  obtain ⟨a, b⟩ := s
  obtain ⟨a', b'⟩ := u
  simp only [stD, PyData.eqv, PyData.eqvAll, Bool.and_true]
  rw [Bool.eq_iff_iff]
  simp [Prod.ext_iff]
theorem stDs_eq : ∀ ss us : List StD, PyData.eqvAll (ss.map stD) (us.map stD) = decide (ss = us)
  | [], [] => by simp [PyData.eqvAll]
  | [], _ :: _ => by simp [PyData.eqvAll]
  | _ :: _, [] => by simp [PyData.eqvAll]
  | t :: ts, u :: us => by
    rw [List.map_cons, List.map_cons, PyData.eqvAll, stD_eq, stDs_eq ts us, Bool.eq_iff_iff]
    simp
theorem sok_W {s : StD} (h : okW s) : PyData.strOk s.1 = true := by
  obtain ⟨a, b⟩ := s
  rcases h with h | h | h
  · have h : a = "closed" := h
    subst h
    show PyData.strOk "closed" = true
    decide +kernel
  · have h : a = "open" := h
    subst h
    show PyData.strOk "open" = true
    decide +kernel
  · have h : a = "half" := h
    subst h
    show PyData.strOk "half" = true
    decide +kernel
theorem canSts : ∀ {ss : List StD}, (∀ s ∈ ss, okW s) → PyData.canLayAll0 (ss.map stD) = true
  | [], _ => by simp [PyData.canLayAll0]
  | t :: ts, h => by
    rw [List.map_cons, PyData.canLayAll0, canSts fun s hs => h s (List.mem_cons_of_mem _ hs)]
    simp [stD, PyData.canLay0, PyData.canLayAll0, sok_W (h t (List.mem_cons_self ..))]
theorem depSts : ∀ ss : List StD, PyData.depthAll (ss.map stD) ≤ 10
  | [] => by simp [PyData.depthAll]
  | t :: ts => by
    have := depSts ts
    rw [List.map_cons, PyData.depthAll]
    have h2 : (stD t).depth ≤ 10 := by simp [stD, PyData.depth, PyData.depthAll]
    omega
theorem shSts {ss : List StD} (h : ∀ s ∈ ss, okW s) : SeqAt.shaped (.list (ss.map stD)) = true := by
  refine Bool.and_eq_true_iff.mpr ⟨?_, decide_eq_true ?_⟩
  · rw [PyData.canLay0]
    exact canSts h
  · have := depSts ss
    rw [PyData.depth]
    omega
theorem Sts.dpl {K : PySem.W.Frag} {H : Hp} {l : Addr} {ys : List V} {ss : List StD} (h : H l = some (.lst ys)) (s : Sts H ys ss) : Dp K H (.ref l) (.list (ss.map stD)) := .lst (SqL.of h) s.dp
theorem eqSts (ss us : List StD) : PyData.eqv (.list (ss.map stD)) (.list (us.map stD)) = decide (ss = us) := by
  rw [PyData.eqv]
  exact stDs_eq ss us
/-! ### the states before all requests -/
theorem sts_rep {H : Hp} {t : Addr} {d : StD} (h : H t = some (.tup [.str d.1, .int d.2])) : ∀ n : Nat, Sts H (List.replicate n (V.ref t)) (List.replicate n d)
  | 0 => .nil
  | n + 1 => .cons ⟨t, rfl, h⟩ (sts_rep h n)
def spClosed : Sp := fun vs H Q _ => ∃ n : Nat, vs = [.int n] ∧ n ≤ 100 ∧ ∀ l ys H', H' l = some (.lst ys) → Sts H' ys (List.replicate n ("closed", 0)) → Same H H' → H l = none → Q (.ref l) H'
section
variable {P : Program} {w : World} {K : PySem.W.Frag} {mg : Str → Option Value} {base : Heap} {L : LA}
abbrev N_closedstates : List Str := ["number"]
theorem sc_closedstates : FnScope N_closedstates ["number"] (defScope st_closed_states) := ⟨rfl, rfl, rfl, by decide +kernel, rfl, by decide +kernel, by decide +kernel⟩
theorem fn_closedstates (T : LX K mg L) {fd : FuncData} (F : Fun K "closed_states" "closed_states" st_closed_states L.f_closed_states fd) : FnOk P w K mg base CX0 3 L.f_closed_states fd ["number"] (spClosed) := by
  have nd := sc_closedstates.nd
  refine F.ok sc_closedstates (fun vs H Q E h => ?_) (fun cdv A outer S H vs Q E hr h => ?_)
  · obtain ⟨n, rfl, _⟩ := h
    rfl
  · obtain ⟨n, rfl, hn, k⟩ := h
    refine ⟨_, (pss_one (ps_ret (pe_op op_rep (pe_lst (pa_cons (pe_tup (pa_cons pe_str (pa_cons pe_int pa_nil))) pa_nil)) (pv 0)))), ?_⟩
    refine ⟨(by show 2 ≤ sizeLine; decide), fun t ht => ⟨(by show 1 ≤ sizeLine; decide), fun l hl => ?_⟩⟩
    have s1 := Same.upd (o := .tup [.str "closed", .int 0]) ht
    have s2 := s1.trans (Same.upd (o := .lst [.ref t]) hl)
    refine ⟨_, rfl, ?_⟩
    refine ⟨l, _, [.ref t], rfl, rfl, upd_same, by omega, by omega, small2 (by rw [Int.toNat_natCast]; show 1 * n ≤ 100000; omega), fun r hr => ?_⟩
    have s3 := s2.trans (Same.upd (o := .lst (List.replicate (n : Int).toNat [V.ref t]).flatten) hr)
    refine k r _ _ upd_same ?_ s3 (none_of s2 hr)
    rw [Int.toNat_natCast, List.flatten_replicate_singleton]
    have ht3 : (upd (upd (upd H t (.tup [.str "closed", .int 0])) l (.lst [.ref t])) r (.lst (List.replicate n (V.ref t)))) t = some (.tup [.str "closed", .int 0]) := by
      have h1 : (upd (upd H t (.tup [.str "closed", .int 0])) l (.lst [.ref t])) t = some (.tup [.str "closed", .int 0]) := (Same.upd hl) _ _ upd_same
      rw [upd_ne (ne_of_none h1 hr)]
      exact h1
    exact sts_rep ht3 n
theorem ok_closedstates (T : LX K mg L) : Cal P w K mg base "closed_states" 3 L.f_closed_states ["number"] (spClosed) := T.d_closed_states.cal fun fd F => fn_closedstates T F
end
/-! ### lists of ints as data; what the law asks of told times -/
def intsD (ns : List Int) : PyData := .list (ns.map PyData.int)
theorem ints_dp {K : PySem.W.Frag} {H : Hp} : ∀ ns : List Int, DpAll K H (ns.map V.int) (ns.map PyData.int)
  | [] => .nil
  | n :: ns => .cons (.int n) (ints_dp ns)
theorem canInts : ∀ ns : List Int, PyData.canLayAll0 (ns.map PyData.int) = true
  | [] => by simp [PyData.canLayAll0]
  | n :: ns => by rw [List.map_cons, PyData.canLayAll0, canInts ns]; simp [PyData.canLay0]
theorem depInts : ∀ ns : List Int, PyData.depthAll (ns.map PyData.int) ≤ 10
  | [] => by simp [PyData.depthAll]
  | n :: ns => by
    have := depInts ns
    rw [List.map_cons, PyData.depthAll]
    have h2 : (PyData.int n).depth ≤ 10 := by simp [PyData.depth]
    omega
theorem shInts (ns : List Int) : SeqAt.shaped (intsD ns) = true := by
  refine Bool.and_eq_true_iff.mpr ⟨?_, decide_eq_true ?_⟩
  · unfold intsD
    rw [PyData.canLay0]
    exact canInts ns
  · have := depInts ns
    unfold intsD
    rw [PyData.depth]
    omega
theorem eqInts1 : ∀ ns ms : List Int, PyData.eqvAll (ns.map PyData.int) (ms.map PyData.int) = decide (ns = ms)
  | [], [] => by simp [PyData.eqvAll]
  | [], _ :: _ => by simp [PyData.eqvAll]
  | _ :: _, [] => by simp [PyData.eqvAll]
  | n :: ns, m :: ms => by
    rw [List.map_cons, List.map_cons, PyData.eqvAll, eqInts1 ns ms, Bool.eq_iff_iff]
    simp [PyData.eqv]
theorem eqInts (ns ms : List Int) : PyData.eqv (intsD ns) (intsD ms) = decide (ns = ms) := by
  unfold intsD
  rw [PyData.eqv]
  exact eqInts1 ns ms
theorem Dp.ints {K : PySem.W.Frag} {H : Hp} {a : Addr} {ns : List Int} (h : H a = some (.lst (ns.map V.int))) : Dp K H (.ref a) (intsD ns) := .lst (SqL.of h) (ints_dp ns)
/-! ### rules inside comprehensions -/
theorem call_lenK {X : Cx} {K : PySem.W.Frag} (h : X.K = K) : CallR X (.builtin "len") (fun xs H Q => ∃ p ys, xs = [.ref p] ∧ (SqL K H p ys ∨ SqT K H p ys) ∧ Q (.int ys.length) H) := h ▸ call_len_seq
theorem call_listK {X : Cx} {K : PySem.W.Frag} (h : X.K = K) : CallR X (.type "list") (fun xs H Q => ∃ p ys, xs = [.ref p] ∧ (SqL K H p ys ∨ SqT K H p ys) ∧ ∀ l, H l = none → Q (.ref l) (upd H l (.lst ys))) := h ▸ call_list_of
theorem op_neDK {X : Cx} {K : PySem.W.Frag} (h : X.K = K) (hu : X.A.units + 64 < cLine) : OpR X (compareOp .NotEq) (rNeD K) := h ▸ op_neD hu
theorem op_eqDK {X : Cx} {K : PySem.W.Frag} (h : X.K = K) (hu : X.A.units + 64 < cLine) : OpR X (compareOp .Eq) (rEqD K) := h ▸ op_eqD hu
theorem op_inK {X : Cx} {K : PySem.W.Frag} (h : X.K = K) : OpR X (compareOp CmpOp.In) (rIn K false) := h ▸ op_in_seq
theorem op_notInK {X : Cx} {K : PySem.W.Frag} (h : X.K = K) : OpR X (compareOp CmpOp.NotIn) (rIn K true) := h ▸ op_notIn_seq
/-! ### list.count of strings -/
def eqs (k : Str) (v : Value) : Bool := match v with
  | .str n _ => n == k
  | _ => false
def rCntS (K : PySem.W.Frag) : V → List V → Hp → VK → Prop := fun x xs H Q => ∃ (p : Addr) (ss : List Str) (k : Str), x = .ref p ∧ xs = [.str k] ∧ SqL K H p (ss.map V.str) ∧ Q (.int (ss.countP (fun y => decide (y = k)) : Nat)) H
theorem eqs_at {k : Str} {t : Tok} {A : Around} {s : Shared} : ∀ {ss : List Str} {us : List Value}, Vals (ss.map V.str) us → ∀ y ∈ us, SeqAt.EqAt A s y (.str k t) (eqs k y)
  | [], us, r => by
    rw [List.map_nil] at r
    cases r
    exact fun y hy => nomatch hy
  | n :: ss, us, r => by
    rw [List.map_cons] at r
    cases r with
    | cons r1 r2 =>
      obtain ⟨t', rfl⟩ := r1
      intro y hy
      rcases List.mem_cons.mp hy with q | q
      · rw [q]
        exact SeqAt.EqAt.str_str n t' k t
      · exact eqs_at r2 y q
theorem eqs_count {k : Str} : ∀ {ss : List Str} {us : List Value}, Vals (ss.map V.str) us → us.countP (eqs k) = ss.countP fun y => decide (y = k)
  | [], us, r => by
    rw [List.map_nil] at r
    cases r
    rfl
  | n :: ss, us, r => by
    rw [List.map_cons] at r
    cases r with
    | cons r1 r2 =>
      obtain ⟨t', rfl⟩ := r1
      have ih := eqs_count (k := k) r2
      rw [List.countP_cons, List.countP_cons, ih]
      rfl
theorem mt_scount {X : Cx} : MtR X "list.count" (rCntS X.K) := by
  intro pins s σ H x xs v us Q I rx rxs h
  obtain ⟨p, ns, k, rfl, rfl, hs, q⟩ := h
  cases rx
  obtain ⟨u, rfl, ru⟩ := rxs.one
  obtain ⟨t, rfl⟩ := ru
  obtain ⟨its, rv, ⟨⟨cls, dd, data, sl⟩, n, ho, hc, hdn, hd⟩, hlen⟩ := I.list hs
  simp only at hc hd
  subst hc hd
  refine call_meets PySem.F.slot_list_count ⟨_, ho, rfl⟩ PySem.F.entry_list_count (PySem.F.args_list_count_2 _ _)
    (SeqAt.list_countAt p its.toArray n dd sl (.str k t) (eqs k)) ⟨ho, fun y hy => eqs_at rv y (by simpa using hy), ?_⟩
  have ec : its.toArray.toList.countP (eqs k) = ns.countP fun y => decide (y = k) := eqs_count rv
  refine ⟨.int (ns.countP (fun y => decide (y = k)) : Nat), H, I.tok _, ⟨s.toks, ?_⟩, q⟩
  show Value.int ((its.toArray.toList.countP (eqs k) : Nat) : Int) s.toks = Value.int ((ns.countP (fun y => decide (y = k)) : Nat) : Int) s.toks
  rw [ec]
/-- a comprehension over enumerate -/
theorem lc_enum {K : PySem.W.Frag} {a : Addr} {xs : List V} {g : TG} {tt : TT} {te : TE} {vs : List Nat} {σ : L2.St} {H1 : Hp} {D : Addr} {Qd : Hp → Prop} (Pv : Nat → Hp → Prop) (h0 : Pv 0 (upd H1 D (.lst []))) (hl : ∀ i H, Pv i H → SqL K H a xs)
    (hs : ∀ (i : Nat) (x : V) (T : Addr) (H : Hp), xs[i]? = some x → Pv i H → H T = none → g (.ref T) (wipe σ vs) (upd H T (.tup [.int (i : Nat), x])) fun σ2 H2 => wipe σ2 vs = wipe σ vs ∧ tt σ2 H2 fun b H3 =>
      if b = true then te σ2 H3 fun y H4 => ∃ acc, H4 D = some (.lst acc) ∧ acc.length < sizeLine ∧ Pv (i + 1) (upd H4 D (.lst (acc ++ [y]))) else Pv (i + 1) H3) (hd : ∀ H, Pv xs.length H → Qd H) :
    ∃ W : Nat → Nat → Hp → Prop, (∃ m, W 0 m (upd H1 D (.lst []))) ∧ ∀ i m H, W i m H → ((Ite K a).stop i H ∧ Qd H) ∨ ((Ite K a).go i H ∧ ∃ Nx : Hp → Prop, (∀ H', Nx H' → ∃ m', m' < m ∧ W (i + 1) m' H') ∧ ∀ x H', (Ite K a).yld i H x H' → g x (wipe σ vs) H' fun σ2 H2 => wipe σ2 vs = wipe σ vs ∧ tt σ2 H2 fun b H3 =>
        if b = true then te σ2 H3 fun y H4 => ∃ acc, H4 D = some (.lst acc) ∧ acc.length < sizeLine ∧ Nx (upd H4 D (.lst (acc ++ [y]))) else Nx H3) := by
  refine ⟨fun i m H => m = xs.length - i ∧ i ≤ xs.length ∧ Pv i H, ⟨xs.length, by omega, Nat.zero_le _, h0⟩, ?_⟩
  rintro i m H ⟨rfl, hi, p⟩
  have q := hl i H p
  by_cases hlt : i < xs.length
  · refine .inr ⟨⟨xs, xs[i], q, List.getElem?_eq_getElem hlt⟩, Pv (i + 1), fun H' p' => ⟨xs.length - (i + 1), by omega, rfl, hlt, p'⟩, fun v H' y => ?_⟩
    obtain ⟨T, x', rfl, hT, rfl, f⟩ := y
    exact hs i x' T H (f xs q) p hT
  · have e : i = xs.length := by omega
    subst e
    exact .inl ⟨⟨xs, q, Nat.le_refl _⟩, hd H p⟩
theorem op_powW {X : Cx} : OpR X (binaryOp .Pow) (rI (fun i j => 0 ≤ j ∧ (Builtin.Int.intBits i : Int) * j ≤ 2 ^ 27) fun i j => .int (i ^ j.toNat)) := opI fun _ _ _ _ _ _ _ hc q => PyProof.Rows.pow_int hc.1 hc.2 q
/-! ### list.count over data -/
def rCntD (K : PySem.W.Frag) : V → List V → Hp → VK → Prop := fun x xs H Q => ∃ (p : Addr) (ys : List V) (ds : List PyData) (y : V) (d : PyData), x = .ref p ∧ xs = [y] ∧ SqL K H p ys ∧ DpAll K H ys ds ∧ Dp K H y d ∧ PyData.plainAll ds = true ∧ d.plain = true ∧ d.depth ≤ 10 ∧ Q (.int (ds.countP (fun e => PyData.eqv e d) : Nat)) H
theorem mt_dcount {X : Cx} (hu : X.A.units + 64 < cLine) : MtR X "list.count" (rCntD X.K) := by
  intro pins s σ H x xs v us Q I rx rxs h
  obtain ⟨p, ys, ds, y, d, rfl, rfl, hs, hd, hy, p1, p2, dl, q⟩ := h
  cases rx
  obtain ⟨u, rfl, ru⟩ := rxs.one
  obtain ⟨its, rv, hl, hlen⟩ := I.list hs
  obtain ⟨as, r1⟩ := Dp.readsAll I ds _ its hd rv
  obtain ⟨bs, r2⟩ := Dp.reads I d y u hy ru
  refine SeqAt.count_list_data hl.isList r1 r2 p1 p2 (by omega) ?_
  exact ⟨.int _, H, I.tok _, ⟨s.toks, rfl⟩, q⟩
theorem call_tupK {X : Cx} {K : PySem.W.Frag} (h : X.K = K) : CallR X (.type "tuple") (fun xs H Q => ∃ p ys, xs = [V.ref p] ∧ ((SqL K H p ys ∧ ∀ l : Addr, H l = none → Q (.ref l) (upd H l (.tup ys))) ∨ SqT K H p ys ∧ Q (.ref p) H)) := h ▸ call_tuple_of
/-! ### outages as data (small chains) -/
def cV : Option Int → V
  | none => .non
  | some c => .int c
abbrev Out := Int × Option Int
def OtAt (H : Hp) (x : V) (o : Out) : Prop := ∃ a, x = .ref a ∧ H a = some (.tup [.int o.1, cV o.2])
abbrev Ots (H : Hp) (xs : List V) (os : List Out) : Prop := Paired (OtAt H) xs os
theorem OtAt.same {H H' : Hp} (s : Same H H') {x : V} {d : Out} (h : OtAt H x d) : OtAt H' x d := by
  obtain ⟨a, e, h⟩ := h
  exact ⟨a, e, s _ _ h⟩
theorem OtAt.nl {H H' : Hp} (s : NL H H') {x : V} {d : Out} (h : OtAt H x d) : OtAt H' x d := by
  obtain ⟨a, e, h⟩ := h
  exact ⟨a, e, s _ _ h fun _ z => nomatch z⟩
theorem Ots.same {H H' : Hp} (s : Same H H') {xs : List V} {os : List Out} (h : Ots H xs os) : Ots H' xs os := L2.Paired.mapP h fun _ _ z => z.same s
theorem Ots.nl {H H' : Hp} (s : NL H H') {xs : List V} {os : List Out} (h : Ots H xs os) : Ots H' xs os := L2.Paired.mapP h fun _ _ z => z.nl s
def VOut : Int → List (Int × Int) → Prop
  | _, [] => True
  | m, o :: r => m ≤ o.1 ∧ o.1 < o.2 ∧ o.2 ≤ 1000000000000000000000000000000 ∧ VOut (o.2 + 1) r
def outs (os : List (Int × Int)) : List Out := os.map fun o => (o.1, some o.2)
theorem outs_len (os : List (Int × Int)) : (outs os).length = os.length := by unfold outs; rw [List.length_map]
theorem vout_mem : ∀ {os : List (Int × Int)} {m : Int}, VOut m os → ∀ o ∈ os, m ≤ o.1 ∧ o.1 < o.2 ∧ o.2 ≤ 1000000000000000000000000000000
  | [], m, _, o, ho => by cases ho
  | z :: r, m, h, o, ho => by
    obtain ⟨h1, h2, h3, h4⟩ := h
    rcases List.mem_cons.mp ho with rfl | ho
    · exact ⟨h1, h2, h3⟩
    · have := vout_mem h4 o ho
      omega
def NI (H H' : Hp) : Prop := ∀ b o, H b = some o → (∀ C dx fs, o ≠ .ins C dx fs) → H' b = some o
theorem NI.of {p C dx : Addr} {fs : List (Str × V)} {H H' : Hp} (k : Kp p H H') (h : H p = some (.ins C dx fs)) : NI H H' := fun b o e n => k b o (fun z => by
  subst z
  rw [h] at e
  cases e
  exact n _ _ _ rfl) e
theorem NI.trans {H H1 H2 : Hp} (a : NI H H1) (b : NI H1 H2) : NI H H2 := fun c o h n => b c o (a c o h n) n
theorem NI.same {H H' : Hp} (s : Same H H') : NI H H' := fun b o e _ => s b o e
theorem Ots.ni {H H' : Hp} (k : NI H H') {xs : List V} {ts : List Out} (h : Ots H xs ts) : Ots H' xs ts := L2.Paired.mapP h fun _ _ ⟨a, e, h⟩ => ⟨a, e, k _ _ h fun _ _ _ z => nomatch z⟩
def dn (os : List (Int × Int)) (x : Int) : Prop := ∃ o ∈ os, o.1 ≤ x ∧ x < o.2
theorem dn_app {a : List (Int × Int)} {o : Int × Int} {x : Int} : dn (a ++ [o]) x ↔ dn a x ∨ (o.1 ≤ x ∧ x < o.2) := by
  constructor
  · rintro ⟨u, hu, h⟩
    rcases List.mem_append.mp hu with hu | hu
    · exact .inl ⟨u, hu, h⟩
    · rw [List.mem_singleton.mp hu] at h
      exact .inr h
  · rintro (⟨u, hu, h⟩ | h)
    · exact ⟨u, List.mem_append_left _ hu, h⟩
    · exact ⟨o, List.mem_append_right _ (List.mem_cons_self ..), h⟩

def spIsOut : Sp := fun vs H Q _ => ∃ x, ∃ o : Int × Int, vs = [x] ∧ OtAt H x (o.1, some o.2) ∧ 0 ≤ o.1 ∧ o.1 < o.2 ∧ o.2 ≤ 1000000000000000000000000000000 ∧ Q (.bl true) H
def spChkO : Sp := fun vs H Q _ => ∃ a xs, ∃ os : List (Int × Int), vs = [.ref a] ∧ H a = some (.lst xs) ∧ Ots H xs (outs os) ∧ VOut 0 os ∧ os.length ≤ 50 ∧ ∀ H', Same H H' → Q .non H'
section
variable {P : Program} {w : World} {K : PySem.W.Frag} {mg : Str → Option Value} {base : Heap} {L : LA}
abbrev N_isoutage : List Str := ["value", "begin", "end"]
theorem sc_isoutage : FnScope N_isoutage ["value"] (defScope st_is_outage) := ⟨rfl, rfl, rfl, by decide +kernel, rfl, by decide +kernel, by decide +kernel⟩
theorem fn_isoutage (T : LX K mg L) {fd : FuncData} (F : Fun K "is_outage" "is_outage" st_is_outage L.f_is_outage fd) : FnOk P w K mg base CX0 3 L.f_is_outage fd ["value"] (spIsOut) := by
  have G_isatleast := ok_isatleast (P := P) (w := w) (base := base) T
  have G_iswithin := ok_iswithin (P := P) (w := w) (base := base) T
  obtain ⟨tk_MOST_TIME, c_MOST_TIME⟩ := T.n_MOST_TIME
  have nd := sc_isoutage.nd
  refine F.ok sc_isoutage (fun vs H Q E h => ?_) (fun cdv A outer S H vs Q E hr h => ?_)
  · obtain ⟨x, o, rfl, _⟩ := h
    rfl
  · obtain ⟨x, o, rfl, ⟨a, rfl, ha⟩, h1, h2, h3, k⟩ := h
    refine ⟨_, (pss_cons (ps_if (PW.pt (pw_or (pt_not (pt_val (pe_callB call_isi (by rfl) T.b_isinstance (by decide +kernel) (pa_cons (pv 0) (pa_cons (pe_bltn (by rfl) T.b_tuple (by decide +kernel : bootBuiltins "tuple" = some (.type "tuple")) (v := .ty "tuple") rfl) pa_nil))))) (pw_or1 (pt_cmpR op_ne (pe_callB call_len_seq (by rfl) T.b_len PySem.boot_len (pa_cons (pv 0) pa_nil)) pe_int (nomark _))))) (pss_one (ps_ret pe_bl)) pss_nil)
       (pss_cons (ps_asg (pv 0) (pg_tup rfl (pgs_cons (pg_name (i := 1) nd rfl (Or.inl rfl)) (pgs_cons (pg_name (i := 2) nd rfl (Or.inl rfl)) pgs_nil))))
       (pss_one (ps_ret (pe_and (pe_c G_isatleast (hr.mono (by decide)) rfl (pa_cons (pv 1) (pa_cons pe_int pa_nil))) (pe_one (pe_c G_iswithin (hr.mono (by decide)) rfl (pa_cons (pv 2) (pa_cons (pe_op op_add (pv 1) pe_int) (pa_cons (pe_gI c_MOST_TIME) pa_nil)))))))))), ?_⟩
    refine ⟨_, rfl, _, .ty "tuple", _, _, _, rfl, .ty "tuple", (Kd.tup ha).ty, (Kd.tup ha).kit "tuple" _ (.inr ⟨by decide, by decide, rfl⟩), _, rfl, iteF ?_⟩
    refine ⟨_, rfl, a, _, rfl, .inr (SqT.of ha), rfl, _, rfl, iteF ?_⟩
    refine ⟨_, rfl, a, _, rfl, SqT.of ha, rfl, _, _, rfl, _, _, rfl, rfl, ?_⟩
    refine ⟨_, rfl, _, _, _, rfl, .int _, _, rfl, ?_⟩
    show if (decide ((0 : Int) ≤ o.1)) = true then _ else _
    rw [decide_eq_true h1]
    refine iteT ⟨_, rfl, _, rfl, _, _, rfl, rfl, _, _, _, _, rfl, .int _, ?_⟩
    show Q (.bl (decide (o.1 + 1 ≤ o.2) && decide (o.2 ≤ 1000000000000000000000000000000))) H
    rw [k6_pos (show o.1 + 1 ≤ o.2 by omega) h3]
    exact k
theorem ok_isoutage (T : LX K mg L) : Cal P w K mg base "is_outage" 3 L.f_is_outage ["value"] (spIsOut) := T.d_is_outage.cal fun fd F => fn_isoutage T F
abbrev N_checkoutages : List Str := ["outages", "least", "at", "outage"]
theorem sc_checkoutages : FnScope N_checkoutages ["outages"] (defScope st_check_outages) := ⟨rfl, rfl, rfl, by decide +kernel, rfl, by decide +kernel, by decide +kernel⟩
theorem fn_checkoutages (T : LX K mg L) {fd : FuncData} (F : Fun K "check_outages" "check_outages" st_check_outages L.f_check_outages fd) : FnOk P w K mg base CX0 4 L.f_check_outages fd ["outages"] (spChkO) := by
  obtain ⟨tk_MOST_OUTAGES, c_MOST_OUTAGES⟩ := T.n_MOST_OUTAGES
  have G_isoutage := ok_isoutage (P := P) (w := w) (base := base) T
  have nd := sc_checkoutages.nd
  refine F.ok sc_checkoutages (fun vs H Q E h => ?_) (fun cdv A outer S H vs Q E hr h => ?_)
  · obtain ⟨a, xs, os, rfl, _⟩ := h
    rfl
  · obtain ⟨a, xs, os, rfl, ha, hx, hv, hl, k⟩ := h
    refine ⟨_, (pss_cons (ps_if (PW.pt (pw_or (pt_not (pt_val (pe_callB call_isi (by rfl) T.b_isinstance (by decide +kernel) (pa_cons (pv 0) (pa_cons (pe_bltn (by rfl) T.b_list (by decide +kernel : bootBuiltins "list" = some (.type "list")) (v := .ty "list") rfl) pa_nil))))) (pw_or1 (pt_cmpR op_gt (pe_callB call_len_seq (by rfl) T.b_len PySem.boot_len (pa_cons (pv 0) pa_nil)) (pe_gI c_MOST_OUTAGES) (nomark _))))) (pss_one (ps_never)) pss_nil)
       (pss_cons (ps_set (i := 1) nd rfl (Or.inl rfl) pe_int)
       (pss_one (ps_for PassesOwn.never rfl (pi_enum (by rfl) T.b_enumerate (pa_cons (pv 0) pa_nil)) (pg_tup rfl (pgs_cons (pg_name (i := 2) nd rfl (Or.inl rfl)) (pgs_cons (pg_name (i := 3) nd rfl (Or.inl rfl)) pgs_nil))) (pss_cons (ps_if (PW.pt (pw_or (pt_not (pt_val (pe_c G_isoutage (hr.mono (by decide)) rfl (pa_cons (pv 3) pa_nil)))) (pw_or1 (pt_cmpR op_lt (pe_ix (r := rIxT K) ix_tup (pv 3) pe_int (fun _ _ => rfl)) (pv 1) (nomark _))))) (pss_one (ps_never)) pss_nil)
       (pss_one (ps_set (i := 1) nd rfl (Or.inl rfl) (pe_op op_add (pe_ix (r := rIxT K) ix_tup (pv 3) pe_int (fun _ _ => rfl)) pe_int)))))))), ?_⟩
    have xl := paired_len hx
    have ol : (outs os).length = os.length := by unfold outs; rw [List.length_map]
    refine ⟨_, rfl, _, .ty "list", _, _, _, rfl, .ty "list", (Kd.lst ha).ty, (Kd.lst ha).kit "list" _ (.inr ⟨by decide, by decide, rfl⟩), _, rfl, iteF ?_⟩
    refine ⟨_, rfl, a, _, rfl, .inl (SqL.of ha), _, _, rfl, rfl, _, rfl, ?_⟩
    have hn : ¬ ((50 : Int) < (xs.length : Nat)) := by omega
    rw [decide_eq_false hn]
    refine iteF ?_
    refine ⟨_, rfl, a, xs, rfl, SqL.of ha, for_enum (K := K) (a := a) (xs := xs) (fun i σ H2 => ∃ m, ∃ u v : Option V, σ = [some (.ref a), some (.int m), u, v] ∧ Same H H2 ∧ VOut m (os.drop i) ∧ 0 ≤ m) ⟨0, none, none, rfl, Same.refl H, hv, Int.le_refl _⟩ (fun i σ H2 _ ⟨_, _, _, _, s2, _⟩ => SqL.of (s2 _ _ ha)) ?_ ?_⟩
    · rintro i x T' σ H2 hxi ⟨m, u, v, rfl, s2, vo, mm⟩ hT
      obtain ⟨o', ho', hox⟩ := paired_get hx hxi
      obtain ⟨o, ho, rfl⟩ : ∃ o, os[i]? = some o ∧ o' = (o.1, some o.2) := by
        unfold outs at ho'
        rw [List.getElem?_map] at ho'
        cases q : os[i]? with
        | none => rw [q] at ho'; cases ho'
        | some o => rw [q] at ho'; cases ho'; exact ⟨o, rfl, rfl⟩
      have hi := (List.getElem?_eq_some_iff.mp ho).1
      have dr : os.drop i = o :: os.drop (i + 1) := by
        rw [List.drop_eq_getElem_cons hi]
        congr 1
        exact (List.getElem?_eq_some_iff.mp ho).2
      rw [dr] at vo
      obtain ⟨v1, v2, v3, v4⟩ := vo
      have m0 : 0 ≤ o.1 := by omega
      have s3 : Same H (upd H2 T' (.tup [.int (i : Nat), x])) := s2.trans (Same.upd hT)
      have hox3 := hox.same s3
      refine ⟨T', _, rfl, SqT.of upd_same, rfl, _, _, rfl, _, _, rfl, rfl, ?_⟩
      refine ⟨_, rfl, x, o, rfl, hox3, m0, v2, v3, _, rfl, iteF ?_⟩
      obtain ⟨c, rfl, hc⟩ := hox3
      refine ⟨_, rfl, c, _, 0, .int o.1, rfl, rfl, SqT.of hc, rfl, _, rfl, _, _, rfl, rfl, _, rfl, ?_⟩
      rw [decide_eq_false (show ¬ o.1 < m by omega)]
      refine iteF ⟨_, rfl, c, _, 1, .int o.2, rfl, rfl, SqT.of hc, rfl, _, _, rfl, rfl, ?_⟩
      exact ⟨_, _, _, rfl, s3, v4, by omega⟩
    · rintro σ H2 ⟨m, u, v, rfl, s2, _⟩
      exact k H2 s2
theorem ok_checkoutages (T : LX K mg L) : Cal P w K mg base "check_outages" 4 L.f_check_outages ["outages"] (spChkO) := T.d_check_outages.cal fun fd F => fn_checkoutages T F
end
def upB (os : List (Int × Int)) (t : Int) : Bool := !(os.any fun o => decide (o.1 ≤ t) && decide (t < o.2))
theorem upB_iff {os : List (Int × Int)} {t : Int} : upB os t = true ↔ ¬ dn os t := by
  unfold upB dn
  simp
/-! ### zip of a tuple and a list -/
section
open PySem.Builtin.SmallTypes
/-- what next() walks: an iterator over a sequence -/
structure Wk (prog : Program) (w : World) where
  it : Heap → Addr → Addr → Nat → Prop
  sq : Heap → Addr → Array Value → Prop
  itx : ∀ {g g' : Heap} {a b l : Addr} {n : Nat}, it g a l n → Heap.ExtBut b g g' → a ≠ b → it g' a l n
  sqx : ∀ {g g' : Heap} {a b : Addr} {xs : Array Value}, sq g a xs → Heap.ExtBut b g g' → a ≠ b → sq g' a xs
  ita : ∀ {g g' : Heap} {a l : Addr} {n : Nat}, it g a l n → (∀ o, g.get? a = some o → g'.get? a = some o) → it g' a l n
  ito : ∀ {g : Heap} {a l : Addr} {n : Nat}, it g a l n → ∃ o, g.get? a = some o ∧ ∃ f, o.data = .fields f
  nxt : ∀ {A : Around} {E : Value → Shared → Prop} {s : Shared} {a l : Addr} {n : Nat} {xs : Array Value} {x : Value} {Q : Value → Shared → Prop}, it s.heap a l n → sq s.heap l xs → xs[n]? = some x →
    (∀ g, it g a l (n + 1) → Heap.SameBut a s.heap g → Q x { s with heap := g }) → wpAny (model prog w) A (nextOf (.ref a)) Q E s
  fin : ∀ {A : Around} {E : Value → Shared → Prop} {s : Shared} {a l : Addr} {n : Nat} {xs : Array Value} {Q : Value → Shared → Prop}, A.handled = none → it s.heap a l n → sq s.heap l xs → xs[n]? = none →
    (∀ g e, Heap.ExtBut a s.heap g → (∃ o, g.get? e = some o ∧ o.cls = .type "StopIteration") → E (.ref e) { s with heap := g }) → wpAny (model prog w) A (nextOf (.ref a)) Q E s
def wkL (prog : Program) (w : World) : Wk prog w where
  it := Heap.IsListIter
  sq := Heap.IsList
  itx := fun x h n => x.extBut h n
  sqx := fun x h n => x.extBut h n
  ita := fun x e => x.at e
  ito := fun x => by obtain ⟨o, e, _, d⟩ := x; exact ⟨o, e, _, d⟩
  nxt := fun a b c d => wpAny_nextOf_list_item a b c d
  fin := fun a b c d e => wpAny_nextOf_list_end a b c d e
def wkT (prog : Program) (w : World) : Wk prog w where
  it := Heap.IsTupleIter
  sq := Heap.IsTuple
  itx := fun x h n => x.extBut h n
  sqx := fun x h n => x.extBut h n
  ita := fun x e => x.at e
  ito := fun x => by obtain ⟨o, e, _, d⟩ := x; exact ⟨o, e, _, d⟩
  nxt := fun a b c d => RZ.nextOf_tuple_item a b c d
  fin := fun a b c d e => RZ.nextOf_tuple_end a b c d e
section
variable {prog : Program} {w : World} {A : Around} {E : Value → Shared → Prop} {s : Shared} (U V : Wk prog w)
/-- the kept of a step -/
def Kz (z T i j : Addr) (g g' : Heap) : Prop := ∀ c o, c ≠ z → c ≠ T → c ≠ i → c ≠ j → g.get? c = some o → g'.get? c = some o
theorem zw_item {z T R i j a b : Addr} {m n : Nat} {xs ys : Array Value} {x y p q : Value} {Q : Value → Shared → Prop} (D : ZipApart z T R i j a b) (hz : IsZip s.heap z T R .none) (hT : IsPair s.heap T (.ref i) (.ref j)) (hR : IsPair s.heap R p q)
    (hi : U.it s.heap i a m) (hj : V.it s.heap j b n) (ha : U.sq s.heap a xs) (hb : V.sq s.heap b ys) (ex : xs[m]? = some x) (ey : ys[n]? = some y)
    (k : ∀ g, IsZip g z T R (rawInt s.heap.objs.size) → IsPair g R x y → U.it g i a (m + 1) → V.it g j b (n + 1) → IsPair g s.heap.objs.size x y → g.objs.size = s.heap.objs.size + 1 → Kz z R i j s.heap g → Q (.ref s.heap.objs.size) { s with heap := g }) :
    wpAny (model prog w) A (Builtin.«zip.__next__» ⟨[.ref z], []⟩) (fun r s' => ∃ v, r = .done (.ret v) ∧ Q v s') E s := by
  show wpAny _ _ (field (.ref z) 2 >>= fun _ => _) _ _ _
  refine wpAny_bind (wpAny_field hz rfl (x := .bool false) rfl (show wpAny _ _ (field (.ref z) 3 >>= fun _ => _) _ _ _ from ?_))
  refine wpAny_bind (wpAny_field hz rfl (x := .ref T) rfl (wpAny_bind (wpAny_seqItems hT rfl (show wpAny _ _ (ownedTupleIsFree (.ref z) >>= fun _ => _) _ _ _ from wpAny_bind ?_))))
  unfold Builtin.SmallTypes.ownedTupleIsFree
  refine wpAny_bind (wpAny_field hz rfl (x := .none) rfl (wpAny_pure ?_)); simp only [if_true]
  refine wpAny_bind (wpAny_rule (wpAny_bind (wpAny_field hz rfl (x := .ref R) rfl (wpAny_bind (wpAny_setField_rec hz (by simp) fun g1 z1 s1 => ?_)))))
  replace z1 : IsZip g1 z T R .ellipsis := z1
  refine wpAny_bind ?_; simp only [List.zipIdx_cons, List.zipIdx_nil, List.forIn_cons, List.forIn_nil]
  refine wpAny_bind (wpAny_bind (wpAny_onRaise (show wpAny _ _ (nextOf (.ref i) >>= fun _ => _) _ _ _ from ?_)))
  refine wpAny_bind (U.nxt (U.itx hi s1.extBut D.i1z) (U.sqx ha s1.extBut D.l1z) ex fun g2 i2 s2 => wpAny_pure ?_)
  have R2 : IsPair g2 R p q := s2.extBut _ _ D.TOi1 (s1.extBut _ _ D.TOz hR)
  refine wpAny_bind (wpAny_seqItems R2 rfl (wpAny_bind (wpAny_updateSeq_pair R2 fun g3 R3 s3 => wpAny_bind (wpAny_letGo (wpAny_pure ?_)))))
  replace R3 : IsPair g3 R x q := R3
  refine wpAny_bind (wpAny_bind (wpAny_onRaise (show wpAny _ _ (nextOf (.ref j) >>= fun _ => _) _ _ _ from ?_)))
  refine wpAny_bind (V.nxt (V.itx (V.itx (V.itx hj s1.extBut D.i2z) s2.extBut D.i12.symm) s3.extBut D.TOi2.symm) (V.sqx (V.sqx (V.sqx hb s1.extBut D.l2z) s2.extBut D.l2i1) s3.extBut D.l2TO) ey fun g4 j4 s4 => wpAny_pure ?_)
  have R4 : IsPair g4 R x q := s4.extBut _ _ D.TOi2 R3
  refine wpAny_bind (wpAny_seqItems R4 rfl (wpAny_bind (wpAny_updateSeq_pair R4 fun g5 R5 s5 => wpAny_bind (wpAny_letGo (wpAny_pure (wpAny_pure ?_))))))
  replace R5 : IsPair g5 R x y := R5
  refine wpAny_bind (wpAny_seqItems R5 rfl (wpAny_bind (wpAny_newTuple ?_)))
  have e5 : g5.objs.size = s.heap.objs.size := by rw [s5.1, s4.1, s3.1, s2.1, s1.1]
  have z5 : IsZip g5 z T R .ellipsis := s5.extBut _ _ D.TOz.symm (s4.extBut _ _ D.i2z.symm (s3.extBut _ _ D.TOz.symm (s2.extBut _ _ D.i1z.symm z1)))
  have k5 : Kz z R i j s.heap g5 := fun c o c1 c2 c3 c4 e => s5.extBut _ _ c2 (s4.extBut _ _ c4 (s3.extBut _ _ c2 (s2.extBut _ _ c3 (s1.extBut _ _ c1 e))))
  have i5 : U.it g5 i a (m + 1) := U.itx (U.itx (U.itx i2 s3.extBut D.TOi1.symm) s4.extBut D.i12) s5.extBut D.TOi1.symm
  have j5 : V.it g5 j b (n + 1) := V.itx j4 s5.extBut D.TOi2.symm
  show wpAny _ _ (ownedTupleHandOut (.ref z) (.ref g5.objs.size) >>= fun _ => _) _ _ _
  refine wpAny_bind ?_; unfold Builtin.SmallTypes.ownedTupleHandOut
  have z6 : IsZip (g5.push { cls := .type "tuple", data := .seq #[x, y] }) z T R .ellipsis := Heap.get?_push_of_some _ z5
  refine wpAny_bind (wpAny_setField_rec z6 (by simp) fun g7 z7 s7 => ?_)
  replace z7 : IsZip g7 z T R (rawInt g5.objs.size) := z7
  refine wpAny_setField_rec z7 (by simp) fun g8 z8 s8 => ?_
  replace z8 : IsZip g8 z T R (rawInt g5.objs.size) := z8
  have up : ∀ c o, c ≠ z → g5.get? c = some o → g8.get? c = some o := fun c o c1 e => s8.extBut _ _ c1 (s7.extBut _ _ c1 (Heap.get?_push_of_some _ e))
  have T8 : IsPair g8 g5.objs.size x y := s8.extBut _ _ (Nat.ne_of_gt (Heap.lt_size z5)) (s7.extBut _ _ (Nat.ne_of_gt (Heap.lt_size z5)) (Heap.get?_push_size _ rfl))
  have e8 : g8.objs.size = g5.objs.size + 1 := by rw [s8.1, s7.1, Heap.size_push]
  rw [e5] at z8 T8 e8
  refine wpAny_pure ⟨_, rfl, (show Q (.ref g5.objs.size) _ from ?_)⟩
  rw [e5]
  exact k g8 z8 (up _ _ D.TOz R5) (U.ita i5 fun o e => up _ o D.i1z e) (V.ita j5 fun o e => up _ o D.i2z e) T8 e8 fun c o c1 c2 c3 c4 e => up c o c1 (k5 c o c1 c2 c3 c4 e)
theorem zw_fin {z T R i j a b : Addr} {m n : Nat} {xs ys : Array Value} {p q : Value} {Q : Fin → Shared → Prop} (hh : A.handled = none) (D : ZipApart z T R i j a b) (hz : IsZip s.heap z T R .none) (hT : IsPair s.heap T (.ref i) (.ref j)) (hR : IsPair s.heap R p q)
    (hi : U.it s.heap i a m) (hj : V.it s.heap j b n) (ha : U.sq s.heap a xs) (hb : V.sq s.heap b ys) (en : xs[m]? = none ∨ ys[n]? = none)
    (k : ∀ g e, Kz z R i j s.heap g → (∃ o, g.get? e = some o ∧ o.cls = .type "StopIteration") → E (.ref e) { s with heap := g }) :
    wpAny (model prog w) A (Builtin.«zip.__next__» ⟨[.ref z], []⟩) Q E s := by
  show wpAny _ _ (field (.ref z) 2 >>= fun _ => _) _ _ _
  refine wpAny_bind (wpAny_field hz rfl (x := .bool false) rfl (show wpAny _ _ (field (.ref z) 3 >>= fun _ => _) _ _ _ from ?_))
  refine wpAny_bind (wpAny_field hz rfl (x := .ref T) rfl (wpAny_bind (wpAny_seqItems hT rfl (show wpAny _ _ (ownedTupleIsFree (.ref z) >>= fun _ => _) _ _ _ from wpAny_bind ?_))))
  unfold Builtin.SmallTypes.ownedTupleIsFree
  refine wpAny_bind (wpAny_field hz rfl (x := .none) rfl (wpAny_pure ?_)); simp only [if_true]
  refine wpAny_bind (wpAny_rule (wpAny_bind (wpAny_field hz rfl (x := .ref R) rfl (wpAny_bind (wpAny_setField_rec hz (by simp) fun g1 z1 s1 => ?_)))))
  replace z1 : IsZip g1 z T R .ellipsis := z1
  refine wpAny_bind ?_; simp only [List.zipIdx_cons, List.zipIdx_nil, List.forIn_cons, List.forIn_nil]
  refine wpAny_bind (wpAny_bind (wpAny_onRaise (show wpAny _ _ (nextOf (.ref i) >>= fun _ => _) _ _ _ from ?_)))
  cases ex : xs[m]? with
  | none =>
    refine wpAny_bind (U.fin hh (U.itx hi s1.extBut D.i1z) (U.sqx ha s1.extBut D.l1z) ex fun g2 e s2 he => ?_)
    obtain ⟨oe, h1, h2⟩ := he
    have z2 : IsZip g2 z T R .ellipsis := s2 _ _ D.i1z.symm z1
    have ne : e ≠ z := fun c => by subst c; rw [z2] at h1; cases h1; simp at h2
    exact wpAny_setField_rec z2 (by simp) fun g3 _ s3 => k g3 e (fun c o c1 _ c3 _ r => s3.extBut _ _ c1 (s2 _ _ c3 (s1.extBut _ _ c1 r))) ⟨oe, s3.extBut _ _ ne h1, h2⟩
  | some x =>
    have ey : ys[n]? = none := by rcases en with h | h; (rw [ex] at h; cases h); exact h
    refine wpAny_bind (U.nxt (U.itx hi s1.extBut D.i1z) (U.sqx ha s1.extBut D.l1z) ex fun g2 i2 s2 => wpAny_pure ?_)
    have R2 : IsPair g2 R p q := s2.extBut _ _ D.TOi1 (s1.extBut _ _ D.TOz hR)
    refine wpAny_bind (wpAny_seqItems R2 rfl (wpAny_bind (wpAny_updateSeq_pair R2 fun g3 R3 s3 => wpAny_bind (wpAny_letGo (wpAny_pure ?_)))))
    refine wpAny_bind (wpAny_bind (wpAny_onRaise (show wpAny _ _ (nextOf (.ref j) >>= fun _ => _) _ _ _ from ?_)))
    refine wpAny_bind (V.fin hh (V.itx (V.itx (V.itx hj s1.extBut D.i2z) s2.extBut D.i12.symm) s3.extBut D.TOi2.symm) (V.sqx (V.sqx (V.sqx hb s1.extBut D.l2z) s2.extBut D.l2i1) s3.extBut D.l2TO) ey fun g4 e s4 he => ?_)
    obtain ⟨oe, h1, h2⟩ := he
    have z4 : IsZip g4 z T R .ellipsis := s4 _ _ D.i2z.symm (s3.extBut _ _ D.TOz.symm (s2.extBut _ _ D.i1z.symm z1))
    have ne : e ≠ z := fun c => by subst c; rw [z4] at h1; cases h1; simp at h2
    exact wpAny_setField_rec z4 (by simp) fun g5 _ s5 => k g5 e (fun c o c1 c2 c3 c4 r => s5.extBut _ _ c1 (s4 _ _ c4 (s3.extBut _ _ c2 (s2.extBut _ _ c3 (s1.extBut _ _ c1 r))))) ⟨oe, s5.extBut _ _ ne h1, h2⟩
theorem zw_next {z T R i j a b : Addr} {m n : Nat} {xs ys : Array Value} {x y p q : Value} {Q : Option Value → Shared → Prop} (D : ZipApart z T R i j a b) (hz : IsZip s.heap z T R .none) (hT : IsPair s.heap T (.ref i) (.ref j)) (hR : IsPair s.heap R p q)
    (hi : U.it s.heap i a m) (hj : V.it s.heap j b n) (ha : U.sq s.heap a xs) (hb : V.sq s.heap b ys) (ex : xs[m]? = some x) (ey : ys[n]? = some y)
    (k : ∀ g, IsZip g z T R (rawInt s.heap.objs.size) → IsPair g R x y → U.it g i a (m + 1) → V.it g j b (n + 1) → IsPair g s.heap.objs.size x y → g.objs.size = s.heap.objs.size + 1 → Kz z R i j s.heap g → Q (some (.ref s.heap.objs.size)) { s with heap := g }) :
    wpAny (model prog w) A (pyNext (.ref z)) Q E s := by
  have hT' : s.TypeIs (.ref z) "zip" := ⟨_, hz, rfl⟩
  unfold pyNext
  exact wpAny_bind (wpAny_attempt (wpAny_callSpecial?_slot (name := Str.ofString "__next__") hT' F.slot_zip_next (wpAny_call_entry F.slot_zip_next hT' F.entry_zip_next
    (zw_item U V D hz hT hR hi hj ha hb ex ey fun g a1 a2 a3 a4 a5 a6 a7 => wpAny_pure (k g a1 a2 a3 a4 a5 a6 a7)) (F.args_zip_next_1 _))))
theorem zw_done {z T R i j a b : Addr} {m n : Nat} {xs ys : Array Value} {p q : Value} {Q : Option Value → Shared → Prop} (hh : A.handled = none) (D : ZipApart z T R i j a b) (hz : IsZip s.heap z T R .none) (hT : IsPair s.heap T (.ref i) (.ref j)) (hR : IsPair s.heap R p q)
    (hi : U.it s.heap i a m) (hj : V.it s.heap j b n) (ha : U.sq s.heap a xs) (hb : V.sq s.heap b ys) (en : xs[m]? = none ∨ ys[n]? = none) (k : ∀ g, Kz z R i j s.heap g → Q none { s with heap := g }) : wpAny (model prog w) A (pyNext (.ref z)) Q E s := by
  have hT' : s.TypeIs (.ref z) "zip" := ⟨_, hz, rfl⟩
  unfold pyNext
  refine wpAny_bind (wpAny_attempt (wpAny_callSpecial?_slot (name := Str.ofString "__next__") hT' F.slot_zip_next (wpAny_call_entry F.slot_zip_next hT' F.entry_zip_next (zw_fin U V hh D hz hT hR hi hj ha hb en fun g e hk he => ?_) (F.args_zip_next_1 _))))
  obtain ⟨o, ho, hc⟩ := he
  exact wpAny_bind (wpAny_isInstance (T := "StopIteration") (b := true) ⟨o, ho, hc⟩ isSubtype_stop (wpAny_pure (k _ hk)))
end
abbrev zmA (h : Heap) (a : Addr) : Heap := h.push { cls := .type "tuple_iterator", data := .fields #[.ref a, .int 0 0] }
abbrev zmB (h : Heap) (a b : Addr) : Heap := (zmA h a).push { cls := .type "list_iterator", data := .fields #[.ref b, .int 0 0] }
abbrev zmC (h : Heap) (a b : Addr) : Heap := (zmB h a b).push { cls := .type "tuple", data := .seq #[.ref h.objs.size, .ref (zmA h a).objs.size] }
abbrev zmD (h : Heap) (a b : Addr) : Heap := (zmC h a b).push { cls := .type "tuple", data := .seq #[.none, .none] }
abbrev zmE (h : Heap) (a b : Addr) : Heap := (zmD h a b).push { cls := .type "zip", data := .fields #[.none, .bool false, .bool false, .ref (zmB h a b).objs.size, .ref (zmC h a b).objs.size] }
theorem zm_new (a b : Addr) (xs ys : Array Value) :
    Meets (Builtin.«zip.__new__» ⟨[.type "zip", .ref a, .ref b], []⟩) (fun _ R s => s.heap.IsTuple a xs ∧ s.heap.IsList b ys ∧ R (.ok (.ret (.ref (zmD s.heap a b).objs.size))) { s with heap := zmE s.heap a b }) :=
  .of_wp fun prog w A R s h => by
    obtain ⟨hp, g, d, tk, os⟩ := s; obtain ⟨h1, h2, h⟩ := h
    have hsub := sub_zip
    have h3 : Heap.IsTuple (Shared.heap ⟨hp, g, d, tk, os⟩) a xs := h1
    have h4 : Heap.IsList (Shared.heap ⟨hp.push { cls := .type "tuple_iterator", data := .fields #[.ref a, .int 0 0] }, g, d, tk, os⟩) b ys := Heap.IsList.push h2 _
    wp_walk using wpAny_pyIter_tuple h3, wpAny_pyIter_list h4
    exact ⟨_, rfl, h⟩
theorem call_zipM {prog : Program} {w : World} {A : Around} {E : Value → Shared → Prop} {s : Shared} {a b : Addr} {xs ys : Array Value} {Q : Value → Shared → Prop} (h1 : s.heap.IsTuple a xs) (h2 : s.heap.IsList b ys)
    (k : ∀ g, IsZip g (s.heap.objs.size + 4) (s.heap.objs.size + 2) (s.heap.objs.size + 3) .none → IsPair g (s.heap.objs.size + 2) (.ref s.heap.objs.size) (.ref (s.heap.objs.size + 1)) → IsPair g (s.heap.objs.size + 3) .none .none →
      g.IsTupleIter s.heap.objs.size a 0 → g.IsListIter (s.heap.objs.size + 1) b 0 → (∀ c o, s.heap.get? c = some o → g.get? c = some o) → Q (.ref (s.heap.objs.size + 4)) { s with heap := g }) :
    wpAny (model prog w) A (call (.type "zip") [.ref a, .ref b]) Q E s := by
  refine callType_new F.called_zip (by decide) (F.typeCall_zip_2 _ _) (F.newCall_zip_2 _ _) (fun o => F.args_object_init_3 o _ _) F.entry_zip_new (zm_new a b xs ys) ⟨h1, h2, ?_⟩
  have z1 : (zmA s.heap a).objs.size = s.heap.objs.size + 1 := Heap.size_push ..
  have z2 : (zmB s.heap a b).objs.size = s.heap.objs.size + 2 := by rw [Heap.size_push, z1]
  have z3 : (zmC s.heap a b).objs.size = s.heap.objs.size + 3 := by rw [Heap.size_push, z2]
  have z4 : (zmD s.heap a b).objs.size = s.heap.objs.size + 4 := by rw [Heap.size_push, z3]
  have g5 : (zmE s.heap a b).get? (zmD s.heap a b).objs.size = some _ := Heap.get?_push_size _ rfl
  have g4 : (zmE s.heap a b).get? (zmC s.heap a b).objs.size = some _ := Heap.get?_push_of_some _ (Heap.get?_push_size _ rfl)
  have g3 : (zmE s.heap a b).get? (zmB s.heap a b).objs.size = some _ := Heap.get?_push_of_some _ (Heap.get?_push_of_some _ (Heap.get?_push_size _ rfl))
  have g2 : (zmE s.heap a b).get? (zmA s.heap a).objs.size = some _ := Heap.get?_push_of_some _ (Heap.get?_push_of_some _ (Heap.get?_push_of_some _ (Heap.get?_push_size _ rfl)))
  have g1 : (zmE s.heap a b).get? s.heap.objs.size = some _ := Heap.get?_push_of_some _ (Heap.get?_push_of_some _ (Heap.get?_push_of_some _ (Heap.get?_push_of_some _ (Heap.get?_push_size _ rfl))))
  show _ ∧ _
  rw [z2, z3, z4] at g5
  rw [z1, z2] at g3
  rw [z3] at g4
  rw [z1] at g2
  rw [z4]
  exact ⟨⟨_, g5, rfl⟩, k _ g5 g3 g4 ⟨_, g1, rfl, rfl⟩ ⟨_, g2, rfl, rfl⟩ fun c o x => Heap.get?_push_of_some _ (Heap.get?_push_of_some _ (Heap.get?_push_of_some _ (Heap.get?_push_of_some _ (Heap.get?_push_of_some _ x))))⟩
end
section
open PyProof.Rows
/-- the tuple at a and the list at b, item by item in new pairs -/
def ItzM (K : PySem.W.Frag) (a b : Addr) : It :=
  ⟨fun i H => ∃ (xs ys : List V) (x y : V), SqT K H a xs ∧ SqL K H b ys ∧ xs[i]? = some x ∧ ys[i]? = some y,
    fun i H v H' => ∃ T x y, v = .ref T ∧ H T = none ∧ H' = upd H T (.tup [x, y]) ∧ (∀ xs, SqT K H a xs → xs[i]? = some x) ∧ ∀ ys, SqL K H b ys → ys[i]? = some y,
    fun i H => ∃ xs ys : List V, SqT K H a xs ∧ SqL K H b ys ∧ (xs.length ≤ i ∨ ys.length ≤ i)⟩
theorem turn_zipM {P : Program} {w : World} {K : PySem.W.Frag} {elts : List Expr} {kk : Nat} {tpos : Pos} {a b z T R i j : Addr} (D : ZipApart z T R i j a b) :
    Turn P w K (.Tuple elts kk tpos) (ItzM K a b) [z, T, R, i, j] z (fun n h => IsZip h z T R .none ∧ IsPair h T (.ref i) (.ref j) ∧ (∃ x y, IsPair h R x y) ∧ h.IsTupleIter i a n ∧ h.IsListIter j b n) where
  mem := List.mem_cons_self ..
  obj := fun n h st c hc => by
    obtain ⟨hz, hT, ⟨x, y, hR⟩, ⟨o1, e1, _, d1⟩, ⟨o2, e2, _, d2⟩⟩ := st
    simp only [List.mem_cons, List.mem_nil_iff, or_false] at hc
    rcases hc with rfl | rfl | rfl | rfl | rfl
    · exact ⟨_, hz, fun v q => nomatch q⟩
    · exact ⟨_, hT, fun v q => nomatch q⟩
    · exact ⟨_, hR, fun v q => nomatch q⟩
    · exact ⟨o1, e1, fun v q => by rw [d1] at q; cases q⟩
    · exact ⟨o2, e2, fun v q => by rw [d2] at q; cases q⟩
  keep := fun n h h' st k => by
    obtain ⟨hz, hT, ⟨x, y, hR⟩, h1, h2⟩ := st
    exact ⟨k z (by simp) _ hz, k T (by simp) _ hT, ⟨x, y, k R (by simp) _ hR⟩, h1.at fun o q => k i (by simp) o q, h2.at fun o q => k j (by simp) o q⟩
  item := by
    intro X eP ew eK hc n pins s σ H E I hf st hg
    subst eP ew eK
    obtain ⟨hz, hT, ⟨x0, y0, hR⟩, h1, h2⟩ := st
    obtain ⟨xs, ys, x, y, qx, qy, hx, hy⟩ := hg
    obtain ⟨its, rv, p, _⟩ := I.tuple qx
    obtain ⟨its2, rv2, p2, _⟩ := I.list qy
    obtain ⟨u, hu, ru⟩ := rv.get hx
    obtain ⟨u2, hu2, ru2⟩ := rv2.get hy
    have lz : z < s.heap.objs.size := Heap.lt_size hz
    refine zw_next (wkT X.prog X.w) (wkL X.prog X.w) D hz hT hR h1 h2 p p2.isList (x := u) (y := u2) (by simpa using hu) (by simpa using hu2) fun h' z' R' h1' h2' hN hsz hk => ?_
    refine ⟨_, rfl, wpAny_letOwnedTupleGo_zip (s := { s with heap := h' }) z' fun h'' z'' sb => ?_⟩
    have hN2 : h''.get? s.heap.objs.size = some { cls := .type "tuple", data := .seq #[u, u2] } := (sb.2 _ (Nat.ne_of_gt lz)).trans hN
    have new : ObjOk X.prog X.w (upd H s.heap.objs.size (.tup [x, y])) h'' s.heap.objs.size (.tup [x, y]) := ⟨by show 2 ≤ sizeLine; decide, [u, u2], .cons ru (.cons ru2 .nil), ⟨_, hN2, rfl, _, rfl⟩⟩
    have I1 : Inv X pins σ (upd H s.heap.objs.size (.tup [x, y])) { s with heap := h'' } := I.turnedNew (t' := s.toks) (ch := [z, T, R, i, j])
      (fun c o hb q => (sb.2 c (fun r => hb (by simp [r]))).trans (hk c o (fun r => hb (by simp [r])) (fun r => hb (by simp [r])) (fun r => hb (by simp [r])) (fun r => hb (by simp [r])) q)) hf (Nat.le_refl _) new
    refine ⟨.ref s.heap.objs.size, _, I1, rfl, ⟨_, x, y, rfl, I.hok.fresh (Nat.le_refl _), rfl, fun l hl => by rw [I.tuple_inj hl qx]; exact hx, fun l hl => by rw [I.list_inj hl qy]; exact hy⟩, ⟨z'', ?_, ⟨u, u2, ?_⟩, ?_, ?_⟩, fun c hcm => ?_⟩
    · exact (sb.2 _ D.TIz).trans (hk _ _ D.TIz D.TITO D.TIi1 D.TIi2 hT)
    · exact (sb.2 _ D.TOz).trans R'
    · exact (wkT X.prog X.w).ita h1' fun o q => (sb.2 _ D.i1z).trans q
    · exact (wkL X.prog X.w).ita h2' fun o q => (sb.2 _ D.i2z).trans q
    · have lt : c < s.heap.objs.size := by
        have hc2 := hcm
        simp only [List.mem_cons, List.mem_nil_iff, or_false] at hc2
        rcases hc2 with rfl | rfl | rfl | rfl | rfl
        · exact lz
        · exact Heap.lt_size hT
        · exact Heap.lt_size hR
        · obtain ⟨_, e1, _⟩ := h1; exact Heap.lt_size e1
        · obtain ⟨_, e2, _⟩ := h2; exact Heap.lt_size e2
      rw [upd_ne (Nat.ne_of_lt lt)]
      exact (hf c hcm).1
  done := by
    intro X eP ew eK hc n pins s σ H E I hf st hg
    subst eP ew eK
    obtain ⟨hz, hT, ⟨x0, y0, hR⟩, h1, h2⟩ := st
    obtain ⟨xs, ys, qx, qy, hend⟩ := hg
    obtain ⟨its, rv, p, _⟩ := I.tuple qx
    obtain ⟨its2, rv2, p2, _⟩ := I.list qy
    have l1 := rv.length
    have l2 := rv2.length
    have he : its.toArray[n]? = none ∨ its2.toArray[n]? = none := by
      rcases hend with q | q
      · left; simp; omega
      · right; simp; omega
    exact zw_done (wkT X.prog X.w) (wkL X.prog X.w) (I.ok.hd hc) D hz hT hR h1 h2 p p2.isList he fun h' hk => ⟨rfl, I.turnedL (t' := s.toks) (ch := [z, T, R, i, j])
      (fun c o hb q => hk c o (fun r => hb (by simp [r])) (fun r => hb (by simp [r])) (fun r => hb (by simp [r])) (fun r => hb (by simp [r])) q) hf⟩
  self := fun A n s Q E st h => wpAny_pyIter_zip st.1 h
def iZipM (K : PySem.W.Frag) (ta : TA) : TI := fun σ H R => ta σ H fun vs H1 => ∃ a b xs ys, vs = [.ref a, .ref b] ∧ SqT K H1 a xs ∧ SqL K H1 b ys ∧ R (ItzM K a b) H1
theorem pi_zipM {X : Cx} {e e2 : Expr} {ta : TA} {p pos tpos : Pos} {elts : List Expr} {kk : Nat} (hg : Gl X "zip") (hm : X.mg "zip" = none) (ha : PA X [e, e2] ta)
    (hs : starEach [e, e2] X.env = (false, eval e X.env) :: starEach [e2] X.env := by rfl) (hpl : (backTo pos (starEach [e2] X.env)).any (·.1) = false := by rfl) : PI X (.Tuple elts kk tpos) (.Call (.Name "zip" p) [e, e2] [] pos) (iZipM X.K ta) := by
  refine ⟨fun pins s σ H R I w0 => ?_⟩
  refine Call_ (ld_blt I hg hm PyProof.Rows.boot_zip (PyProof.Rows.callWith_type1 (thn (ha.run pos pins s σ H _ I w0) fun us s1 ⟨vs, H1, I1, r1, q1⟩ => ?_) hs hpl))
  obtain ⟨a, b, xs, ys, ex, qx, qy, q⟩ := q1
  subst ex
  cases r1 with
  | cons r rr =>
    cases rr with
    | cons r' rr =>
      cases rr; cases r; cases r'
      obtain ⟨its, rv, p1, _⟩ := I1.tuple qx
      obtain ⟨its2, rv2, p2, _⟩ := I1.list qy
      obtain ⟨o1, ho1, _⟩ := id p1
      have fr : ∀ c, c ∈ [s1.heap.objs.size + 4, s1.heap.objs.size + 2, s1.heap.objs.size + 3, s1.heap.objs.size, s1.heap.objs.size + 1] → FpOk X pins H1 c := fun c hcm => by
        have e' : c = s1.heap.objs.size + 4 ∨ c = s1.heap.objs.size + 2 ∨ c = s1.heap.objs.size + 3 ∨ c = s1.heap.objs.size ∨ c = s1.heap.objs.size + 1 := by simpa using hcm
        have le : s1.heap.objs.size ≤ c := by
          rcases e' with c | c | c | c | c
          · rw [c]; exact Nat.le_add_right _ _
          · rw [c]; exact Nat.le_add_right _ _
          · rw [c]; exact Nat.le_add_right _ _
          · rw [c]; exact Nat.le_refl _
          · rw [c]; exact Nat.le_add_right _ _
        exact I1.fpOk le (I1.hok.fresh le)
      refine call_zipM (show s1.heap.IsTuple a its.toArray from p1) p2.isList fun h' hz hT hR h1 h2 hk => wpAny_pyIter_zip hz ?_
      have I2 : Inv X pins σ H1 { s1 with heap := h' } := I1.kept (t' := s1.toks) hk
      exact ⟨s1.heap.objs.size + 4, [s1.heap.objs.size + 4, s1.heap.objs.size + 2, s1.heap.objs.size + 3, s1.heap.objs.size, s1.heap.objs.size + 1], _, _, H1, rfl, I2, turn_zipM (PySem.W.ktu_apart s1.heap.objs.size a b (Heap.lt_size ho1) p2.lt), ⟨hz, hT, ⟨_, _, hR⟩, h1, h2⟩, fr, q⟩
/-- a comprehension over zip of a tuple and a list -/
theorem lc_zipM {K : PySem.W.Frag} {a b : Addr} {xs ys : List V} {g : TG} {tt : TT} {te : TE} {vs : List Nat} {σ : L2.St} {H1 : Hp} {D : Addr} {Qd : Hp → Prop} (hlen : xs.length ≤ ys.length) (Pv : Nat → Hp → Prop) (h0 : Pv 0 (upd H1 D (.lst []))) (hl : ∀ i H, Pv i H → SqT K H a xs ∧ SqL K H b ys)
    (hs : ∀ (i : Nat) (x y : V) (T : Addr) (H : Hp), xs[i]? = some x → ys[i]? = some y → Pv i H → H T = none → g (.ref T) (wipe σ vs) (upd H T (.tup [x, y])) fun σ2 H2 => wipe σ2 vs = wipe σ vs ∧ tt σ2 H2 fun b H3 =>
      if b = true then te σ2 H3 fun y H4 => ∃ acc, H4 D = some (.lst acc) ∧ acc.length < sizeLine ∧ Pv (i + 1) (upd H4 D (.lst (acc ++ [y]))) else Pv (i + 1) H3) (hd : ∀ H, Pv xs.length H → Qd H) :
    ∃ W : Nat → Nat → Hp → Prop, (∃ m, W 0 m (upd H1 D (.lst []))) ∧ ∀ i m H, W i m H → ((ItzM K a b).stop i H ∧ Qd H) ∨ ((ItzM K a b).go i H ∧ ∃ Nx : Hp → Prop, (∀ H', Nx H' → ∃ m', m' < m ∧ W (i + 1) m' H') ∧ ∀ x H', (ItzM K a b).yld i H x H' → g x (wipe σ vs) H' fun σ2 H2 => wipe σ2 vs = wipe σ vs ∧ tt σ2 H2 fun b H3 =>
        if b = true then te σ2 H3 fun y H4 => ∃ acc, H4 D = some (.lst acc) ∧ acc.length < sizeLine ∧ Nx (upd H4 D (.lst (acc ++ [y]))) else Nx H3) := by
  refine ⟨fun i m H => m = xs.length - i ∧ i ≤ xs.length ∧ Pv i H, ⟨xs.length, by omega, Nat.zero_le _, h0⟩, ?_⟩
  rintro i m H ⟨rfl, hi, p⟩
  obtain ⟨qx, qy⟩ := hl i H p
  by_cases c : i < xs.length
  · have hx : xs[i]? = some xs[i] := List.getElem?_eq_getElem c
    have hy : ys[i]? = some ys[i] := List.getElem?_eq_getElem (by omega)
    refine .inr ⟨⟨xs, ys, _, _, qx, qy, hx, hy⟩, Pv (i + 1), fun H' p' => ⟨xs.length - (i + 1), by omega, rfl, c, p'⟩, fun v H' yl => ?_⟩
    obtain ⟨T, x', y', rfl, hT, rfl, f1, f2⟩ := yl
    exact hs i x' y' T H (f1 xs qx) (f2 ys qy) p hT
  · have e : i = xs.length := by omega
    subst e
    exact .inl ⟨⟨xs, ys, qx, qy, .inl (Nat.le_refl _)⟩, hd H p⟩
end
/-! ### one request, by the law -/
def mixE (bs : List Tri) (ss : List StD) (t : Int) (f : Bool) (j k i : Nat) : StD := match bs[i]?, ss[i]? with
  | some b, some s => if i < j then (if f = true then okS b s else badS b s t) else if i < k then hfS s else s
  | _, _ => ("closed", 0)
def mixS (bs : List Tri) (ss : List StD) (t : Int) (f : Bool) (j k : Nat) : List StD := (List.range bs.length).map (mixE bs ss t f j k)
theorem mixE_is {bs : List Tri} {ss : List StD} {t : Int} {f : Bool} {j k i : Nat} {b : Tri} {s : StD} (hb : bs[i]? = some b) (hs : ss[i]? = some s) : mixE bs ss t f j k i = if i < j then (if f = true then okS b s else badS b s t) else if i < k then hfS s else s := by
  unfold mixE
  rw [hb, hs]
theorem mixS_get {bs : List Tri} {ss : List StD} {t : Int} {f : Bool} {j k i : Nat} (h : i < bs.length) : (mixS bs ss t f j k)[i]? = some (mixE bs ss t f j k i) := by
  unfold mixS
  rw [List.getElem?_map, List.getElem?_range h]
  rfl
theorem mixS_len {bs : List Tri} {ss : List StD} {t : Int} {f : Bool} {j k : Nat} : (mixS bs ss t f j k).length = bs.length := by
  unfold mixS
  rw [List.length_map, List.length_range]
theorem map_set {α : Type} {n : Nat} {f g : Nat → α} {i : Nat} {v : α} (hi : i < n) (h1 : v = g i) (h2 : ∀ j, j ≠ i → j < n → f j = g j) : ((List.range n).map f).set i v = (List.range n).map g := by
  refine List.ext_getElem? fun j => ?_
  rw [List.getElem?_set, List.length_map, List.length_range, List.getElem?_map, List.getElem?_map]
  by_cases c : i = j
  · subst c
    rw [if_pos rfl, if_pos hi, List.getElem?_range hi, h1]
    rfl
  · rw [if_neg c]
    by_cases d : j < n
    · rw [List.getElem?_range d]
      exact congrArg some (h2 j (fun e => c e.symm) d)
    · rw [List.getElem?_eq_none (by rw [List.length_range]; omega)]
      rfl
theorem mixS_0 {bs : List Tri} {ss : List StD} {t : Int} {f : Bool} (h : ss.length = bs.length) : mixS bs ss t f 0 0 = ss := by
  refine List.ext_getElem? fun j => ?_
  by_cases c : j < bs.length
  · have hb : bs[j]? = some bs[j] := List.getElem?_eq_getElem c
    have hs : ss[j]? = some (ss[j]'(by omega)) := List.getElem?_eq_getElem (by omega)
    rw [mixS_get c, mixE_is hb hs, hs, if_neg (Nat.not_lt_zero j), if_neg (Nat.not_lt_zero j)]
  · rw [List.getElem?_eq_none (by rw [mixS_len]; omega), List.getElem?_eq_none (by omega)]
theorem mixS_half {bs : List Tri} {ss : List StD} {t : Int} {f : Bool} {i : Nat} {b : Tri} {s : StD} (hb : bs[i]? = some b) (hs : ss[i]? = some s) : (mixS bs ss t f 0 i).set i (hfS s) = mixS bs ss t f 0 (i + 1) := by
  refine map_set (List.getElem?_eq_some_iff.mp hb).1 ?_ fun j ne hj => ?_
  · rw [mixE_is hb hs, if_neg (Nat.not_lt_zero i), if_pos (Nat.lt_succ_self i)]
  · unfold mixE
    cases bs[j]? with
    | none => rfl
    | some b' =>
      cases ss[j]? with
      | none => rfl
      | some s' =>
        show (if j < 0 then _ else if j < i then _ else _) = (if j < 0 then _ else if j < i + 1 then _ else _)
        rw [if_neg (Nat.not_lt_zero j), if_neg (Nat.not_lt_zero j)]
        by_cases c : j < i
        · rw [if_pos c, if_pos (show j < i + 1 by omega)]
        · rw [if_neg c, if_neg (show ¬ j < i + 1 by omega)]
theorem mixS_fin {bs : List Tri} {ss : List StD} {t : Int} {f : Bool} {j k : Nat} {b : Tri} {s : StD} (hb : bs[j]? = some b) (hs : ss[j]? = some s) : (mixS bs ss t f j k).set j (if f = true then okS b s else badS b s t) = mixS bs ss t f (j + 1) k := by
  refine map_set (List.getElem?_eq_some_iff.mp hb).1 ?_ fun i ne hi => ?_
  · rw [mixE_is hb hs, if_pos (Nat.lt_succ_self j)]
  · unfold mixE
    cases bs[i]? with
    | none => rfl
    | some b' =>
      cases ss[i]? with
      | none => rfl
      | some s' =>
        show (if i < j then _ else _) = (if i < j + 1 then _ else _)
        by_cases c : i < j
        · rw [if_pos c, if_pos (show i < j + 1 by omega)]
        · rw [if_neg c, if_neg (show ¬ i < j + 1 by omega)]
theorem mixS_same {bs : List Tri} {ss : List StD} {t : Int} {f g : Bool} {k : Nat} : mixS bs ss t f 0 k = mixS bs ss t g 0 k := by
  refine List.map_congr_left fun i _ => ?_
  unfold mixE
  cases bs[i]? with
  | none => rfl
  | some b' =>
    cases ss[i]? with
    | none => rfl
    | some s' => rfl
theorem mixS_keep {bs : List Tri} {ss : List StD} {t : Int} {f : Bool} {i : Nat} {b : Tri} {s : StD} (hb : bs[i]? = some b) (hs : ss[i]? = some s) (h : hfS s = s) : mixS bs ss t f 0 i = mixS bs ss t f 0 (i + 1) := by
  have hi := (List.getElem?_eq_some_iff.mp hb).1
  rw [← mixS_half hb hs, h]
  refine (List.ext_getElem? fun j => ?_)
  rw [List.getElem?_set, mixS_len]
  by_cases c : i = j
  · subst c
    rw [if_pos rfl, if_pos hi, mixS_get hi, mixE_is hb hs, if_neg (Nat.not_lt_zero i), if_neg (Nat.lt_irrefl i)]
  · rw [if_neg c]
theorem paired_set {α β : Type} {F : α → β → Prop} : ∀ {xs : List α} {ys : List β} (i : Nat) {x : α} {y : β}, Paired F xs ys → F x y → Paired F (xs.set i x) (ys.set i y)
  | _, _, _, _, _, .nil, _ => .nil
  | _, _, 0, _, _, .cons _ t, h => .cons h t
  | _, _, i + 1, _, _, .cons r t, h => .cons r (paired_set i t h)
theorem sts_kp {H H' : Hp} (k : ∀ b xs, H b = some (.tup xs) → H' b = some (.tup xs)) {xs : List V} {ss : List StD} (h : Sts H xs ss) : Sts H' xs ss := L2.Paired.mapP h fun _ _ ⟨a, e, h⟩ => ⟨a, e, k _ _ h⟩
theorem ixN_of {n j : Nat} (h : j < n) : ixN n (j : Int) = some j := by
  unfold ixN
  rw [if_pos (show (0 : Int) ≤ j by omega), if_pos (show (j : Int) < n by omega)]
  congr 1
theorem outV_n (n : Nat) (b : Bool) : outV n n b = if b = true then [.str "failed"] else [.str "served"] := by
  unfold outV
  rw [if_neg (Nat.lt_irrefl n)]
theorem outV_k {n k : Nat} (h : k < n) (b : Bool) : outV n k b = [.str "rejected", .int k] := if_pos h
def outD (n k : Nat) (inS : Bool) : PyData := if k < n then .tuple [.str "rejected", .int k] else if inS then .tuple [.str "failed"] else .tuple [.str "served"]
theorem outV_dp {K : PySem.W.Frag} {H : Hp} {p : Addr} {n k : Nat} {b : Bool} (h : H p = some (.tup (outV n k b))) : Dp K H (.ref p) (outD n k b) := by
  unfold outV at h
  unfold outD
  split
  · rename_i c
    rw [if_pos c] at h
    exact .tup (SqT.of h) (.cons (.str _) (.cons (.int _) .nil))
  · rename_i c
    rw [if_neg c] at h
    cases b with
    | true => exact .tup (SqT.of h) (.cons (.str _) .nil)
    | false => exact .tup (SqT.of h) (.cons (.str _) .nil)
theorem tup_sh {ds : List PyData} (h1 : PyData.canLayAll0 ds = true) (h2 : PyData.depthAll ds ≤ 10) : SeqAt.shaped (.tuple ds) = true := by
  refine Bool.and_eq_true_iff.mpr ⟨?_, decide_eq_true ?_⟩
  · rw [PyData.canLay0]
    exact h1
  · rw [PyData.depth]
    omega
theorem sok_R : PyData.strOk "rejected" = true := by decide +kernel
theorem sok_S : PyData.strOk "served" = true := by decide +kernel
theorem sok_F : PyData.strOk "failed" = true := by decide +kernel
theorem outD_sh (n k : Nat) (b : Bool) : SeqAt.shaped (outD n k b) = true := by
  unfold outD
  split
  · exact tup_sh (by simp [PyData.canLayAll0, PyData.canLay0, sok_R]) (by simp [PyData.depthAll, PyData.depth])
  · cases b <;> exact tup_sh (by simp [PyData.canLayAll0, PyData.canLay0, sok_S, sok_F]) (by simp [PyData.depthAll, PyData.depth])
theorem served_sh : SeqAt.shaped (.tuple [.str "served"]) = true := tup_sh (by simp [PyData.canLayAll0, PyData.canLay0, sok_S]) (by simp [PyData.depthAll, PyData.depth])
theorem outD_served (n k : Nat) (b : Bool) (h : k ≤ n) : PyData.eqv (outD n k b) (.tuple [.str "served"]) = (decide (k = n) && !b) := by
  unfold outD
  split
  · rename_i c
    rw [decide_eq_false (show ¬ k = n by omega)]
    rfl
  · rw [decide_eq_true (show k = n by omega)]
    cases b <;> rfl
theorem outD_eq (n k : Nat) (b : Bool) : PyData.eqv (outD n k b) (outD n k b) = true := by
  unfold outD
  split
  · simp [PyData.eqv, PyData.eqvAll]
  · cases b <;> simp [PyData.eqv, PyData.eqvAll]
def spOne1 : Sp := fun vs H Q _ => ∃ a l xs ys bs ss t good, vs = [.ref a, .ref l, .int t, .bl good] ∧ H a = some (.lst xs) ∧ Brs H xs bs ∧ H l = some (.lst ys) ∧ Sts H ys ss ∧ a ≠ l ∧ ss.length = bs.length ∧ bs.length ≤ 12 ∧ ∀ (k : Nat) td H' ys', k ≤ bs.length → (∀ (i : Nat) (b : Tri) (s : StD), i < k → bs[i]? = some b → ss[i]? = some s → psB b s t) → (∀ (b : Tri) (s : StD), bs[k]? = some b → ss[k]? = some s → ¬ psB b s t) →
  H' td = some (.tup (outV bs.length k (!good))) → H' l = some (.lst ys') → Sts H' ys' (mixS bs ss t (decide (k = bs.length) && good) k k) → Kp l H H' → H td = none → Q (.ref td) H'
/-! ### a request at one breaker -/
instance psDec (b : Tri) (s : StD) (t : Int) : Decidable (psB b s t) := by
  unfold psB
  infer_instance
def stpS (b : Tri) (s : StD) (t : Int) (g : Bool) : StD := if g = true then okS b s else badS b s t
theorem okS_closed {b : Tri} {s : StD} (h : s.1 = "closed") : okS b s = (("closed", 0) : StD) := by
  have e : hfS s = s := if_neg (by rw [h]; exact sC_O)
  unfold okS
  rw [e]
  exact if_neg fun q => sC_H (h.symm.trans q.1)
theorem okS_half {b : Tri} {s : StD} (h : s.1 = "half") : okS b s = if s.2 + 1 < b.2.2 then (("half", s.2 + 1) : StD) else ("closed", 0) := by
  have e : hfS s = s := if_neg (by rw [h]; exact sH_O)
  unfold okS
  rw [e]
  by_cases c : s.2 + 1 < b.2.2
  · rw [if_pos c, if_pos ⟨h, c⟩]
  · rw [if_neg c, if_neg fun q => c q.2]
theorem okS_open {b : Tri} {s : StD} (h : s.1 = "open") : okS b s = if 1 < b.2.2 then (("half", 1) : StD) else ("closed", 0) := by
  have e : hfS s = (("half", 0) : StD) := if_pos h
  unfold okS
  rw [e]
  by_cases c : (1 : Int) < b.2.2
  · rw [if_pos c, if_pos ⟨rfl, by show (0 : Int) + 1 < b.2.2; omega⟩]
    rfl
  · rw [if_neg c, if_neg fun q => c (by have q2 : (0 : Int) + 1 < b.2.2 := q.2; omega)]
theorem badS_closed {b : Tri} {s : StD} {t : Int} (h : s.1 = "closed") : badS b s t = if s.2 + 1 < b.1 then (("closed", s.2 + 1) : StD) else ("open", t) := by
  have e : hfS s = s := if_neg (by rw [h]; exact sC_O)
  unfold badS
  rw [e]
  by_cases c : s.2 + 1 < b.1
  · rw [if_pos c, if_pos ⟨h, c⟩]
  · rw [if_neg c, if_neg fun q => c q.2]
theorem badS_other {b : Tri} {s : StD} {t : Int} (h : ¬ s.1 = "closed") : badS b s t = (("open", t) : StD) := by
  unfold badS
  refine if_neg fun q => ?_
  have q1 := q.1
  unfold hfS at q1
  split at q1
  · exact sH_C q1
  · exact h q1
def spPasses : Sp := fun vs H Q _ => ∃ x y b s t, vs = [x, y, .int t] ∧ BrAt H x b ∧ StAt H y s ∧ Q (.bl (decide (psB b s t))) H
def spBehind : Sp := fun vs H Q _ => ∃ x y b s t g, vs = [x, y, .int t, .bl g] ∧ BrAt H x b ∧ StAt H y s ∧ okW s ∧ ∀ c H', H' c = some (.tup [.str (stpS b s t g).1, .int (stpS b s t g).2]) → Same H H' → H c = none → Q (.ref c) H'
section
variable {P : Program} {w : World} {K : PySem.W.Frag} {mg : Str → Option Value} {base : Heap} {L : LA}
abbrev N_passes : List Str := ["breaker", "state", "time"]
theorem sc_passes : FnScope N_passes ["breaker", "state", "time"] (defScope st_passes) := ⟨rfl, rfl, rfl, by decide +kernel, rfl, by decide +kernel, by decide +kernel⟩
theorem fn_passes (T : LX K mg L) {fd : FuncData} (F : Fun K "passes" "passes" st_passes L.f_passes fd) : FnOk P w K mg base CX0 1 L.f_passes fd ["breaker", "state", "time"] (spPasses) := by
  have nd := sc_passes.nd
  refine F.ok sc_passes (fun vs H Q E h => ?_) (fun cdv A outer S H vs Q E hr h => ?_)
  · obtain ⟨x, y, b, s, t, rfl, _⟩ := h
    rfl
  · obtain ⟨x, y, b, s, t, rfl, ⟨ab, rfl, hb⟩, ⟨as, rfl, hs⟩, k⟩ := h
    refine ⟨_, (pss_one (ps_ret (pe_or (pe_cmpR op_ne (pe_ix (r := rIxT K) ix_tup (pv 1) pe_int (fun _ _ => rfl)) pe_str (nomark _)) (pe_one (pe_cmpR op_ge (pe_op op_sub (pv 2) (pe_ix (r := rIxT K) ix_tup (pv 1) pe_int (fun _ _ => rfl))) (pe_ix (r := rIxT K) ix_tup (pv 0) pe_int (fun _ _ => rfl)) (nomark _)))))), ?_⟩
    refine ⟨_, rfl, as, _, 0, .str s.1, rfl, rfl, SqT.of hs, rfl, rfl, _, rfl, ite2 (fun c => ?_) (fun c => ?_)⟩
    · have c' : ¬ s.1 = "open" := fun e => by simp [e] at c
      rw [decide_eq_true (show psB b s t from fun e => absurd e c')] at k
      exact k
    · have c' : s.1 = "open" := by simpa using c
      have e : decide (psB b s t) = decide (b.2.1 ≤ t - s.2) := by
        rw [Bool.eq_iff_iff, decide_eq_true_iff, decide_eq_true_iff]
        exact ⟨fun h => h c', fun h _ => h⟩
      rw [e] at k
      exact ⟨_, rfl, _, rfl, as, _, 1, .int s.2, rfl, rfl, SqT.of hs, rfl, _, _, rfl, rfl, _, rfl, ab, _, 1, .int b.2.1, rfl, rfl, SqT.of hb, rfl, _, _, rfl, rfl, k⟩
theorem ok_passes (T : LX K mg L) : Cal P w K mg base "passes" 1 L.f_passes ["breaker", "state", "time"] (spPasses) := T.d_passes.cal fun fd F => fn_passes T F
abbrev N_statebehind : List Str := ["breaker", "state", "time", "succeeded", "failures", "wait", "successes", "kind", "number", "reached"]
theorem sc_statebehind : FnScope N_statebehind ["breaker", "state", "time", "succeeded"] (defScope st_state_behind) := ⟨rfl, rfl, rfl, by decide +kernel, rfl, by decide +kernel, by decide +kernel⟩
theorem fn_statebehind (T : LX K mg L) {fd : FuncData} (F : Fun K "state_behind" "state_behind" st_state_behind L.f_state_behind fd) : FnOk P w K mg base CX0 1 L.f_state_behind fd ["breaker", "state", "time", "succeeded"] (spBehind) := by
  have nd := sc_statebehind.nd
  refine F.ok sc_statebehind (fun vs H Q E h => ?_) (fun cdv A outer S H vs Q E hr h => ?_)
  · obtain ⟨x, y, b, s, t, g, rfl, _⟩ := h
    rfl
  · obtain ⟨x, y, b, s, t, g, rfl, ⟨ab, rfl, hb⟩, ⟨as, rfl, hs⟩, ok, k⟩ := h
    refine ⟨_, (pss_cons (ps_asg (pv 0) (pg_tup rfl (pgs_cons (pg_name (i := 4) nd rfl (Or.inl rfl)) (pgs_cons (pg_name (i := 5) nd rfl (Or.inl rfl)) (pgs_cons (pg_name (i := 6) nd rfl (Or.inl rfl)) pgs_nil)))))
       (pss_cons (ps_asg (pv 1) (pg_tup rfl (pgs_cons (pg_name (i := 7) nd rfl (Or.inl rfl)) (pgs_cons (pg_name (i := 8) nd rfl (Or.inl rfl)) pgs_nil))))
       (pss_cons (ps_if (PW.pt (pw_and (pt_val (pv 3)) (pw_and1 (pt_cmpR op_ne (pv 7) pe_str (nomark _))))) (pss_cons (ps_set (i := 9) nd rfl (Or.inl rfl) (pe_ifExp (pt_cmpR op_eq (pv 7) pe_str (nomark _)) (pe_op op_add (pv 8) pe_int) pe_int))
       (pss_one (ps_ret (pe_ifExp (pt_cmpR op_lt (pv 9) (pv 6) (nomark _)) (pe_tup (pa_cons pe_str (pa_cons (pv 9) pa_nil))) (pe_tup (pa_cons pe_str (pa_cons pe_int pa_nil))))))) pss_nil)
       (pss_cons (ps_if (pt_val (pv 3)) (pss_one (ps_ret (pe_tup (pa_cons pe_str (pa_cons pe_int pa_nil))))) pss_nil)
       (pss_cons (ps_if (PW.pt (pw_and (pt_cmpR op_eq (pv 7) pe_str (nomark _)) (pw_and1 (pt_cmpR op_lt (pe_op op_add (pv 8) pe_int) (pv 4) (nomark _))))) (pss_one (ps_ret (pe_tup (pa_cons pe_str (pa_cons (pe_op op_add (pv 8) pe_int) pa_nil))))) pss_nil)
       (pss_one (ps_ret (pe_tup (pa_cons pe_str (pa_cons (pv 2) pa_nil)))))))))), ?_⟩
    refine ⟨_, rfl, ab, _, rfl, SqT.of hb, rfl, _, _, rfl, _, _, rfl, _, _, rfl, rfl, ?_⟩
    refine ⟨_, rfl, as, _, rfl, SqT.of hs, rfl, _, _, rfl, _, _, rfl, rfl, ?_⟩
    have fin : ∀ (d : StD), stpS b s t g = d → ∀ p, H p = none → Q (.ref p) (upd H p (.tup [.str d.1, .int d.2])) := fun d e p hp => by
      subst e
      exact k p _ upd_same (Same.upd hp) hp
    clear k
    cases g with
    | true =>
      refine ⟨_, rfl, _, rfl, iteT ⟨_, rfl, rfl, _, rfl, ite2 (fun c => ?_) (fun c => ?_)⟩⟩
      · have c' : ¬ s.1 = "closed" := fun e => by simp [e] at c
        refine ⟨_, rfl, rfl, _, rfl, ite2 (fun h => ?_) (fun h => ?_)⟩
        · have h' : s.1 = "half" := V.str.inj (of_decide_eq_true h)
          refine ⟨_, rfl, _, _, rfl, rfl, _, rfl, _, rfl, _, _, rfl, rfl, _, rfl, ite2 (fun l => ?_) (fun l => ?_)⟩
          · exact ⟨_, rfl, (by show 2 ≤ sizeLine; decide), fin ("half", s.2 + 1) ((okS_half h').trans (if_pos (of_decide_eq_true l)))⟩
          · exact ⟨(by show 2 ≤ sizeLine; decide), fin ("closed", 0) ((okS_half h').trans (if_neg fun q => l (decide_eq_true q)))⟩
        · have h' : ¬ s.1 = "half" := fun e => h (decide_eq_true (congrArg V.str e))
          have o : s.1 = "open" := by
            rcases ok with e | e | e
            · exact absurd e c'
            · exact e
            · exact absurd e h'
          refine ⟨_, rfl, _, rfl, _, _, rfl, rfl, _, rfl, ite2 (fun l => ?_) (fun l => ?_)⟩
          · exact ⟨_, rfl, (by show 2 ≤ sizeLine; decide), fin ("half", 1) ((okS_open o).trans (if_pos (of_decide_eq_true l)))⟩
          · exact ⟨(by show 2 ≤ sizeLine; decide), fin ("closed", 0) ((okS_open o).trans (if_neg fun q => l (decide_eq_true q)))⟩
      · have c' : s.1 = "closed" := by simpa using c
        exact ⟨_, rfl, _, rfl, iteT ⟨(by show 2 ≤ sizeLine; decide), fin ("closed", 0) (okS_closed c')⟩⟩
    | false =>
      refine ⟨_, rfl, _, rfl, iteF ⟨_, rfl, _, rfl, iteF ⟨_, rfl, rfl, _, rfl, ite2 (fun c => ?_) (fun c => ?_)⟩⟩⟩
      · have c' : s.1 = "closed" := V.str.inj (of_decide_eq_true c)
        refine ⟨_, rfl, _, _, rfl, rfl, _, rfl, _, _, rfl, rfl, _, rfl, ite2 (fun l => ?_) (fun l => ?_)⟩
        · exact ⟨_, rfl, _, _, rfl, rfl, (by show 2 ≤ sizeLine; decide), fin ("closed", s.2 + 1) ((badS_closed c').trans (if_pos (of_decide_eq_true l)))⟩
        · exact ⟨_, rfl, (by show 2 ≤ sizeLine; decide), fin ("open", t) ((badS_closed c').trans (if_neg fun q => l (decide_eq_true q)))⟩
      · have c' : ¬ s.1 = "closed" := fun e => c (decide_eq_true (congrArg V.str e))
        refine iteF ⟨_, rfl, (by show 2 ≤ sizeLine; decide), fin ("open", t) (badS_other c')⟩
theorem ok_statebehind (T : LX K mg L) : Cal P w K mg base "state_behind" 1 L.f_state_behind ["breaker", "state", "time", "succeeded"] (spBehind) := T.d_state_behind.cal fun fd F => fn_statebehind T F
end
/-! ### one request sent by the program -/
/-- how many breakers a request reaches and is passed by -/
def kOf : List Tri → List StD → Int → Nat
  | b :: bs, s :: ss, t => if psB b s t then kOf bs ss t + 1 else 0
  | [], _, _ => 0
  | _ :: _, [], _ => 0
theorem kOf_le : ∀ (bs : List Tri) (ss : List StD) (t : Int), kOf bs ss t ≤ bs.length
  | [], _, _ => Nat.le_refl _
  | _ :: _, [], _ => Nat.zero_le _
  | b :: bs, s :: ss, t => by
    unfold kOf
    split
    · exact Nat.succ_le_succ (kOf_le bs ss t)
    · exact Nat.zero_le _
theorem kOf_ps : ∀ {bs : List Tri} {ss : List StD} {t : Int} {i : Nat} {b : Tri} {s : StD}, i < kOf bs ss t → bs[i]? = some b → ss[i]? = some s → psB b s t
  | [], _, _, _, _, _, h, _, _ => absurd h (Nat.not_lt_zero _)
  | _ :: _, [], _, _, _, _, h, _, _ => absurd h (Nat.not_lt_zero _)
  | b :: bs, s :: ss, t, i, b', s', h, e1, e2 => by
    unfold kOf at h
    split at h
    · rename_i c
      cases i with
      | zero => cases e1; cases e2; exact c
      | succ i => exact kOf_ps (i := i) (Nat.lt_of_succ_lt_succ h) e1 e2
    · exact absurd h (Nat.not_lt_zero _)
theorem kOf_rj : ∀ {bs : List Tri} {ss : List StD} {t : Int} {b : Tri} {s : StD}, bs[kOf bs ss t]? = some b → ss[kOf bs ss t]? = some s → ¬ psB b s t
  | [], _, _, _, _, e1, _ => by cases e1
  | _ :: _, [], _, _, _, _, e2 => by cases e2
  | b :: bs, s :: ss, t, b', s', e1, e2 => by
    unfold kOf at e1 e2
    by_cases c : psB b s t
    · rw [if_pos c] at e1 e2
      exact kOf_rj (bs := bs) (ss := ss) e1 e2
    · rw [if_neg c] at e1 e2
      cases e1
      cases e2
      exact c
theorem kOf_is {bs : List Tri} {ss : List StD} {t : Int} (sl : ss.length = bs.length) {k : Nat} (hk : k ≤ bs.length) (h1 : ∀ (i : Nat) (b : Tri) (s : StD), i < k → bs[i]? = some b → ss[i]? = some s → psB b s t) (h2 : ∀ (b : Tri) (s : StD), bs[k]? = some b → ss[k]? = some s → ¬ psB b s t) : k = kOf bs ss t := by
  have kl := kOf_le bs ss t
  have get : ∀ {j : Nat}, j < bs.length → ∃ b s, bs[j]? = some b ∧ ss[j]? = some s := fun {j} l => ⟨_, _, List.getElem?_eq_getElem l, List.getElem?_eq_getElem (by omega)⟩
  rcases Nat.lt_trichotomy k (kOf bs ss t) with c | c | c
  · obtain ⟨b, s, e1, e2⟩ := get (j := k) (by omega)
    exact absurd (kOf_ps c e1 e2) (h2 b s e1 e2)
  · exact c
  · obtain ⟨b, s, e1, e2⟩ := get (j := kOf bs ss t) (by omega)
    exact absurd (h1 _ b s c e1 e2) (kOf_rj e1 e2)
/-- the states behind a request -/
def sntS (bs : List Tri) (ss : List StD) (t : Int) (up : Bool) : List StD := mixS bs ss t (decide (kOf bs ss t = bs.length) && up) (kOf bs ss t) (kOf bs ss t)
theorem okS_W (b : Tri) (s : StD) : okW (okS b s) := by
  unfold okS
  split
  · exact .inr (.inr rfl)
  · exact .inl rfl
theorem badS_W (b : Tri) (s : StD) (t : Int) : okW (badS b s t) := by
  unfold badS
  split
  · exact .inl rfl
  · exact .inr (.inl rfl)
theorem stpS_W (b : Tri) (s : StD) (t : Int) (g : Bool) : okW (stpS b s t g) := by
  unfold stpS
  split
  · exact okS_W b s
  · exact badS_W b s t
theorem sntS_len {bs : List Tri} {ss : List StD} {t : Int} {up : Bool} : (sntS bs ss t up).length = bs.length := mixS_len
theorem sntS_get {bs : List Tri} {ss : List StD} {t : Int} {up : Bool} {i : Nat} {b : Tri} {s : StD} (hb : bs[i]? = some b) (hs : ss[i]? = some s) :
    (sntS bs ss t up)[i]? = some (if i < kOf bs ss t then stpS b s t (decide (kOf bs ss t = bs.length) && up) else s) := by
  have hi := (List.getElem?_eq_some_iff.mp hb).1
  unfold sntS
  rw [mixS_get hi, mixE_is hb hs]
  congr 1
  by_cases c : i < kOf bs ss t
  · rw [if_pos c, if_pos c]
    rfl
  · rw [if_neg c, if_neg c, if_neg c]
theorem sntS_W {bs : List Tri} {ss : List StD} {t : Int} {up : Bool} (sl : ss.length = bs.length) (h : ∀ s ∈ ss, okW s) : ∀ s ∈ sntS bs ss t up, okW s := by
  intro s hs
  obtain ⟨i, hi⟩ := List.mem_iff_getElem?.mp hs
  have l := (List.getElem?_eq_some_iff.mp hi).1
  rw [sntS_len] at l
  have e1 : bs[i]? = some bs[i] := List.getElem?_eq_getElem l
  have e2 : ss[i]? = some ss[i] := List.getElem?_eq_getElem (by omega)
  rw [sntS_get e1 e2] at hi
  cases hi
  split
  · exact stpS_W _ _ _ _
  · exact h _ (List.getElem_mem _)
theorem sntS_cut {bs : List Tri} {ss : List StD} {t : Int} {up : Bool} (sl : ss.length = bs.length) : sntS bs ss t up = (List.zipWith (fun b s => stpS b s t (decide (kOf bs ss t = bs.length) && up)) (bs.take (kOf bs ss t)) ss) ++ ss.drop (kOf bs ss t) := by
  have kl := kOf_le bs ss t
  apply List.ext_getElem?
  intro i
  by_cases c : i < bs.length
  · have e1 : bs[i]? = some bs[i] := List.getElem?_eq_getElem c
    have e2 : ss[i]? = some ss[i] := List.getElem?_eq_getElem (by omega)
    rw [sntS_get e1 e2]
    by_cases q : i < kOf bs ss t
    · rw [if_pos q, List.getElem?_append_left (by rw [List.length_zipWith, List.length_take]; omega), List.getElem?_zipWith, List.getElem?_take, if_pos q, e1, e2]
    · rw [if_neg q, List.getElem?_append_right (by rw [List.length_zipWith, List.length_take]; omega), List.length_zipWith, List.length_take, List.getElem?_drop, show kOf bs ss t + (i - min (min (kOf bs ss t) bs.length) ss.length) = i by omega, e2]
  · rw [List.getElem?_eq_none (by rw [sntS_len]; omega), List.getElem?_eq_none (by rw [List.length_append, List.length_zipWith, List.length_take, List.length_drop]; omega)]
/-- what is told of a request -/
def TldAt (K : PySem.W.Frag) (H : Hp) (x : V) (n k : Nat) (up : Bool) : Prop := ∃ a, x = .ref a ∧ SqT K H a (outV n k (!up))
theorem TldAt.same {K : PySem.W.Frag} {H H' : Hp} {x : V} {n k : Nat} {up : Bool} (h : TldAt K H x n k up) (s : Same H H') : TldAt K H' x n k up := by
  obtain ⟨a, e, q⟩ := h
  exact ⟨a, e, q.ext fun b o e => s b o e⟩
theorem TldAt.dp {K : PySem.W.Frag} {H : Hp} {x : V} {n k : Nat} {up : Bool} (h : TldAt K H x n k up) : Dp K H x (outD n k (!up)) := by
  obtain ⟨a, rfl, h⟩ := h
  unfold outV at h
  unfold outD
  split
  · rename_i c
    rw [if_pos c] at h
    exact .tup h (.cons (.str _) (.cons (.int _) .nil))
  · rename_i c
    rw [if_neg c] at h
    cases up with
    | true => exact .tup h (.cons (.str _) .nil)
    | false => exact .tup h (.cons (.str _) .nil)
theorem cut_take0 (xs : List V) (k : Nat) (h : k ≤ xs.length) : cutV xs none (some (k : Int)) = xs.take k := by
  unfold cutV
  rw [HT.sIx_nat, HT.sIx_none, List.drop_zero, Nat.sub_zero, Nat.min_eq_left h]
theorem cut_drop0 (xs : List V) (k : Nat) (h : k ≤ xs.length) : cutV xs (some (k : Int)) none = xs.drop k := by
  unfold cutV
  rw [HT.sIx_nat, HT.sIx_none, Nat.min_eq_left h, List.take_of_length_le (by rw [List.length_drop]; exact Nat.le_refl _)]
theorem slA_by {K : PySem.W.Frag} {a : Addr} {xs : List V} {lo hi : Option Int} {H : Hp} {Q : VK} (h : SqT K H a xs) (k : ∀ p H', SqT K H' p (cutV xs lo hi) → Same H H' → Q (.ref p) H') : rSlA K (.ref a) lo hi H Q := by
  refine ⟨a, xs, rfl, h, fun c => k a H ?_ (Same.refl H), fun _ p np => k p _ (SqT.of upd_same) (Same.upd np)⟩
  have e : cutV xs lo hi = xs := by
    unfold cutV
    rw [c.1, c.2, List.drop_zero, Nat.sub_zero, List.take_length]
  rw [e]
  exact h
theorem paired_drop {α β : Type} {F : α → β → Prop} : ∀ {xs : List α} {ys : List β} (n : Nat), Paired F xs ys → Paired F (xs.drop n) (ys.drop n)
  | _, _, 0, h => h
  | _, _, n + 1, .nil => .nil
  | _, _, n + 1, .cons _ p => paired_drop n p
def spSent (K : PySem.W.Frag) : Sp := fun vs H Q _ => ∃ B l xs ys bs ss t up, vs = [.ref B, .ref l, .int t, .bl up] ∧ SqT K H B xs ∧ Brs H xs bs ∧ H l = some (.lst ys) ∧ Sts H ys ss ∧ ss.length = bs.length ∧ bs.length ≤ 100 ∧ (∀ s ∈ ss, okW s) ∧
  ∀ q x l2 ys2 H', H' q = some (.tup [x, .ref l2]) → TldAt K H' x bs.length (kOf bs ss t) up → H' l2 = some (.lst ys2) → Sts H' ys2 (sntS bs ss t up) → Same H H' → H q = none → H l2 = none → Q (.ref q) H'
section
variable {P : Program} {w : World} {K : PySem.W.Frag} {mg : Str → Option Value} {base : Heap} {L : LA}
abbrev N_sent : List Str := ["breakers", "states", "time", "up", "reached", "told", "behind", "breaker", "state"]
theorem sc_sent : FnScope N_sent ["breakers", "states", "time", "up"] (defScope st_sent) := ⟨rfl, rfl, rfl, by decide +kernel, rfl, by decide +kernel, by decide +kernel⟩
theorem fn_sent (T : LX K mg L) {fd : FuncData} (F : Fun K "sent" "sent" st_sent L.f_sent fd) : FnOk P w K mg base CX0 3 L.f_sent fd ["breakers", "states", "time", "up"] (spSent K) := by
  obtain ⟨a_SERVED, c_SERVED, t_SERVED⟩ := T.n_SERVED
  obtain ⟨a_FAILED, c_FAILED, t_FAILED⟩ := T.n_FAILED
  have G_passes := ok_passes (P := P) (w := w) (base := base) T
  have G_statebehind := ok_statebehind (P := P) (w := w) (base := base) T
  have nd := sc_sent.nd
  refine F.ok sc_sent (fun vs H Q E h => ?_) (fun cdv A outer S H vs Q E hr h => ?_)
  · obtain ⟨B, l, xs, ys, bs, ss, t, up, rfl, _⟩ := h
    rfl
  · obtain ⟨B, l, xs, ys, bs, ss, t, up, rfl, hB, hb, hl, hs, sl, bl, ok, k⟩ := h
    refine ⟨_, (pss_cons (ps_set (i := 4) nd rfl (Or.inl rfl) pe_int)
       (C8.pss_cut (ps_while PassesOwn.never (PW.pt (pw_and (pt_cmpR op_lt (pv 4) (pe_callB call_len_seq (by rfl) T.b_len PySem.boot_len (pa_cons (pv 0) pa_nil)) (nomark _)) (pw_and1 (pt_val (pe_c G_passes (hr.mono (by decide)) rfl (pa_cons (pe_ix (r := rIxT K) ix_tup (pv 0) (pv 4) (fun _ _ => rfl)) (pa_cons (pe_ix (r := rIxL K) ix_list (pv 1) (pv 4) (fun _ _ => rfl)) (pa_cons (pv 2) pa_nil)))))))) (pss_one (ps_aug (i := 4) nd rfl (Or.inl rfl) pe_int ip_add)))
       (C8.pss_cut (ps_set (i := 5) nd rfl (Or.inr rfl) (pe_ifExp (pt_val (pv 3)) (pe_glob (by rfl) c_SERVED rr) (pe_glob (by rfl) c_FAILED rr)))
       (C8.pss_cut (ps_if (pt_cmpR op_lt (pv 4) (pe_callB call_len_seq (by rfl) T.b_len PySem.boot_len (pa_cons (pv 0) pa_nil)) (nomark _)) (pss_one (ps_set (i := 5) nd rfl (Or.inr rfl) (pe_tup (pa_cons pe_str (pa_cons (pv 4) pa_nil))))) pss_nil)
       (pss_cons (ps_setLc (i := 6) (own := [("breaker", 7), ("state", 8)]) (g := gTup K 2 (gCons (gName 7) (gCons (gName 8) (gNil)))) (tt := tYes) rfl nd rfl rfl (sw_true rfl rfl rfl (by decide +kernel)) (pi_zipM (by rfl) T.b_zip (pa_cons (pe_slice (r := rSlA K) sl_tupA (pv 0) po_none (po_some (pv 4))) (pa_cons (pv 1) pa_nil))) (blkOk_by (own := [("breaker", 7), ("state", 8)]) (N := N_sent) (sc := defScope st_sent) (by decide +kernel)) (fun _ _ _ _ _ => pg_tup rfl (pgs_cons (pg_name (i := 7) nd rfl (Or.inl rfl)) (pgs_cons (pg_name (i := 8) nd rfl (Or.inl rfl)) pgs_nil))) (fun _ _ _ _ _ => pts_nil) (fun _ _ _ _ _ => (pe_c G_statebehind (hr.mono (by decide)) rfl (pa_cons (pv 7) (pa_cons (pv 8) (pa_cons (pv 2) (pa_cons (pe_cmpR (op_eqDK (K := K) rfl hr.units) (pv 5) (pe_glob (by rfl) c_SERVED rr) (nomark _)) pa_nil)))))))
       (pss_one (ps_ret (pe_tup (pa_cons (pv 5) (pa_cons (pe_op op_cat (pv 6) (pe_slice (r := rSlL K) sl_list (pv 1) (po_some (pv 4)) po_none)) pa_nil)))))))))), ?_⟩
    have xl := hb.len
    have yl := paired_len hs
    refine ⟨fun σ' H' => σ' = [some (.ref B), some (.ref l), some (.int t), some (.bl up), some (.int (kOf bs ss t : Nat)), none, none, none, none] ∧ H' = H, ?_, ?_⟩
    · refine while_by (fun σ H2 => ∃ j : Nat, σ = [some (.ref B), some (.ref l), some (.int t), some (.bl up), some (.int (j : Nat)), none, none, none, none] ∧ j ≤ bs.length ∧ (∀ (i : Nat) (b : Tri) (s : StD), i < j → bs[i]? = some b → ss[i]? = some s → psB b s t) ∧ H2 = H)
        (fun σ _ => match σ with | [_, _, _, _, some (.int r), _, _, _, _] => ((bs.length : Int) - r).toNat | _ => 0)
        ⟨0, rfl, Nat.zero_le _, fun i b s h => absurd h (Nat.not_lt_zero _), rfl⟩ ?_ ?_
      · rintro σ H2 ⟨j, rfl, jl, hj, rfl⟩
        refine ⟨_, rfl, _, rfl, B, _, rfl, .inr hB, _, _, rfl, rfl, _, rfl, ite2 (fun c => ?_) (fun c => ?_)⟩
        · have c' : (j : Int) < xs.length := of_decide_eq_true c
          have jb : j < bs.length := by omega
          obtain ⟨x, hx⟩ : ∃ x, xs[j]? = some x := ⟨_, List.getElem?_eq_getElem (by omega)⟩
          obtain ⟨y, hy⟩ : ∃ y, ys[j]? = some y := ⟨_, List.getElem?_eq_getElem (by omega)⟩
          obtain ⟨b, eb, hbx⟩ := hb.get hx
          obtain ⟨s, es, hsy⟩ := paired_get hs hy
          refine ⟨_, rfl, _, rfl, B, xs, (j : Int), x, rfl, rfl, hB, atI_nat hx, _, rfl, _, rfl, l, ys, (j : Int), y, rfl, rfl, SqL.of hl, atI_nat hy, _, rfl, x, y, b, s, t, rfl, hbx, hsy, _, rfl, ite2 (fun p => ?_) (fun p => ?_)⟩
          · have p' : psB b s t := of_decide_eq_true p
            refine ⟨_, rfl, _, _, rfl, rfl, ⟨j + 1, rfl, jb, fun i b' s' hi e1 e2 => ?_, rfl⟩, ?_⟩
            · by_cases q : i < j
              · exact hj i b' s' q e1 e2
              · have : i = j := by omega
                subst this
                rw [eb] at e1
                rw [es] at e2
                cases e1
                cases e2
                exact p'
            · show ((bs.length : Int) - ((j : Int) + 1)).toNat < ((bs.length : Int) - (j : Int)).toNat
              omega
          · have e := kOf_is sl jl hj fun b' s' e1 e2 => by
              rw [eb] at e1
              rw [es] at e2
              cases e1
              cases e2
              exact fun h => p (decide_eq_true h)
            rw [← e]
            exact ⟨rfl, rfl⟩
        · have c' : ¬ (j : Int) < xs.length := fun h => c (decide_eq_true h)
          have e := kOf_is sl jl hj fun b' s' e1 e2 => absurd (List.getElem?_eq_some_iff.mp e1).1 (by omega)
          rw [← e]
          exact ⟨rfl, rfl⟩
      · rintro σ H Q Q' m ⟨a1, a2, a3, a4, a5, a6, a7, a8, a9, a10, a11, a12, bb, a13, q⟩
        refine ⟨a1, a2, a3, a4, a5, a6, a7, a8, a9, a10, a11, a12, bb, a13, ?_⟩
        cases bb with
        | false => exact iteF (m _ _ (by rwa [if_neg Bool.false_ne_true] at q))
        | true =>
          rw [if_pos rfl] at q
          obtain ⟨b1, b2, b3, b4, b5, b6, b7, b8, b9, b10, b11, b12, b13, b14, b15, b16, b17, b18, b19, b20, b21, b22, b23, b24, b25, b26, b27, b28, b29, b30, b31, b32, b33, b34, b35, b36, q⟩ := q
          exact iteT ⟨b1, b2, b3, b4, b5, b6, b7, b8, b9, b10, b11, b12, b13, b14, b15, b16, b17, b18, b19, b20, b21, b22, b23, b24, b25, b26, b27, b28, b29, b30, b31, b32, b33, b34, b35, b36, m _ _ q⟩
    rintro σ' H' ⟨rfl, rfl⟩
    have kl := kOf_le bs ss t
    obtain ⟨n, hn⟩ : ∃ n, n = kOf bs ss t := ⟨_, rfl⟩
    refine ⟨fun σ2 H2 => ∃ a, σ2 = [some (.ref B), some (.ref l), some (.int t), some (.bl up), some (.int (kOf bs ss t : Nat)), some (.ref a), none, none, none] ∧ SqT K H2 a (outV bs.length bs.length (!up)) ∧ H2 = H', ?_, ?_⟩
    · rw [outV_n]
      cases up with
      | true => exact ⟨_, rfl, _, rfl, iteT ⟨a_SERVED, rfl, t_SERVED _, rfl⟩⟩
      | false => exact ⟨_, rfl, _, rfl, iteF ⟨a_FAILED, rfl, t_FAILED _, rfl⟩⟩
    rintro σ2 H2 ⟨a, rfl, ha, rfl⟩
    refine ⟨fun σ3 H3 => ∃ a, σ3 = [some (.ref B), some (.ref l), some (.int t), some (.bl up), some (.int (kOf bs ss t : Nat)), some (.ref a), none, none, none] ∧ SqT K H3 a (outV bs.length (kOf bs ss t) (!up)) ∧ Same H2 H3, ?_, ?_⟩
    · refine ⟨_, rfl, _, rfl, B, _, rfl, .inr hB, _, _, rfl, rfl, _, rfl, ite2 (fun c => ?_) (fun c => ?_)⟩
      · have c' : (kOf bs ss t : Int) < xs.length := of_decide_eq_true c
        refine ⟨_, rfl, (by show 2 ≤ sizeLine; decide), fun p np => ⟨p, rfl, ?_, Same.upd np⟩⟩
        rw [outV_k (show kOf bs ss t < bs.length by omega)]
        exact SqT.of upd_same
      · have c' : ¬ (kOf bs ss t : Int) < xs.length := fun h => c (decide_eq_true h)
        have e : kOf bs ss t = bs.length := by omega
        rw [e]
        exact ⟨a, rfl, ha, Same.refl _⟩
    rintro σ3 H3 ⟨a, rfl, ha, s3⟩
    -- the comprehension
    refine ⟨_, rfl, _, rfl, (kOf bs ss t : Int), rfl, slA_by (hB.ext fun b o e => s3 b o e) fun Bq H4 hBq s4 => ?_⟩
    rw [cut_take0 xs (kOf bs ss t) (by omega)] at hBq
    have s34 := s3.trans s4
    refine ⟨_, rfl, Bq, l, xs.take (kOf bs ss t), ys, rfl, hBq, SqL.of (s34 _ _ hl), fun D nD => ?_⟩
    have hxn : (xs.take (kOf bs ss t)).length = kOf bs ss t := by rw [List.length_take]; omega
    refine lc_zipM (K := K) (a := Bq) (b := l) (xs := xs.take (kOf bs ss t)) (ys := ys) (by omega) (fun j Hy => ∃ ws, Hy D = some (.lst ws) ∧ Sts Hy ws ((List.zipWith (fun b s => stpS b s t (decide (kOf bs ss t = bs.length) && up)) (bs.take (kOf bs ss t)) ss).take j) ∧ Same H4 Hy)
      ⟨[], upd_same, .nil, Same.upd nD⟩ (fun j Hy ⟨_, _, _, sy⟩ => ⟨hBq.ext fun b o e => sy b o e, SqL.of (sy _ _ (s34 _ _ hl))⟩) ?_ ?_
    · rintro j x y T' Hy hxj hyj ⟨ws, hws, hz, sy⟩ hT
      have jn : j < kOf bs ss t := by have := (List.getElem?_eq_some_iff.mp hxj).1; omega
      rw [List.getElem?_take, if_pos jn] at hxj
      obtain ⟨b, eb, hbx⟩ := hb.get hxj
      obtain ⟨s, es, hsy⟩ := paired_get hs hyj
      have wl := paired_len hz
      rw [List.length_take, List.length_zipWith, List.length_take] at wl
      have sT := Same.upd (o := .tup [x, y]) hT
      have s5 := (s34.trans sy).trans sT
      refine ⟨T', _, rfl, SqT.of upd_same, rfl, _, _, rfl, _, _, rfl, rfl, rfl, tYes_of ?_⟩
      have hd : Dp K (upd Hy T' (.tup [x, y])) (.ref a) (outD bs.length (kOf bs ss t) (!up)) := TldAt.dp ⟨a, rfl, ha.ext fun b o e => ((s4.trans sy).trans sT) b o e⟩
      refine ⟨_, rfl, _, rfl, _, rfl, _, rfl, _, _, hd, .tup (t_SERVED _) (.cons (.str _) .nil), outD_sh _ _ _, served_sh, ?_⟩
      rw [outD_served _ _ _ kl, Bool.not_not]
      refine ⟨x, y, b, s, t, _, rfl, hbx.nl (NL.of s5), hsy.same s5, ok s (List.mem_of_getElem? es), fun c H6 hc s6 nc => ?_⟩
      have hw6 := s6 _ _ (sT _ _ hws)
      have n7 := NL.upd (o := .lst (ws ++ [.ref c])) hw6
      refine ⟨ws, hw6, small1 (by omega), ws ++ [.ref c], upd_same, ?_, fun u o e => ?_⟩
      · have ez : (List.zipWith (fun b s => stpS b s t (decide (kOf bs ss t = bs.length) && up)) (bs.take (kOf bs ss t)) ss)[j]? = some (stpS b s t (decide (kOf bs ss t = bs.length) && up)) := by
          rw [List.getElem?_zipWith, List.getElem?_take, if_pos jn, eb, es]
        rw [List.take_add_one, ez]
        exact paired_app (((hz.same sT).same s6).nl n7) (.cons ⟨c, rfl, n7 _ _ hc fun _ z => nomatch z⟩ .nil)
      · rw [upd_ne (ne_of_none e nD)]
        exact s6 _ _ (sT _ _ (sy _ _ e))
    rintro Hy ⟨ws, hws, hz, sy⟩
    rw [List.take_of_length_le (by rw [List.length_zipWith, List.length_take]; omega)] at hz
    have s4y := s34.trans sy
    refine ⟨_, rfl, _, rfl, _, rfl, _, rfl, (kOf bs ss t : Int), rfl, l, ys, rfl, SqL.of (s4y _ _ hl), fun lt nlt => ?_⟩
    rw [cut_drop0 ys (kOf bs ss t) (by omega)]
    have s6 := Same.upd (o := .lst (ys.drop (kOf bs ss t))) nlt
    have wl := paired_len hz
    rw [List.length_zipWith, List.length_take] at wl
    refine ⟨D, lt, ws, ys.drop (kOf bs ss t), rfl, rfl, s6 _ _ hws, upd_same, small2 (by rw [List.length_drop]; omega), fun l2 nl2 => ?_⟩
    have s7 := Same.upd (o := .lst (ws ++ ys.drop (kOf bs ss t))) nl2
    refine ⟨(by show 2 ≤ sizeLine; decide), fun q nq => ?_⟩
    have s8 := Same.upd (o := .tup [.ref a, .ref l2]) nq
    have s48 := (((s4y.trans s6).trans s7).trans s8)
    have sA : Same H3 _ := (((s4.trans sy).trans s6).trans s7).trans s8
    refine k q (.ref a) l2 (ws ++ ys.drop (kOf bs ss t)) _ upd_same ⟨a, rfl, ha.ext fun b o e => sA b o e⟩ (s8 _ _ upd_same) ?_ s48 (none_of ((s4y.trans s6).trans s7) nq) (none_of (s4y.trans s6) nl2)
    rw [sntS_cut sl]
    exact paired_app ((((hz.same s6).same s7).same s8)) (paired_drop _ (hs.same s48))
theorem ok_sent (T : LX K mg L) : Cal P w K mg base "sent" 3 L.f_sent ["breakers", "states", "time", "up"] (spSent K) := T.d_sent.cal fun fd F => fn_sent T F
end
/-! ### the law's own draws -/
/-- a source of draws at a: at most n were drawn -/
def Src (H : Hp) (a : Addr) (n : Nat) : Prop := ∃ x y z : Int, H a = some (.lst [.int x, .int y, .int z]) ∧ 0 ≤ x ∧ 0 ≤ y ∧ y < 2147483647 ∧ 0 ≤ z ∧ z ≤ n
theorem Src.mono {H : Hp} {a : Addr} {n m : Nat} (h : Src H a n) (l : n ≤ m) : Src H a m := by
  obtain ⟨x, y, z, e, h1, h2, h3, h4, h5⟩ := h
  exact ⟨x, y, z, e, h1, h2, h3, h4, by omega⟩
theorem Src.same {H H' : Hp} {a : Addr} {n : Nat} (h : Src H a n) (s : Same H H') : Src H' a n := by
  obtain ⟨x, y, z, e, r⟩ := h
  exact ⟨x, y, z, s _ _ e, r⟩
theorem Src.has {H : Hp} {a : Addr} {n : Nat} (h : Src H a n) : ∃ xs, H a = some (.lst xs) := by
  obtain ⟨x, y, z, e, r⟩ := h
  exact ⟨_, e⟩
def spSrcOf : Sp := fun vs H Q _ => ∃ c, vs = [.int c] ∧ ∀ a H', H a = none → Same H H' → Src H' a 0 → Q (.ref a) H'
def spNext : Sp := fun vs H Q _ => ∃ (a : Addr) (m : Int) (n : Nat), vs = [.ref a, .int m] ∧ 0 < m ∧ m.natAbs < 2 ^ 1100 ∧ Src H a n ∧ n ≤ 900000 ∧ ∀ (r : Int) H', 0 ≤ r → r < m → Src H' a (n + 1101) → Kp a H H' → Q (.int r) H'
def spOne : Sp := fun vs H Q _ => ∃ (a l : Addr) (xs : List V) (n : Nat), vs = [.ref a, .ref l] ∧ a ≠ l ∧ H l = some (.lst xs) ∧ 0 < xs.length ∧ xs.length ≤ 100000 ∧ Src H a n ∧ n ≤ 900000 ∧ ∀ v H', v ∈ xs → Src H' a (n + 1101) → Kp a H H' → Q v H'
def spCell (K : PySem.W.Frag) : Sp := fun vs H Q _ => ∃ (a : Addr) (ns : List Int) (k : Int), vs = [.ref a, .int k] ∧ SqL K H a (ns.map V.int) ∧ 0 ≤ k ∧ ∀ z, Q (.int z) H
def primes : List V := [.int 2147483647, .int 2147483629, .int 2147483587, .int 2147483579, .int 2147483563, .int 2147483549, .int 2147483543]
theorem prime_at (i : Int) (h0 : 0 ≤ i) (h7 : i < 7) : ∃ p : Int, atI primes i = some (.int p) ∧ 0 < p ∧ p ≤ 2147483647 := by
  have : i = 0 ∨ i = 1 ∨ i = 2 ∨ i = 3 ∨ i = 4 ∨ i = 5 ∨ i = 6 := by omega
  rcases this with rfl | rfl | rfl | rfl | rfl | rfl | rfl <;> exact ⟨_, rfl, by decide, by decide⟩
theorem atI_of {α : Type} {xs : List α} {i : Int} (h0 : 0 ≤ i) (h1 : i < xs.length) : ∃ v, atI xs i = some v ∧ v ∈ xs := by
  have hj : i.toNat < xs.length := by omega
  refine ⟨xs[i.toNat], ?_, List.getElem_mem _⟩
  have e : ((i.toNat : Nat) : Int) = i := by omega
  have := atI_nat (xs := xs) (j := i.toNat) (v := xs[i.toNat]) (List.getElem?_eq_getElem hj)
  rwa [e] at this
section
variable {P : Program} {w : World} {K : PySem.W.Frag} {mg : Str → Option Value} {base : Heap} {L : LA}
theorem sc_srcof : FnScope ["_law_cell"] ["_law_cell"] (defScope st__law_source_of) := ⟨rfl, rfl, rfl, by decide +kernel, rfl, by decide +kernel, by decide +kernel⟩
theorem ok_wsourceof (T : LX K mg L) : Cal P w K mg base "_law_source_of" 1 L.f__law_source_of ["_law_cell"] spSrcOf := T.d__law_source_of.cal fun fd F => by
  refine F.ok sc_srcof (fun vs H Q E h => ?_) (fun cdv A outer s H vs Q E hr h => ?_)
  · obtain ⟨c, rfl, _⟩ := h
    rfl
  · obtain ⟨c, rfl, k⟩ := h
    refine ⟨_, pss_one (ps_ret (pe_lst (pa_cons (pe_op op_mul (pv 0) (pe_callTy call_int1 (by rfl) T.b_int (by decide +kernel) (pa_cons (pe_cmpR op_ge (pv 0) (pe_op op_pow pe_int pe_int) (nomark _)) pa_nil)))
      (pa_cons (pe_op op_mod (pe_callTy call_int1 (by rfl) T.b_int (by decide +kernel) (pa_cons (pv 0) pa_nil)) pe_int) (pa_cons pe_int pa_nil))))), ?_⟩
    refine ⟨_, rfl, _, rfl, _, _, rfl, rfl, ⟨by decide, by decide, by decide⟩, _, _, rfl, rfl, .inr ⟨_, rfl, _, _, rfl, rfl, ?_, ?_⟩⟩
    · refine .inr ?_
      split <;> decide
    · refine ⟨_, rfl, .inl ⟨_, rfl, _, _, rfl, rfl, (by show (0 : Int) < 2147483647; decide), ?_⟩⟩
      refine ⟨(by show 3 ≤ sizeLine; decide), fun l hl => ?_⟩
      refine k l _ hl (Same.upd hl) ⟨_, _, _, upd_same, ?_, Int.emod_nonneg _ (by decide), Int.emod_lt_of_pos _ (by decide), Int.le_refl _, Int.le_refl _⟩
      by_cases hc : (10 : Int) ^ (18 : Int).toNat ≤ c
      · rw [decide_eq_true hc, if_pos rfl, Int.mul_one]
        exact Int.le_trans (by decide) hc
      · rw [decide_eq_false hc, if_neg Bool.false_ne_true, Int.mul_zero]
        exact Int.le_refl _
abbrev N_wnext : List Str := ["_law_source", "_law_many", "_law_found", "_law_prime", "_law_figure"]
theorem sc_wnext : FnScope N_wnext ["_law_source", "_law_many"] (defScope st__law_next) := ⟨rfl, rfl, rfl, by decide +kernel, rfl, by decide +kernel, by decide +kernel⟩
theorem fn_wnext (T : LX K mg L) {fd : FuncData} (F : Fun K "_law_next" "_law_next" st__law_next L.f__law_next fd) : FnOk P w K mg base CX0 1 L.f__law_next fd ["_law_source", "_law_many"] (spNext) := by
  have nd := sc_wnext.nd
  refine F.ok sc_wnext (fun vs H Q E h => ?_) (fun cdv A outer S H vs Q E hr h => ?_)
  · obtain ⟨a, m, n, rfl, _⟩ := h
    rfl
  · obtain ⟨a, m, n, rfl, m0, m1, ⟨x, y, z, ha, x0, y0, y1, z0, z1⟩, hn, k⟩ := h
    refine ⟨_, (pss_cons (ps_if (pt_cmpR op_gt (pe_ix (r := rIxL K) ix_list (pv 0) pe_int (fun _ _ => rfl)) pe_int (nomark _)) (pss_cons (ps_set (i := 2) nd rfl (Or.inl rfl) (pe_op op_mod (pe_callTy call_int1 (by rfl) T.b_int (by decide +kernel) (pa_cons (pe_ix (r := rIxL K) ix_list (pv 0) pe_int (fun _ _ => rfl)) pa_nil)) (pv 1)))
       (pss_cons (ps_asg (pe_op op_fdivW (pe_ix (r := rIxL K) ix_list (pv 0) pe_int (fun _ _ => rfl)) (pv 1)) (pg_sub (pv 0) pe_int set_list))
       (pss_one (ps_ret (pv 2))))) pss_nil)
       (pss_cons (ps_asg (pe_op op_add (pe_ix (r := rIxL K) ix_list (pv 0) pe_int (fun _ _ => rfl)) pe_int) (pg_sub (pv 0) pe_int set_list))
       (pss_cons (ps_set (i := 3) nd rfl (Or.inl rfl) (pe_ix (r := rIxL K) ix_list (pe_lst (pa_cons pe_int (pa_cons pe_int (pa_cons pe_int (pa_cons pe_int (pa_cons pe_int (pa_cons pe_int (pa_cons pe_int pa_nil)))))))) (pe_op op_mod (pe_callTy call_int1 (by rfl) T.b_int (by decide +kernel) (pa_cons (pe_ix (r := rIxL K) ix_list (pv 0) pe_int (fun _ _ => rfl)) pa_nil)) pe_int) (fun _ _ => rfl)))
       (pss_cons (ps_set (i := 4) nd rfl (Or.inl rfl) (pe_op op_mod (pe_callTy call_int1 (by rfl) T.b_int (by decide +kernel) (pa_cons (pe_op op_pow (pe_op op_add (pe_op op_add (pe_ix (r := rIxL K) ix_list (pv 0) pe_int (fun _ _ => rfl)) (pe_op op_mulW pe_int (pe_ix (r := rIxL K) ix_list (pv 0) pe_int (fun _ _ => rfl)))) pe_int) pe_int) pa_nil)) (pv 3)))
       (pss_cons (ps_set (i := 4) nd rfl (Or.inl rfl) (pe_op op_mod (pe_callTy call_int1 (by rfl) T.b_int (by decide +kernel) (pa_cons (pe_op op_mulW (pe_op op_add (pv 4) (pe_ix (r := rIxL K) ix_list (pv 0) pe_int (fun _ _ => rfl))) (pe_op op_add (pe_op op_fdivW (pv 4) pe_int) pe_int)) pa_nil)) (pv 3)))
       (pss_one (ps_ret (pe_op op_mod (pe_callTy call_int1 (by rfl) T.b_int (by decide +kernel) (pa_cons (pe_op op_fdivW (pv 4) pe_int) pa_nil)) (pv 1))))))))), ?_⟩
    refine ⟨_, rfl, _, _, _, _, rfl, rfl, SqL.of ha, rfl, _, _, rfl, rfl, _, rfl, ?_⟩
    refine ite2 (fun c => ?_) (fun c => ?_)
    · refine ⟨_, rfl, _, _, _, _, rfl, rfl, SqL.of ha, rfl, .inl ⟨_, rfl, _, rfl, _, _, rfl, rfl, m0, ?_⟩⟩
      refine ⟨_, rfl, _, _, _, _, rfl, rfl, SqL.of ha, rfl, _, rfl, _, _, rfl, rfl, wide_div m0 m1 (by decide) (by decide), ?_⟩
      refine ⟨_, rfl, _, _, _, 0, rfl, rfl, ha, rfl, ?_⟩
      refine ⟨_, rfl, ?_⟩
      refine k _ _ (Int.emod_nonneg _ (by omega)) (Int.emod_lt_of_pos _ m0) ⟨_, _, _, upd_same, Int.ediv_nonneg x0 (by omega), y0, y1, z0, by omega⟩ Kp.upd
    · have zb1 : z ≤ 902000 := by omega
      refine ⟨_, rfl, _, _, _, _, rfl, rfl, SqL.of ha, rfl, _, _, rfl, rfl, ?_⟩
      refine ⟨_, rfl, _, _, _, 2, rfl, rfl, ha, rfl, ?_⟩
      have ha3 : ∀ b o, b ≠ a → (upd (upd H a (.lst [.int x, .int y, .int (z + 1)])) b o) a = some (.lst [.int x, .int y, .int (z + 1)]) := fun b o n => by rw [upd_ne n.symm, upd_same]
      refine ⟨(by show 7 ≤ sizeLine; decide), fun l hl => ?_⟩
      have hla : l ≠ a := fun e => by
        subst e
        have : (upd H l (.lst [.int x, .int y, .int (z + 1)])) l = none := hl
        rw [upd_same] at this
        cases this
      have hA := ha3 l (.lst primes) hla
      refine ⟨_, rfl, _, _, _, _, rfl, rfl, SqL.of hA, rfl, .inl ⟨_, rfl, _, _, rfl, rfl, (by show (0 : Int) < 7; decide), ?_⟩⟩
      obtain ⟨p, hp, p0, p1⟩ := prime_at ((z + 1) % 7) (Int.emod_nonneg _ (by decide)) (Int.emod_lt_of_pos _ (by decide))
      refine ⟨l, primes, _, _, rfl, rfl, SqL.of upd_same, hp, ?_⟩
      have wz : CMulW 7919 (z + 1) := wide_mul (a := 20) (b := 30) (by decide) (Nat.lt_of_le_of_lt (show (z + 1).natAbs ≤ 902001 by omega) (by decide)) (by decide) (by decide) (by decide)
      refine ⟨_, rfl, _, _, _, _, rfl, rfl, SqL.of hA, rfl, _, rfl, _, _, _, _, rfl, rfl, SqL.of hA, rfl, _, _, rfl, rfl, wz, _, _, rfl, rfl, _, _, rfl, rfl, _, _, rfl, rfl, ⟨by decide, by decide, ?_⟩, .inl ⟨_, rfl, _, rfl, _, _, rfl, rfl, p0, ?_⟩⟩
      · omega
      have f0 : 0 ≤ (y + 7919 * (z + 1) + 1) ^ (5 : Int).toNat % p := Int.emod_nonneg _ (by omega)
      have f1 : (y + 7919 * (z + 1) + 1) ^ (5 : Int).toNat % p < p := Int.emod_lt_of_pos _ p0
      have wf : CMulW ((y + 7919 * (z + 1) + 1) ^ (5 : Int).toNat % p + (z + 1)) ((y + 7919 * (z + 1) + 1) ^ (5 : Int).toNat % p / 1009 + 69621) := by
        generalize (y + 7919 * (z + 1) + 1) ^ (5 : Int).toNat % p = fg at f0 f1 ⊢
        have d0 : 0 ≤ fg / 1009 := Int.ediv_nonneg f0 (by decide)
        have d1 : fg / 1009 ≤ fg := Int.ediv_le_self _ f0
        exact wide_mul (a := 40) (b := 40) (Nat.lt_of_le_of_lt (show (fg + (z + 1)).natAbs ≤ 3000000000 by omega) (by decide)) (Nat.lt_of_le_of_lt (show (fg / 1009 + 69621).natAbs ≤ 3000000000 by omega) (by decide)) (by decide) (by decide) (by decide)
      refine ⟨_, rfl, _, rfl, _, _, _, _, rfl, rfl, SqL.of hA, rfl, _, _, rfl, rfl, _, rfl, _, _, rfl, rfl, wide_div (b := 20) (by decide) (by decide) (by decide) (by decide), _, _, rfl, rfl, _, _, rfl, rfl, wf, .inl ⟨_, rfl, _, rfl, _, _, rfl, rfl, p0, ?_⟩⟩
      refine ⟨_, rfl, _, _, rfl, rfl, wide_div (b := 20) (by decide) (by decide) (by decide) (by decide), .inl ⟨_, rfl, _, rfl, _, _, rfl, rfl, m0, ?_⟩⟩
      exact k _ _ (Int.emod_nonneg _ (by omega)) (Int.emod_lt_of_pos _ m0) ⟨_, _, _, hA, x0, y0, y1, by omega, by omega⟩ (Kp.upd.trans (Kp.of (Same.upd hl)))
theorem ok_wnext (T : LX K mg L) : Cal P w K mg base "_law_next" 1 L.f__law_next ["_law_source", "_law_many"] (spNext) := T.d__law_next.cal fun fd F => fn_wnext T F
abbrev N_wone : List Str := ["_law_source", "_law_options"]
theorem sc_wone : FnScope N_wone ["_law_source", "_law_options"] (defScope st__law_one) := ⟨rfl, rfl, rfl, by decide +kernel, rfl, by decide +kernel, by decide +kernel⟩
theorem fn_wone (T : LX K mg L) {fd : FuncData} (F : Fun K "_law_one" "_law_one" st__law_one L.f__law_one fd) : FnOk P w K mg base CX0 2 L.f__law_one fd ["_law_source", "_law_options"] (spOne) := by
  have G_wnext := ok_wnext (P := P) (w := w) (base := base) T
  have nd := sc_wone.nd
  refine F.ok sc_wone (fun vs H Q E h => ?_) (fun cdv A outer S H vs Q E hr h => ?_)
  · obtain ⟨a, l, xs, n, rfl, _⟩ := h
    rfl
  · obtain ⟨a, l, xs, n, rfl, hal, hl, x0, x1, hs, hn, k⟩ := h
    refine ⟨_, (pss_one (ps_ret (pe_ix (r := rIxL K) ix_list (pv 1) (pe_c G_wnext (hr.mono (by decide)) rfl (pa_cons (pv 0) (pa_cons (pe_callB call_len_seq (by rfl) T.b_len PySem.boot_len (pa_cons (pv 1) pa_nil)) pa_nil))) (fun _ _ => rfl)))), ?_⟩
    refine ⟨_, rfl, _, rfl, _, rfl, l, xs, rfl, .inl (SqL.of hl), a, _, n, rfl, by omega, ?_, hs, hn, fun r H' r0 r1 hs' hk => ?_⟩
    · exact Nat.lt_of_le_of_lt (show ((xs.length : Int)).natAbs ≤ 100000 by omega) (by decide)
    · obtain ⟨v, hv, hm⟩ := atI_of (xs := xs) r0 r1
      exact ⟨l, xs, r, v, rfl, rfl, SqL.of (hk _ _ hal.symm hl), hv, k v H' hm hs' hk⟩
theorem ok_wone (T : LX K mg L) : Cal P w K mg base "_law_one" 2 L.f__law_one ["_law_source", "_law_options"] (spOne) := T.d__law_one.cal fun fd F => fn_wone T F
abbrev N_wcellat : List Str := ["_law_script", "_law_k"]
theorem sc_wcellat : FnScope N_wcellat ["_law_script", "_law_k"] (defScope st__law_cell_at) := ⟨rfl, rfl, rfl, by decide +kernel, rfl, by decide +kernel, by decide +kernel⟩
theorem fn_wcellat (T : LX K mg L) {fd : FuncData} (F : Fun K "_law_cell_at" "_law_cell_at" st__law_cell_at L.f__law_cell_at fd) : FnOk P w K mg base CX0 1 L.f__law_cell_at fd ["_law_script", "_law_k"] (spCell K) := by
  have nd := sc_wcellat.nd
  refine F.ok sc_wcellat (fun vs H Q E h => ?_) (fun cdv A outer S H vs Q E hr h => ?_)
  · obtain ⟨a, ns, i, rfl, _⟩ := h
    rfl
  · obtain ⟨a, ns, i, rfl, hS, i0, k⟩ := h
    refine ⟨_, (pss_cons (ps_if (pt_cmpR op_lt (pv 1) (pe_callB call_len_seq (by rfl) T.b_len PySem.boot_len (pa_cons (pv 0) pa_nil)) (nomark _)) (pss_one (ps_ret (pe_ix (r := rIxL K) ix_list (pv 0) (pv 1) (fun _ _ => rfl)))) pss_nil)
       (pss_one (ps_ret pe_int))), ?_⟩
    refine ⟨_, rfl, _, rfl, a, _, rfl, .inl hS, _, _, rfl, rfl, _, rfl, ?_⟩
    refine ite2 (fun c => ?_) (fun c => ?_)
    · have c' : i < ((ns.map V.int).length : Nat) := of_decide_eq_true c
      obtain ⟨v, hv, hm⟩ := atI_of (xs := ns.map V.int) i0 c'
      obtain ⟨z, _, rfl⟩ := List.mem_map.mp hm
      exact ⟨_, rfl, _, rfl, a, _, _, _, rfl, rfl, hS, hv, k z⟩
    · exact k 0
theorem ok_wcellat (T : LX K mg L) : Cal P w K mg base "_law_cell_at" 1 L.f__law_cell_at ["_law_script", "_law_k"] (spCell K) := T.d__law_cell_at.cal fun fd F => fn_wcellat T F
end
theorem draw_gen {P : Program} {w : World} {mg : Str → Option Value} {t : TA} {σ : L2.St} {H : Hp} {Q : VK} {a : Addr} {n : Nat} {ns : List Int} {hi : Int} {j : Nat} (σ0 : σ[j]? = some (some (.ref a))) (hs : Src H a n) (hn : n ≤ 898000) (ht : ∀ R : List V → Hp → Prop, R (ns.map V.int) H → t σ H R)
    (h0 : 0 < ns.length) (h1 : ns.length ≤ 1000) (hb : ∀ m ∈ ns, 0 < m ∧ m ≤ hi) (hh : hi.natAbs < 2 ^ 1100) (k : ∀ (r : Int) H', 0 ≤ r → r < hi → (∃ m ∈ ns, r < m) → Src H' a (n + 2202) → Kp a H H' → Q (.int r) H') :
    tCall spNext [] E0 (tCons (tVar j) (tCons (tCall spOne [] E0 (tCons (tVar j) (tCons (tLst t) tNil))) tNil)) σ H Q := by
  obtain ⟨ys, hy⟩ := hs.has
  refine ⟨_, σ0, _, σ0, ht _ ⟨(by rw [List.length_map]; exact Nat.le_trans h1 (by decide)), fun l hl => ?_⟩⟩
  have hal : a ≠ l := ne_of_none hy hl
  refine ⟨a, l, ns.map V.int, n, rfl, hal, upd_same, (by rw [List.length_map]; exact h0), (by rw [List.length_map]; omega), hs.same (Same.upd hl), by omega, fun v H1 hv hs1 k1 => ?_⟩
  obtain ⟨m, hm, rfl⟩ := List.mem_map.mp hv
  obtain ⟨m0, m1⟩ := hb m hm
  refine ⟨a, m, n + 1101, rfl, m0, Nat.lt_of_le_of_lt (show m.natAbs ≤ hi.natAbs by omega) hh, hs1, by omega, fun r H2 r0 r1 hs2 k2 => ?_⟩
  exact k r H2 r0 (by omega) ⟨m, hm, r1⟩ hs2 ((Kp.of (Same.upd hl)).trans (k1.trans k2))
theorem choice_gen {P : Program} {w : World} {mg : Str → Option Value} {t : TA} {σ : L2.St} {H : Hp} {Q : VK} {a : Addr} {n : Nat} {ns : List Int} {j : Nat} (σ0 : σ[j]? = some (some (.ref a))) (hs : Src H a n) (hn : n ≤ 898000) (ht : ∀ R : List V → Hp → Prop, R (ns.map V.int) H → t σ H R)
    (h0 : 0 < ns.length) (h1 : ns.length ≤ 1000) (k : ∀ (m : Int) H', m ∈ ns → Src H' a (n + 1101) → Kp a H H' → Q (.int m) H') :
    tCall spOne [] E0 (tCons (tVar j) (tCons (tLst t) tNil)) σ H Q := by
  obtain ⟨ys, hy⟩ := hs.has
  refine ⟨_, σ0, ht _ ⟨(by rw [List.length_map]; exact Nat.le_trans h1 (by decide)), fun l hl => ?_⟩⟩
  have hal : a ≠ l := ne_of_none hy hl
  refine ⟨a, l, ns.map V.int, n, rfl, hal, upd_same, (by rw [List.length_map]; exact h0), (by rw [List.length_map]; omega), hs.same (Same.upd hl), by omega, fun v H1 hv hs1 k1 => ?_⟩
  obtain ⟨m, hm, rfl⟩ := List.mem_map.mp hv
  exact k m H1 hm hs1 ((Kp.of (Same.upd hl)).trans k1)

/-! ### sources kept -/
theorem src_kp {H H' : Hp} {s l : Addr} {n : Nat} (k : Kp l H H') (h : s ≠ l) (S : Src H s n) : Src H' s n := by
  obtain ⟨x, y, z, e, r⟩ := S
  exact ⟨x, y, z, k _ _ h e, r⟩
/-! ### one outage more -/
theorem vout_app : ∀ {os : List (Int × Int)} {m b e : Int}, VOut m os → (∀ o ∈ os, o.2 + 1 ≤ b) → m ≤ b → b < e → e ≤ 1000000000000000000000000000000 → VOut m (os ++ [(b, e)])
  | [], m, b, e, _, _, h1, h2, h3 => ⟨h1, h2, h3, True.intro⟩
  | o :: r, m, b, e, ⟨a1, a2, a3, a4⟩, h, h1, h2, h3 => ⟨a1, a2, a3, vout_app a4 (fun u hu => h u (List.mem_cons_of_mem _ hu)) (h o (List.mem_cons_self ..)) h2 h3⟩
/-! ### rows drawn -/
def spSpecs : Sp := fun vs H Q _ => ∃ (s : Addr) (n : Nat) (m f g : Int), vs = [.ref s, .int m, .int f, .int g] ∧ Src H s n ∧ n ≤ 500000 ∧ 0 ≤ m ∧ m ≤ 12 ∧ 3 ≤ f ∧ f ≤ 100000000000000000000 ∧ 2 ≤ g ∧ g ≤ 1000000000000 ∧
  ∀ l xs ts H', H' l = some (.lst xs) → Brs H' xs ts → (∀ t ∈ ts, OkT t) → (∀ t ∈ ts, t.2.1 ≤ f ∧ t.1 ≤ g) → (ts.length : Int) ≤ m → Src H' s (n + 90000) → Kp s H H' → H l = none → Q (.ref l) H'
section
variable {P : Program} {w : World} {K : PySem.W.Frag} {mg : Str → Option Value} {base : Heap} {L : LA}
abbrev N_wspecs : List Str := ["_law_source", "_law_most", "_law_wide", "_law_many", "_law_found", "_law_k", "_law_wait", "_law_fails"]
theorem sc_wspecs : FnScope N_wspecs ["_law_source", "_law_most", "_law_wide", "_law_many"] (defScope st__law_specs) := ⟨rfl, rfl, rfl, by decide +kernel, rfl, by decide +kernel, by decide +kernel⟩
theorem fn_wspecs (T : LX K mg L) {fd : FuncData} (F : Fun K "_law_specs" "_law_specs" st__law_specs L.f__law_specs fd) : FnOk P w K mg base CX0 3 L.f__law_specs fd ["_law_source", "_law_most", "_law_wide", "_law_many"] (spSpecs) := by
  have G_wnext := ok_wnext (P := P) (w := w) (base := base) T
  have G_wone := ok_wone (P := P) (w := w) (base := base) T
  have nd := sc_wspecs.nd
  refine F.ok sc_wspecs (fun vs H Q E h => ?_) (fun cdv A outer S H vs Q E hr h => ?_)
  · obtain ⟨s, n, m, f, g, rfl, _⟩ := h
    rfl
  · obtain ⟨s, n, m, f, g, rfl, src, hn, m0, m1, f0, f1, g0, g1, k⟩ := h
    refine ⟨_, (pss_cons (ps_set (i := 4) nd rfl (Or.inl rfl) (pe_lst pa_nil))
       (pss_cons (ps_for PassesOwn.never rfl (pi_range1 rfl T.b_range (pa_cons (pe_c G_wnext (hr.mono (by decide)) rfl (pa_cons (pv 0) (pa_cons (pe_op op_add (pv 1) pe_int) pa_nil))) pa_nil)) (pg_name (i := 5) nd rfl (Or.inl rfl)) (pss_cons (ps_set (i := 6) nd rfl (Or.inl rfl) (pe_op op_add pe_int (pe_c G_wnext (hr.mono (by decide)) rfl (pa_cons (pv 0) (pa_cons (pe_c G_wone (hr.mono (by decide)) rfl (pa_cons (pv 0) (pa_cons (pe_lst (pa_cons pe_int (pa_cons (pv 2) pa_nil))) pa_nil))) pa_nil)))))
       (pss_cons (ps_set (i := 7) nd rfl (Or.inl rfl) (pe_op op_add pe_int (pe_c G_wnext (hr.mono (by decide)) rfl (pa_cons (pv 0) (pa_cons (pe_c G_wone (hr.mono (by decide)) rfl (pa_cons (pv 0) (pa_cons (pe_lst (pa_cons pe_int (pa_cons (pv 3) pa_nil))) pa_nil))) pa_nil)))))
       (pss_one (ps_expr (pe_bm PySem.F.plainAttrs_list PySem.F.slot_list_append PySem.F.type_list_append mt_append (pv 4) (pa_cons (pe_tup (pa_cons (pv 7) (pa_cons (pv 6) (pa_cons (pe_op op_add pe_int (pe_c G_wnext (hr.mono (by decide)) rfl (pa_cons (pv 0) (pa_cons (pe_c G_wone (hr.mono (by decide)) rfl (pa_cons (pv 0) (pa_cons (pe_lst (pa_cons pe_int (pa_cons (pv 3) pa_nil))) pa_nil))) pa_nil)))) pa_nil)))) pa_nil)))))))
       (pss_one (ps_ret (pv 4))))), ?_⟩
    obtain ⟨ys, hys⟩ := src.has
    refine ⟨(by show 0 ≤ sizeLine; decide), fun l1 hl1 => ?_⟩
    have s1 := Same.upd (o := .lst []) hl1
    have nls : s ≠ l1 := ne_of_none hys hl1
    refine ⟨_, rfl, _, rfl, _, _, rfl, rfl, s, m + 1, n, rfl, by omega, Nat.lt_of_le_of_lt (show (m + 1).natAbs ≤ 13 by omega) (by decide +kernel), src.same s1, by omega, fun q H1 q0 q1 src1 k1 => ?_⟩
    refine ⟨q, rfl, by omega, by omega, ?_⟩
    refine for_range (lo := 0) (n := q.toNat) (fun j σ H2 => ∃ v5 v6 v7 : Option V, ∃ zs ts, σ = [some (.ref s), some (.int m), some (.int f), some (.int g), some (.ref l1), v5, v6, v7] ∧ H2 l1 = some (.lst zs) ∧ Brs H2 zs ts ∧ (∀ t ∈ ts, OkT t) ∧ (∀ t ∈ ts, t.2.1 ≤ f ∧ t.1 ≤ g) ∧ zs.length ≤ j ∧ Kp s H H2 ∧ Src H2 s (n + 1101 + 6606 * j))
      ⟨none, none, none, [], [], rfl, k1 _ _ nls.symm upd_same, .nil, fun t ht => (nomatch ht), fun t ht => (nomatch ht), Nat.le_refl _, (Kp.of s1).trans k1, src1⟩ ?_ ?_
    · rintro j σ H2 hj ⟨v5, v6, v7, zs, ts, rfl, h2, hb, ok, okf, zl, k2, src2⟩
      have gb : g.natAbs < 2 ^ 1100 := Nat.lt_of_le_of_lt (show g.natAbs ≤ 1000000000000 by omega) (by decide +kernel)
      refine draw_gen (P := P) (w := w) (mg := mg) (a := s) (n := n + 1101 + 6606 * j) (ns := [3, f]) (hi := f) rfl src2 (by omega) (fun R h => ⟨_, rfl, h⟩) (by simp) (by simp) (fun m hm => ?_) (Nat.lt_of_le_of_lt (show f.natAbs ≤ 100000000000000000000 by omega) (by decide +kernel)) fun wt H3 wt0 wt1 _ src3 k3 => ⟨_, _, rfl, rfl, ?_⟩
      · simp only [List.mem_cons, List.mem_nil_iff, or_false] at hm
        rcases hm with rfl | rfl <;> exact ⟨by omega, by omega⟩
      refine draw_gen (P := P) (w := w) (mg := mg) (a := s) (n := n + 1101 + 6606 * j + 2202) (ns := [2, g]) (hi := g) rfl src3 (by omega) (fun R h => ⟨_, rfl, h⟩) (by simp) (by simp) (fun m hm => ?_) gb fun fa H4 fa0 fa1 _ src4 k4 => ⟨_, _, rfl, rfl, ?_⟩
      · simp only [List.mem_cons, List.mem_nil_iff, or_false] at hm
        rcases hm with rfl | rfl <;> exact ⟨by omega, by omega⟩
      have h24 := k4 _ _ nls.symm (k3 _ _ nls.symm h2)
      refine ⟨_, rfl, .inl ⟨rfl, _, SqL.of h24⟩, _, rfl, _, rfl, ?_⟩
      refine draw_gen (P := P) (w := w) (mg := mg) (a := s) (n := n + 1101 + 6606 * j + 4404) (ns := [2, g]) (hi := g) rfl src4 (by omega) (fun R h => ⟨_, rfl, h⟩) (by simp) (by simp) (fun m hm => ?_) gb fun su H5 su0 su1 _ src5 k5 => ⟨_, _, rfl, rfl, (by show 3 ≤ sizeLine; decide), fun tp htp => ?_⟩
      · simp only [List.mem_cons, List.mem_nil_iff, or_false] at hm
        rcases hm with rfl | rfl <;> exact ⟨by omega, by omega⟩
      have h25 := k5 _ _ nls.symm h24
      have s6 := Same.upd (o := .tup [.int (1 + fa), .int (1 + wt), .int (1 + su)]) htp
      have h26 := s6 _ _ h25
      refine ⟨l1, _, _, rfl, rfl, h26, small1 (by omega), ?_⟩
      have n7 := NL.upd (o := .lst (zs ++ [.ref tp])) h26
      obtain ⟨y2, hy2⟩ := src2.has
      obtain ⟨y3, hy3⟩ := src3.has
      obtain ⟨y4, hy4⟩ := src4.has
      have nl25 : NL H2 H5 := ((Kp.nl k3 hy2).trans (Kp.nl k4 hy3)).trans (Kp.nl k5 hy4)
      refine ⟨_, _, _, zs ++ [.ref tp], ts ++ [(1 + fa, 1 + wt, 1 + su)], rfl, upd_same, ?_, fun t ht => ?_, fun t ht => ?_, by rw [List.length_append]; show zs.length + 1 ≤ j + 1; omega, fun u w nu e => ?_, ?_⟩
      · exact Brs.app (((hb.nl nl25).nl (NL.of s6)).nl n7) (.cons ⟨tp, rfl, n7 _ _ upd_same fun _ z => nomatch z⟩ .nil)
      · rcases List.mem_append.mp ht with ht | ht
        · exact ok t ht
        · rw [List.mem_singleton.mp ht]
          show 1 ≤ 1 + fa ∧ 1 + fa ≤ 1000000000000 ∧ 1 ≤ 1 + wt ∧ 1 + wt ≤ 1000000000000000000000000000000 ∧ 1 ≤ 1 + su ∧ 1 + su ≤ 1000000000000
          exact ⟨by omega, by omega, by omega, by omega, by omega, by omega⟩
      · rcases List.mem_append.mp ht with ht | ht
        · exact okf t ht
        · rw [List.mem_singleton.mp ht]
          show 1 + wt ≤ f ∧ 1 + fa ≤ g
          omega
      · rw [upd_ne (ne_of_none e hl1)]
        exact s6 _ _ (k5 _ _ nu (k4 _ _ nu (k3 _ _ nu (k2 _ _ nu e))))
      · refine src_kp ?_ nls (src5.same s6 |>.mono (by omega))
        exact Kp.upd
    · rintro σ H2 ⟨v5, v6, v7, zs, ts, rfl, h2, hb, ok, okf, zl, k2, src2⟩
      have bl := Brs.len hb
      exact ⟨_, rfl, k l1 zs ts H2 h2 hb ok okf (by omega) (src2.mono (by omega)) k2 hl1⟩
theorem ok_wspecs (T : LX K mg L) : Cal P w K mg base "_law_specs" 3 L.f__law_specs ["_law_source", "_law_most", "_law_wide", "_law_many"] (spSpecs) := T.d__law_specs.cal fun fd F => fn_wspecs T F
end
/-! ### try: a body that raises nothing -/
theorem ps_try_none {X : Cx} {body : List Stmt} {tb : TS} {h₀ : ExceptHandler} {hs : List ExceptHandler} {pos : Pos} (hb : ∀ pn : List (Addr × Obj), PSs (X.tr pn fun _ _ => False) body tb) :
    PS X (.Try body (h₀ :: hs) [] [] pos) tb := by
  refine ⟨fun pins s σ H D I h => ?_⟩
  have ok := I.ok
  refine wpAny_Try_except ?_
  refine wpAny_mono ((hb (X.pn ++ pins)).run [] s σ H D (I.toTry _) h) (fun f s1 hsp => ?_) (fun e s1 he => he.elim)
  cases f with
  | next =>
    obtain ⟨σ', H', J', q⟩ := hsp
    exact wpAny_execs_nil ⟨σ', H', J'.ofTry ok, q⟩
  | brk =>
    obtain ⟨σ', H', J', q⟩ := hsp
    exact ⟨σ', H', J'.ofTry ok, q⟩
  | cont =>
    obtain ⟨σ', H', J', q⟩ := hsp
    exact ⟨σ', H', J'.ofTry ok, q⟩
  | ret u =>
    obtain ⟨v, σ', H', J', r, q⟩ := hsp
    exact ⟨v, σ', H', J'.ofTry ok, r, q⟩
/-! ### routes as data -/
abbrev Svc := List Tri × List (Int × Int)
theorem rq1 : ¬ (("step" : Str) = "pattern") := by decide +kernel
theorem rq2 : ¬ (("step" : Str) = "services") := by decide +kernel
theorem rq3 : ¬ (("step" : Str) = "common") := by decide +kernel
theorem rq4 : ¬ (("pattern" : Str) = "services") := by decide +kernel
theorem rq5 : ¬ (("pattern" : Str) = "common") := by decide +kernel
theorem rq6 : ¬ (("services" : Str) = "common") := by decide +kernel
def rtF (aC aS aP : Addr) (st : Int) : List (Str × V) := putF "step" (.int st) (putF "pattern" (.ref aP) (putF "services" (.ref aS) (putF "common" (.ref aC) [])))
theorem rtF_c (aC aS aP : Addr) (st : Int) : (rtF aC aS aP st).lookup ("common" : Str) = some (.ref aC) := by
  unfold rtF
  rw [lookup_putF, if_neg (fun e => rq3 e.symm), lookup_putF, if_neg (fun e => rq5 e.symm), lookup_putF, if_neg (fun e => rq6 e.symm), lookup_putF, if_pos rfl]
theorem rtF_s (aC aS aP : Addr) (st : Int) : (rtF aC aS aP st).lookup ("services" : Str) = some (.ref aS) := by
  unfold rtF
  rw [lookup_putF, if_neg (fun e => rq2 e.symm), lookup_putF, if_neg (fun e => rq4 e.symm), lookup_putF, if_pos rfl]
theorem rtF_p (aC aS aP : Addr) (st : Int) : (rtF aC aS aP st).lookup ("pattern" : Str) = some (.ref aP) := by
  unfold rtF
  rw [lookup_putF, if_neg (fun e => rq1 e.symm), lookup_putF, if_pos rfl]
theorem rtF_st (aC aS aP : Addr) (st : Int) : (rtF aC aS aP st).lookup ("step" : Str) = some (.int st) := by
  unfold rtF
  rw [lookup_putF, if_pos rfl]
theorem rtF_no (aC aS aP : Addr) (st : Int) {m : Str} (h1 : ¬ m = "step") (h2 : ¬ m = "pattern") (h3 : ¬ m = "services") (h4 : ¬ m = "common") : (rtF aC aS aP st).lookup m = none := by
  unfold rtF
  rw [lookup_putF, if_neg h1, lookup_putF, if_neg h2, lookup_putF, if_neg h3, lookup_putF, if_neg h4]
  all_goals rfl
/-- a service as it is held -/
def SvAt (H : Hp) (v : V) (sv : Svc) : Prop := ∃ a ab ao xb xo, v = .ref a ∧ H a = some (.tup [.ref ab, .ref ao]) ∧ H ab = some (.tup xb) ∧ Brs H xb sv.1 ∧ H ao = some (.tup xo) ∧ Ots H xo (outs sv.2)
/-- .. as it is given -/
def SlAt (H : Hp) (v : V) (sv : Svc) : Prop := ∃ a ab ao xb xo, v = .ref a ∧ H a = some (.tup [.ref ab, .ref ao]) ∧ H ab = some (.lst xb) ∧ Brs H xb sv.1 ∧ H ao = some (.lst xo) ∧ Ots H xo (outs sv.2)
def OkSv (sv : Svc) : Prop := (∀ t ∈ sv.1, OkT t) ∧ sv.1.length ≤ 12 ∧ VOut 0 sv.2 ∧ sv.2.length ≤ 50
theorem SvAt.nl {H H' : Hp} (k : NL H H') {v : V} {sv : Svc} (h : SvAt H v sv) : SvAt H' v sv := by
  obtain ⟨a, ab, ao, xb, xo, e, h1, h2, h3, h4, h5⟩ := h
  exact ⟨a, ab, ao, xb, xo, e, k _ _ h1 (fun _ z => nomatch z), k _ _ h2 (fun _ z => nomatch z), h3.nl k, k _ _ h4 (fun _ z => nomatch z), h5.nl k⟩
theorem SlAt.same {H H' : Hp} (k : Same H H') {v : V} {sv : Svc} (h : SlAt H v sv) : SlAt H' v sv := by
  obtain ⟨a, ab, ao, xb, xo, e, h1, h2, h3, h4, h5⟩ := h
  exact ⟨a, ab, ao, xb, xo, e, k _ _ h1, k _ _ h2, h3.nl (NL.of k), k _ _ h4, h5.same k⟩
theorem Brs.ni' {H H' : Hp} (k : NI H H') {xs : List V} {ts : List Tri} (h : Brs H xs ts) : Brs H' xs ts := L2.Paired.mapP h fun _ _ ⟨b, e, h⟩ => ⟨b, e, k _ _ h fun _ _ _ z => nomatch z⟩
theorem SvAt.ni {H H' : Hp} (k : NI H H') {v : V} {sv : Svc} (h : SvAt H v sv) : SvAt H' v sv := by
  obtain ⟨a, ab, ao, xb, xo, e, h1, h2, h3, h4, h5⟩ := h
  exact ⟨a, ab, ao, xb, xo, e, k _ _ h1 (fun _ _ _ z => nomatch z), k _ _ h2 (fun _ _ _ z => nomatch z), h3.ni' k, k _ _ h4 (fun _ _ _ z => nomatch z), h5.ni k⟩
theorem SlAt.ni {H H' : Hp} (k : NI H H') {v : V} {sv : Svc} (h : SlAt H v sv) : SlAt H' v sv := by
  obtain ⟨a, ab, ao, xb, xo, e, h1, h2, h3, h4, h5⟩ := h
  exact ⟨a, ab, ao, xb, xo, e, k _ _ h1 (fun _ _ _ z => nomatch z), k _ _ h2 (fun _ _ _ z => nomatch z), h3.ni' k, k _ _ h4 (fun _ _ _ z => nomatch z), h5.ni k⟩
def pnV (n : Nat) : V := .int (n : Int)
/-- routes stand at p -/
structure RtAt (C : Addr) (H : Hp) (p aC aS aP : Addr) (xC xS : List V) (fr : List Tri) (svs : List Svc) (pat : List Nat) (st : Int) : Prop where
  ob : ∃ dx, H p = some (.ins C dx (rtF aC aS aP st))
  hC : H aC = some (.tup xC)
  bC : Brs H xC fr
  hS : H aS = some (.tup xS)
  sv : Paired (SvAt H) xS svs
  hP : H aP = some (.tup (pat.map pnV))
  okC : ∀ t ∈ fr, OkT t
  lnC : fr.length ≤ 12
  okS : ∀ s ∈ svs, OkSv s
  s0 : 1 ≤ svs.length
  s1 : svs.length ≤ 10
  p0 : 1 ≤ pat.length
  p1 : pat.length ≤ 20
  pb : ∀ n ∈ pat, n < svs.length
  st0 : 1 ≤ st
  st1 : st ≤ 1000000000000000000000000000000
theorem RtAt.nl {C : Addr} {H H' : Hp} {p aC aS aP : Addr} {xC xS : List V} {fr : List Tri} {svs : List Svc} {pat : List Nat} {st : Int} (R : RtAt C H p aC aS aP xC xS fr svs pat st) (k : NL H H') : RtAt C H' p aC aS aP xC xS fr svs pat st := by
  obtain ⟨dx, h⟩ := R.ob
  exact ⟨⟨dx, k _ _ h fun _ z => nomatch z⟩, k _ _ R.hC fun _ z => (nomatch z), R.bC.nl k, k _ _ R.hS fun _ z => (nomatch z), L2.Paired.mapP R.sv fun _ _ z => z.nl k, k _ _ R.hP fun _ z => (nomatch z), R.okC, R.lnC, R.okS, R.s0, R.s1, R.p0, R.p1, R.pb, R.st0, R.st1⟩
def RtV (C : Addr) (H : Hp) (p : Addr) (fr : List Tri) (svs : List Svc) (pat : List Nat) (st : Int) : Prop := ∃ aC aS aP xC xS, RtAt C H p aC aS aP xC xS fr svs pat st
theorem RtV.nl {C : Addr} {H H' : Hp} {p : Addr} {fr : List Tri} {svs : List Svc} {pat : List Nat} {st : Int} (R : RtV C H p fr svs pat st) (k : NL H H') : RtV C H' p fr svs pat st := by
  obtain ⟨aC, aS, aP, xC, xS, R⟩ := R
  exact ⟨aC, aS, aP, xC, xS, R.nl k⟩
/-- what is given for routes is good -/
structure RtOk (fr : List Tri) (svs : List Svc) (pat : List Nat) (st : Int) : Prop where
  okC : ∀ t ∈ fr, OkT t
  lnC : fr.length ≤ 12
  okS : ∀ s ∈ svs, OkSv s
  s0 : 1 ≤ svs.length
  s1 : svs.length ≤ 10
  p0 : 1 ≤ pat.length
  p1 : pat.length ≤ 20
  pb : ∀ n ∈ pat, n < svs.length
  st0 : 1 ≤ st
  st1 : st ≤ 1000000000000000000000000000000
def spIsSv : Sp := fun vs H Q _ => ∃ v sv, vs = [v] ∧ SlAt H v sv ∧ OkSv sv ∧ ∀ H', Same H H' → Q (.bl true) H'
def spCkSv : Sp := fun vs H Q _ => ∃ l xs svs, vs = [.ref l] ∧ H l = some (.lst xs) ∧ Paired (SlAt H) xs svs ∧ (∀ s ∈ svs, OkSv s) ∧ 1 ≤ svs.length ∧ svs.length ≤ 10 ∧ ∀ H', Same H H' → Q .non H'
def spCkPat : Sp := fun vs H Q _ => ∃ (l : Addr) (pat : List Nat) (n : Nat), vs = [.ref l, .int (n : Int)] ∧ H l = some (.lst (pat.map pnV)) ∧ 1 ≤ pat.length ∧ pat.length ≤ 20 ∧ (∀ k ∈ pat, k < n) ∧ ∀ H', Same H H' → Q .non H'
def spRtInit (C : Addr) : Sp := fun vs H Q _ => ∃ p lc ls lp st xc xs fr svs pat dx, vs = [.ref p, .ref lc, .ref ls, .ref lp, .int st] ∧ H p = some (.ins C dx []) ∧ H lc = some (.lst xc) ∧ Brs H xc fr ∧ H ls = some (.lst xs) ∧ Paired (SlAt H) xs svs ∧ H lp = some (.lst (pat.map pnV)) ∧ RtOk fr svs pat st ∧
  ∀ H', RtV C H' p fr svs pat st → Kp p H H' → Q .non H'
def spIsUp : Sp := fun vs H Q _ => ∃ (a : Addr) (xo : List V) (os : List (Int × Int)) (t : Int), vs = [.ref a, .int t] ∧ H a = some (.tup xo) ∧ Ots H xo (outs os) ∧ Q (.bl (upB os t)) H
section
variable {P : Program} {w : World} {K : PySem.W.Frag} {mg : Str → Option Value} {base : Heap} {L : LA}
abbrev N_isservice : List Str := ["value", "breakers", "outages"]
theorem sc_isservice : FnScope N_isservice ["value"] (defScope st_is_service) := ⟨rfl, rfl, rfl, by decide +kernel, rfl, by decide +kernel, by decide +kernel⟩
theorem fn_isservice (T : LX K mg L) {fd : FuncData} (F : Fun K "is_service" "is_service" st_is_service L.f_is_service fd) : FnOk P w K mg base CX0 5 L.f_is_service fd ["value"] (spIsSv) := by
  have G_checkbreakers := ok_checkbreakers (P := P) (w := w) (base := base) T
  have G_checkoutages := ok_checkoutages (P := P) (w := w) (base := base) T
  have nd := sc_isservice.nd
  refine F.ok sc_isservice (fun vs H Q E h => ?_) (fun cdv A outer S H vs Q E hr h => ?_)
  · obtain ⟨v, sv, rfl, _⟩ := h
    rfl
  · obtain ⟨v, sv, rfl, ⟨a, ab, ao, xb, xo, rfl, ha, hab, hb, hao, ho⟩, ⟨o1, o2, o3, o4⟩, k⟩ := h
    refine ⟨_, (pss_cons (ps_if (PW.pt (pw_or (pt_not (pt_val (pe_callB call_isi (by rfl) T.b_isinstance (by decide +kernel) (pa_cons (pv 0) (pa_cons (pe_bltn (by rfl) T.b_tuple (by decide +kernel : bootBuiltins "tuple" = some (.type "tuple")) (v := .ty "tuple") rfl) pa_nil))))) (pw_or1 (pt_cmpR op_ne (pe_callB call_len_seq (by rfl) T.b_len PySem.boot_len (pa_cons (pv 0) pa_nil)) pe_int (nomark _))))) (pss_one (ps_ret pe_bl)) pss_nil)
       (pss_cons (ps_asg (pv 0) (pg_tup rfl (pgs_cons (pg_name (i := 1) nd rfl (Or.inl rfl)) (pgs_cons (pg_name (i := 2) nd rfl (Or.inl rfl)) pgs_nil))))
       (pss_cons (ps_try_none (fun pn => (pss_cons (ps_expr (pe_c G_checkbreakers (hr.mono (by decide)) rfl (pa_cons (pv 1) (pa_cons pe_str pa_nil))))
       (pss_one (ps_expr (pe_c G_checkoutages (hr.mono (by decide)) rfl (pa_cons (pv 2) pa_nil)))))))
       (pss_one (ps_ret pe_bl))))), ?_⟩
    refine ⟨_, rfl, _, .ty "tuple", _, _, _, rfl, .ty "tuple", (Kd.tup ha).ty, (Kd.tup ha).kit "tuple" _ (.inr ⟨by decide, by decide, rfl⟩), _, rfl, iteF ?_⟩
    refine ⟨_, rfl, a, _, rfl, .inr (SqT.of ha), rfl, _, rfl, iteF ?_⟩
    refine ⟨_, rfl, a, _, rfl, SqT.of ha, rfl, _, _, rfl, _, _, rfl, rfl, ?_⟩
    refine ⟨_, rfl, ab, xb, sv.1, _, rfl, hab, hb, o1, o2, fun H1 s1 => ?_⟩
    refine ⟨_, rfl, ao, xo, sv.2, rfl, s1 _ _ hao, ho.same s1, o3, o4, fun H2 s2 => ?_⟩
    exact k H2 (s1.trans s2)
theorem ok_isservice (T : LX K mg L) : Cal P w K mg base "is_service" 5 L.f_is_service ["value"] (spIsSv) := T.d_is_service.cal fun fd F => fn_isservice T F
abbrev N_checkservices : List Str := ["services", "at", "service"]
theorem sc_checkservices : FnScope N_checkservices ["services"] (defScope st_check_services) := ⟨rfl, rfl, rfl, by decide +kernel, rfl, by decide +kernel, by decide +kernel⟩
theorem fn_checkservices (T : LX K mg L) {fd : FuncData} (F : Fun K "check_services" "check_services" st_check_services L.f_check_services fd) : FnOk P w K mg base CX0 6 L.f_check_services fd ["services"] (spCkSv) := by
  obtain ⟨tk_MOST_SERVICES, c_MOST_SERVICES⟩ := T.n_MOST_SERVICES
  have G_isservice := ok_isservice (P := P) (w := w) (base := base) T
  have nd := sc_checkservices.nd
  refine F.ok sc_checkservices (fun vs H Q E h => ?_) (fun cdv A outer S H vs Q E hr h => ?_)
  · obtain ⟨l, xs, svs, rfl, _⟩ := h
    rfl
  · obtain ⟨l, xs, svs, rfl, hl, hp, ok, l0, l1, k⟩ := h
    refine ⟨_, (pss_cons (ps_if (PW.pt (pw_or (pt_not (pt_val (pe_callB call_isi (by rfl) T.b_isinstance (by decide +kernel) (pa_cons (pv 0) (pa_cons (pe_bltn (by rfl) T.b_list (by decide +kernel : bootBuiltins "list" = some (.type "list")) (v := .ty "list") rfl) pa_nil))))) (pw_or1 (pt_not (pt_chain op_le op_le pe_int (pe_callB call_len_seq (by rfl) T.b_len PySem.boot_len (pa_cons (pv 0) pa_nil)) (pe_gI c_MOST_SERVICES)))))) (pss_one (ps_never)) pss_nil)
       (pss_one (ps_for PassesOwn.never rfl (pi_enum (by rfl) T.b_enumerate (pa_cons (pv 0) pa_nil)) (pg_tup rfl (pgs_cons (pg_name (i := 1) nd rfl (Or.inl rfl)) (pgs_cons (pg_name (i := 2) nd rfl (Or.inl rfl)) pgs_nil))) (pss_one (ps_if (pt_not (pt_val (pe_c G_isservice (hr.mono (by decide)) rfl (pa_cons (pv 2) pa_nil)))) (pss_one (ps_never)) pss_nil))))), ?_⟩
    have xl := paired_len hp
    refine ⟨_, rfl, _, .ty "list", _, _, _, rfl, .ty "list", (Kd.lst hl).ty, (Kd.lst hl).kit "list" _ (.inr ⟨by decide, by decide, rfl⟩), _, rfl, iteF ?_⟩
    refine ⟨_, rfl, l, _, rfl, .inl (SqL.of hl), _, _, rfl, rfl, ?_⟩
    refine ⟨_, rfl, ?_⟩
    rw [decide_eq_true (show (1 : Int) ≤ (xs.length : Nat) by omega)]
    refine iteT ⟨_, _, rfl, rfl, _, rfl, ?_⟩
    show if (!(decide (((xs.length : Nat) : Int) ≤ 10))) = true then _ else _
    rw [decide_eq_true (show ((xs.length : Nat) : Int) ≤ 10 by omega)]
    refine iteF ⟨_, rfl, l, xs, rfl, SqL.of hl, for_enum (K := K) (a := l) (xs := xs) (fun i σ H2 => ∃ u v : Option V, σ = [some (.ref l), u, v] ∧ Same H H2) ⟨none, none, rfl, Same.refl H⟩ (fun i σ H2 _ ⟨_, _, _, s2⟩ => SqL.of (s2 _ _ hl)) ?_ ?_⟩
    · rintro i x T' σ H2 hx ⟨u, v, rfl, s2⟩ hT
      obtain ⟨sv, hsv, hat⟩ := paired_get hp hx
      have s3 : Same H (upd H2 T' (.tup [.int (i : Nat), x])) := s2.trans (Same.upd hT)
      refine ⟨T', _, rfl, SqT.of upd_same, rfl, _, _, rfl, _, _, rfl, rfl, ?_⟩
      exact ⟨_, rfl, x, sv, rfl, hat.same s3, ok sv (List.mem_of_getElem? hsv), fun H4 s4 => ⟨_, rfl, iteF ⟨_, _, rfl, s3.trans s4⟩⟩⟩
    · rintro σ H2 ⟨u, v, rfl, s2⟩
      exact k H2 s2
theorem ok_checkservices (T : LX K mg L) : Cal P w K mg base "check_services" 6 L.f_check_services ["services"] (spCkSv) := T.d_check_services.cal fun fd F => fn_checkservices T F
abbrev N_checkpattern : List Str := ["pattern", "number", "at", "service"]
theorem sc_checkpattern : FnScope N_checkpattern ["pattern", "number"] (defScope st_check_pattern) := ⟨rfl, rfl, rfl, by decide +kernel, rfl, by decide +kernel, by decide +kernel⟩
theorem fn_checkpattern (T : LX K mg L) {fd : FuncData} (F : Fun K "check_pattern" "check_pattern" st_check_pattern L.f_check_pattern fd) : FnOk P w K mg base CX0 3 L.f_check_pattern fd ["pattern", "number"] (spCkPat) := by
  obtain ⟨tk_MOST_PLACES, c_MOST_PLACES⟩ := T.n_MOST_PLACES
  have G_iswithin := ok_iswithin (P := P) (w := w) (base := base) T
  have nd := sc_checkpattern.nd
  refine F.ok sc_checkpattern (fun vs H Q E h => ?_) (fun cdv A outer S H vs Q E hr h => ?_)
  · obtain ⟨l, pat, n, rfl, _⟩ := h
    rfl
  · obtain ⟨l, pat, n, rfl, hl, p0, p1, pb, k⟩ := h
    refine ⟨_, (pss_cons (ps_if (PW.pt (pw_or (pt_not (pt_val (pe_callB call_isi (by rfl) T.b_isinstance (by decide +kernel) (pa_cons (pv 0) (pa_cons (pe_bltn (by rfl) T.b_list (by decide +kernel : bootBuiltins "list" = some (.type "list")) (v := .ty "list") rfl) pa_nil))))) (pw_or1 (pt_not (pt_chain op_le op_le pe_int (pe_callB call_len_seq (by rfl) T.b_len PySem.boot_len (pa_cons (pv 0) pa_nil)) (pe_gI c_MOST_PLACES)))))) (pss_one (ps_never)) pss_nil)
       (pss_one (ps_for PassesOwn.never rfl (pi_enum (by rfl) T.b_enumerate (pa_cons (pv 0) pa_nil)) (pg_tup rfl (pgs_cons (pg_name (i := 2) nd rfl (Or.inl rfl)) (pgs_cons (pg_name (i := 3) nd rfl (Or.inl rfl)) pgs_nil))) (pss_one (ps_if (pt_not (pt_val (pe_c G_iswithin (hr.mono (by decide)) rfl (pa_cons (pv 3) (pa_cons pe_int (pa_cons (pe_op op_sub (pv 1) pe_int) pa_nil)))))) (pss_one (ps_never)) pss_nil))))), ?_⟩
    refine ⟨_, rfl, _, .ty "list", _, _, _, rfl, .ty "list", (Kd.lst hl).ty, (Kd.lst hl).kit "list" _ (.inr ⟨by decide, by decide, rfl⟩), _, rfl, iteF ?_⟩
    refine ⟨_, rfl, l, _, rfl, .inl (SqL.of hl), _, _, rfl, rfl, ?_⟩
    have xl : (pat.map pnV).length = pat.length := List.length_map ..
    refine ⟨_, rfl, ?_⟩
    rw [decide_eq_true (show (1 : Int) ≤ ((pat.map pnV).length : Nat) by omega)]
    refine iteT ⟨_, _, rfl, rfl, _, rfl, ?_⟩
    show if (!(decide ((((pat.map pnV).length : Nat) : Int) ≤ 20))) = true then _ else _
    rw [decide_eq_true (show (((pat.map pnV).length : Nat) : Int) ≤ 20 by omega)]
    refine iteF ⟨_, rfl, l, _, rfl, SqL.of hl, for_enum (K := K) (a := l) (xs := pat.map pnV) (fun i σ H2 => ∃ u v : Option V, σ = [some (.ref l), some (.int (n : Int)), u, v] ∧ Same H H2) ⟨none, none, rfl, Same.refl H⟩ (fun i σ H2 _ ⟨_, _, _, s2⟩ => SqL.of (s2 _ _ hl)) ?_ ?_⟩
    · rintro i x T' σ H2 hx ⟨u, v, rfl, s2⟩ hT
      obtain ⟨m, hm, rfl⟩ : ∃ m, pat[i]? = some m ∧ x = pnV m := by
        rw [List.getElem?_map] at hx
        obtain ⟨m, hm, e⟩ := Option.map_eq_some_iff.mp hx
        exact ⟨m, hm, e.symm⟩
      have mb := pb m (List.mem_of_getElem? hm)
      have s3 : Same H (upd H2 T' (.tup [.int (i : Nat), pnV m])) := s2.trans (Same.upd hT)
      refine ⟨T', _, rfl, SqT.of upd_same, rfl, _, _, rfl, _, _, rfl, rfl, ?_⟩
      refine ⟨_, rfl, _, rfl, _, _, rfl, rfl, _, _, _, _, rfl, .int _, _, rfl, ?_⟩
      show if (!(isI (V.int (m : Int)) && (decide ((0 : Int) ≤ (m : Int)) && decide ((m : Int) ≤ (n : Int) - 1)))) = true then _ else _
      rw [k6_pos (show (0 : Int) ≤ (m : Int) by omega) (show (m : Int) ≤ (n : Int) - 1 by omega)]
      exact iteF ⟨_, _, rfl, s3⟩
    · rintro σ H2 ⟨u, v, rfl, s2⟩
      exact k H2 s2
theorem ok_checkpattern (T : LX K mg L) : Cal P w K mg base "check_pattern" 3 L.f_check_pattern ["pattern", "number"] (spCkPat) := T.d_check_pattern.cal fun fd F => fn_checkpattern T F
abbrev N_isup : List Str := ["outages", "time", "begin", "end"]
theorem sc_isup : FnScope N_isup ["outages", "time"] (defScope st_is_up) := ⟨rfl, rfl, rfl, by decide +kernel, rfl, by decide +kernel, by decide +kernel⟩
theorem fn_isup (T : LX K mg L) {fd : FuncData} (F : Fun K "is_up" "is_up" st_is_up L.f_is_up fd) : FnOk P w K mg base CX0 1 L.f_is_up fd ["outages", "time"] (spIsUp) := by
  have nd := sc_isup.nd
  refine F.ok sc_isup (fun vs H Q E h => ?_) (fun cdv A outer S H vs Q E hr h => ?_)
  · obtain ⟨a, xo, os, t, rfl, _⟩ := h
    rfl
  · obtain ⟨a, xo, os, t, rfl, ha, ho, k⟩ := h
    refine ⟨_, (pss_cons (ps_for PassesOwn.never rfl (pi_tup (pv 0)) (pg_tup rfl (pgs_cons (pg_name (i := 2) nd rfl (Or.inl rfl)) (pgs_cons (pg_name (i := 3) nd rfl (Or.inl rfl)) pgs_nil))) (pss_one (ps_if (pt_chain op_le op_lt (pv 2) (pv 1) (pv 3)) (pss_one (ps_ret pe_bl)) pss_nil)))
       (pss_one (ps_ret pe_bl))), ?_⟩
    have xl := paired_len ho
    rw [outs_len] at xl
    refine ⟨_, rfl, a, rfl, ⟨_, SqT.of ha⟩, ?_⟩
    refine for_tup (K := K) (a := a) (xs := xo) (fun i σ Hc => ∃ u v : Option V, σ = [some (.ref a), some (.int t), u, v] ∧ ¬ dn (os.take i) t ∧ Hc = H) ⟨none, none, rfl, fun ⟨o, ho, _⟩ => (nomatch ho), rfl⟩ (fun i σ Hc _ ⟨_, _, _, _, e⟩ => by rw [e]; exact SqT.of ha) ?_ ?_
    · rintro i x σ Hc hxi ⟨u, v, rfl, nd', rfl⟩
      obtain ⟨o', ho', hox⟩ := paired_get ho hxi
      obtain ⟨o, hoi, rfl⟩ : ∃ o, os[i]? = some o ∧ o' = (o.1, some o.2) := by
        unfold outs at ho'
        rw [List.getElem?_map] at ho'
        cases q : os[i]? with
        | none => rw [q] at ho'; cases ho'
        | some o => rw [q] at ho'; cases ho'; exact ⟨o, rfl, rfl⟩
      obtain ⟨c0, rfl, hc0⟩ := hox
      have etk : os.take (i + 1) = os.take i ++ [o] := by rw [List.take_add_one, hoi]; rfl
      have om := List.mem_of_getElem? hoi
      refine ⟨c0, _, rfl, SqT.of hc0, rfl, _, _, rfl, _, _, rfl, rfl, ?_⟩
      have go : ¬ (o.1 ≤ t ∧ t < o.2) → ∃ u v : Option V, [some (V.ref a), some (.int t), some (.int o.1), some (.int o.2)] = [some (.ref a), some (.int t), u, v] ∧ ¬ dn (os.take (i + 1)) t ∧ Hc = Hc := fun q => ⟨_, _, rfl, by rw [etk, dn_app]; exact fun z => z.elim nd' q, rfl⟩
      refine ⟨_, rfl, _, rfl, _, _, rfl, rfl, _, rfl, ite2 (fun c1 => ⟨_, rfl, _, _, rfl, rfl, _, rfl, ite2 (fun c2 => ?_) (fun c2 => go fun z => c2 (decide_eq_true z.2))⟩) (fun c1 => ⟨_, rfl, iteF (go fun z => c1 (decide_eq_true z.1))⟩)⟩
      have : upB os t = false := by
        cases q : upB os t with
        | false => rfl
        | true => exact absurd ⟨o, om, of_decide_eq_true c1, of_decide_eq_true c2⟩ (upB_iff.mp q)
      rw [this] at k
      exact k
    · rintro σ Hc ⟨u, v, rfl, nd', rfl⟩
      rw [xl, List.take_length] at nd'
      rw [upB_iff.mpr nd'] at k
      exact k
theorem ok_isup (T : LX K mg L) : Cal P w K mg base "is_up" 1 L.f_is_up ["outages", "time"] (spIsUp) := T.d_is_up.cal fun fd F => fn_isup T F
abbrev N_Routesinit : List Str := ["self", "common", "services", "pattern", "step", "breakers", "outages"]
theorem sc_Routesinit : FnScope N_Routesinit ["self", "common", "services", "pattern", "step"] (defScope st_Routes_init) := ⟨rfl, rfl, rfl, by decide +kernel, rfl, by decide +kernel, by decide +kernel⟩
theorem fn_Routesinit (T : LX K mg L) {fd : FuncData} (F : Fun K "__init__" "Routes.__init__" st_Routes_init L.i_Routes fd) : FnOk P w K mg base CX0 8 L.i_Routes fd ["self", "common", "services", "pattern", "step"] (spRtInit L.c_Routes) := by
  have G_checkbreakers := ok_checkbreakers (P := P) (w := w) (base := base) T
  have G_checkservices := ok_checkservices (P := P) (w := w) (base := base) T
  have G_checkpattern := ok_checkpattern (P := P) (w := w) (base := base) T
  have G_checkstep := ok_checkstep (P := P) (w := w) (base := base) T
  have nd := sc_Routesinit.nd
  refine F.ok sc_Routesinit (fun vs H Q E h => ?_) (fun cdv A outer S H vs Q E hr h => ?_)
  · obtain ⟨p, lc, ls, lp, st, xc, xs, fr, svs, pat, dx, rfl, _⟩ := h
    rfl
  · obtain ⟨p, lc, ls, lp, st, xc, xs, fr, svs, pat, dx, rfl, hp, hlc, hc, hls, hs, hlp, W, k⟩ := h
    refine ⟨_, (pss_cons (ps_expr (pe_c G_checkbreakers (hr.mono (by decide)) rfl (pa_cons (pv 1) (pa_cons pe_str pa_nil))))
       (pss_cons (ps_expr (pe_c G_checkservices (hr.mono (by decide)) rfl (pa_cons (pv 2) pa_nil)))
       (pss_cons (ps_expr (pe_c G_checkpattern (hr.mono (by decide)) rfl (pa_cons (pv 3) (pa_cons (pe_callB call_len_seq (by rfl) T.b_len PySem.boot_len (pa_cons (pv 2) pa_nil)) pa_nil))))
       (pss_cons (ps_expr (pe_c G_checkstep (hr.mono (by decide)) rfl (pa_cons (pv 4) pa_nil)))
       (pss_cons (ps_fld (pv 0) (pe_callTy call_tuple_of (by rfl) T.b_tuple (by decide +kernel) (pa_cons (pv 1) pa_nil)) rfl)
       (pss_cons (ps_fld (pv 0) (pe_callTy call_tuple_of (by rfl) T.b_tuple (by decide +kernel) (pa_cons (pe_lc (own := [("breakers", 5), ("outages", 6)]) (g := gTup K 2 (gCons (gName 5) (gCons (gName 6) (gNil)))) (tt := tYes) rfl nd (pi_list (pv 2)) (blkOk_by (own := [("breakers", 5), ("outages", 6)]) (N := N_Routesinit) (sc := defScope st_Routes_init) (by decide +kernel)) (fun _ _ _ _ _ => pg_tup rfl (pgs_cons (pg_name (i := 5) nd rfl (Or.inl rfl)) (pgs_cons (pg_name (i := 6) nd rfl (Or.inl rfl)) pgs_nil))) (fun _ _ _ _ _ => pts_nil) (fun _ _ _ _ _ => (pe_tup (pa_cons (pe_callTy (call_tupK (K := K) rfl) (by rfl) T.b_tuple (by decide +kernel) (pa_cons (pv 5) pa_nil)) (pa_cons (pe_callTy (call_tupK (K := K) rfl) (by rfl) T.b_tuple (by decide +kernel) (pa_cons (pv 6) pa_nil)) pa_nil))))) pa_nil)) rfl)
       (pss_cons (ps_fld (pv 0) (pe_callTy call_tuple_of (by rfl) T.b_tuple (by decide +kernel) (pa_cons (pv 3) pa_nil)) rfl)
       (pss_one (ps_fld (pv 0) (pv 4) rfl))))))))), ?_⟩
    have xl := paired_len hs
    refine ⟨_, rfl, lc, xc, fr, _, rfl, hlc, hc, W.okC, W.lnC, fun H1 s1 => ?_⟩
    refine ⟨_, rfl, ls, xs, svs, rfl, s1 _ _ hls, L2.Paired.mapP hs (fun _ _ z => z.same s1), W.okS, W.s0, W.s1, fun H2 s2 => ?_⟩
    have s12 := s1.trans s2
    refine ⟨_, rfl, _, rfl, ls, _, rfl, .inl (SqL.of (s12 _ _ hls)), lp, pat, xs.length, rfl, s12 _ _ hlp, W.p0, W.p1, fun n hn => by rw [xl]; exact W.pb n hn, fun H3 s3 => ?_⟩
    have s13 := s12.trans s3
    refine ⟨_, rfl, _, rfl, W.st0, W.st1, ?_⟩
    have hp3 := s13 _ _ hp
    -- self.common
    refine ⟨_, rfl, lc, xc, rfl, .inl ⟨SqL.of (s13 _ _ hlc), fun aC hC => ?_⟩⟩
    have npC : p ≠ aC := ne_of_none hp3 hC
    have sC := Same.upd (o := .tup xc) hC
    have z1 := putF_len "common" (.ref aC) [] (Nat.le_refl 0)
    refine ⟨_, rfl, p, L.c_Routes, dx, [], rfl, sC _ _ hp3, T.cf_Routes.cl, T.nf_Routes_common, (by show 0 < 1000; decide), ?_⟩
    obtain ⟨H4, hH4⟩ : ∃ H4 : Hp, H4 = upd (upd H3 aC (.tup xc)) p (.ins L.c_Routes dx (putF "common" (.ref aC) [])) := ⟨_, rfl⟩
    rw [← hH4]
    have k4 : Kp p H3 H4 := by rw [hH4]; exact (Kp.of sC).trans Kp.upd
    have hp4 : H4 p = some (.ins L.c_Routes dx (putF "common" (.ref aC) [])) := by rw [hH4]; exact upd_same
    have hC4 : H4 aC = some (.tup xc) := by rw [hH4, upd_ne npC.symm]; exact upd_same
    have kH4 : Kp p H H4 := (Kp.of s13).trans k4
    have n4 : NI H H4 := fun b o e n => kH4 _ _ (fun z => by rw [z, hp] at e; cases e; exact n _ _ _ rfl) e
    have hls4 := n4 _ _ hls fun _ _ _ z => nomatch z
    have hlp4 := n4 _ _ hlp fun _ _ _ z => nomatch z
    have hs4 : Paired (SlAt H4) xs svs := L2.Paired.mapP hs fun _ _ z => z.ni n4
    -- self.services
    refine ⟨_, rfl, ls, rfl, ⟨_, SqL.of hls4⟩, fun D hD => ?_⟩
    refine lc_list (K := K) (a := ls) (xs := xs) (fun j Hx => ∃ ys, Hx D = some (.lst ys) ∧ Paired (SvAt Hx) ys (svs.take j) ∧ ys.length = j ∧ Same H4 Hx) ⟨[], upd_same, .nil, rfl, Same.upd hD⟩ (fun j Hx _ ⟨_, _, _, _, s⟩ => SqL.of (s _ _ hls4)) ?_ ?_
    · rintro j x Hx hxj ⟨ys, hDx, py, yl, sx⟩
      obtain ⟨sv, hsv, hat⟩ := paired_get hs4 hxj
      obtain ⟨a, ab, ao, xb, xo, rfl, h1, h2, h3, h4, h5⟩ := hat.same sx
      have jl := (List.getElem?_eq_some_iff.mp hsv).1
      have l10 := W.s1
      refine ⟨a, _, rfl, SqT.of h1, rfl, _, _, rfl, _, _, rfl, rfl, rfl, tYes_of ⟨_, rfl, ab, xb, rfl, .inl ⟨SqL.of h2, fun t1 ht1 => ⟨_, rfl, ao, xo, rfl, .inl ⟨SqL.of ((Same.upd ht1) _ _ h4), fun t2 ht2 => ⟨(by show 2 ≤ sizeLine; decide), fun tq htq => ?_⟩⟩⟩⟩⟩⟩
      have e1 := Same.upd (o := .tup xb) ht1
      have e2 := Same.upd (o := .tup xo) ht2
      have e3 := Same.upd (o := .tup [.ref t1, .ref t2]) htq
      have e13 := (e1.trans e2).trans e3
      have g1 := e3 _ _ (e2 _ _ (upd_same (H := Hx) (a := t1) (o := .tup xb)))
      have g2 := e3 _ _ (upd_same (H := upd Hx t1 (.tup xb)) (a := t2) (o := .tup xo))
      have g3 : (upd (upd (upd Hx t1 (.tup xb)) t2 (.tup xo)) tq (.tup [.ref t1, .ref t2])) tq = some (.tup [.ref t1, .ref t2]) := upd_same
      have hDq := e13 _ _ hDx
      generalize upd (upd (upd Hx t1 (.tup xb)) t2 (.tup xo)) tq (.tup [.ref t1, .ref t2]) = Hq at e13 g1 g2 g3 hDq ⊢
      refine ⟨ys, hDq, small1 (by omega), ys ++ [.ref tq], upd_same, ?_, by rw [List.length_append, yl]; rfl, fun b u e => by rw [upd_ne (ne_of_none e hD)]; exact e13 _ _ (sx _ _ e)⟩
      have nD := NL.upd (o := .lst (ys ++ [.ref tq])) hDq
      rw [List.take_add_one, hsv]
      refine paired_app (L2.Paired.mapP py fun _ _ z => (z.nl (NL.of e13)).nl nD) (.cons ⟨tq, t1, t2, xb, xo, rfl, nD _ _ g3 (fun _ z => nomatch z), nD _ _ g1 (fun _ z => nomatch z), (h3.nl (NL.of e13)).nl nD, nD _ _ g2 (fun _ z => nomatch z), (h5.nl (NL.of e13)).nl nD⟩ .nil)
    rintro H5 ⟨ys, hD5, py, yl, s45⟩
    rw [xl, List.take_length] at py
    have hp5 := s45 _ _ hp4
    refine ⟨D, ys, rfl, .inl ⟨SqL.of hD5, fun aS hS => ?_⟩⟩
    have npS : p ≠ aS := ne_of_none hp5 hS
    have sS := Same.upd (o := .tup ys) hS
    have z2 := putF_len "services" (.ref aS) _ z1
    refine ⟨_, rfl, p, L.c_Routes, dx, _, rfl, sS _ _ hp5, T.cf_Routes.cl, T.nf_Routes_services, Nat.lt_of_le_of_lt z1 (by decide), ?_⟩
    obtain ⟨H6, hH6⟩ : ∃ H6 : Hp, H6 = upd (upd H5 aS (.tup ys)) p (.ins L.c_Routes dx (putF "services" (.ref aS) (putF "common" (.ref aC) []))) := ⟨_, rfl⟩
    rw [← hH6]
    have k6 : Kp p H5 H6 := by rw [hH6]; exact (Kp.of sS).trans Kp.upd
    have hp6 : H6 p = some (.ins L.c_Routes dx (putF "services" (.ref aS) (putF "common" (.ref aC) []))) := by rw [hH6]; exact upd_same
    have hS6 : H6 aS = some (.tup ys) := by rw [hH6, upd_ne npS.symm]; exact upd_same
    have n6 : NI H5 H6 := fun b o e n => k6 _ _ (fun z => by rw [z, hp5] at e; cases e; exact n _ _ _ rfl) e
    have hlp6 := n6 _ _ (s45 _ _ hlp4) fun _ _ _ z => nomatch z
    -- self.pattern
    refine ⟨_, rfl, lp, _, rfl, .inl ⟨SqL.of hlp6, fun aP hP => ?_⟩⟩
    have npP : p ≠ aP := ne_of_none hp6 hP
    have sP := Same.upd (o := .tup (pat.map pnV)) hP
    have z3 := putF_len "pattern" (.ref aP) _ z2
    refine ⟨_, rfl, p, L.c_Routes, dx, _, rfl, sP _ _ hp6, T.cf_Routes.cl, T.nf_Routes_pattern, Nat.lt_of_le_of_lt z2 (by decide), ?_⟩
    -- self.step
    refine ⟨_, rfl, _, rfl, p, L.c_Routes, dx, _, rfl, upd_same, T.cf_Routes.cl, T.nf_Routes_step, Nat.lt_of_le_of_lt z3 (by decide), ?_⟩
    obtain ⟨H8, hH8⟩ : ∃ H8 : Hp, H8 = upd (upd (upd H6 aP (.tup (pat.map pnV))) p (.ins L.c_Routes dx (putF "pattern" (.ref aP) (putF "services" (.ref aS) (putF "common" (.ref aC) []))))) p (.ins L.c_Routes dx (putF "step" (.int st) (putF "pattern" (.ref aP) (putF "services" (.ref aS) (putF "common" (.ref aC) []))))) := ⟨_, rfl⟩
    rw [← hH8]
    have k8 : Kp p H6 H8 := by rw [hH8]; exact ((Kp.of sP).trans Kp.upd).trans Kp.upd
    have hp8 : H8 p = some (.ins L.c_Routes dx (rtF aC aS aP st)) := by rw [hH8, upd_same]; rfl
    have n8 : NI H6 H8 := fun b o e n => k8 _ _ (fun z => by rw [z, hp6] at e; cases e; exact n _ _ _ rfl) e
    have hP8 : H8 aP = some (.tup (pat.map pnV)) := by rw [hH8, upd_ne npP.symm, upd_ne npP.symm]; exact upd_same
    have n58 := n6.trans n8
    have n48 := (NI.same s45).trans n58
    refine k H8 ⟨aC, aS, aP, xc, ys, ⟨⟨dx, hp8⟩, n48 _ _ hC4 (fun _ _ _ z => nomatch z), (hc.ni' n4).ni' n48, n8 _ _ hS6 (fun _ _ _ z => nomatch z), L2.Paired.mapP py (fun _ _ z => z.ni n58), hP8, W.okC, W.lnC, W.okS, W.s0, W.s1, W.p0, W.p1, W.pb, W.st0, W.st1⟩⟩ ?_
    exact ((kH4.trans (Kp.of s45)).trans k6).trans k8
end
/-! ### rows played -/
theorem Met.p_m1 {X : Cx} {C : Addr} {k : Nat} {f : Addr} {ps : List Str} {sp : Sp} {m : Str} {o e : Expr} {es : List Expr} {ta : TE} {t : TA} {apos pos : Pos} {pl : Sem Bool} (c : Met X.prog X.w X.K X.mg X.base C m k f ps sp) (cl : Cls X.K C) (hr : Room k X.A) (he : PE X o ta) (ha : PA X (e :: es) t)
    (hst : starEach (e :: es) X.env = (false, eval e X.env) :: starEach es X.env := by rfl) (hpl : (backTo pos (starEach es X.env)).any (·.1) = false := by rfl)
    (ht : eval (.Call (.Attribute o m apos) (e :: es) [] pos) X.env = (do let ov ← eval o X.env; standAt apos.atName; let (f, first) ← holding [ov] (getMethod ov m pl); callWith pos f first (backTo pos (starEach (e :: es) X.env)) (backToKw pos (keywordEach [] X.env))) := by rfl) :
    PE X (.Call (.Attribute o m apos) (e :: es) [] pos) (tMeth C m sp [] E0 ta t) := by
  obtain ⟨fd, F, b⟩ := c.ex
  exact pe_meth he cl c.me F hr b .nil pass0 ha hst hpl ht
theorem TldAt.nl {K : PySem.W.Frag} {H H' : Hp} {x : V} {n k : Nat} {up : Bool} (h : TldAt K H x n k up) (s : NL H H') : TldAt K H' x n k up := by
  obtain ⟨a, e, hq⟩ := h
  refine ⟨a, e, ?_⟩
  rcases hq with hq | hq
  · rcases hq with hq | hq
    · exact SqT.of (s _ _ hq fun _ z => nomatch z)
    · exact .inl (.inr (by obtain ⟨u, hq⟩ := hq; exact ⟨u, s _ _ hq fun _ z => nomatch z⟩))
  · exact .inr hq
def wS (up : Bool) : Str := if up = true then "up" else "down"
def wV (up : Bool) : V := .str (wS up)
theorem wS_up : wS true = "up" := rfl
theorem wS_down : wS false = "down" := rfl
theorem up_ne : ¬ (("down" : Str) = "up") := by decide +kernel
/-- the states behind words, from so many requests on -/
def plS (ts : List Tri) (st ph : Int) : Nat → List StD → List Bool → List StD
  | _, ss, [] => ss
  | n, ss, w :: r => plS ts st ph (n + 1) (sntS ts ss (ph + (n : Int) * st) w) r
theorem plS_app (ts : List Tri) (st ph : Int) : ∀ (ws : List Bool) (n : Nat) (ss : List StD) (w : Bool), plS ts st ph n ss (ws ++ [w]) = sntS ts (plS ts st ph n ss ws) (ph + ((n + ws.length : Nat) : Int) * st) w
  | [], _, _, _ => rfl
  | v :: r, n, ss, w => by
    show plS ts st ph (n + 1) (sntS ts ss (ph + (n : Int) * st) v) (r ++ [w]) = _
    rw [plS_app ts st ph r]
    show _ = sntS ts (plS ts st ph (n + 1) (sntS ts ss (ph + (n : Int) * st) v) r) (ph + ((n + (r.length + 1) : Nat) : Int) * st) w
    rw [show n + 1 + r.length = n + (r.length + 1) by omega]
def plA (ts : List Tri) (st ph : Int) (ws : List Bool) : List StD := plS ts st ph 0 (List.replicate ts.length ("closed", 0)) ws
theorem plA_nil (ts : List Tri) (st ph : Int) : plA ts st ph [] = List.replicate ts.length (("closed", 0) : StD) := rfl
theorem plA_app (ts : List Tri) (st ph : Int) (ws : List Bool) (w : Bool) : plA ts st ph (ws ++ [w]) = sntS ts (plA ts st ph ws) (ph + (ws.length : Int) * st) w := by
  unfold plA
  rw [plS_app, Nat.zero_add]
theorem plS_ok (ts : List Tri) (st ph : Int) : ∀ (ws : List Bool) (n : Nat) (ss : List StD), ss.length = ts.length → (∀ s ∈ ss, okW s) → (plS ts st ph n ss ws).length = ts.length ∧ ∀ s ∈ plS ts st ph n ss ws, okW s
  | [], _, _, h1, h2 => ⟨h1, h2⟩
  | _ :: r, n, _, h1, h2 => plS_ok ts st ph r (n + 1) _ sntS_len (sntS_W h1 h2)
theorem plA_ok (ts : List Tri) (st ph : Int) (ws : List Bool) : (plA ts st ph ws).length = ts.length ∧ ∀ s ∈ plA ts st ph ws, okW s :=
  plS_ok ts st ph ws 0 _ List.length_replicate fun s hs => by rw [List.eq_of_mem_replicate hs]; exact .inl rfl
/-! ### requests through routes -/
def svOf (svs : List Svc) (w : Nat) : Svc := svs.getD w ([], [])
def rtW (pat : List Nat) (j : Nat) : Nat := pat.getD (j % pat.length) 0
abbrev RS := List StD × List (List StD)
section
variable (fr : List Tri) (svs : List Svc) (pat : List Nat) (st : Int)
def rtRow (j : Nat) : List Tri := fr ++ (svOf svs (rtW pat j)).1
def rtSt (s : RS) (j : Nat) : List StD := s.1 ++ s.2.getD (rtW pat j) []
def rtUp (j : Nat) : Bool := upB (svOf svs (rtW pat j)).2 ((j : Int) * st)
def rtNew (s : RS) (j : Nat) : List StD := sntS (rtRow fr svs pat j) (rtSt pat s j) ((j : Int) * st) (rtUp svs pat st j)
def rtS : Nat → RS
  | 0 => (List.replicate fr.length ("closed", 0), svs.map fun sv => List.replicate sv.1.length ("closed", 0))
  | n + 1 => ((rtNew fr svs pat st (rtS n) n).take fr.length, (rtS n).2.set (rtW pat n) ((rtNew fr svs pat st (rtS n) n).drop fr.length))
def rtK (j : Nat) : Nat := kOf (rtRow fr svs pat j) (rtSt pat (rtS fr svs pat st j) j) ((j : Int) * st)
def rtGood (j : Nat) : Bool := decide (rtK fr svs pat st j = (rtRow fr svs pat j).length) && rtUp svs pat st j
def rtOp (j : Nat) : List Nat := (List.range fr.length).filter fun k => decide ((rtS fr svs pat st (j + 1)).1[k]? = some (("open", (j : Int) * st) : StD))
end
theorem rtW_lt {pat : List Nat} {n : Nat} (p0 : 1 ≤ pat.length) (pb : ∀ k ∈ pat, k < n) (j : Nat) : pat[j % pat.length]? = some (rtW pat j) ∧ rtW pat j < n := by
  have l : j % pat.length < pat.length := Nat.mod_lt _ (by omega)
  have e : pat[j % pat.length]? = some pat[j % pat.length] := List.getElem?_eq_getElem l
  have e2 : rtW pat j = pat[j % pat.length] := by
    unfold rtW
    rw [List.getD_eq_getElem?_getD, e]
    rfl
  rw [e2]
  exact ⟨e, pb _ (List.getElem_mem _)⟩
theorem svOf_get {svs : List Svc} {w : Nat} (h : w < svs.length) : svs[w]? = some (svOf svs w) := by
  unfold svOf
  rw [List.getD_eq_getElem?_getD, List.getElem?_eq_getElem h]
  rfl
/-- the states are as many as the breakers -/
theorem rtS_ok {fr : List Tri} {svs : List Svc} {pat : List Nat} {st : Int} (p0 : 1 ≤ pat.length) (pb : ∀ k ∈ pat, k < svs.length) : ∀ n : Nat,
    (rtS fr svs pat st n).1.length = fr.length ∧ (∀ s ∈ (rtS fr svs pat st n).1, okW s) ∧ (rtS fr svs pat st n).2.length = svs.length ∧ ∀ (w : Nat) (o : List StD), (rtS fr svs pat st n).2[w]? = some o → o.length = (svOf svs w).1.length ∧ ∀ s ∈ o, okW s
  | 0 => by
    refine ⟨List.length_replicate, fun s hs => by rw [List.eq_of_mem_replicate hs]; exact .inl rfl, List.length_map .., fun w o e => ?_⟩
    have e' : (svs.map fun sv => List.replicate sv.1.length (("closed", 0) : StD))[w]? = some o := e
    rw [List.getElem?_map] at e'
    obtain ⟨sv, h1, h2⟩ := Option.map_eq_some_iff.mp e'
    rw [svOf_get (List.getElem?_eq_some_iff.mp h1).1] at h1
    cases h1
    rw [← h2]
    exact ⟨List.length_replicate, fun s hs => by rw [List.eq_of_mem_replicate hs]; exact .inl rfl⟩
  | n + 1 => by
    obtain ⟨h1, h2, h3, h4⟩ := rtS_ok (fr := fr) (st := st) p0 pb n
    obtain ⟨w1, w2⟩ := rtW_lt p0 pb n
    obtain ⟨o, ho⟩ : ∃ o, (rtS fr svs pat st n).2[rtW pat n]? = some o := ⟨_, List.getElem?_eq_getElem (by omega)⟩
    obtain ⟨o1, o2⟩ := h4 _ _ ho
    have eo : (rtS fr svs pat st n).2.getD (rtW pat n) [] = o := by rw [List.getD_eq_getElem?_getD, ho]; rfl
    have nl : (rtNew fr svs pat st (rtS fr svs pat st n) n).length = fr.length + (svOf svs (rtW pat n)).1.length := by
      unfold rtNew rtRow
      rw [sntS_len, List.length_append]
    have sl : (rtSt pat (rtS fr svs pat st n) n).length = (rtRow fr svs pat n).length := by
      unfold rtSt rtRow
      rw [List.length_append, List.length_append, h1, eo, o1]
    have nw : ∀ s ∈ rtNew fr svs pat st (rtS fr svs pat st n) n, okW s := sntS_W sl fun s hs => by
      rcases List.mem_append.mp hs with hs | hs
      · exact h2 s hs
      · rw [eo] at hs
        exact o2 s hs
    refine ⟨?_, fun s hs => nw s (List.mem_of_mem_take hs), ?_, fun w o' e => ?_⟩
    · show ((rtNew fr svs pat st (rtS fr svs pat st n) n).take fr.length).length = _
      rw [List.length_take]
      omega
    · show ((rtS fr svs pat st n).2.set _ _).length = _
      rw [List.length_set, h3]
    · have e : ((rtS fr svs pat st n).2.set (rtW pat n) ((rtNew fr svs pat st (rtS fr svs pat st n) n).drop fr.length))[w]? = some o' := e
      rw [List.getElem?_set] at e
      by_cases c : rtW pat n = w
      · rw [if_pos c] at e
        split at e
        · cases e
          rw [← c]
          exact ⟨by rw [List.length_drop]; omega, fun s hs => nw s (List.mem_of_mem_drop hs)⟩
        · cases e
      · rw [if_neg c] at e
        exact h4 w o' e
/-- what is found of a request -/
def FdAt (H : Hp) (x : V) (w : Nat) (g : Bool) (op : List Nat) : Prop := ∃ q lo, x = .ref q ∧ H q = some (.tup [.int (w : Int), .bl g, .ref lo]) ∧ H lo = some (.lst (op.map pnV))
theorem FdAt.same {H H' : Hp} (s : Same H H') {x : V} {w : Nat} {g : Bool} {op : List Nat} (h : FdAt H x w g op) : FdAt H' x w g op := by
  obtain ⟨q, lo, e, h1, h2⟩ := h
  exact ⟨q, lo, e, s _ _ h1, s _ _ h2⟩
def Fds (H : Hp) (xs : List V) (fr : List Tri) (svs : List Svc) (pat : List Nat) (st : Int) (n : Nat) : Prop := xs.length = n ∧ ∀ j x, xs[j]? = some x → FdAt H x (rtW pat j) (rtGood fr svs pat st j) (rtOp fr svs pat st j)
theorem Fds.same {H H' : Hp} (s : Same H H') {xs : List V} {fr : List Tri} {svs : List Svc} {pat : List Nat} {st : Int} {n : Nat} (h : Fds H xs fr svs pat st n) : Fds H' xs fr svs pat st n := ⟨h.1, fun j x e => (h.2 j x e).same s⟩
theorem shStD {s : StD} (h : okW s) : SeqAt.shaped (stD s) = true := tup_sh (by simp [PyData.canLayAll0, PyData.canLay0, sok_W h]) (by simp [PyData.depthAll, PyData.depth])
def spSentR (C : Addr) : Sp := fun vs H Q _ => ∃ p fr svs pat st, ∃ n : Nat, vs = [.ref p, .int (n : Int)] ∧ RtV C H p fr svs pat st ∧ n ≤ 10000 ∧ ∀ l xs H', H' l = some (.lst xs) → Fds H' xs fr svs pat st n → Same H H' → H l = none → Q (.ref l) H'
theorem catA_of {K : PySem.W.Frag} {H : Hp} {Q : VK} {a b : Addr} {xs ys : List V} (ha : SqT K H a xs) (hb : SqT K H b ys) (l : xs.length + ys.length ≤ sizeLine) (k : ∀ c H', Same H H' → SqT K H' c (xs ++ ys) → Q (.ref c) H') : rCatA K (.ref a) (.ref b) H Q := by
  refine ⟨a, b, xs, ys, rfl, rfl, ha, hb, l, fun e => ?_, fun _ e => ?_, fun _ _ p hp => k p _ (Same.upd hp) (SqT.of upd_same)⟩
  · subst e
    exact k b H (Same.refl H) hb
  · subst e
    refine k a H (Same.refl H) ?_
    rw [List.append_nil]
    exact ha
/-- lists of states at other places than two -/
def OwAt (H : Hp) (l1 l2 : Addr) (v : V) (o : List StD) : Prop := ∃ a zs, v = .ref a ∧ a ≠ l1 ∧ a ≠ l2 ∧ H a = some (.lst zs) ∧ Sts H zs o
theorem OwAt.ke {H H' : Hp} {l1 l2 : Addr} (k : ∀ b o, b ≠ l1 → b ≠ l2 → H b = some o → H' b = some o) (n1 : ∃ z, H l1 = some (.lst z)) (n2 : ∃ z, H l2 = some (.lst z)) {v : V} {o : List StD} (h : OwAt H l1 l2 v o) : OwAt H' l1 l2 v o := by
  obtain ⟨a, zs, e, a1, a2, h1, h2⟩ := h
  obtain ⟨z1, n1⟩ := n1
  obtain ⟨z2, n2⟩ := n2
  refine ⟨a, zs, e, a1, a2, k _ _ a1 a2 h1, L2.Paired.mapP h2 fun _ _ ⟨b, e, h⟩ => ⟨b, e, k _ _ (fun z => ?_) (fun z => ?_) h⟩⟩
  · rw [z, n1] at h; cases h
  · rw [z, n2] at h; cases h
theorem paired_take {α β : Type} {F : α → β → Prop} : ∀ {xs : List α} {ys : List β} (n : Nat), Paired F xs ys → Paired F (xs.take n) (ys.take n)
  | _, _, 0, _ => .nil
  | _, _, n + 1, .nil => .nil
  | _, _, n + 1, .cons r t => .cons r (paired_take n t)
theorem paired_setP {α β : Type} {F : α → β → Prop} : ∀ {xs : List α} {ys : List β} (i : Nat) {x : α} {y : β}, Paired F xs ys → F x y → Paired F (xs.set i x) (ys.set i y)
  | _, _, _, _, _, .nil, _ => .nil
  | _, _, 0, _, _, .cons _ t, h => .cons h t
  | _, _, i + 1, _, _, .cons r t, h => .cons r (paired_setP i t h)
section
variable {P : Program} {w : World} {K : PySem.W.Frag} {mg : Str → Option Value} {base : Heap} {L : LA}
abbrev N_sentrequests : List Str := ["routes", "count", "border", "common", "breakers", "outages", "own", "found", "number", "service", "time", "told", "states", "opened", "breaker", "state"]
theorem sc_sentrequests : FnScope N_sentrequests ["routes", "count"] (defScope st_sent_requests) := ⟨rfl, rfl, rfl, by decide +kernel, rfl, by decide +kernel, by decide +kernel⟩
theorem fn_sentrequests (T : LX K mg L) {fd : FuncData} (F : Fun K "sent_requests" "sent_requests" st_sent_requests L.f_sent_requests fd) : FnOk P w K mg base CX0 6 L.f_sent_requests fd ["routes", "count"] (spSentR L.c_Routes) := by
  have G_closedstates := ok_closedstates (P := P) (w := w) (base := base) T
  have G_iswithin := ok_iswithin (P := P) (w := w) (base := base) T
  obtain ⟨tk_MOST_REQUESTS, c_MOST_REQUESTS⟩ := T.n_MOST_REQUESTS
  have G_sent := ok_sent (P := P) (w := w) (base := base) T
  have G_isup := ok_isup (P := P) (w := w) (base := base) T
  obtain ⟨a_SERVED, c_SERVED, t_SERVED⟩ := T.n_SERVED
  have nd := sc_sentrequests.nd
  refine F.ok sc_sentrequests (fun vs H Q E h => ?_) (fun cdv A outer S H vs Q E hr h => ?_)
  · obtain ⟨p, fr, svs, pat, st, n, rfl, _⟩ := h
    rfl
  · obtain ⟨p, fr, svs, pat, st, n, rfl, RV, hn, k⟩ := h
    refine ⟨_, (pss_cons (ps_if (pt_not (pt_val (pe_c G_iswithin (hr.mono (by decide)) rfl (pa_cons (pv 1) (pa_cons pe_int (pa_cons (pe_gI c_MOST_REQUESTS) pa_nil)))))) (pss_one (ps_never)) pss_nil)
       (pss_cons (ps_set (i := 2) nd rfl (Or.inl rfl) (pe_callB call_len_seq (by rfl) T.b_len PySem.boot_len (pa_cons (pe_fld (pv 0) rfl) pa_nil)))
       (pss_cons (ps_set (i := 3) nd rfl (Or.inl rfl) (pe_c G_closedstates (hr.mono (by decide)) rfl (pa_cons (pv 2) pa_nil)))
       (pss_cons (ps_setLc (i := 6) (own := [("breakers", 4), ("outages", 5)]) (g := gTup K 2 (gCons (gName 4) (gCons (gName 5) (gNil)))) (tt := tYes) rfl nd rfl rfl (sw_true rfl rfl rfl (by decide +kernel)) (pi_tup (pe_fld (pv 0) rfl)) (blkOk_by (own := [("breakers", 4), ("outages", 5)]) (N := N_sentrequests) (sc := defScope st_sent_requests) (by decide +kernel)) (fun _ _ _ _ _ => pg_tup rfl (pgs_cons (pg_name (i := 4) nd rfl (Or.inl rfl)) (pgs_cons (pg_name (i := 5) nd rfl (Or.inl rfl)) pgs_nil))) (fun _ _ _ _ _ => pts_nil) (fun _ _ _ _ _ => (pe_c G_closedstates (hr.mono (by decide)) rfl (pa_cons (pe_callB (call_lenK (K := K) rfl) (by rfl) T.b_len PySem.boot_len (pa_cons (pv 4) pa_nil)) pa_nil))))
       (pss_cons (ps_set (i := 7) nd rfl (Or.inl rfl) (pe_lst pa_nil))
       (pss_cons (ps_for PassesOwn.never rfl (pi_range1 rfl T.b_range (pa_cons (pv 1) pa_nil)) (pg_name (i := 8) nd rfl (Or.inl rfl)) (pss_cons (ps_set (i := 9) nd rfl (Or.inl rfl) (pe_ix (r := rIxT K) ix_tup (pe_fld (pv 0) rfl) (pe_op op_mod (pv 8) (pe_callB call_len_seq (by rfl) T.b_len PySem.boot_len (pa_cons (pe_fld (pv 0) rfl) pa_nil))) (fun _ _ => rfl)))
       (pss_cons (ps_asg (pe_ix (r := rIxT K) ix_tup (pe_fld (pv 0) rfl) (pv 9) (fun _ _ => rfl)) (pg_tup rfl (pgs_cons (pg_name (i := 4) nd rfl (Or.inl rfl)) (pgs_cons (pg_name (i := 5) nd rfl (Or.inl rfl)) pgs_nil))))
       (pss_cons (ps_set (i := 10) nd rfl (Or.inr rfl) (pe_op op_mulW (pv 8) (pe_fld (pv 0) rfl)))
       (pss_cons (ps_asg (pe_c G_sent (hr.mono (by decide)) rfl (pa_cons (pe_op (r := rCatA K) op_catA (pe_fld (pv 0) rfl) (pv 4)) (pa_cons (pe_op op_cat (pv 3) (pe_ix (r := rIxL K) ix_list (pv 6) (pv 9) (fun _ _ => rfl))) (pa_cons (pv 10) (pa_cons (pe_c G_isup (hr.mono (by decide)) rfl (pa_cons (pv 5) (pa_cons (pv 10) pa_nil))) pa_nil))))) (pg_tup rfl (pgs_cons (pg_name (i := 11) nd rfl (Or.inl rfl)) (pgs_cons (pg_name (i := 12) nd rfl (Or.inl rfl)) pgs_nil))))
       (pss_cons (ps_asg (pe_tup (pa_cons (pe_slice (r := rSlL K) sl_list (pv 12) po_none (po_some (pv 2))) (pa_cons (pe_slice (r := rSlL K) sl_list (pv 12) (po_some (pv 2)) po_none) pa_nil))) (pg_tup rfl (pgs_cons (pg_name (i := 3) nd rfl (Or.inl rfl)) (pgs_cons (pg_sub (pv 6) (pv 9) set_list) pgs_nil))))
       (pss_cons (ps_setLc (i := 13) (own := [("breaker", 14), ("state", 15)]) (g := gTup K 2 (gCons (gName 14) (gCons (gName 15) (gNil)))) rfl nd rfl rfl (sw_true rfl rfl rfl (by decide +kernel)) (pi_enum (by rfl) T.b_enumerate (pa_cons (pv 3) pa_nil)) (blkOk_by (own := [("breaker", 14), ("state", 15)]) (N := N_sentrequests) (sc := defScope st_sent_requests) (by decide +kernel)) (fun _ _ _ _ _ => pg_tup rfl (pgs_cons (pg_name (i := 14) nd rfl (Or.inl rfl)) (pgs_cons (pg_name (i := 15) nd rfl (Or.inl rfl)) pgs_nil))) (fun _ _ _ _ _ => pts_one (pt_cmpR (op_eqDK (K := K) rfl hr.units) (pv 15) (pe_tup (pa_cons pe_str (pa_cons (pv 10) pa_nil))) (nomark _))) (fun _ _ _ _ _ => (pv 14)))
       (pss_one (ps_expr (pe_bm PySem.F.plainAttrs_list PySem.F.slot_list_append PySem.F.type_list_append mt_append (pv 7) (pa_cons (pe_tup (pa_cons (pv 9) (pa_cons (pe_cmpR (op_eqD hr.units) (pv 11) (pe_glob (by rfl) c_SERVED rr) (nomark _)) (pa_cons (pv 13) pa_nil)))) pa_nil)))))))))))
       (pss_one (ps_ret (pv 7))))))))), ?_⟩
    obtain ⟨aC, aS, aP, xC, xS, R⟩ := RV
    obtain ⟨dx, hp⟩ := R.ob
    have xl := R.bC.len
    have l12 := R.lnC
    have sl := paired_len R.sv
    have sl10 := R.s1
    refine ⟨_, rfl, _, _, _, _, rfl, .int _, _, rfl, ?_⟩
    show if (!(isI (V.int (n : Int)) && (decide ((0 : Int) ≤ (n : Int)) && decide ((n : Int) ≤ 10000)))) = true then _ else _
    rw [k6_pos (show (0 : Int) ≤ (n : Int) by omega) (show (n : Int) ≤ 10000 by omega)]
    refine iteF ⟨_, rfl, p, L.c_Routes, dx, _, _, rfl, hp, T.cf_Routes.cl, T.nf_Routes_common, rtF_c _ _ _ _, aC, xC, rfl, .inr (SqT.of R.hC), ?_⟩
    refine ⟨_, rfl, xC.length, rfl, by omega, fun lc yc H1 hlc hyc s1 n1 => ?_⟩
    have R1 := R.nl (NL.of s1)
    refine ⟨_, rfl, p, L.c_Routes, dx, _, _, rfl, s1 _ _ hp, T.cf_Routes.cl, T.nf_Routes_services, rtF_s _ _ _ _, aS, rfl, ⟨_, SqT.of R1.hS⟩, fun lo hlo => ?_⟩
    refine lc_tup (K := K) (a := aS) (xs := xS) (fun j Hx => ∃ ys, Hx lo = some (.lst ys) ∧ Paired (fun v o => ∃ a zs, v = .ref a ∧ a ≠ lo ∧ Hx a = some (.lst zs) ∧ Sts Hx zs o) ys ((svs.take j).map fun sv => List.replicate sv.1.length (("closed", 0) : StD)) ∧ ys.length = j ∧ Same H1 Hx) ⟨[], upd_same, .nil, rfl, Same.upd hlo⟩ (fun j Hx _ ⟨_, _, _, _, s⟩ => SqT.of (s _ _ R1.hS)) ?_ ?_
    · rintro j x Hx hxj ⟨ys, hDx, py, yl, sx⟩
      obtain ⟨sv, hsv, hat⟩ := paired_get R1.sv hxj
      obtain ⟨a, ab, ao, xb, xo, rfl, h1, h2, h3, h4, h5⟩ := hat.nl (NL.of sx)
      have jl := (List.getElem?_eq_some_iff.mp hsv).1
      have bl := h3.len
      have ok := (R.okS sv (List.mem_of_getElem? hsv)).2.1
      refine ⟨a, _, rfl, SqT.of h1, rfl, _, _, rfl, _, _, rfl, rfl, rfl, tYes_of ⟨_, rfl, ab, xb, rfl, .inr (SqT.of h2), xb.length, rfl, by omega, fun l1 ys1 H2 hl1 hy1 s2 n2 => ?_⟩⟩
      have hD2 := s2 _ _ hDx
      have nlo : l1 ≠ lo := (ne_of_none hDx n2).symm
      refine ⟨ys, hD2, small1 (by omega), ys ++ [.ref l1], upd_same, ?_, by rw [List.length_append, yl]; rfl, fun b u e => by rw [upd_ne (ne_of_none e hlo)]; exact s2 _ _ (sx _ _ e)⟩
      have kD : Kp lo H2 (upd H2 lo (.lst (ys ++ [.ref l1]))) := Kp.upd
      have nD := Kp.nl kD hD2
      rw [List.take_add_one, hsv, List.map_append]
      refine paired_app (L2.Paired.mapP py fun v o ⟨a, zs, e, na, h6, h7⟩ => ⟨a, zs, e, na, kD _ _ na (s2 _ _ h6), (h7.same s2).nl nD⟩) (.cons ⟨l1, ys1, rfl, nlo, kD _ _ nlo hl1, ?_⟩ .nil)
      rw [bl] at hy1
      exact hy1.nl nD
    rintro H2 ⟨yo, hlo2, py, yl, s12⟩
    rw [sl, List.take_length] at py
    refine ⟨(by show 0 ≤ sizeLine; decide), fun lf hlf => ?_⟩
    have sF := Same.upd (o := .lst []) hlf
    have nof : lo ≠ lf := ne_of_none hlo2 hlf
    have n1o : H1 lo = none := hlo
    have nHo : H lo = none := none_of s1 hlo
    have n2f : H2 lf = none := hlf
    have nHf : H lf = none := none_of s1 (none_of s12 hlf)
    have s0F : Same H (upd H2 lf (.lst [])) := (s1.trans s12).trans sF
    have hlcF := sF _ _ (s12 _ _ hlc)
    have nco : lc ≠ lo := ne_of_none hlc hlo
    have ncf : lc ≠ lf := ne_of_none (s12 _ _ hlc) hlf
    have hloF := sF _ _ hlo2
    have hlfF : (upd H2 lf (.lst [])) lf = some (.lst []) := upd_same
    have own0 : Paired (OwAt (upd H2 lf (.lst [])) lo lf) yo (rtS fr svs pat st 0).2 := L2.Paired.mapP py fun v o ⟨a, zs, e, na, h6, h7⟩ => ⟨a, zs, e, na, ne_of_none h6 hlf, sF _ _ h6, h7.same sF⟩
    have hyF := (hyc.same s12).same sF
    rw [xl] at hyF
    generalize upd H2 lf (.lst []) = HF at s0F hlcF hloF hlfF own0 hyF ⊢
    refine ⟨_, rfl, _, rfl, by omega, by omega, ?_⟩
    refine for_range (lo := 0) (n := ((n : Int)).toNat) (fun i σ Hc => ∃ (v4 v5 v8 v9 v10 v11 v12 v13 v14 v15 : Option V) (cc : Addr) (ys yo rows : List V), σ = [some (.ref p), some (.int (n : Int)), some (.int (xC.length : Nat)), some (.ref cc), v4, v5, some (.ref lo), some (.ref lf), v8, v9, v10, v11, v12, v13, v14, v15] ∧
        Hc cc = some (.lst ys) ∧ cc ≠ lo ∧ cc ≠ lf ∧ Sts Hc ys (rtS fr svs pat st i).1 ∧ Hc lo = some (.lst yo) ∧ Paired (OwAt Hc lo lf) yo (rtS fr svs pat st i).2 ∧ Hc lf = some (.lst rows) ∧ rows.length = i ∧ (∀ (j : Nat) (x : V), rows[j]? = some x → ∃ q l, x = .ref q ∧ l ≠ lo ∧ l ≠ lf ∧ Hc q = some (.tup [.int (rtW pat j : Int), .bl (rtGood fr svs pat st j), .ref l]) ∧ Hc l = some (.lst ((rtOp fr svs pat st j).map pnV))) ∧ Same H Hc)
      ⟨_, _, _, _, _, _, _, _, _, _, lc, yc, yo, [], rfl, hlcF, nco, ncf, hyF, hloF, own0, hlfF, rfl, fun (j : Nat) (x : V) e => (by cases e), s0F⟩ ?_ ?_
    · rintro i σ Hc hi ⟨v4, v5, v8, v9, v10, v11, v12, v13, v14, v15, cc, ys, yo, rows, rfl, hcc, cco, ccf, hys, hlo', own, hlf', rl, hrows, sc⟩
      have in' : i < n := by omega
      have Rc := R.nl (NL.of sc)
      have hpc := sc _ _ hp
      have e0 : (0 : Int) + (i : Int) = i := by omega
      rw [e0]
      obtain ⟨w1, w2⟩ := rtW_lt R.p0 R.pb i
      have pl0 := R.p0
      have emod : ((i : Int) % ((pat.map pnV).length : Nat)) = ((i % pat.length : Nat) : Int) := by rw [List.length_map]; rfl
      have hatP : atI (pat.map pnV) ((i : Int) % ((pat.map pnV).length : Nat)) = some (pnV (rtW pat i)) := by
        rw [emod]
        exact atI_nat (by rw [List.getElem?_map, w1]; rfl)
      refine ⟨_, rfl, p, L.c_Routes, dx, _, _, rfl, hpc, T.cf_Routes.cl, T.nf_Routes_pattern, rtF_p _ _ _ _, _, rfl, _, rfl, p, L.c_Routes, dx, _, _, rfl, hpc, T.cf_Routes.cl, T.nf_Routes_pattern, rtF_p _ _ _ _, aP, _, rfl, .inr (SqT.of Rc.hP), _, _, rfl, rfl, by rw [List.length_map]; omega, aP, _, _, _, rfl, rfl, SqT.of Rc.hP, hatP, ?_⟩
      obtain ⟨x, hxS, a, ab, ao, xb, xo, rfl, h1, h2, h3, h4, h5⟩ := paired_get2 Rc.sv (svOf_get w2)
      obtain ⟨sv1, sv2, sv3, sv4⟩ := R.okS _ (List.mem_of_getElem? (svOf_get w2))
      obtain ⟨wi, hwi⟩ : ∃ wi, wi = rtW pat i := ⟨_, rfl⟩
      rw [← hwi] at w1 w2 hxS h3 h5 sv1 sv2 sv3 sv4 hatP
      refine ⟨_, rfl, p, L.c_Routes, dx, _, _, rfl, hpc, T.cf_Routes.cl, T.nf_Routes_services, rtF_s _ _ _ _, _, rfl, aS, xS, _, .ref a, rfl, rfl, SqT.of Rc.hS, by rw [← hwi]; exact atI_nat hxS, a, _, rfl, SqT.of h1, rfl, _, _, rfl, _, _, rfl, rfl, ?_⟩
      have st0 := R.st0
      have st1 := R.st1
      refine ⟨_, rfl, _, rfl, p, L.c_Routes, dx, _, _, rfl, hpc, T.cf_Routes.cl, T.nf_Routes_step, rtF_st _ _ _ _, _, _, rfl, rfl, wide_mul (a := 20) (b := 120) (Nat.lt_of_le_of_lt (show (i : Int).natAbs ≤ 10000 by omega) (by decide)) (Nat.lt_of_le_of_lt (show st.natAbs ≤ 1000000000000000000000000000000 by omega) (by decide +kernel)) (by decide) (by decide) (by decide), ?_⟩
      obtain ⟨t, ht⟩ : ∃ t, t = (i : Int) * st := ⟨_, rfl⟩
      show gName 10 (.int ((i : Int) * st)) _ _ _
      rw [← ht]
      obtain ⟨q1, q2, q3, q4⟩ := rtS_ok (fr := fr) (st := st) R.p0 R.pb i
      obtain ⟨ow, how⟩ : ∃ ow, (rtS fr svs pat st i).2[wi]? = some ow := ⟨_, List.getElem?_eq_getElem (by omega)⟩
      obtain ⟨ol1, ol2⟩ := q4 _ _ how
      obtain ⟨xo', hxo, ai, zs, rfl, ai1, ai2, hai, hzs⟩ := paired_get2 own how
      have bl := h3.len
      have yl := paired_len hys
      have zl := paired_len hzs
      refine ⟨_, rfl, p, L.c_Routes, dx, _, _, rfl, hpc, T.cf_Routes.cl, T.nf_Routes_common, rtF_c _ _ _ _, _, rfl, catA_of (SqT.of Rc.hC) (SqT.of h2) (by show xC.length + xb.length ≤ sizeLine; exact Nat.le_trans (show _ ≤ 100 by omega) (by decide)) fun c H1 s1 hc => ?_⟩
      refine ⟨_, rfl, _, rfl, _, rfl, lo, yo, _, .ref ai, rfl, rfl, SqL.of (s1 _ _ hlo'), by rw [← hwi]; exact atI_nat hxo, cc, ai, ys, zs, rfl, rfl, s1 _ _ hcc, s1 _ _ hai, Nat.le_trans (show _ ≤ 100 by omega) (by decide), fun c2 hc2 => ?_⟩
      have s2 := s1.trans (Same.upd (o := .lst (ys ++ zs)) hc2)
      refine ⟨_, rfl, _, rfl, _, rfl, ao, xo, (svOf svs wi).2, t, rfl, s2 _ _ h4, h5.same s2, ?_⟩
      refine ⟨c, c2, xC ++ xb, ys ++ zs, fr ++ (svOf svs wi).1, (rtS fr svs pat st i).1 ++ ow, t, upB (svOf svs wi).2 t, rfl, hc.ext fun b o e => (Same.upd hc2) _ _ e, Brs.app (Rc.bC.nl (NL.of s2)) (h3.nl (NL.of s2)), upd_same, paired_app (hys.same s2) (hzs.same s2), by rw [List.length_append, List.length_append]; omega, by rw [List.length_append]; omega, fun s hs => (List.mem_append.mp hs).elim (fun h => q2 s h) fun h => ol2 s h, fun q x l2 ys2 H3 hq tx hl2 hs2 s3 nq nl2 => ?_⟩
      have s13 := s2.trans s3
      refine ⟨q, _, rfl, SqT.of hq, rfl, _, _, rfl, _, _, rfl, rfl, ?_⟩
      have yl2 := paired_len hs2
      rw [sntS_len, List.length_append] at yl2
      refine ⟨_, rfl, _, rfl, _, rfl, l2, ys2, rfl, SqL.of hl2, fun m1 hm1 => ?_⟩
      refine ⟨_, rfl, _, rfl, _, rfl, l2, ys2, rfl, SqL.of ((Same.upd hm1) _ _ hl2), fun m2 hm2 => ⟨(by show 2 ≤ sizeLine; decide), fun tp htp => ⟨tp, _, rfl, SqT.of upd_same, rfl, _, _, rfl, ?_⟩⟩⟩
      rw [cut_take0 ys2 xC.length (by omega)] at hm2 htp ⊢
      rw [cut_drop0 ys2 xC.length (by omega)] at htp ⊢
      have f1 := Same.upd (o := .lst (ys2.take xC.length)) hm1
      have f2 := Same.upd (o := .lst (ys2.drop xC.length)) hm2
      have f3 := Same.upd (o := .tup [.ref m1, .ref m2]) htp
      have f13 := (f1.trans f2).trans f3
      have gm1 := f3 _ _ (f2 _ _ (upd_same (H := H3) (a := m1) (o := .lst (ys2.take xC.length))))
      have gm2 := f3 _ _ (upd_same (H := upd H3 m1 (.lst (ys2.take xC.length))) (a := m2) (o := .lst (ys2.drop xC.length)))
      have sc3 := s13.trans f13
      have m1lo : m1 ≠ lo := (ne_of_none (s13 _ _ hlo') hm1).symm
      have m1lf : m1 ≠ lf := (ne_of_none (s13 _ _ hlf') hm1).symm
      have m2lo : m2 ≠ lo := (ne_of_none (f1 _ _ (s13 _ _ hlo')) hm2).symm
      have m2lf : m2 ≠ lf := (ne_of_none (f1 _ _ (s13 _ _ hlf')) hm2).symm
      have hsM := hs2.same f13
      have txM := tx.same f13
      generalize upd (upd (upd H3 m1 (.lst (ys2.take xC.length))) m2 (.lst (ys2.drop xC.length))) tp (.tup [.ref m1, .ref m2]) = HM at gm1 gm2 sc3 hsM txM ⊢
      have hloM := sc3 _ _ hlo'
      have yol := paired_len own
      refine ⟨_, _, rfl, _, rfl, _, rfl, lo, yo, _, wi, rfl, by rw [hwi]; rfl, hloM, ixN_of (by omega), ?_⟩
      have kM : Kp lo HM (upd HM lo (.lst (yo.set wi (.ref m2)))) := Kp.upd
      have nM := Kp.nl kM hloM
      have hloN : (upd HM lo (.lst (yo.set wi (.ref m2)))) lo = some (.lst (yo.set wi (.ref m2))) := upd_same
      have gm1N := kM _ _ m1lo gm1
      have gm2N := kM _ _ m2lo gm2
      have hlfN := kM _ _ nof.symm (sc3 _ _ hlf')
      have hsN := hsM.nl nM
      have txN := txM.nl nM
      have kcN : ∀ b o, b ≠ lo → b ≠ lf → Hc b = some o → (upd HM lo (.lst (yo.set wi (.ref m2)))) b = some o := fun b o n1 _ e => kM _ _ n1 (sc3 _ _ e)
      have sHN : Same H (upd HM lo (.lst (yo.set wi (.ref m2)))) := fun b o e => kM _ _ (ne_of_none e nHo) (sc3 _ _ (sc _ _ e))
      have frN : ∀ b, (upd HM lo (.lst (yo.set wi (.ref m2)))) b = none → Hc b = none := fun b e => by
        cases q : Hc b with
        | none => rfl
        | some o =>
          by_cases z : b = lo
          · rw [z, upd_same] at e; cases e
          · rw [kM _ _ z (sc3 _ _ q)] at e; cases e
      generalize upd HM lo (.lst (yo.set wi (.ref m2))) = HN at hloN gm1N gm2N hlfN hsN txN kcN sHN frN ⊢
      have eo : (rtS fr svs pat st i).2.getD wi [] = ow := by rw [List.getD_eq_getElem?_getD, how]; rfl
      have eN : rtNew fr svs pat st (rtS fr svs pat st i) i = sntS (fr ++ (svOf svs wi).1) ((rtS fr svs pat st i).1 ++ ow) t (upB (svOf svs wi).2 t) := by
        unfold rtNew rtRow rtSt rtUp
        rw [← hwi, ← ht, eo]
      have eS1 : (rtS fr svs pat st (i + 1)).1 = (sntS (fr ++ (svOf svs wi).1) ((rtS fr svs pat st i).1 ++ ow) t (upB (svOf svs wi).2 t)).take fr.length := by
        show (rtNew fr svs pat st (rtS fr svs pat st i) i).take fr.length = _
        rw [eN]
      have eS2 : (rtS fr svs pat st (i + 1)).2 = (rtS fr svs pat st i).2.set wi ((sntS (fr ++ (svOf svs wi).1) ((rtS fr svs pat st i).1 ++ ow) t (upB (svOf svs wi).2 t)).drop fr.length) := by
        show (rtS fr svs pat st i).2.set (rtW pat i) ((rtNew fr svs pat st (rtS fr svs pat st i) i).drop fr.length) = _
        rw [eN, ← hwi]
      obtain ⟨p1, p2, _, _⟩ := rtS_ok (fr := fr) (st := st) R.p0 R.pb (i + 1)
      have hsC : Sts HN (ys2.take xC.length) (rtS fr svs pat st (i + 1)).1 := by rw [eS1, ← xl]; exact paired_take _ hsN
      have ownN : Paired (OwAt HN lo lf) (yo.set wi (.ref m2)) (rtS fr svs pat st (i + 1)).2 := by
        rw [eS2]
        refine paired_setP wi (L2.Paired.mapP own fun _ _ z => z.ke kcN ⟨_, hlo'⟩ ⟨_, hlf'⟩) ⟨m2, _, rfl, m2lo, m2lf, gm2N, ?_⟩
        rw [← xl]
        exact paired_drop _ hsN
      have csl := paired_len hsC
      -- which open
      refine ⟨rfl, _, rfl, m1, _, rfl, SqL.of gm1N, fun D hD => ?_⟩
      refine lc_enum (K := K) (a := m1) (xs := ys2.take xC.length) (fun j Hx => Hx D = some (.lst (((List.range j).filter fun k => decide ((rtS fr svs pat st (i + 1)).1[k]? = some (("open", (i : Int) * st) : StD))).map pnV)) ∧ Same HN Hx) ⟨upd_same, Same.upd hD⟩ (fun j Hx ⟨_, s⟩ => SqL.of (s _ _ gm1N)) ?_ ?_
      · rintro j x T' Hx hxj ⟨hDx, sx⟩ hT
        obtain ⟨d, hd, u, rfl, hu⟩ := paired_get hsC hxj
        have jl := (List.getElem?_eq_some_iff.mp hd).1
        have sT := Same.upd (o := .tup [.int (j : Nat), .ref u]) hT
        have uT := sT _ _ (sx _ _ hu)
        refine ⟨T', _, rfl, SqT.of upd_same, rfl, _, _, rfl, _, _, rfl, rfl, rfl, ?_⟩
        refine ⟨_, rfl, _, rfl, (by show 2 ≤ sizeLine; decide), fun q5 hq5 => ?_⟩
        have s5 := Same.upd (o := .tup [.str "open", .int t]) hq5
        have okd : okW d := p2 d (List.mem_of_getElem? hd)
        refine ⟨stD d, stD ("open", t), .tup (SqT.of (s5 _ _ uT)) (.cons (.str _) (.cons (.int _) .nil)), .tup (SqT.of upd_same) (.cons (.str _) (.cons (.int _) .nil)), shStD okd, shStD (.inr (.inl rfl)), _, rfl, ?_⟩
        rw [stD_eq]
        have hD5 := s5 _ _ (sT _ _ hDx)
        have sx5 := (sx.trans sT).trans s5
        have erg : ((List.range (j + 1)).filter fun k => decide ((rtS fr svs pat st (i + 1)).1[k]? = some (("open", (i : Int) * st) : StD))) = ((List.range j).filter fun k => decide ((rtS fr svs pat st (i + 1)).1[k]? = some (("open", (i : Int) * st) : StD))) ++ if d = (("open", t) : StD) then [j] else [] := by
          rw [List.range_succ, List.filter_append, List.filter_cons, hd, ← ht]
          by_cases z : d = (("open", t) : StD)
          · rw [if_pos z, if_pos (decide_eq_true (congrArg some z))]
            rfl
          · rw [if_neg z, if_neg (fun y => z (Option.some.inj (of_decide_eq_true y)))]
            rfl
        rw [erg]
        refine ite2 (fun z => ?_) (fun z => ?_)
        · rw [if_pos (of_decide_eq_true z), List.map_append]
          refine ⟨_, rfl, _, hD5, small1 (by rw [List.length_map]; have := List.length_filter_le (fun k => decide ((rtS fr svs pat st (i + 1)).1[k]? = some (("open", (i : Int) * st) : StD))) (List.range j); rw [List.length_range] at this; omega), upd_same, fun b v e => by rw [upd_ne (ne_of_none e hD)]; exact sx5 _ _ e⟩
        · rw [if_neg (fun y => z (decide_eq_true y)), List.append_nil]
          exact ⟨hD5, sx5⟩
      rintro HP ⟨hDP, sP⟩
      have eop : ((List.range (ys2.take xC.length).length).filter fun k => decide ((rtS fr svs pat st (i + 1)).1[k]? = some (("open", (i : Int) * st) : StD))) = rtOp fr svs pat st i := by
        unfold rtOp
        rw [csl, p1]
      rw [eop] at hDP
      have Dlo : D ≠ lo := (ne_of_none hloN hD).symm
      have Dlf : D ≠ lf := (ne_of_none hlfN hD).symm
      have hlfP := sP _ _ hlfN
      refine ⟨_, rfl, .inl ⟨rfl, _, SqL.of hlfP⟩, _, rfl, _, rfl, ?_⟩
      refine ⟨_, .tuple [.str "served"], (txN.same sP).dp, .tup (t_SERVED _) (.cons (.str _) .nil), outD_sh _ _ _, served_sh, _, rfl, (by show 3 ≤ sizeLine; decide), fun tq htq => ?_⟩
      have kn : kOf (fr ++ (svOf svs wi).1) ((rtS fr svs pat st i).1 ++ ow) t ≤ (fr ++ (svOf svs wi).1).length := kOf_le _ _ _
      have eg : PyData.eqv (outD (fr ++ (svOf svs wi).1).length (kOf (fr ++ (svOf svs wi).1) ((rtS fr svs pat st i).1 ++ ow) t) (!(upB (svOf svs wi).2 t))) (.tuple [.str "served"]) = rtGood fr svs pat st i := by
        rw [outD_served _ _ _ kn, Bool.not_not]
        unfold rtGood rtK rtRow rtSt rtUp
        rw [← hwi, ← ht, eo]
      have htq0 := htq
      rw [eg]
      have sQ := Same.upd (o := .tup [pnV (rtW pat i), .bl (rtGood fr svs pat st i), .ref D]) htq
      have hlfQ := sQ _ _ hlfP
      have gtq : (upd HP tq (.tup [pnV (rtW pat i), .bl (rtGood fr svs pat st i), .ref D])) tq = some (.tup [pnV (rtW pat i), .bl (rtGood fr svs pat st i), .ref D]) := upd_same
      have sNQ := sP.trans sQ
      have hDQ := sQ _ _ hDP
      generalize upd HP tq (.tup [pnV (rtW pat i), .bl (rtGood fr svs pat st i), .ref D]) = HQ at sQ hlfQ gtq sNQ hDQ ⊢
      refine ⟨lf, rows, _, rfl, rfl, hlfQ, small1 (by omega), ?_⟩
      have kF : Kp lf HQ (upd HQ lf (.lst (rows ++ [.ref tq]))) := Kp.upd
      have nF := Kp.nl kF hlfQ
      have kce : ∀ b o, b ≠ lo → b ≠ lf → Hc b = some o → (upd HQ lf (.lst (rows ++ [.ref tq]))) b = some o := fun b o n1 n2 e => kF _ _ n2 (sNQ _ _ (kcN b o n1 n2 e))
      have tpl : ∀ b us, Hc b = some (.tup us) → b ≠ lo ∧ b ≠ lf := fun b us e => ⟨fun z => (by rw [z, hlo'] at e; cases e), fun z => (by rw [z, hlf'] at e; cases e)⟩
      refine ⟨_, _, _, _, _, _, _, _, _, _, m1, ys2.take xC.length, yo.set wi (.ref m2), rows ++ [.ref tq], rfl, kF _ _ m1lf (sNQ _ _ gm1N), m1lo, m1lf, (hsC.same sNQ).nl nF, kF _ _ nof (sNQ _ _ hloN), L2.Paired.mapP ownN (fun _ _ z => z.ke (fun b o _ n2 e => kF _ _ n2 (sNQ _ _ e)) ⟨_, hloN⟩ ⟨_, hlfN⟩), upd_same, by rw [List.length_append, rl]; rfl, fun (j : Nat) (x : V) hj => ?_, fun b o e => kF _ _ (ne_of_none e nHf) (sNQ _ _ (sHN _ _ e))⟩
      by_cases c : j < i
      · rw [List.getElem?_append_left (by omega)] at hj
        obtain ⟨q6, l6, e6, b1, b2, b3, b4⟩ := hrows j x hj
        exact ⟨q6, l6, e6, b1, b2, kce _ _ (tpl _ _ b3).1 (tpl _ _ b3).2 b3, kce _ _ b1 b2 b4⟩
      · rw [List.getElem?_append_right (by omega), rl] at hj
        have : j = i := by
          have := (List.getElem?_eq_some_iff.mp hj).1
          simp at this
          omega
        subst this
        rw [Nat.sub_self] at hj
        cases hj
        exact ⟨tq, D, rfl, Dlo, Dlf, nF _ _ gtq fun _ z => (nomatch z), kF _ _ Dlf hDQ⟩
    · rintro σ Hc ⟨v4, v5, v8, v9, v10, v11, v12, v13, v14, v15, cc, ys, yo, rows, rfl, hcc, cco, ccf, hys, hlo', own, hlf', rl, hrows, sc⟩
      have en : ((n : Int)).toNat = n := Int.toNat_natCast n
      rw [en] at rl
      refine ⟨_, rfl, k lf rows Hc hlf' ⟨rl, fun j x e => ?_⟩ sc nHf⟩
      obtain ⟨q, l, h1, _, _, h2, h3⟩ := hrows j x e
      exact ⟨q, l, h1, h2, h3⟩
theorem ok_sentrequests (T : LX K mg L) : Cal P w K mg base "sent_requests" 6 L.f_sent_requests ["routes", "count"] (spSentR L.c_Routes) := T.d_sent_requests.cal fun fd F => fn_sentrequests T F
end
/-! ### what is told of requests through routes -/
def rtG (fr : List Tri) (svs : List Svc) (pat : List Nat) (st : Int) (n w : Nat) : List Bool := ((List.range n).filter fun j => decide (rtW pat j = w)).map (rtGood fr svs pat st)
def opsL (fr : List Tri) (svs : List Svc) (pat : List Nat) (st : Int) (n : Nat) : List (Nat × Nat) := (List.range n).flatMap fun j => (rtOp fr svs pat st j).map fun k => (j, k)
def PrAt (H : Hp) (v : V) (p : Nat × Nat) : Prop := ∃ a, v = .ref a ∧ H a = some (.tup [.int (p.1 : Int), .int (p.2 : Int)])
theorem PrAt.nl {H H' : Hp} (k : NL H H') {v : V} {p : Nat × Nat} (h : PrAt H v p) : PrAt H' v p := by
  obtain ⟨a, e, h⟩ := h
  exact ⟨a, e, k _ _ h fun _ z => nomatch z⟩
/-- counts of a service, as they stand -/
def CtAt (H : Hp) (v : V) (a b : Nat) : Prop := ∃ q, v = .ref q ∧ H q = some (.tup [.int (a : Int), .int (b : Int)])
def spServed (C : Addr) : Sp := fun vs H Q _ => ∃ p fr svs pat st, ∃ n : Nat, vs = [.ref p, .int (n : Int)] ∧ RtV C H p fr svs pat st ∧ n ≤ 10000 ∧ ∀ l xs H', H' l = some (.lst xs) → xs.length = svs.length → (∀ (w : Nat) (x : V), xs[w]? = some x → CtAt H' x ((rtG fr svs pat st n w).count true) ((rtG fr svs pat st n w).count false)) → Same H H' → H l = none → Q (.ref l) H'
def spOpens (C : Addr) : Sp := fun vs H Q _ => ∃ p fr svs pat st, ∃ n : Nat, vs = [.ref p, .int (n : Int)] ∧ RtV C H p fr svs pat st ∧ n ≤ 10000 ∧ ∀ l xs H', H' l = some (.lst xs) → Paired (PrAt H') xs (opsL fr svs pat st n) → Same H H' → H l = none → Q (.ref l) H'
theorem bools_dp {K : PySem.W.Frag} {H : Hp} : ∀ bs : List Bool, DpAll K H (bs.map V.bl) (bs.map PyData.bool)
  | [] => .nil
  | b :: r => .cons (.bl b) (bools_dp r)
theorem bools_plain : ∀ bs : List Bool, PyData.plainAll (bs.map PyData.bool) = true
  | [] => by simp [PyData.plainAll]
  | b :: r => by rw [List.map_cons, PyData.plainAll, bools_plain r]; simp [PyData.plain]
theorem bools_count (c : Bool) : ∀ bs : List Bool, (bs.map PyData.bool).countP (fun e => PyData.eqv e (.bool c)) = bs.count c
  | [] => rfl
  | b :: r => by
    rw [List.map_cons, List.countP_cons, List.count_cons, bools_count c r]
    cases b <;> cases c <;> rfl
theorem rtOp_len (fr : List Tri) (svs : List Svc) (pat : List Nat) (st : Int) (j : Nat) : (rtOp fr svs pat st j).length ≤ fr.length := by
  unfold rtOp
  have := List.length_filter_le (fun k => decide ((rtS fr svs pat st (j + 1)).1[k]? = some (("open", (j : Int) * st) : StD))) (List.range fr.length)
  rw [List.length_range] at this
  exact this
theorem opsL_succ (fr : List Tri) (svs : List Svc) (pat : List Nat) (st : Int) (n : Nat) : opsL fr svs pat st (n + 1) = opsL fr svs pat st n ++ (rtOp fr svs pat st n).map fun k => (n, k) := by
  unfold opsL
  rw [List.range_succ, List.flatMap_append]
  simp
theorem opsL_len (fr : List Tri) (svs : List Svc) (pat : List Nat) (st : Int) : ∀ n : Nat, (opsL fr svs pat st n).length ≤ fr.length * n
  | 0 => by simp [opsL]
  | n + 1 => by
    rw [opsL_succ, List.length_append, List.length_map, Nat.mul_succ]
    have := opsL_len fr svs pat st n
    have := rtOp_len fr svs pat st n
    omega
/-- a comprehension over enumerate, and then over a list -/
theorem lc2e_outer {K : PySem.W.Frag} {a : Addr} {xs : List V} {g : TG} {tt : TT} {wi1 : TI} {g1 : TG} {tt1 : TT} {te : TE} {vs vs1 : List Nat} {σ : L2.St} {H1 : Hp} {D : Addr} {Qd : Hp → Prop} (Pv : Nat → Hp → Prop) (h0 : Pv 0 (upd H1 D (.lst []))) (hl : ∀ i H, Pv i H → SqL K H a xs)
    (hs : ∀ (i : Nat) (x : V) (T : Addr) (H : Hp), xs[i]? = some x → Pv i H → H T = none → g (.ref T) (wipe σ vs) (upd H T (.tup [.int (i : Nat), x])) fun σ2 H2 => wipe σ2 vs = wipe σ vs ∧ tt σ2 H2 fun b H3 =>
      if b = true then wi1 σ2 H3 fun J1 H4 => ∃ W1 : Nat → Nat → Hp → Prop, (∃ m, W1 0 m H4) ∧ ∀ j k H, W1 j k H →
        (J1.stop j H ∧ Pv (i + 1) H) ∨ (J1.go j H ∧ ∃ Nx1 : Hp → Prop, (∀ H', Nx1 H' → ∃ k', k' < k ∧ W1 (j + 1) k' H') ∧ ∀ x H', J1.yld j H x H' → g1 x (wipe σ2 vs1) H' fun σ3 H5 => wipe σ3 vs1 = wipe σ2 vs1 ∧ tt1 σ3 H5 fun b H6 =>
          if b = true then te σ3 H6 fun y H7 => ∃ acc, H7 D = some (.lst acc) ∧ acc.length < sizeLine ∧ Nx1 (upd H7 D (.lst (acc ++ [y]))) else Nx1 H6)
      else Pv (i + 1) H3) (hd : ∀ H, Pv xs.length H → Qd H) :
    ∃ W : Nat → Nat → Hp → Prop, (∃ m, W 0 m (upd H1 D (.lst []))) ∧ ∀ i m H, W i m H →
      ((Ite K a).stop i H ∧ Qd H) ∨ ((Ite K a).go i H ∧ ∃ Nx : Hp → Prop, (∀ H', Nx H' → ∃ m', m' < m ∧ W (i + 1) m' H') ∧ ∀ x H', (Ite K a).yld i H x H' → g x (wipe σ vs) H' fun σ2 H2 => wipe σ2 vs = wipe σ vs ∧ tt σ2 H2 fun b H3 =>
        if b = true then wi1 σ2 H3 fun J1 H4 => ∃ W1 : Nat → Nat → Hp → Prop, (∃ m, W1 0 m H4) ∧ ∀ j k H, W1 j k H →
          (J1.stop j H ∧ Nx H) ∨ (J1.go j H ∧ ∃ Nx1 : Hp → Prop, (∀ H', Nx1 H' → ∃ k', k' < k ∧ W1 (j + 1) k' H') ∧ ∀ x H', J1.yld j H x H' → g1 x (wipe σ2 vs1) H' fun σ3 H5 => wipe σ3 vs1 = wipe σ2 vs1 ∧ tt1 σ3 H5 fun b H6 =>
            if b = true then te σ3 H6 fun y H7 => ∃ acc, H7 D = some (.lst acc) ∧ acc.length < sizeLine ∧ Nx1 (upd H7 D (.lst (acc ++ [y]))) else Nx1 H6)
        else Nx H3) := by
  refine ⟨fun i m H => m = xs.length - i ∧ i ≤ xs.length ∧ Pv i H, ⟨xs.length, by omega, Nat.zero_le _, h0⟩, ?_⟩
  rintro i m H ⟨rfl, hi, p⟩
  have q := hl i H p
  by_cases hlt : i < xs.length
  · refine .inr ⟨⟨xs, xs[i], q, List.getElem?_eq_getElem hlt⟩, Pv (i + 1), fun H' p' => ⟨xs.length - (i + 1), by omega, rfl, hlt, p'⟩, fun v H' y => ?_⟩
    obtain ⟨T, x', rfl, hT, rfl, f⟩ := y
    exact hs i x' T H (f xs q) p hT
  · have e : i = xs.length := by omega
    subst e
    exact .inl ⟨⟨xs, q, Nat.le_refl _⟩, hd H p⟩
theorem lc2e_inner {K : PySem.W.Frag} {a : Addr} {xs : List V} {g1 : TG} {tt1 : TT} {te : TE} {vs1 : List Nat} {σ2 : L2.St} {H4 : Hp} {D : Addr} {Nx : Hp → Prop} (Pv : Nat → Hp → Prop) (h0 : Pv 0 H4) (hl : ∀ i H, i ≤ xs.length → Pv i H → SqL K H a xs)
    (hs : ∀ j x H, xs[j]? = some x → Pv j H → g1 x (wipe σ2 vs1) H fun σ3 H5 => wipe σ3 vs1 = wipe σ2 vs1 ∧ tt1 σ3 H5 fun b H6 =>
      if b = true then te σ3 H6 fun y H7 => ∃ acc, H7 D = some (.lst acc) ∧ acc.length < sizeLine ∧ Pv (j + 1) (upd H7 D (.lst (acc ++ [y]))) else Pv (j + 1) H6) (hd : ∀ H, Pv xs.length H → Nx H) :
    ∃ W1 : Nat → Nat → Hp → Prop, (∃ m, W1 0 m H4) ∧ ∀ j k H, W1 j k H →
      ((Itl K a).stop j H ∧ Nx H) ∨ ((Itl K a).go j H ∧ ∃ Nx1 : Hp → Prop, (∀ H', Nx1 H' → ∃ k', k' < k ∧ W1 (j + 1) k' H') ∧ ∀ x H', (Itl K a).yld j H x H' → g1 x (wipe σ2 vs1) H' fun σ3 H5 => wipe σ3 vs1 = wipe σ2 vs1 ∧ tt1 σ3 H5 fun b H6 =>
        if b = true then te σ3 H6 fun y H7 => ∃ acc, H7 D = some (.lst acc) ∧ acc.length < sizeLine ∧ Nx1 (upd H7 D (.lst (acc ++ [y]))) else Nx1 H6) := by
  refine ⟨fun i m H => m = xs.length - i ∧ i ≤ xs.length ∧ Pv i H, ⟨xs.length, by simp, Nat.zero_le _, h0⟩, ?_⟩
  rintro i m H ⟨rfl, hi, p⟩
  have q := hl i H hi p
  by_cases hlt : i < xs.length
  · refine .inr ⟨⟨xs, xs[i], q, by simp [hlt]⟩, Pv (i + 1), fun H' p' => ⟨xs.length - (i + 1), by omega, rfl, hlt, p'⟩, fun x H' y => ?_⟩
    obtain ⟨e, y⟩ := y
    subst e
    exact hs i x _ (y xs q) p
  · have e : i = xs.length := by omega
    subst e
    exact .inl ⟨⟨xs, q, Nat.le_refl _⟩, hd H p⟩
section
variable {P : Program} {w : World} {K : PySem.W.Frag} {mg : Str → Option Value} {base : Heap} {L : LA}
abbrev N_commonopenings : List Str := ["routes", "count", "requests", "number", "service", "success", "opened", "breaker"]
theorem sc_commonopenings : FnScope N_commonopenings ["routes", "count"] (defScope st_common_openings) := ⟨rfl, rfl, rfl, by decide +kernel, rfl, by decide +kernel, by decide +kernel⟩
theorem fn_commonopenings (T : LX K mg L) {fd : FuncData} (F : Fun K "common_openings" "common_openings" st_common_openings L.f_common_openings fd) : FnOk P w K mg base CX0 7 L.f_common_openings fd ["routes", "count"] (spOpens L.c_Routes) := by
  have G_sentrequests := ok_sentrequests (P := P) (w := w) (base := base) T
  have nd := sc_commonopenings.nd
  refine F.ok sc_commonopenings (fun vs H Q E h => ?_) (fun cdv A outer S H vs Q E hr h => ?_)
  · obtain ⟨p, fr, svs, pat, st, n, rfl, _⟩ := h
    rfl
  · obtain ⟨p, fr, svs, pat, st, n, rfl, RV, hn, k⟩ := h
    refine ⟨_, (pss_cons (ps_set (i := 2) nd rfl (Or.inl rfl) (pe_c G_sentrequests (hr.mono (by decide)) rfl (pa_cons (pv 0) (pa_cons (pv 1) pa_nil))))
       (pss_one (ps_ret (pe_lc2 (own := [("number", 3), ("service", 4), ("success", 5), ("opened", 6), ("breaker", 7)]) (vs1 := [7]) (g := gTup K 2 (gCons (gName 3) (gCons (gTup K 3 (gCons (gName 4) (gCons (gName 5) (gCons (gName 6) (gNil))))) (gNil)))) (tt := tYes) (g1 := gName 7) (tt1 := tYes) (wi1 := iList K _) rfl nd (pi_enum (by rfl) T.b_enumerate (pa_cons (pv 2) pa_nil)) (blkOk_by (own := [("number", 3), ("service", 4), ("success", 5), ("opened", 6), ("breaker", 7)]) (N := N_commonopenings) (sc := defScope st_common_openings) (by decide +kernel)) (by simp) (fun _ _ _ _ _ => pg_tup rfl (pgs_cons (pg_name (i := 3) nd rfl (Or.inl rfl)) (pgs_cons (pg_tup rfl (pgs_cons (pg_name (i := 4) nd rfl (Or.inl rfl)) (pgs_cons (pg_name (i := 5) nd rfl (Or.inl rfl)) (pgs_cons (pg_name (i := 6) nd rfl (Or.inl rfl)) pgs_nil)))) pgs_nil))) (fun _ _ _ _ _ => pts_nil) (fun _ _ _ _ _ => (pi_list (pv 6))) (fun _ _ _ _ _ => pg_name (i := 7) nd rfl (Or.inl rfl)) (fun _ _ _ _ _ => pts_nil) (fun _ _ _ _ _ => (pe_tup (pa_cons (pv 3) (pa_cons (pv 7) pa_nil)))))))), ?_⟩
    have l12 : fr.length ≤ 12 := by obtain ⟨_, _, _, _, _, R⟩ := RV; exact R.lnC
    refine ⟨_, rfl, _, rfl, p, fr, svs, pat, st, n, rfl, RV, hn, fun lr rows H1 hlr fds s1 n1 => ?_⟩
    refine ⟨_, rfl, lr, _, rfl, SqL.of hlr, fun D hD => ?_⟩
    have big : ∀ {m j : Nat}, m ≤ (opsL fr svs pat st j).length + 12 → j ≤ 10000 → m < sizeLine := fun {m j} h hj => by
      have h2 := opsL_len fr svs pat st j
      have h3 : fr.length * j ≤ 12 * 10000 := Nat.mul_le_mul l12 hj
      exact Nat.lt_of_le_of_lt (show m ≤ 200000 by omega) (by decide)
    refine lc2e_outer (K := K) (a := lr) (xs := rows) (fun i Hx => ∃ ys, Hx D = some (.lst ys) ∧ Paired (PrAt Hx) ys (opsL fr svs pat st i) ∧ Same H1 Hx) ⟨[], upd_same, .nil, Same.upd hD⟩ (fun i Hx ⟨_, _, _, s⟩ => SqL.of (s _ _ hlr)) ?_ ?_
    · rintro i x T' Hx hxi ⟨ys, hDx, py, sx⟩ hT
      have iN : i < n := by have := (List.getElem?_eq_some_iff.mp hxi).1; rw [fds.1] at this; exact this
      obtain ⟨q, lo, rfl, h1', h2'⟩ := fds.2 i x hxi
      have h1 := sx _ _ h1'
      have h2 := sx _ _ h2'
      have nlo : lo ≠ D := ne_of_none h2' hD
      have sT := Same.upd (o := .tup [.int (i : Nat), .ref q]) hT
      have h1T := sT _ _ h1
      have h2T := sT _ _ h2
      refine ⟨T', _, rfl, SqT.of upd_same, rfl, _, _, rfl, _, _, rfl, ⟨q, _, rfl, SqT.of h1T, rfl, _, _, rfl, _, _, rfl, _, _, rfl, rfl, rfl, ?_⟩⟩
      refine ⟨rfl, tYes_of ⟨_, rfl, lo, rfl, ⟨_, SqL.of h2T⟩, ?_⟩⟩
      have ylen := paired_len py
      refine lc2e_inner (K := K) (a := lo) (xs := (rtOp fr svs pat st i).map pnV) (fun j Hy => ∃ zs, Hy D = some (.lst zs) ∧ Paired (PrAt Hy) zs (opsL fr svs pat st i ++ ((rtOp fr svs pat st i).take j).map fun k => (i, k)) ∧ Kp D (upd Hx T' (.tup [.int (i : Nat), .ref q])) Hy) ⟨ys, sT _ _ hDx, by rw [List.take_zero, List.map_nil, List.append_nil]; exact L2.Paired.mapP py fun _ _ z => z.nl (NL.of sT), Kp.refl⟩ (fun j Hy _ ⟨_, _, _, ky⟩ => SqL.of (ky _ _ nlo h2T)) ?_ ?_
      · rintro j y Hy hyj ⟨zs, hDy, pz, ky⟩
        have hj := (List.getElem?_eq_some_iff.mp hyj).1
        rw [List.length_map] at hj
        obtain ⟨m, hm⟩ : ∃ m, (rtOp fr svs pat st i)[j]? = some m := ⟨_, List.getElem?_eq_getElem hj⟩
        rw [List.getElem?_map, hm] at hyj
        cases hyj
        have zl := paired_len pz
        rw [List.length_append, List.length_map, List.length_take] at zl
        have ol := rtOp_len fr svs pat st i
        refine ⟨rfl, tYes_of ⟨_, rfl, _, rfl, (by show 2 ≤ sizeLine; decide), fun tq htq => ⟨zs, (Same.upd htq) _ _ hDy, big (j := i) (by omega) (by omega), ?_⟩⟩⟩
        have sq := Same.upd (o := .tup [.int (i : Nat), pnV m]) htq
        have hDq := sq _ _ hDy
        have nq := NL.upd (o := .lst (zs ++ [.ref tq])) hDq
        refine ⟨_, upd_same, ?_, (ky.trans (Kp.of sq)).trans Kp.upd⟩
        rw [List.take_add_one, hm, List.map_append, ← List.append_assoc]
        exact paired_app (L2.Paired.mapP pz fun _ _ z => (z.nl (NL.of sq)).nl nq) (.cons ⟨tq, rfl, nq _ _ upd_same fun _ z => nomatch z⟩ .nil)
      · rintro Hy ⟨zs, hDy, pz, ky⟩
        rw [List.length_map, List.take_length, ← opsL_succ] at pz
        exact ⟨zs, hDy, pz, fun b o e => ky _ _ (ne_of_none e hD) (sT _ _ (sx _ _ e))⟩
    · rintro Hx ⟨ys, hDx, py, sx⟩
      rw [fds.1] at py
      exact k D ys Hx hDx py (s1.trans sx) (none_of s1 hD)
theorem ok_commonopenings (T : LX K mg L) : Cal P w K mg base "common_openings" 7 L.f_common_openings ["routes", "count"] (spOpens L.c_Routes) := T.d_common_openings.cal fun fd F => fn_commonopenings T F
end
/-! ### k58: runs of marked requests -/
def runF (m : Nat → Bool) : Nat → Nat
  | 0 => 0
  | n + 1 => if m n = true then runF m n + 1 else 0
def maxR (m : Nat → Bool) : Nat → Nat
  | 0 => 0
  | n + 1 => if maxR m n ≤ runF m (n + 1) then runF m (n + 1) else maxR m n
theorem runF_le (m : Nat → Bool) : ∀ n, runF m n ≤ n
  | 0 => Nat.le_refl _
  | n + 1 => by
    have := runF_le m n
    unfold runF
    split <;> omega
theorem maxR_ge (m : Nat → Bool) : ∀ {n j : Nat}, j ≤ n → runF m j ≤ maxR m n
  | 0, j, h => by
    have : j = 0 := by omega
    subst this
    exact Nat.le_refl _
  | n + 1, j, h => by
    unfold maxR
    by_cases c : j = n + 1
    · subst c
      split
      · exact Nat.le_refl _
      · omega
    · have := maxR_ge m (n := n) (j := j) (by omega)
      split <;> omega
theorem maxR_at (m : Nat → Bool) : ∀ n, ∃ j, j ≤ n ∧ runF m j = maxR m n
  | 0 => ⟨0, Nat.le_refl _, rfl⟩
  | n + 1 => by
    obtain ⟨j, h1, h2⟩ := maxR_at m n
    unfold maxR
    split
    · exact ⟨n + 1, Nat.le_refl _, rfl⟩
    · exact ⟨j, by omega, h2⟩
theorem maxR_is {m : Nat → Bool} {n : Nat} {x : Int} (h1 : x ∈ (List.range n).map fun i => (runF m (i + 1) : Int)) (h2 : ∀ y ∈ (List.range n).map (fun i => (runF m (i + 1) : Int)), y ≤ x) : x = (maxR m n : Int) := by
  obtain ⟨i, hi, rfl⟩ := List.mem_map.mp h1
  have hi := List.mem_range.mp hi
  have a := maxR_ge m (n := n) (j := i + 1) (by omega)
  obtain ⟨j, hj, e⟩ := maxR_at m n
  cases j with
  | zero =>
    have e : 0 = maxR m n := e
    omega
  | succ j =>
    have b := h2 _ (List.mem_map.mpr ⟨j, List.mem_range.mpr (by omega), rfl⟩)
    omega
theorem runF_all {m : Nat → Bool} (h : ∀ i, m i = true) : ∀ n, runF m n = n
  | 0 => rfl
  | n + 1 => by
    unfold runF
    rw [if_pos (h n), runF_all h n]
theorem runF_none {m : Nat → Bool} (h : ∀ i, m i = false) : ∀ n, runF m n = 0
  | 0 => rfl
  | n + 1 => by
    unfold runF
    rw [if_neg (by rw [h n]; exact Bool.false_ne_true)]
/-- a run is made of marks -/
theorem runF_mark {m : Nat → Bool} : ∀ {n k : Nat}, k < runF m n → m (n - 1 - k) = true
  | 0, k, h => absurd h (Nat.not_lt_zero _)
  | n + 1, k, h => by
    unfold runF at h
    by_cases c : m n = true
    · rw [if_pos c] at h
      cases k with
      | zero => exact c
      | succ k =>
        have := runF_mark (m := m) (n := n) (k := k) (by omega)
        rw [show n + 1 - 1 - (k + 1) = n - 1 - k by omega]
        exact this
    · rw [if_neg c] at h
      exact absurd h (Nat.not_lt_zero _)
theorem runF_ge {m : Nat → Bool} : ∀ {n L : Nat}, L ≤ n → (∀ k, k < L → m (n - 1 - k) = true) → L ≤ runF m n
  | 0, L, h, _ => h
  | n + 1, 0, _, _ => Nat.zero_le _
  | n + 1, L + 1, h, f => by
    have h0 := f 0 (Nat.succ_pos _)
    rw [show n + 1 - 1 - 0 = n by omega] at h0
    unfold runF
    rw [if_pos h0]
    have := runF_ge (m := m) (n := n) (L := L) (by omega) fun k hk => by
      have := f (k + 1) (by omega)
      rw [show n + 1 - 1 - (k + 1) = n - 1 - k by omega] at this
      exact this
    omega
/-- marks that repeat: the runs repeat from one unmarked place on -/
theorem runF_rep {m : Nat → Bool} {p q : Nat} (hp : ∀ i, m (i + p) = m i) (hq : m q = false) : ∀ k : Nat, runF m (q + 1 + k + p) = runF m (q + 1 + k)
  | 0 => by
    have e1 : runF m (q + 1) = 0 := by
      unfold runF
      rw [if_neg (by rw [hq]; exact Bool.false_ne_true)]
    have e2 : runF m (q + 1 + p) = 0 := by
      rw [show q + 1 + p = (q + p) + 1 by omega]
      unfold runF
      rw [if_neg (by rw [hp, hq]; exact Bool.false_ne_true)]
    rw [Nat.add_zero, e1, e2]
  | k + 1 => by
    have ih := runF_rep (m := m) (p := p) (q := q) hp hq k
    rw [show q + 1 + (k + 1) + p = (q + 1 + k + p) + 1 by omega, show q + 1 + (k + 1) = (q + 1 + k) + 1 by omega]
    show (if m (q + 1 + k + p) = true then runF m (q + 1 + k + p) + 1 else 0) = if m (q + 1 + k) = true then runF m (q + 1 + k) + 1 else 0
    rw [hp, ih]
theorem runF_two {m : Nat → Bool} {p q : Nat} (hp : ∀ i, m (i + p) = m i) (p1 : 1 ≤ p) (hqp : q < p) (hq : m q = false) : ∀ n : Nat, ∃ j, j ≤ 2 * p ∧ runF m n = runF m j := by
  intro n
  induction n using Nat.strongRecOn with
  | _ n ih =>
    by_cases c : n ≤ 2 * p
    · exact ⟨n, c, rfl⟩
    · have := runF_rep (m := m) (p := p) (q := q) hp hq (n - p - (q + 1))
      rw [show q + 1 + (n - p - (q + 1)) + p = n by omega, show q + 1 + (n - p - (q + 1)) = n - p by omega] at this
      obtain ⟨j, h1, h2⟩ := ih (n - p) (by omega)
      exact ⟨j, h1, this.trans h2⟩
theorem maxR_sup {m : Nat → Bool} {p q : Nat} (hp : ∀ i, m (i + p) = m i) (p1 : 1 ≤ p) (hqp : q < p) (hq : m q = false) (n : Nat) : runF m n ≤ maxR m (2 * p) := by
  obtain ⟨j, h1, h2⟩ := runF_two hp p1 hqp hq n
  rw [h2]
  exact maxR_ge m h1
/-- no run is longer than what repeats -/
theorem maxR_lt {m : Nat → Bool} {p q : Nat} (hp : ∀ i, m (i + p) = m i) (p1 : 1 ≤ p) (hqp : q < p) (hq : m q = false) : maxR m (2 * p) < p := by
  have per : ∀ k, m (q + k * p) = false := fun k => by
    induction k with
    | zero => rw [Nat.zero_mul]; exact hq
    | succ k ih => rw [Nat.succ_mul, ← Nat.add_assoc, hp]; exact ih
  obtain ⟨j, h1, h2⟩ := maxR_at m (2 * p)
  rw [← h2]
  refine Nat.lt_of_not_le fun h => ?_
  have jl := runF_le m j
  -- among the last p marks is one that is none
  obtain ⟨k, hk, hm⟩ : ∃ k, k < p ∧ m (j - 1 - k) = false := by
    by_cases c : j ≤ q + p
    · exact ⟨j - 1 - q, by omega, by rw [show j - 1 - (j - 1 - q) = q by omega]; exact hq⟩
    · refine ⟨j - 1 - (q + p), by omega, ?_⟩
      rw [show j - 1 - (j - 1 - (q + p)) = q + p by omega, hp]
      exact hq
  rw [runF_mark (m := m) (n := j) (k := k) (by omega)] at hm
  cases hm
/-! ### common breakers open first -/
/-- services that are down for ever, or never -/
def SvDown (svs : List Svc) (dead : List Nat) : Prop := ∀ (w : Nat) (sv : Svc), svs[w]? = some sv → (∀ t ∈ sv.1, OkT t) ∧ sv.2 = if w ∈ dead then [(0, 1000000000000000000000000000000)] else []
def mkD (pat dead : List Nat) (i : Nat) : Bool := decide (rtW pat i ∈ dead)
theorem kOf_closed : ∀ (bs : List Tri) (c : Int) (rest : List Tri) (ss : List StD) (t : Int), bs.length ≤ kOf (bs ++ rest) (List.replicate bs.length (("closed", c) : StD) ++ ss) t
  | [], _, _, _, _ => Nat.zero_le _
  | b :: bs, c, rest, ss, t => by
    show bs.length + 1 ≤ kOf (b :: (bs ++ rest)) ((("closed", c) : StD) :: (List.replicate bs.length (("closed", c) : StD) ++ ss)) t
    unfold kOf
    rw [if_pos (show psB b (("closed", c) : StD) t from fun e => absurd e sC_O)]
    exact Nat.succ_le_succ (kOf_closed bs c rest ss t)
theorem kOf_closed2 (as bs : List Tri) (c : Int) (t : Int) : kOf (as ++ bs) (List.replicate as.length (("closed", c) : StD) ++ List.replicate bs.length (("closed", 0) : StD)) t = (as ++ bs).length := by
  refine (kOf_is (by rw [List.length_append, List.length_append, List.length_replicate, List.length_replicate]) (Nat.le_refl _) (fun i b s hi hb hs e => ?_) (fun b s e => absurd (List.getElem?_eq_some_iff.mp e).1 (Nat.lt_irrefl _))).symm
  have : s.1 = "closed" := by
    rcases List.mem_append.mp (List.mem_of_getElem? hs) with h | h
    · rw [List.eq_of_mem_replicate h]
    · rw [List.eq_of_mem_replicate h]
  rw [this] at e
  exact absurd e sC_O
theorem stp_closed_good (b : Tri) (c t : Int) : stpS b (("closed", c) : StD) t true = (("closed", 0) : StD) := by
  show okS b (("closed", c) : StD) = (("closed", 0) : StD)
  exact okS_closed (s := (("closed", c) : StD)) rfl
theorem stp_closed_bad (b : Tri) (c t : Int) : stpS b (("closed", c) : StD) t false = if c + 1 < b.1 then (("closed", c + 1) : StD) else ("open", t) := by
  show badS b (("closed", c) : StD) t = if c + 1 < b.1 then (("closed", c + 1) : StD) else ("open", t)
  exact badS_closed (s := (("closed", c) : StD)) rfl
section
variable {fr : List Tri} {svs : List Svc} {pat dead : List Nat} {st : Int}
theorem upB_nil (t : Int) : upB [] t = true := by simp [upB]
theorem upB_ever {t : Int} (h0 : 0 ≤ t) (h1 : t < 1000000000000000000000000000000) : upB [(0, 1000000000000000000000000000000)] t = false := by
  simp [upB]
  omega
/-- the states of live services stay -/
def Liv (svs : List Svc) (dead : List Nat) (own : List (List StD)) : Prop := ∀ w, w < svs.length → w ∉ dead → own[w]? = some (List.replicate (svOf svs w).1.length (("closed", 0) : StD))
theorem new_live {fr' : List Tri} (c : Int) (bs : List Tri) (t : Int) : sntS (fr' ++ bs) (List.replicate fr'.length (("closed", c) : StD) ++ List.replicate bs.length (("closed", 0) : StD)) t true = List.replicate (fr' ++ bs).length (("closed", 0) : StD) := by
  refine List.ext_getElem? fun i => ?_
  by_cases h : i < (fr' ++ bs).length
  · have hb : (fr' ++ bs)[i]? = some (fr' ++ bs)[i] := List.getElem?_eq_getElem h
    have sl : (List.replicate fr'.length (("closed", c) : StD) ++ List.replicate bs.length (("closed", 0) : StD)).length = (fr' ++ bs).length := by rw [List.length_append, List.length_append, List.length_replicate, List.length_replicate]
    have hs : (List.replicate fr'.length (("closed", c) : StD) ++ List.replicate bs.length (("closed", 0) : StD))[i]? = some (List.replicate fr'.length (("closed", c) : StD) ++ List.replicate bs.length (("closed", 0) : StD))[i] := List.getElem?_eq_getElem (by rw [sl]; exact h)
    obtain ⟨d, hd⟩ : ∃ d : Int, (List.replicate fr'.length (("closed", c) : StD) ++ List.replicate bs.length (("closed", 0) : StD))[i]'(by rw [sl]; exact h) = (("closed", d) : StD) := by
      rcases List.mem_append.mp (List.getElem_mem (l := List.replicate fr'.length (("closed", c) : StD) ++ List.replicate bs.length (("closed", 0) : StD)) (n := i) (by rw [sl]; exact h)) with h | h
      · exact ⟨c, List.eq_of_mem_replicate h⟩
      · exact ⟨0, List.eq_of_mem_replicate h⟩
    rw [sntS_get hb hs, kOf_closed2, if_pos h, decide_eq_true rfl, hd]
    show some (stpS _ (("closed", d) : StD) t true) = _
    rw [stp_closed_good, List.getElem?_replicate, if_pos h]
  · rw [List.getElem?_eq_none (by rw [sntS_len]; omega), List.getElem?_eq_none (by rw [List.length_replicate]; omega)]
theorem new_dead {fr' : List Tri} (c : Int) (bs : List Tri) (ss : List StD) (sl : ss.length = bs.length) (t : Int) {i : Nat} {b : Tri} (hb : fr'[i]? = some b) : (sntS (fr' ++ bs) (List.replicate fr'.length (("closed", c) : StD) ++ ss) t false)[i]? = some (if c + 1 < b.1 then (("closed", c + 1) : StD) else ("open", t)) := by
  have h := (List.getElem?_eq_some_iff.mp hb).1
  have hb' : (fr' ++ bs)[i]? = some b := by rw [List.getElem?_append_left h]; exact hb
  have hs : (List.replicate fr'.length (("closed", c) : StD) ++ ss)[i]? = some (("closed", c) : StD) := by rw [List.getElem?_append_left (by rw [List.length_replicate]; exact h), List.getElem?_replicate, if_pos h]
  have kl := kOf_closed fr' c bs ss t
  rw [sntS_get hb' hs, if_pos (by omega), Bool.and_false, stp_closed_bad]
/-- while no run is long enough, all common breakers are closed and count it -/
theorem rt_low (hs : SvDown svs dead) (p0 : 1 ≤ pat.length) (pb : ∀ k ∈ pat, k < svs.length) (st0 : 1 ≤ st) (st1 : st ≤ 1000000000000) {L : Nat} (hL : ∀ b ∈ fr, (L : Int) ≤ b.1) : ∀ n : Nat, n ≤ 100000 → (∀ j, j ≤ n → runF (mkD pat dead) j < L) →
    (rtS fr svs pat st n).1 = List.replicate fr.length (("closed", (runF (mkD pat dead) n : Int)) : StD) ∧ Liv svs dead (rtS fr svs pat st n).2
  | 0, _, _ => by
    refine ⟨rfl, fun w hw _ => ?_⟩
    show (svs.map fun sv => List.replicate sv.1.length (("closed", 0) : StD))[w]? = _
    rw [List.getElem?_map, svOf_get hw]
    rfl
  | n + 1, hn, hr => by
    obtain ⟨h1, h2⟩ := rt_low hs p0 pb st0 st1 hL n (by omega) fun j hj => hr j (by omega)
    obtain ⟨w1, w2⟩ := rtW_lt p0 pb n
    obtain ⟨_, _, q3, q4⟩ := rtS_ok (fr := fr) (st := st) p0 pb n
    obtain ⟨o, ho⟩ : ∃ o, (rtS fr svs pat st n).2[rtW pat n]? = some o := ⟨_, List.getElem?_eq_getElem (by omega)⟩
    have eo : (rtS fr svs pat st n).2.getD (rtW pat n) [] = o := by rw [List.getD_eq_getElem?_getD, ho]; rfl
    obtain ⟨_, sd⟩ := hs _ _ (svOf_get w2)
    have t0 : 0 ≤ (n : Int) * st := Int.mul_nonneg (by omega) (by omega)
    have t1 : (n : Int) * st ≤ 100000 * 1000000000000 := Int.mul_le_mul (by omega) st1 (by omega) (by decide)
    have hn1 := hr (n + 1) (Nat.le_refl _)
    by_cases c : rtW pat n ∈ dead
    · have em : mkD pat dead n = true := decide_eq_true c
      have er : runF (mkD pat dead) (n + 1) = runF (mkD pat dead) n + 1 := by
        show (if mkD pat dead n = true then _ else _) = _
        rw [if_pos em]
      have eN : rtNew fr svs pat st (rtS fr svs pat st n) n = sntS (fr ++ (svOf svs (rtW pat n)).1) (List.replicate fr.length (("closed", (runF (mkD pat dead) n : Int)) : StD) ++ o) ((n : Int) * st) false := by
        unfold rtNew rtRow rtSt rtUp
        rw [eo, h1, sd, if_pos c, upB_ever t0 (by omega)]
      refine ⟨?_, fun w hw nd => ?_⟩
      · show (rtNew fr svs pat st (rtS fr svs pat st n) n).take fr.length = _
        rw [eN]
        refine List.ext_getElem? fun i => ?_
        by_cases h : i < fr.length
        · have hb : fr[i]? = some fr[i] := List.getElem?_eq_getElem h
          have hf := hL _ (List.getElem_mem h)
          rw [List.getElem?_take, if_pos h, new_dead _ _ _ (q4 _ _ ho).1 _ hb, if_pos (by omega), List.getElem?_replicate, if_pos h, er]
          rfl
        · rw [List.getElem?_eq_none (by rw [List.length_take]; omega), List.getElem?_eq_none (by rw [List.length_replicate]; omega)]
      · show ((rtS fr svs pat st n).2.set (rtW pat n) _)[w]? = _
        rw [List.getElem?_set, if_neg (fun (e : rtW pat n = w) => nd (e ▸ c))]
        exact h2 w hw nd
    · have em : ¬ mkD pat dead n = true := fun e => c (of_decide_eq_true e)
      have er : runF (mkD pat dead) (n + 1) = 0 := by
        show (if mkD pat dead n = true then _ else _) = _
        rw [if_neg em]
      have eo2 : o = List.replicate (svOf svs (rtW pat n)).1.length (("closed", 0) : StD) := by
        have := h2 _ w2 c
        rw [ho] at this
        exact Option.some.inj this
      have eN : rtNew fr svs pat st (rtS fr svs pat st n) n = List.replicate (fr ++ (svOf svs (rtW pat n)).1).length (("closed", 0) : StD) := by
        unfold rtNew rtRow rtSt rtUp
        rw [eo, eo2, h1, sd, if_neg c, upB_nil]
        exact new_live _ _ _
      refine ⟨?_, fun w hw nd => ?_⟩
      · show (rtNew fr svs pat st (rtS fr svs pat st n) n).take fr.length = _
        rw [eN, List.take_replicate, List.length_append, er, Nat.min_eq_left (by omega)]
        rfl
      · show ((rtS fr svs pat st n).2.set (rtW pat n) ((rtNew fr svs pat st (rtS fr svs pat st n) n).drop fr.length))[w]? = _
        rw [List.getElem?_set]
        by_cases e : rtW pat n = w
        · rw [if_pos e, if_pos (by omega), eN, List.drop_replicate, List.length_append, ← e, Nat.add_sub_cancel_left]
        · rw [if_neg e]
          exact h2 w hw nd
/-- which common breakers open at a request whose run reaches the least number -/
theorem rt_open (hs : SvDown svs dead) (p0 : 1 ≤ pat.length) (pb : ∀ k ∈ pat, k < svs.length) (st0 : 1 ≤ st) (st1 : st ≤ 1000000000000) {L : Nat} (hL : ∀ b ∈ fr, (L : Int) ≤ b.1) {n : Nat} (hn : n ≤ 100000) (hr : ∀ j, j ≤ n → runF (mkD pat dead) j < L) (h1 : runF (mkD pat dead) (n + 1) = L) (L1 : 1 ≤ L) :
    rtOp fr svs pat st n = (List.range fr.length).filter fun k => decide ((fr[k]?.map fun b => b.1) = some (L : Int)) := by
  obtain ⟨e1, _⟩ := rt_low hs p0 pb st0 st1 hL n hn hr
  obtain ⟨w1, w2⟩ := rtW_lt p0 pb n
  obtain ⟨_, _, q3, q4⟩ := rtS_ok (fr := fr) (st := st) p0 pb n
  obtain ⟨o, ho⟩ : ∃ o, (rtS fr svs pat st n).2[rtW pat n]? = some o := ⟨_, List.getElem?_eq_getElem (by omega)⟩
  have eo : (rtS fr svs pat st n).2.getD (rtW pat n) [] = o := by rw [List.getD_eq_getElem?_getD, ho]; rfl
  obtain ⟨_, sd⟩ := hs _ _ (svOf_get w2)
  have t0 : 0 ≤ (n : Int) * st := Int.mul_nonneg (by omega) (by omega)
  have t1 : (n : Int) * st ≤ 100000 * 1000000000000 := Int.mul_le_mul (by omega) st1 (by omega) (by decide)
  have em : mkD pat dead n = true := by
    have h2 : (if mkD pat dead n = true then runF (mkD pat dead) n + 1 else 0) = L := h1
    by_cases z : mkD pat dead n = true
    · exact z
    · rw [if_neg z] at h2
      omega
  have c : rtW pat n ∈ dead := of_decide_eq_true em
  have er : runF (mkD pat dead) n + 1 = L := by
    have h2 : (if mkD pat dead n = true then runF (mkD pat dead) n + 1 else 0) = L := h1
    rw [if_pos em] at h2
    exact h2
  have eN : rtNew fr svs pat st (rtS fr svs pat st n) n = sntS (fr ++ (svOf svs (rtW pat n)).1) (List.replicate fr.length (("closed", (runF (mkD pat dead) n : Int)) : StD) ++ o) ((n : Int) * st) false := by
    unfold rtNew rtRow rtSt rtUp
    rw [eo, e1, sd, if_pos c, upB_ever t0 (by omega)]
  unfold rtOp
  refine List.filter_congr fun k hk => ?_
  have h := List.mem_range.mp hk
  have hb : fr[k]? = some fr[k] := List.getElem?_eq_getElem h
  have hf := hL _ (List.getElem_mem h)
  have ek : (rtS fr svs pat st (n + 1)).1[k]? = some (if (runF (mkD pat dead) n : Int) + 1 < fr[k].1 then (("closed", (runF (mkD pat dead) n : Int) + 1) : StD) else ("open", (n : Int) * st)) := by
    show ((rtNew fr svs pat st (rtS fr svs pat st n) n).take fr.length)[k]? = _
    rw [eN, List.getElem?_take, if_pos h, new_dead _ _ _ (q4 _ _ ho).1 _ hb]
  rw [ek, hb]
  by_cases z : (runF (mkD pat dead) n : Int) + 1 < fr[k].1
  · rw [if_pos z]
    have d1 : ¬ (some (("closed", (runF (mkD pat dead) n : Int) + 1) : StD) = some (("open", (n : Int) * st) : StD)) := fun e => sC_O (congrArg Prod.fst (Option.some.inj e))
    have d2 : ¬ ((some fr[k]).map (fun b => b.1) = some (L : Int)) := fun e => by
      have e : fr[k].1 = (L : Int) := Option.some.inj e
      omega
    rw [decide_eq_false d1, decide_eq_false d2]
  · rw [if_neg z]
    have d2 : (some fr[k]).map (fun b => b.1) = some (L : Int) := by
      show some fr[k].1 = some (L : Int)
      congr 1
      omega
    rw [decide_eq_true rfl, decide_eq_true d2]
theorem rt_shut (hs : SvDown svs dead) (p0 : 1 ≤ pat.length) (pb : ∀ k ∈ pat, k < svs.length) (st0 : 1 ≤ st) (st1 : st ≤ 1000000000000) {L : Nat} (hL : ∀ b ∈ fr, (L : Int) ≤ b.1) {n : Nat} (hn : n + 1 ≤ 100000) (hr : ∀ j, j ≤ n + 1 → runF (mkD pat dead) j < L) : rtOp fr svs pat st n = [] := by
  obtain ⟨e1, _⟩ := rt_low hs p0 pb st0 st1 hL (n + 1) hn hr
  unfold rtOp
  rw [e1]
  refine List.filter_eq_nil_iff.mpr fun k hk => ?_
  have h := List.mem_range.mp hk
  rw [List.getElem?_replicate, if_pos h]
  exact fun z => sC_O (congrArg Prod.fst (Option.some.inj (of_decide_eq_true z)))
end
/-! ### enumerate of a tuple -/
section
open PySem.Builtin.SmallTypes PySem.Spec PyProof.Rows
theorem meets_enumerate_newT (t : Addr) (items : Array Value) :
    Meets (Builtin.«enumerate.__new__» ⟨[.type "enumerate", .ref t], []⟩) (fun _ R s => s.heap.IsTuple t items ∧
      R (.ok (.ret (.ref (s.heap.push { cls := .type "tuple_iterator", data := .fields #[.ref t, .int 0 0] }).objs.size)))
        { s with heap := (s.heap.push { cls := .type "tuple_iterator", data := .fields #[.ref t, .int 0 0] }).push { cls := .type "enumerate", data := .fields #[.none, .bool false, .ref s.heap.objs.size, rawInt 0, .none, .none] } }) :=
  .of_wp fun prog w A R s h => by
    obtain ⟨hp, g, d, tk, os⟩ := s
    obtain ⟨h1, h⟩ := h
    have hsub := sub_enumerate
    have q1 : ∀ {A' : Around} {E : Value → Shared → Prop} {Q : Value → Shared → Prop}, Q (.ref hp.objs.size) ⟨hp.push { cls := .type "tuple_iterator", data := .fields #[.ref t, .int 0 0] }, g, d, tk, os⟩ → wpAny (model prog w) A' (pyIter (.ref t)) Q E ⟨hp, g, d, tk, os⟩ :=
      fun q => wpAny_pyIter_tuple (s := ⟨hp, g, d, tk, os⟩) h1 q
    wp_walk using q1
    refine wpAny_stack_any fun st => wpAny_pure ?_
    split
    · rename_i c _ _ _ _ _
      cases (c == Value.type "enumerate")
      · wp_walk using q1
        exact ⟨_, rfl, h⟩
      · wp_walk using q1
        exact ⟨_, rfl, h⟩
    · wp_walk using q1
      exact ⟨_, rfl, h⟩
theorem call_enumerate_tuple {prog : Program} {w : World} {A : Around} {E : Value → Shared → Prop} {s : Shared} {t : Addr} {items : Array Value} {Q : Value → Shared → Prop} (hT : s.heap.IsTuple t items)
    (h : ∀ h', IsEnum h' (s.heap.objs.size + 1) s.heap.objs.size 0 .none → h'.IsTupleIter s.heap.objs.size t 0 → h'.objs.size = s.heap.objs.size + 2 →
      (∀ b o, s.heap.get? b = some o → h'.get? b = some o) → Q (.ref (s.heap.objs.size + 1)) { s with heap := h' }) :
    wpAny (model prog w) A (call (.type "enumerate") [.ref t]) Q E s := by
  refine callType_new F.called_enumerate (by decide) (F.typeCall_enumerate_1 _) (F.newCall_enumerate_1 _) (fun obj => F.args_object_init_2 obj _) F.entry_enumerate_new
    (meets_enumerate_newT t items) ⟨hT, ?_⟩
  have hz : (s.heap.push { cls := .type "tuple_iterator", data := .fields #[.ref t, .int 0 0] }).objs.size = s.heap.objs.size + 1 := Heap.size_push ..
  show _ ∧ _
  rw [hz]
  have he : IsEnum ((s.heap.push { cls := .type "tuple_iterator", data := .fields #[.ref t, .int 0 0] }).push
      { cls := .type "enumerate", data := .fields #[.none, .bool false, .ref s.heap.objs.size, rawInt 0, .none, .none] }) (s.heap.objs.size + 1) s.heap.objs.size 0 .none := by
    have := Heap.get?_push_size (s.heap.push { cls := .type "tuple_iterator", data := .fields #[.ref t, .int 0 0] })
      (o := { cls := .type "enumerate", data := .fields #[.none, .bool false, .ref s.heap.objs.size, rawInt 0, .none, .none] }) rfl
    rw [hz] at this
    exact this
  refine ⟨⟨_, he, rfl⟩, h _ he ⟨_, Heap.get?_push_of_some _ (Heap.get?_push_size _ rfl), rfl, rfl⟩ (by rw [Heap.size_push, hz]) fun b o x => Heap.get?_push_of_some _ (Heap.get?_push_of_some _ x)⟩
theorem enumT_end {prog : Program} {w : World} {A : Around} {E : Value → Shared → Prop} {s : Shared} {e it t : Addr} {i : Nat} {c : Int} {items : Array Value} {old : Value} {Q : Option Value → Shared → Prop} (hh : A.handled = none)
    (he : IsEnum s.heap e it c old) (hit : s.heap.IsTupleIter it t i) (ht : s.heap.IsTuple t items) (hx : items[i]? = none)
    (hQ : ∀ h', Heap.ExtBut it s.heap h' → Q none { s with heap := h' }) : wpAny (model prog w) A (pyNext (.ref e)) Q E s := by
  have hT : s.TypeIs (.ref e) "enumerate" := ⟨_, he, rfl⟩
  unfold pyNext
  refine wpAny_bind (wpAny_attempt (wpAny_callSpecial?_slot (name := Str.ofString "__next__") hT F.slot_enumerate_next
    (wpAny_call_entry F.slot_enumerate_next hT F.entry_enumerate_next ?_ (F.args_enumerate_next_1 _))))
  show wpAny _ _ (field (.ref e) 2 >>= _) _ _ _
  refine wpAny_bind (wpAny_field he rfl (x := .ref it) rfl ?_)
  refine wpAny_bind (RZ.nextOf_tuple_end hh hit ht hx fun h' x he' hx' => ?_)
  obtain ⟨o, ho, hc⟩ := hx'
  refine wpAny_bind (wpAny_isInstance (T := "StopIteration") (b := true) ⟨o, ho, hc⟩ isSubtype_stop ?_)
  exact wpAny_pure (hQ _ he')
/-- the tuple at a, each item in a new pair -/
def Itet (K : PySem.W.Frag) (a : Addr) : It :=
  ⟨fun i H => ∃ (xs : List V) (x : V), SqT K H a xs ∧ xs[i]? = some x, fun i H v H' => ∃ T x, v = .ref T ∧ H T = none ∧ H' = upd H T (.tup [.int (i : Nat), x]) ∧ ∀ xs, SqT K H a xs → xs[i]? = some x, fun i H => ∃ xs : List V, SqT K H a xs ∧ xs.length ≤ i⟩
theorem turn_enumT {P : Program} {w : World} {K : PySem.W.Frag} {elts : List Expr} {kk : Nat} {tpos : Pos} (a e it : Addr) :
    Turn P w K (.Tuple elts kk tpos) (Itet K a) [e, it] e (fun i h => (∃ old, IsEnum h e it ((i : Nat) : Int) old) ∧ h.IsTupleIter it a i ∧ e ≠ it ∧ a ≠ it ∧ e ≠ a) where
  mem := by simp
  obj := fun i h st b hb => by
    obtain ⟨⟨old, he⟩, ⟨o, ho, hc, hd⟩, _⟩ := st
    have e' : b = e ∨ b = it := by simpa using hb
    rcases e' with z | z
    · rw [z]; exact ⟨_, he, fun v q => nomatch q⟩
    · rw [z]; exact ⟨o, ho, fun v q => by rw [hd] at q; cases q⟩
  keep := fun i h h' st k => let ⟨⟨old, he⟩, hi, hne⟩ := st; ⟨⟨old, k e (by simp) _ he⟩, hi.at fun o q => k it (by simp) o q, hne⟩
  item := by
    intro X hP hw hK hc i pins s σ H E I hf st hg
    subst hP hw hK
    obtain ⟨⟨old, he⟩, hit, hne, hai, hea⟩ := st
    obtain ⟨xs, x, hq, hx⟩ := hg
    obtain ⟨its, rv, p, hz⟩ := I.tuple hq
    have p : s.heap.IsTuple a its.toArray := p
    obtain ⟨u, hu, ru⟩ := rv.get hx
    have hlt : i < its.toArray.size := by simpa using (List.getElem?_eq_some_iff.mp hu).1
    have hel : e < s.heap.objs.size := Heap.lt_size he
    have hil : it < s.heap.objs.size := by obtain ⟨_, q, _⟩ := hit; exact Heap.lt_size q
    refine wpAny_pyNext_enum_itemD (Draws.tuple (A := X.A.in1) (I.ok.hd hc) it a hai its.toArray) he ⟨hit, p⟩ hlt hne (by simp [hne, hea]) fun u' h' tk hu' ho hit' hT hsz hk => ?_
    have hu2 : its[i]? = some u' := by simpa using hu'
    rw [hu] at hu2
    cases hu2
    refine ⟨_, rfl, wpAny_letOwnedTupleGo_enum (s := { s with heap := h', toks := tk + 1 }) ho fun h'' he' sb => ?_⟩
    have hT2 : h''.get? s.heap.objs.size = some { cls := .type "tuple", data := .seq #[.int i tk, u] } := (sb.2 _ (Nat.ne_of_gt hel)).trans hT
    have new : ObjOk X.prog X.w (upd H s.heap.objs.size (.tup [.int (i : Nat), x])) h'' s.heap.objs.size (.tup [.int (i : Nat), x]) :=
      ⟨by show 2 ≤ sizeLine; decide, [.int i tk, u], .cons ⟨_, rfl⟩ (.cons ru .nil), ⟨_, hT2, rfl, _, rfl⟩⟩
    have I1 : Inv X pins σ (upd H s.heap.objs.size (.tup [.int (i : Nat), x])) { s with heap := h'', toks := tk + 1 } :=
      I.turnedNew (ch := [e, it]) (fun b ob hb q => (sb.2 b (fun z => hb (by simp [z]))).trans (hk b ob (fun z => hb (by simp [z])) (fun z => hb (by simp [z])) q)) hf (Nat.le_refl _) new
    refine ⟨.ref s.heap.objs.size, _, I1, rfl, ⟨_, x, rfl, I.hok.fresh (Nat.le_refl _), rfl, fun ys hy => by rw [I.tuple_inj hy hq]; exact hx⟩, ⟨⟨u, ?_⟩, hit'.1.at fun o q => (sb.2 it (Ne.symm hne)).trans q, hne, hai, hea⟩, fun b hb => ?_⟩
    · have e1 : ((i + 1 : Nat) : Int) = (i : Int) + 1 := by omega
      rw [e1]; exact he'
    · have hb' : b < s.heap.objs.size := by
        have e' : b = e ∨ b = it := by simpa using hb
        rcases e' with z | z
        · rw [z]; exact hel
        · rw [z]; exact hil
      rw [upd_ne (Nat.ne_of_lt hb')]
      exact (hf b hb).1
  done := by
    intro X hP hw hK hc i pins s σ H E I hf st hg
    subst hP hw hK
    obtain ⟨⟨old, he⟩, hit, hne, hai, hea⟩ := st
    obtain ⟨xs, hq, hx⟩ := hg
    obtain ⟨its, rv, p, hz⟩ := I.tuple hq
    have p : s.heap.IsTuple a its.toArray := p
    obtain ⟨f0, f1, f2, f3, f4, f5⟩ := hf it (by simp)
    have hl := rv.length
    exact enumT_end (I.ok.hd hc) he hit p (by simp; omega) fun h' eb => ⟨rfl, I.turned (t' := s.toks) (fun b o hb q => eb b o hb q) f0 f1 f3 f4 f5⟩
  self := fun A i s Q E st h => let ⟨⟨_, he⟩, _⟩ := st; wpAny_pyIter_enum he h
def iEnumT (K : PySem.W.Frag) (ta : TA) : TI := fun σ H R => ta σ H fun vs H1 => ∃ a xs, vs = [.ref a] ∧ SqT K H1 a xs ∧ R (Itet K a) H1
theorem pi_enumT {X : Cx} {e : Expr} {ta : TA} {p pos tpos : Pos} {elts : List Expr} {kk : Nat} (hg : Gl X "enumerate") (hm : X.mg "enumerate" = none) (ha : PA X [e] ta) (hs : starEach [e] X.env = [(false, eval e X.env)] := by rfl) :
    PI X (.Tuple elts kk tpos) (.Call (.Name "enumerate" p) [e] [] pos) (iEnumT X.K ta) := by
  refine ⟨fun pins s σ H R I h => ?_⟩
  refine Call_ (ld_blt I hg hm PyProof.Rows.boot_enumerate (PyProof.Rows.callWith_type1 (thn (ha.run pos pins s σ H _ I h) fun us s1 ⟨vs, H1, I1, r1, q1⟩ => ?_) hs rfl))
  obtain ⟨a, xs, ex, hq, q⟩ := q1
  subst ex
  cases r1 with
  | cons r rr =>
    cases rr
    cases r
    obtain ⟨its, rv, p', hz⟩ := I1.tuple hq
    have p' : s1.heap.IsTuple a its.toArray := p'
    have al : a < s1.heap.objs.size := by obtain ⟨_, q, _⟩ := p'; exact Heap.lt_size q
    refine call_enumerate_tuple p' fun h' he hit hsz hk => wpAny_pyIter_enum he ?_
    have I2 : Inv X pins σ H1 { s1 with heap := h' } := I1.kept (t' := s1.toks) hk
    refine ⟨s1.heap.objs.size + 1, [s1.heap.objs.size + 1, s1.heap.objs.size], _, _, H1, rfl, I2, turn_enumT a (s1.heap.objs.size + 1) s1.heap.objs.size, ⟨⟨.none, he⟩, hit, Nat.succ_ne_self _, Nat.ne_of_lt al, Nat.ne_of_gt (Nat.lt_succ_of_lt al)⟩, fun b hb => ?_, q⟩
    have e' : b = s1.heap.objs.size + 1 ∨ b = s1.heap.objs.size := by simpa using hb
    have hle : s1.heap.objs.size ≤ b := by
      rcases e' with z | z
      · rw [z]; exact Nat.le_add_right _ _
      · rw [z]; exact Nat.le_refl _
    exact I1.fpOk hle (I1.hok.fresh hle)
/-- a comprehension over enumerate of a tuple -/
theorem lc_enumT {K : PySem.W.Frag} {a : Addr} {xs : List V} {g : TG} {tt : TT} {te : TE} {vs : List Nat} {σ : L2.St} {H1 : Hp} {D : Addr} {Qd : Hp → Prop} (Pv : Nat → Hp → Prop) (h0 : Pv 0 (upd H1 D (.lst []))) (hl : ∀ i H, Pv i H → SqT K H a xs)
    (hs : ∀ (i : Nat) (x : V) (T : Addr) (H : Hp), xs[i]? = some x → Pv i H → H T = none → g (.ref T) (wipe σ vs) (upd H T (.tup [.int (i : Nat), x])) fun σ2 H2 => wipe σ2 vs = wipe σ vs ∧ tt σ2 H2 fun b H3 =>
      if b = true then te σ2 H3 fun y H4 => ∃ acc, H4 D = some (.lst acc) ∧ acc.length < sizeLine ∧ Pv (i + 1) (upd H4 D (.lst (acc ++ [y]))) else Pv (i + 1) H3) (hd : ∀ H, Pv xs.length H → Qd H) :
    ∃ W : Nat → Nat → Hp → Prop, (∃ m, W 0 m (upd H1 D (.lst []))) ∧ ∀ i m H, W i m H → ((Itet K a).stop i H ∧ Qd H) ∨ ((Itet K a).go i H ∧ ∃ Nx : Hp → Prop, (∀ H', Nx H' → ∃ m', m' < m ∧ W (i + 1) m' H') ∧ ∀ x H', (Itet K a).yld i H x H' → g x (wipe σ vs) H' fun σ2 H2 => wipe σ2 vs = wipe σ vs ∧ tt σ2 H2 fun b H3 =>
        if b = true then te σ2 H3 fun y H4 => ∃ acc, H4 D = some (.lst acc) ∧ acc.length < sizeLine ∧ Nx (upd H4 D (.lst (acc ++ [y]))) else Nx H3) := by
  refine ⟨fun i m H => m = xs.length - i ∧ i ≤ xs.length ∧ Pv i H, ⟨xs.length, by omega, Nat.zero_le _, h0⟩, ?_⟩
  rintro i m H ⟨rfl, hi, p⟩
  have q := hl i H p
  by_cases hlt : i < xs.length
  · refine .inr ⟨⟨xs, xs[i], q, List.getElem?_eq_getElem hlt⟩, Pv (i + 1), fun H' p' => ⟨xs.length - (i + 1), by omega, rfl, hlt, p'⟩, fun v H' y => ?_⟩
    obtain ⟨T, x', rfl, hT, rfl, f⟩ := y
    exact hs i x' T H (f xs q) p hT
  · have e : i = xs.length := by omega
    subst e
    exact .inl ⟨⟨xs, q, Nat.le_refl _⟩, hd H p⟩
end
/-! ### which common breakers open first -/
def rnL (m : Nat → Bool) (N : Nat) : List Int := (List.range N).map fun i => (runF m (i + 1) : Int)
def lgO (m : Nat → Bool) (p : Nat) : Option Int := if (List.range p).all m = true then none else some (maxR m (2 * p) : Int)
def opL (fr : List Tri) (L : Int) : List Nat := (List.range fr.length).filter fun k => decide ((fr[k]?.map fun b => b.1) = some L)
def FoIs (fr : List Tri) (m : Nat → Bool) (p : Nat) : Option (Int × List Nat) → Prop
  | none => fr = [] ∨ ((∃ q, q < p ∧ m q = false) ∧ ∀ b ∈ fr, (maxR m (2 * p) : Int) < b.1)
  | some (n, op) => ∃ L j : Nat, 1 ≤ L ∧ (∀ b ∈ fr, (L : Int) ≤ b.1) ∧ (∃ b ∈ fr, b.1 = (L : Int)) ∧ op = opL fr (L : Int) ∧ n = (j : Int) ∧ (∀ i, i ≤ j → runF m i < L) ∧ runF m (j + 1) = L
theorem FoIs.uniq {fr : List Tri} {m : Nat → Bool} {p : Nat} (hp : ∀ i, m (i + p) = m i) : ∀ {x y : Option (Int × List Nat)}, FoIs fr m p x → FoIs fr m p y → x = y
  | none, none, _, _ => rfl
  | none, some (n, op), h, ⟨L, j, _, l1, ⟨b, hb, eb⟩, _, _, _, h2⟩ => by
    rcases h with h | ⟨⟨q, hq, mq⟩, h⟩
    · subst h
      cases hb
    · have a := h b hb
      have c := maxR_sup hp (by omega) hq mq (j + 1)
      omega
  | some (n, op), none, ⟨L, j, _, l1, ⟨b, hb, eb⟩, _, _, _, h2⟩, h => by
    rcases h with h | ⟨⟨q, hq, mq⟩, h⟩
    · subst h
      cases hb
    · have a := h b hb
      have c := maxR_sup hp (by omega) hq mq (j + 1)
      omega
  | some (n, op), some (n', op'), ⟨L, j, _, l1, ⟨b, hb, eb⟩, eo, en, f1, f2⟩, ⟨L', j', _, l1', ⟨b', hb', eb'⟩, eo', en', f1', f2'⟩ => by
    have a := l1 b' hb'
    have a' := l1' b hb
    have : L = L' := by omega
    subst this
    have : j = j' := by
      rcases Nat.lt_trichotomy j j' with c | c | c
      · have := f1' (j + 1) (by omega)
        omega
      · exact c
      · have := f1 (j' + 1) (by omega)
        omega
    subst this
    rw [eo, eo', en, en']
/-- the first run that is long enough is just so long -/
theorem run_first {m : Nat → Bool} {L : Nat} (L1 : 1 ≤ L) : ∀ n : Nat, (∃ i, i ≤ n ∧ L ≤ runF m i) → ∃ j, j < n ∧ (∀ i, i ≤ j → runF m i < L) ∧ runF m (j + 1) = L
  | 0, ⟨i, hi, h⟩ => by
    have : i = 0 := by omega
    subst this
    have h : L ≤ 0 := h
    omega
  | n + 1, ⟨i, hi, h⟩ => by
    by_cases z : ∃ i, i ≤ n ∧ L ≤ runF m i
    · obtain ⟨j, h1, h2⟩ := run_first L1 n z
      exact ⟨j, by omega, h2⟩
    · have : i = n + 1 := by
        by_cases c : i ≤ n
        · exact absurd ⟨i, c, h⟩ z
        · omega
      subst this
      have low : ∀ i, i ≤ n → runF m i < L := fun i hi => Nat.lt_of_not_le fun q => z ⟨i, hi, q⟩
      refine ⟨n, Nat.lt_succ_self n, low, ?_⟩
      have h4 := low n (Nat.le_refl n)
      have h3 : (if m n = true then runF m n + 1 else 0) = runF m (n + 1) := rfl
      by_cases q : m n = true
      · rw [if_pos q] at h3
        omega
      · rw [if_neg q] at h3
        omega
theorem mkD_per {pat dead : List Nat} (i : Nat) : mkD pat dead (i + pat.length) = mkD pat dead i := by
  unfold mkD rtW
  rw [Nat.add_mod_right]
theorem mkD_mod {pat dead : List Nat} (i : Nat) : mkD pat dead i = mkD pat dead (i % pat.length) := by
  unfold mkD rtW
  rw [Nat.mod_mod]
theorem mkD_all {pat dead : List Nat} (p0 : 1 ≤ pat.length) (h : (List.range pat.length).all (mkD pat dead) = true) (i : Nat) : mkD pat dead i = true := by
  rw [mkD_mod]
  exact List.all_eq_true.mp h _ (List.mem_range.mpr (Nat.mod_lt _ (by omega)))
theorem not_all {m : Nat → Bool} {p : Nat} (h : ¬ (List.range p).all m = true) : ∃ q, q < p ∧ m q = false := by
  have h2 : (List.range p).all m = false := by simpa using h
  obtain ⟨q, hq, e⟩ := List.all_eq_false.mp h2
  exact ⟨q, List.mem_range.mp hq, by simpa using e⟩
theorem opL_step {fr : List Tri} {L : Int} {j : Nat} {b : Tri} (hb : fr[j]? = some b) : ((List.range (j + 1)).filter fun k => decide ((fr[k]?.map fun b => b.1) = some L)) = ((List.range j).filter fun k => decide ((fr[k]?.map fun b => b.1) = some L)) ++ if b.1 = L then [j] else [] := by
  have e1 : (fr[j]?.map fun b => b.1) = some b.1 := by rw [hb]; rfl
  rw [List.range_succ, List.filter_append, List.filter_cons, e1]
  by_cases z : b.1 = L
  · rw [if_pos z, if_pos (decide_eq_true (congrArg some z))]
    rfl
  · rw [if_neg z, if_neg (fun y => z (Option.some.inj (of_decide_eq_true y)))]
    rfl
/-- what is told of first openings, as it stands and as data -/
def FoAt (H : Hp) (x : V) : Option (Int × List Nat) → Prop
  | none => x = .non
  | some (n, op) => ∃ a l, x = .ref a ∧ H a = some (.tup [.int n, .ref l]) ∧ H l = some (.lst (op.map pnV))
theorem FoAt.same {H H' : Hp} (s : Same H H') {x : V} : ∀ {o : Option (Int × List Nat)}, FoAt H x o → FoAt H' x o
  | none, h => h
  | some (n, op), ⟨a, l, e, h1, h2⟩ => ⟨a, l, e, s _ _ h1, s _ _ h2⟩
def foD : Option (Int × List Nat) → PyData
  | none => .none
  | some (n, op) => .tuple [.int n, .list (op.map fun (k : Nat) => PyData.int (k : Int))]
theorem pns_dp {K : PySem.W.Frag} {H : Hp} : ∀ op : List Nat, DpAll K H (op.map pnV) (op.map fun (k : Nat) => PyData.int (k : Int))
  | [] => .nil
  | k :: r => .cons (.int _) (pns_dp r)
theorem FoAt.dp {K : PySem.W.Frag} {H : Hp} {x : V} : ∀ {o : Option (Int × List Nat)}, FoAt H x o → Dp K H x (foD o)
  | none, h => by
    have h : x = .non := h
    rw [h]
    exact .non
  | some (n, op), ⟨a, l, e, h1, h2⟩ => by
    rw [e]
    exact .tup (SqT.of h1) (.cons (.int _) (.cons (.lst (SqL.of h2) (pns_dp op)) .nil))
theorem pns_can : ∀ op : List Nat, PyData.canLayAll0 (op.map fun (k : Nat) => PyData.int (k : Int)) = true ∧ PyData.depthAll (op.map fun (k : Nat) => PyData.int (k : Int)) ≤ 3
  | [] => ⟨by simp [PyData.canLayAll0], by simp [PyData.depthAll]⟩
  | k :: r => by
    obtain ⟨h1, h2⟩ := pns_can r
    refine ⟨?_, ?_⟩
    · rw [List.map_cons, PyData.canLayAll0, h1]
      simp [PyData.canLay0]
    · rw [List.map_cons, PyData.depthAll]
      have : (PyData.int (k : Int)).depth ≤ 3 := by simp [PyData.depth]
      omega
theorem foD_sh : ∀ o : Option (Int × List Nat), SeqAt.shaped (foD o) = true
  | none => by decide
  | some (n, op) => by
    obtain ⟨h1, h2⟩ := pns_can op
    refine tup_sh ?_ ?_
    · simp [PyData.canLayAll0, PyData.canLay0, h1]
    · have h3 : (PyData.list (op.map fun (k : Nat) => PyData.int (k : Int))).depth ≤ 5 := by
        rw [PyData.depth]
        omega
      rw [PyData.depthAll, PyData.depthAll, PyData.depthAll]
      have h4 : (PyData.int n).depth ≤ 5 := by simp [PyData.depth]
      omega
theorem pns_eq : ∀ op : List Nat, PyData.eqvAll (op.map fun (k : Nat) => PyData.int (k : Int)) (op.map fun (k : Nat) => PyData.int (k : Int)) = true
  | [] => by simp [PyData.eqvAll]
  | k :: r => by
    rw [List.map_cons, PyData.eqvAll, pns_eq r]
    simp [PyData.eqv]
theorem foD_eq : ∀ o : Option (Int × List Nat), PyData.eqv (foD o) (foD o) = true
  | none => by simp [foD, PyData.eqv]
  | some (n, op) => by simp [foD, PyData.eqv, PyData.eqvAll, pns_eq op]
theorem SqT.nl' {K : PySem.W.Frag} {H H' : Hp} {a : Addr} {xs : List V} (h : SqT K H a xs) (s : NL H H') : SqT K H' a xs := by
  rcases h with h | h
  · rcases h with h | h
    · exact SqT.of (s _ _ h fun _ z => nomatch z)
    · exact .inl (.inr (by obtain ⟨u, h⟩ := h; exact ⟨u, s _ _ h fun _ z => nomatch z⟩))
  · exact .inr h
theorem rnL_get {m : Nat → Bool} {N i : Nat} (h : i < N) : ((rnL m N).map V.int)[i]? = some (.int (runF m (i + 1) : Int)) := by
  unfold rnL
  rw [List.getElem?_map, List.getElem?_map, List.getElem?_range h]
  rfl
theorem flat_ints' (ns : List Int) : (ns.map V.int).all flatV = true := List.all_eq_true.mpr fun x hx => by
  obtain ⟨k, _, rfl⟩ := List.mem_map.mp hx
  rfl
theorem eqV_int (a b : Int) : eqV (.int a) (.int b) = decide (a = b) := by
  unfold eqV
  rw [Bool.eq_iff_iff]
  simp
def spCkDown (C : Addr) : Sp := fun vs H Q _ => ∃ p fr svs pat st, ∃ (d : Addr) (dead : List Nat), vs = [.ref p, .ref d] ∧ RtV C H p fr svs pat st ∧ H d = some (.lst (dead.map pnV)) ∧ dead.Pairwise (· < ·) ∧ (∀ k ∈ dead, k < svs.length) ∧ Q .non H
def spFailing (C : Addr) : Sp := fun vs H Q _ => ∃ p fr svs pat st, ∃ (d : Addr) (dead : List Nat), vs = [.ref p, .ref d] ∧ RtV C H p fr svs pat st ∧ H d = some (.lst (dead.map pnV)) ∧ ∀ l H', H' l = some (.lst ((rnL (mkD pat dead) (2 * pat.length)).map V.int)) → Same H H' → H l = none → Q (.ref l) H'
def spLongest (C : Addr) : Sp := fun vs H Q _ => ∃ p fr svs pat st, ∃ (d : Addr) (dead : List Nat), vs = [.ref p, .ref d] ∧ RtV C H p fr svs pat st ∧ H d = some (.lst (dead.map pnV)) ∧ dead.Pairwise (· < ·) ∧ (∀ k ∈ dead, k < svs.length) ∧ ∀ H', Same H H' → Q (cV (lgO (mkD pat dead) pat.length)) H'
def spFirst (C : Addr) : Sp := fun vs H Q _ => ∃ p fr svs pat st, ∃ (d : Addr) (dead : List Nat), vs = [.ref p, .ref d] ∧ RtV C H p fr svs pat st ∧ H d = some (.lst (dead.map pnV)) ∧ dead.Pairwise (· < ·) ∧ (∀ k ∈ dead, k < svs.length) ∧ ∀ x o H', FoIs fr (mkD pat dead) pat.length o → FoAt H' x o → Same H H' → Q x H'
theorem inV_pns (k : Nat) : ∀ dead : List Nat, inV (pnV k) (dead.map pnV) = decide (k ∈ dead)
  | [] => by simp [inV]
  | d :: r => by
    have ih := inV_pns k r
    unfold inV at ih ⊢
    rw [List.map_cons, List.any_cons, ih, Bool.eq_iff_iff, Bool.or_eq_true, decide_eq_true_iff, decide_eq_true_iff, List.mem_cons]
    have e : (eqV (pnV d) (pnV k) = true) ↔ k = d := by
      unfold pnV eqV
      simp
      omega
    rw [e]
theorem flat_pns (dead : List Nat) : (dead.map pnV).all flatV = true := List.all_eq_true.mpr fun x hx => by
  obtain ⟨k, _, rfl⟩ := List.mem_map.mp hx
  rfl
section
variable {P : Program} {w : World} {K : PySem.W.Frag} {mg : Str → Option Value} {base : Heap} {L : LA}
abbrev N_checkdown : List Str := ["routes", "down", "least", "service"]
theorem sc_checkdown : FnScope N_checkdown ["routes", "down"] (defScope st_check_down) := ⟨rfl, rfl, rfl, by decide +kernel, rfl, by decide +kernel, by decide +kernel⟩
theorem fn_checkdown (T : LX K mg L) {fd : FuncData} (F : Fun K "check_down" "check_down" st_check_down L.f_check_down fd) : FnOk P w K mg base CX0 3 L.f_check_down fd ["routes", "down"] (spCkDown L.c_Routes) := by
  have G_iswithin := ok_iswithin (P := P) (w := w) (base := base) T
  have nd := sc_checkdown.nd
  refine F.ok sc_checkdown (fun vs H Q E h => ?_) (fun cdv A outer S H vs Q E hr h => ?_)
  · obtain ⟨p, fr, svs, pat, st, d, dead, rfl, _⟩ := h
    rfl
  · obtain ⟨p, fr, svs, pat, st, d, dead, rfl, RV, hd, pw, db, k⟩ := h
    refine ⟨_, (pss_cons (ps_if (pt_not (pt_val (pe_callB call_isi (by rfl) T.b_isinstance (by decide +kernel) (pa_cons (pv 1) (pa_cons (pe_bltn (by rfl) T.b_list (by decide +kernel : bootBuiltins "list" = some (.type "list")) (v := .ty "list") rfl) pa_nil))))) (pss_one (ps_never)) pss_nil)
       (pss_cons (ps_set (i := 2) nd rfl (Or.inl rfl) pe_int)
       (pss_one (ps_for PassesOwn.never rfl (pi_list (pv 1)) (pg_name (i := 3) nd rfl (Or.inl rfl)) (pss_cons (ps_if (pt_not (pt_val (pe_c G_iswithin (hr.mono (by decide)) rfl (pa_cons (pv 3) (pa_cons (pv 2) (pa_cons (pe_op op_sub (pe_callB call_len_seq (by rfl) T.b_len PySem.boot_len (pa_cons (pe_fld (pv 0) rfl) pa_nil)) pe_int) pa_nil)))))) (pss_one (ps_never)) pss_nil)
       (pss_one (ps_set (i := 2) nd rfl (Or.inl rfl) (pe_op op_add (pv 3) pe_int)))))))), ?_⟩
    obtain ⟨aC, aS, aP, xC, xS, R⟩ := RV
    obtain ⟨dx, hp⟩ := R.ob
    have sl := paired_len R.sv
    refine ⟨_, rfl, _, .ty "list", _, _, _, rfl, .ty "list", (Kd.lst hd).ty, (Kd.lst hd).kit "list" _ (.inr ⟨by decide, by decide, rfl⟩), _, rfl, iteF ?_⟩
    refine ⟨_, rfl, d, rfl, ⟨_, SqL.of hd⟩, ?_⟩
    refine for_list (K := K) (a := d) (xs := dead.map pnV) (fun i σ Hc => ∃ (v3 : Option V) (ls : Int), σ = [some (.ref p), some (.ref d), some (.int ls), v3] ∧ 0 ≤ ls ∧ (∀ k, k ∈ dead.drop i → ls ≤ (k : Int)) ∧ Hc = H) ⟨none, 0, rfl, Int.le_refl _, fun k _ => by omega, rfl⟩ (fun i σ Hc _ ⟨_, _, _, _, _, e⟩ => by rw [e]; exact SqL.of hd) ?_ ?_
    · rintro i x σ Hc hxi ⟨v3, ls, rfl, l0, hls, rfl⟩
      rw [List.getElem?_map] at hxi
      obtain ⟨k', hk', rfl⟩ := Option.map_eq_some_iff.mp hxi
      have hi := (List.getElem?_eq_some_iff.mp hk').1
      have dr : dead.drop i = k' :: dead.drop (i + 1) := by
        rw [List.drop_eq_getElem_cons hi]
        congr 1
        exact (List.getElem?_eq_some_iff.mp hk').2
      have h1 := hls k' (by rw [dr]; exact List.mem_cons_self ..)
      have h2 := db k' (List.mem_of_getElem? hk')
      have pd := pw.drop (i := i)
      rw [dr] at pd
      have h3 := (List.pairwise_cons.mp pd).1
      refine ⟨_, rfl, _, rfl, _, rfl, p, L.c_Routes, dx, _, _, rfl, hp, T.cf_Routes.cl, T.nf_Routes_services, rtF_s _ _ _ _, aS, xS, rfl, .inr (SqT.of R.hS), _, _, rfl, rfl, _, _, _, _, rfl, .int _, _, rfl, ?_⟩
      show if (!(isI (V.int (k' : Int)) && (decide (ls ≤ (k' : Int)) && decide ((k' : Int) ≤ ((xS.length : Nat) : Int) - 1)))) = true then _ else _
      rw [k6_pos h1 (show (k' : Int) ≤ ((xS.length : Nat) : Int) - 1 by omega)]
      refine iteF ⟨_, rfl, _, _, rfl, rfl, _, (k' : Int) + 1, rfl, by omega, fun m hm => ?_, rfl⟩
      have := h3 m hm
      omega
    · rintro σ Hc ⟨v3, ls, rfl, l0, hls, rfl⟩
      exact k
theorem ok_checkdown (T : LX K mg L) : Cal P w K mg base "check_down" 3 L.f_check_down ["routes", "down"] (spCkDown L.c_Routes) := T.d_check_down.cal fun fd F => fn_checkdown T F
abbrev N_failingruns : List Str := ["routes", "down", "runs", "length", "service"]
theorem sc_failingruns : FnScope N_failingruns ["routes", "down"] (defScope st_failing_runs) := ⟨rfl, rfl, rfl, by decide +kernel, rfl, by decide +kernel, by decide +kernel⟩
theorem fn_failingruns (T : LX K mg L) {fd : FuncData} (F : Fun K "failing_runs" "failing_runs" st_failing_runs L.f_failing_runs fd) : FnOk P w K mg base CX0 2 L.f_failing_runs fd ["routes", "down"] (spFailing L.c_Routes) := by
  have nd := sc_failingruns.nd
  refine F.ok sc_failingruns (fun vs H Q E h => ?_) (fun cdv A outer S H vs Q E hr h => ?_)
  · obtain ⟨p, fr, svs, pat, st, d, dead, rfl, _⟩ := h
    rfl
  · obtain ⟨p, fr, svs, pat, st, d, dead, rfl, RV, hd, k⟩ := h
    refine ⟨_, (pss_cons (ps_set (i := 2) nd rfl (Or.inl rfl) (pe_lst pa_nil))
       (pss_cons (ps_set (i := 3) nd rfl (Or.inl rfl) pe_int)
       (pss_cons (ps_for PassesOwn.never rfl (pi_tup (pe_op (r := rCatA K) op_catA (pe_fld (pv 0) rfl) (pe_fld (pv 0) rfl))) (pg_name (i := 4) nd rfl (Or.inl rfl)) (pss_cons (ps_set (i := 3) nd rfl (Or.inl rfl) (pe_ifExp (pt_cmpR op_in_seq (pv 4) (pv 1) rfl) (pe_op op_add (pv 3) pe_int) pe_int))
       (pss_one (ps_expr (pe_bm PySem.F.plainAttrs_list PySem.F.slot_list_append PySem.F.type_list_append mt_append (pv 2) (pa_cons (pv 3) pa_nil))))))
       (pss_one (ps_ret (pv 2)))))), ?_⟩
    obtain ⟨aC, aS, aP, xC, xS, R⟩ := RV
    obtain ⟨dx, hp⟩ := R.ob
    have p0 := R.p0
    have p1 := R.p1
    refine ⟨(by show 0 ≤ sizeLine; decide), fun lr hlr => ?_⟩
    have s1 := Same.upd (o := .lst []) hlr
    have hlr1 : (upd H lr (.lst [])) lr = some (.lst []) := upd_same
    generalize upd H lr (.lst []) = Hr at s1 hlr1 ⊢
    have R1 := R.nl (NL.of s1)
    have pl : (pat.map pnV).length = pat.length := List.length_map ..
    refine ⟨_, rfl, p, L.c_Routes, dx, _, _, rfl, s1 _ _ hp, T.cf_Routes.cl, T.nf_Routes_pattern, rtF_p _ _ _ _, _, rfl, p, L.c_Routes, dx, _, _, rfl, s1 _ _ hp, T.cf_Routes.cl, T.nf_Routes_pattern, rtF_p _ _ _ _, catA_of (SqT.of R1.hP) (SqT.of R1.hP) (Nat.le_trans (show _ ≤ 100 by omega) (by decide)) fun c H2 s2 hc => ⟨c, rfl, ⟨_, hc⟩, ?_⟩⟩
    refine for_tup (K := K) (a := c) (xs := pat.map pnV ++ pat.map pnV) (fun i σ Hx => ∃ v4 : Option V, σ = [some (.ref p), some (.ref d), some (.ref lr), some (.int (runF (mkD pat dead) i : Int)), v4] ∧ Hx lr = some (.lst ((rnL (mkD pat dead) i).map V.int)) ∧ Kp lr H2 Hx ∧ Same H Hx)
      ⟨none, rfl, s2 _ _ hlr1, Kp.refl, s1.trans s2⟩ (fun i σ Hx _ ⟨_, _, _, kx, _⟩ => SqT.nl' hc (Kp.nl kx (s2 _ _ hlr1))) ?_ ?_
    · rintro i x σ Hx hxi ⟨v4, rfl, hrx, kx, sx⟩
      have hi : i < 2 * pat.length := by
        have := (List.getElem?_eq_some_iff.mp hxi).1
        rw [List.length_append, pl] at this
        omega
      have hx : x = pnV (rtW pat i) := by
        have e1 := (rtW_lt p0 R.pb i).1
        by_cases c : i < pat.length
        · rw [List.getElem?_append_left (by omega), List.getElem?_map] at hxi
          rw [Nat.mod_eq_of_lt c] at e1
          rw [e1] at hxi
          exact (Option.some.inj hxi).symm
        · rw [List.getElem?_append_right (by omega), pl, List.getElem?_map] at hxi
          rw [Nat.mod_eq_sub_mod (by omega), Nat.mod_eq_of_lt (by omega)] at e1
          rw [e1] at hxi
          exact (Option.some.inj hxi).symm
      subst hx
      have hdx := sx _ _ hd
      refine ⟨_, rfl, _, rfl, d, _, rfl, .inl (SqL.of hdx), rfl, flat_pns _, _, rfl, ?_⟩
      show if inV (pnV (rtW pat i)) (dead.map pnV) = true then _ else _
      rw [inV_pns]
      have er : runF (mkD pat dead) (i + 1) = if rtW pat i ∈ dead then runF (mkD pat dead) i + 1 else 0 := by
        show (if mkD pat dead i = true then _ else _) = _
        unfold mkD
        by_cases c : rtW pat i ∈ dead
        · rw [if_pos c, if_pos (decide_eq_true c)]
        · rw [if_neg c, if_neg (fun z => c (of_decide_eq_true z))]
      have el : (rnL (mkD pat dead) (i + 1)).map V.int = (rnL (mkD pat dead) i).map V.int ++ [.int (runF (mkD pat dead) (i + 1) : Int)] := by
        unfold rnL
        rw [List.range_succ, List.map_append, List.map_append]
        rfl
      have ll : ((rnL (mkD pat dead) i).map V.int).length = i := by
        unfold rnL
        rw [List.length_map, List.length_map, List.length_range]
      have nH : H lr = none := hlr
      refine ite2 (fun c => ?_) (fun c => ?_)
      · rw [if_pos (of_decide_eq_true c)] at er
        refine ⟨_, rfl, _, _, rfl, rfl, ⟨_, rfl, .inl ⟨rfl, _, SqL.of hrx⟩, _, rfl, lr, _, _, rfl, rfl, hrx, small1 (by omega), ?_⟩⟩
        refine ⟨_, by rw [er]; rfl, by rw [upd_same, el, er]; rfl, kx.trans Kp.upd, fun b o e => by rw [upd_ne (ne_of_none e nH)]; exact sx _ _ e⟩
      · rw [if_neg (fun z => c (decide_eq_true z))] at er
        refine ⟨_, rfl, .inl ⟨rfl, _, SqL.of hrx⟩, _, rfl, lr, _, _, rfl, rfl, hrx, small1 (by omega), ?_⟩
        refine ⟨_, by rw [er]; rfl, by rw [upd_same, el, er]; rfl, kx.trans Kp.upd, fun b o e => by rw [upd_ne (ne_of_none e nH)]; exact sx _ _ e⟩
    · rintro σ Hx ⟨v4, rfl, hrx, kx, sx⟩
      rw [List.length_append, pl, ← Nat.two_mul] at hrx
      exact ⟨_, rfl, k lr Hx hrx sx hlr⟩
theorem ok_failingruns (T : LX K mg L) : Cal P w K mg base "failing_runs" 2 L.f_failing_runs ["routes", "down"] (spFailing L.c_Routes) := T.d_failing_runs.cal fun fd F => fn_failingruns T F
abbrev N_longestfailure : List Str := ["routes", "down", "longest"]
theorem sc_longestfailure : FnScope N_longestfailure ["routes", "down"] (defScope st_longest_failure) := ⟨rfl, rfl, rfl, by decide +kernel, rfl, by decide +kernel, by decide +kernel⟩
theorem fn_longestfailure (T : LX K mg L) {fd : FuncData} (F : Fun K "longest_failure" "longest_failure" st_longest_failure L.f_longest_failure fd) : FnOk P w K mg base CX0 4 L.f_longest_failure fd ["routes", "down"] (spLongest L.c_Routes) := by
  have G_checkdown := ok_checkdown (P := P) (w := w) (base := base) T
  have G_failingruns := ok_failingruns (P := P) (w := w) (base := base) T
  have nd := sc_longestfailure.nd
  refine F.ok sc_longestfailure (fun vs H Q E h => ?_) (fun cdv A outer S H vs Q E hr h => ?_)
  · obtain ⟨p, fr, svs, pat, st, d, dead, rfl, _⟩ := h
    rfl
  · obtain ⟨p, fr, svs, pat, st, d, dead, rfl, RV, hd, pw, db, k⟩ := h
    refine ⟨_, (pss_cons (ps_expr (pe_c G_checkdown (hr.mono (by decide)) rfl (pa_cons (pv 0) (pa_cons (pv 1) pa_nil))))
       (pss_cons (ps_set (i := 2) nd rfl (Or.inl rfl) (pe_callB (cr_max rfl) (by rfl) T.b_max (by decide +kernel) (pa_cons (pe_c G_failingruns (hr.mono (by decide)) rfl (pa_cons (pv 0) (pa_cons (pv 1) pa_nil))) pa_nil)))
       (pss_cons (ps_if (pt_cmpR op_gt (pv 2) (pe_callB call_len_seq (by rfl) T.b_len PySem.boot_len (pa_cons (pe_fld (pv 0) rfl) pa_nil)) (nomark _)) (pss_one (ps_ret pe_non)) pss_nil)
       (pss_one (ps_ret (pv 2)))))), ?_⟩
    have RV0 := RV
    obtain ⟨aC, aS, aP, xC, xS, R⟩ := RV
    obtain ⟨dx, hp⟩ := R.ob
    have p0 := R.p0
    have pl : (pat.map pnV).length = pat.length := List.length_map ..
    refine ⟨_, rfl, _, rfl, p, fr, svs, pat, st, d, dead, rfl, RV0, hd, pw, db, ?_⟩
    refine ⟨_, rfl, _, rfl, p, fr, svs, pat, st, d, dead, rfl, RV0, hd, fun l H1 hl s1 n1 => ?_⟩
    refine ⟨l, rnL (mkD pat dead) (2 * pat.length), rfl, SqL.of hl, by unfold rnL; rw [List.length_map, List.length_range]; omega, fun mx h1 h2 => ?_⟩
    have em := maxR_is h1 h2
    subst em
    refine ⟨_, rfl, _, rfl, p, L.c_Routes, dx, _, _, rfl, s1 _ _ hp, T.cf_Routes.cl, T.nf_Routes_pattern, rtF_p _ _ _ _, aP, _, rfl, .inr (SqT.of (R.nl (NL.of s1)).hP), _, _, rfl, rfl, _, rfl, ?_⟩
    rw [pl]
    have kk := k H1 s1
    unfold lgO at kk
    by_cases c : (List.range pat.length).all (mkD pat dead) = true
    · rw [if_pos c] at kk
      have ea := mkD_all p0 c
      have : maxR (mkD pat dead) (2 * pat.length) ≥ 2 * pat.length := by
        have := maxR_ge (mkD pat dead) (n := 2 * pat.length) (j := 2 * pat.length) (Nat.le_refl _)
        rw [runF_all ea] at this
        exact this
      rw [decide_eq_true (show ((pat.length : Nat) : Int) < (maxR (mkD pat dead) (2 * pat.length) : Nat) by omega)]
      exact iteT kk
    · rw [if_neg c] at kk
      obtain ⟨q, hq, mq⟩ := not_all c
      have := maxR_lt (m := mkD pat dead) mkD_per p0 hq mq
      rw [decide_eq_false (show ¬ ((pat.length : Nat) : Int) < (maxR (mkD pat dead) (2 * pat.length) : Nat) by omega)]
      exact iteF ⟨_, rfl, kk⟩
theorem ok_longestfailure (T : LX K mg L) : Cal P w K mg base "longest_failure" 4 L.f_longest_failure ["routes", "down"] (spLongest L.c_Routes) := T.d_longest_failure.cal fun fd F => fn_longestfailure T F
abbrev N_firstopening : List Str := ["routes", "down", "longest", "least", "opened", "place", "breaker"]
theorem sc_firstopening : FnScope N_firstopening ["routes", "down"] (defScope st_first_opening) := ⟨rfl, rfl, rfl, by decide +kernel, rfl, by decide +kernel, by decide +kernel⟩
theorem fn_firstopening (T : LX K mg L) {fd : FuncData} (F : Fun K "first_opening" "first_opening" st_first_opening L.f_first_opening fd) : FnOk P w K mg base CX0 5 L.f_first_opening fd ["routes", "down"] (spFirst L.c_Routes) := by
  have G_longestfailure := ok_longestfailure (P := P) (w := w) (base := base) T
  have G_failingruns := ok_failingruns (P := P) (w := w) (base := base) T
  have nd := sc_firstopening.nd
  refine F.ok sc_firstopening (fun vs H Q E h => ?_) (fun cdv A outer S H vs Q E hr h => ?_)
  · obtain ⟨p, fr, svs, pat, st, d, dead, rfl, _⟩ := h
    rfl
  · obtain ⟨p, fr, svs, pat, st, d, dead, rfl, RV, hd, pw, db, k⟩ := h
    refine ⟨_, (pss_cons (ps_set (i := 2) nd rfl (Or.inl rfl) (pe_c G_longestfailure (hr.mono (by decide)) rfl (pa_cons (pv 0) (pa_cons (pv 1) pa_nil))))
       (pss_cons (ps_if (pt_cmpR (op_eqD hr.units) (pe_fld (pv 0) rfl) (pe_tup pa_nil) (nomark _)) (pss_one (ps_ret pe_non)) pss_nil)
       (pss_cons (ps_set (i := 3) nd rfl (Or.inr rfl) (pe_callB (cr_min rfl) (by rfl) T.b_min (by decide +kernel) (pa_cons (pe_lc (own := [("breaker", 6)]) (g := gName 6) (tt := tYes) rfl nd (pi_tup (pe_fld (pv 0) rfl)) (blkOk_by (own := [("breaker", 6)]) (N := N_firstopening) (sc := defScope st_first_opening) (by decide +kernel)) (fun _ _ _ _ _ => pg_name (i := 6) nd rfl (Or.inl rfl)) (fun _ _ _ _ _ => pts_nil) (fun _ _ _ _ _ => (pe_ix (r := rIxT K) ix_tup (pv 6) pe_int (fun _ _ => rfl)))) pa_nil)))
       (pss_cons (ps_setLc (i := 4) (own := [("place", 5), ("breaker", 6)]) (g := gTup K 2 (gCons (gName 5) (gCons (gName 6) (gNil)))) rfl nd rfl rfl (sw_true rfl rfl rfl (by decide +kernel)) (pi_enumT (by rfl) T.b_enumerate (pa_cons (pe_fld (pv 0) rfl) pa_nil)) (blkOk_by (own := [("place", 5), ("breaker", 6)]) (N := N_firstopening) (sc := defScope st_first_opening) (by decide +kernel)) (fun _ _ _ _ _ => pg_tup rfl (pgs_cons (pg_name (i := 5) nd rfl (Or.inl rfl)) (pgs_cons (pg_name (i := 6) nd rfl (Or.inl rfl)) pgs_nil))) (fun _ _ _ _ _ => pts_one (pt_cmpR op_eq (pe_ix (r := rIxT K) ix_tup (pv 6) pe_int (fun _ _ => rfl)) (pv 3) (nomark _))) (fun _ _ _ _ _ => (pv 5)))
       (pss_cons (ps_if (pt_cmp (pc_isN (pv 2))) (pss_one (ps_ret (pe_tup (pa_cons (pe_op op_sub (pv 3) pe_int) (pa_cons (pv 4) pa_nil))))) pss_nil)
       (pss_cons (ps_if (pt_cmpR op_gt (pv 3) (pv 2) (nomark _)) (pss_one (ps_ret pe_non)) pss_nil)
       (pss_one (ps_ret (pe_tup (pa_cons (pe_bm PySem.F.plainAttrs_list PySem.F.slot_list_index PySem.F.type_list_index mt_index (pe_c G_failingruns (hr.mono (by decide)) rfl (pa_cons (pv 0) (pa_cons (pv 1) pa_nil))) (pa_cons (pv 3) pa_nil)) (pa_cons (pv 4) pa_nil))))))))))), ?_⟩
    have RV0 := RV
    obtain ⟨aC, aS, aP, xC, xS, R⟩ := RV
    obtain ⟨dx, hp⟩ := R.ob
    have p0 := R.p0
    have xl := R.bC.len
    have l12 := R.lnC
    refine ⟨_, rfl, _, rfl, p, fr, svs, pat, st, d, dead, rfl, RV0, hd, pw, db, fun H1 s1 => ?_⟩
    have R1 := R.nl (NL.of s1)
    have hp1 := s1 _ _ hp
    refine ⟨_, rfl, p, L.c_Routes, dx, _, _, rfl, hp1, T.cf_Routes.cl, T.nf_Routes_common, rtF_c _ _ _ _, (by show 0 ≤ sizeLine; decide), fun te hte => ?_⟩
    have s2 := Same.upd (o := .tup []) hte
    refine ⟨.tuple (fr.map triD), .tuple [], .tup (SqT.of (s2 _ _ R1.hC)) ((R1.bC.nl (NL.of s2)).dp), .tup (SqT.of upd_same) .nil, shT fr, shT [], _, rfl, ?_⟩
    have ee : PyData.eqv (.tuple (fr.map triD)) (.tuple []) = decide (fr = []) := by
      rw [PyData.eqv]
      exact triDs_eq fr []
    rw [ee]
    have s12 := s1.trans s2
    have R2 := R1.nl (NL.of s2)
    have hp2 := s2 _ _ hp1
    generalize upd H1 te (.tup []) = H2 at s2 s12 R2 hp2 ⊢
    refine ite2 (fun c => ?_) (fun c => ?_)
    · exact k .non none H2 (.inl (of_decide_eq_true c)) rfl s12
    have fne : fr ≠ [] := fun e => c (decide_eq_true e)
    refine ⟨_, rfl, p, L.c_Routes, dx, _, _, rfl, hp2, T.cf_Routes.cl, T.nf_Routes_common, rtF_c _ _ _ _, aC, rfl, ⟨_, SqT.of R2.hC⟩, fun D hD => ?_⟩
    refine lc_tup (K := K) (a := aC) (xs := xC) (fun j Hx => Hx D = some (.lst (((fr.take j).map fun b => b.1).map V.int)) ∧ Same H2 Hx) ⟨upd_same, Same.upd hD⟩ (fun j Hx _ ⟨_, s⟩ => SqT.of (s _ _ R2.hC)) ?_ ?_
    · rintro j x Hx hxj ⟨hDx, sx⟩
      obtain ⟨b, hb, c0, rfl, hc0⟩ := (R2.bC.nl (NL.of sx)).get hxj
      have hj := (List.getElem?_eq_some_iff.mp hb).1
      refine ⟨rfl, tYes_of ⟨_, rfl, c0, _, 0, .int b.1, rfl, rfl, SqT.of hc0, rfl, _, hDx, small1 (by rw [List.length_map, List.length_map, List.length_take]; omega), ?_, fun u w e => by rw [upd_ne (ne_of_none e hD)]; exact sx _ _ e⟩⟩
      rw [upd_same, List.take_add_one, hb, List.map_append, List.map_append]
      rfl
    rintro H3 ⟨hD3, s3⟩
    rw [xl, List.take_length] at hD3
    refine ⟨D, fr.map fun b => b.1, rfl, SqL.of hD3, by rw [List.length_map]; exact List.length_pos_iff.mpr fne, fun mn h1 h2 => ?_⟩
    obtain ⟨b0, hb0, eb0⟩ := List.mem_map.mp h1
    have hmin : ∀ b ∈ fr, mn ≤ b.1 := fun b hb => h2 _ (List.mem_map.mpr ⟨b, hb, rfl⟩)
    have m1 : 1 ≤ mn := by
      have := (R.okC b0 hb0).1
      omega
    obtain ⟨Ln, rfl⟩ := Int.eq_ofNat_of_zero_le (show 0 ≤ mn by omega)
    have s13 := s12.trans s3
    have R3 := R2.nl (NL.of s3)
    refine ⟨_, rfl, p, L.c_Routes, dx, _, _, rfl, s3 _ _ hp2, T.cf_Routes.cl, T.nf_Routes_common, rtF_c _ _ _ _, aC, xC, rfl, SqT.of R3.hC, fun D2 hD2 => ?_⟩
    refine lc_enumT (K := K) (a := aC) (xs := xC) (fun j Hx => Hx D2 = some (.lst (((List.range j).filter fun k => decide ((fr[k]?.map fun b => b.1) = some (Ln : Int))).map pnV)) ∧ Same H3 Hx) ⟨upd_same, Same.upd hD2⟩ (fun j Hx ⟨_, s⟩ => SqT.of (s _ _ R3.hC)) ?_ ?_
    · rintro j x T' Hx hxj ⟨hDx, sx⟩ hT
      obtain ⟨b, hb, c0, rfl, hc0⟩ := (R3.bC.nl (NL.of sx)).get hxj
      have hj := (List.getElem?_eq_some_iff.mp hb).1
      have sT := Same.upd (o := .tup [.int (j : Nat), .ref c0]) hT
      have hcT := sT _ _ hc0
      have hDT := sT _ _ hDx
      have sxT := sx.trans sT
      have er : ((List.range (j + 1)).filter fun k => decide ((fr[k]?.map fun b => b.1) = some (Ln : Int))) = ((List.range j).filter fun k => decide ((fr[k]?.map fun b => b.1) = some (Ln : Int))) ++ if b.1 = (Ln : Int) then [j] else [] := by
        exact opL_step hb
      rw [er]
      refine ⟨T', _, rfl, SqT.of upd_same, rfl, _, _, rfl, _, _, rfl, rfl, rfl, ?_⟩
      refine ⟨_, rfl, c0, _, 0, .int b.1, rfl, rfl, SqT.of hcT, rfl, _, rfl, rfl, _, rfl, ite2 (fun z => ?_) (fun z => ?_)⟩
      · rw [if_pos (V.int.inj (of_decide_eq_true z)), List.map_append]
        refine ⟨_, rfl, _, hDT, small1 (by rw [List.length_map]; have := List.length_filter_le (fun k => decide ((fr[k]?.map fun b => b.1) = some (Ln : Int))) (List.range j); rw [List.length_range] at this; omega), upd_same, fun u w e => by rw [upd_ne (ne_of_none e hD2)]; exact sxT _ _ e⟩
      · rw [if_neg (fun y => z (decide_eq_true (congrArg V.int y))), List.append_nil]
        exact ⟨hDT, sxT⟩
    rintro H4 ⟨hD4, s4⟩
    have eop : ((List.range xC.length).filter fun k => decide ((fr[k]?.map fun b => b.1) = some (Ln : Int))) = opL fr (Ln : Int) := by
      unfold opL
      rw [xl]
    rw [eop] at hD4
    have s14 := s13.trans s4
    have foG : ∀ j : Nat, (∀ i, i ≤ j → runF (mkD pat dead) i < Ln) → runF (mkD pat dead) (j + 1) = Ln → FoIs fr (mkD pat dead) pat.length (some ((j : Int), opL fr (Ln : Int))) := fun j f1 f2 => ⟨Ln, j, by omega, hmin, ⟨b0, hb0, eb0⟩, rfl, rfl, f1, f2⟩
    obtain ⟨lg, hlg⟩ : ∃ lg, lg = lgO (mkD pat dead) pat.length := ⟨_, rfl⟩
    rw [← hlg]
    cases lg with
    | none =>
      have ha : (List.range pat.length).all (mkD pat dead) = true := by
        unfold lgO at hlg
        by_cases c : (List.range pat.length).all (mkD pat dead) = true
        · exact c
        · rw [if_neg c] at hlg
          cases hlg
      have ea := mkD_all p0 ha
      refine ⟨_, rfl, _, rfl, iteT ⟨_, rfl, _, _, rfl, rfl, _, rfl, (by show 2 ≤ sizeLine; decide), fun tq htq => ?_⟩⟩
      have sq := Same.upd (o := .tup [.int ((Ln : Int) - 1), .ref D2]) htq
      have e1 : ((Ln - 1 : Nat) : Int) = (Ln : Int) - 1 := by omega
      have fo := foG (Ln - 1) (fun i hi => by rw [runF_all ea]; omega) (by rw [runF_all ea]; omega)
      rw [e1] at fo
      exact k (.ref tq) _ _ fo ⟨tq, D2, rfl, upd_same, sq _ _ hD4⟩ (s14.trans sq)
    | some lv =>
      have hna : ¬ (List.range pat.length).all (mkD pat dead) = true := fun c => by
        unfold lgO at hlg
        rw [if_pos c] at hlg
        cases hlg
      have elv : lv = (maxR (mkD pat dead) (2 * pat.length) : Int) := by
        unfold lgO at hlg
        rw [if_neg hna] at hlg
        exact Option.some.inj hlg
      refine ⟨_, rfl, _, rfl, iteF ⟨_, rfl, _, rfl, _, _, rfl, rfl, _, rfl, ite2 (fun c => ?_) (fun c => ?_)⟩⟩
      · have c := of_decide_eq_true c
        exact k .non none H4 (.inr ⟨not_all hna, fun b hb => by have := hmin b hb; omega⟩) rfl s14
      · have c : ¬ lv < (Ln : Int) := fun z => c (decide_eq_true z)
        obtain ⟨i0, hi0, ei0⟩ := maxR_at (mkD pat dead) (2 * pat.length)
        obtain ⟨j, jl, f1, f2⟩ := run_first (m := mkD pat dead) (L := Ln) (by omega) (2 * pat.length) ⟨i0, hi0, by omega⟩
        refine ⟨_, rfl, _, rfl, p, fr, svs, pat, st, d, dead, rfl, RV0.nl (NL.of s14), s14 _ _ hd, fun l H5 hl s5 n5 => ?_⟩
        refine ⟨.inl ⟨rfl, _, SqL.of hl⟩, _, rfl, l, (rnL (mkD pat dead) (2 * pat.length)).map V.int, .int (Ln : Int), j, .int (runF (mkD pat dead) (j + 1) : Int), rfl, rfl, SqL.of hl, rfl, flat_ints' _, rnL_get jl, by rw [eqV_int, f2]; exact decide_eq_true rfl, fun m z hm hz => ?_, _, rfl, (by show 2 ≤ sizeLine; decide), fun tq htq => ?_⟩
        · rw [rnL_get (by omega)] at hz
          cases hz
          rw [eqV_int]
          have := f1 (m + 1) (by omega)
          exact decide_eq_false (by omega)
        · have sq := Same.upd (o := .tup [.int (j : Int), .ref D2]) htq
          exact k (.ref tq) _ _ (foG j f1 f2) ⟨tq, D2, rfl, upd_same, sq _ _ (s5 _ _ hD4)⟩ ((s14.trans s5).trans sq)
theorem ok_firstopening (T : LX K mg L) : Cal P w K mg base "first_opening" 5 L.f_first_opening ["routes", "down"] (spFirst L.c_Routes) := T.d_first_opening.cal fun fd F => fn_firstopening T F
end
/-! ### k58: the law's own runs -/
def mkL (m : Nat → Bool) (p : Nat) : List Bool := (List.range p).map m
theorem mkL_len (m : Nat → Bool) (p : Nat) : (mkL m p).length = p := by unfold mkL; rw [List.length_map, List.length_range]
theorem mkL_get {m : Nat → Bool} {p i : Nat} (h : i < p) : (mkL m p)[i]? = some (m i) := by
  unfold mkL
  rw [List.getElem?_map, List.getElem?_range h]
  rfl
theorem mkL_two {m : Nat → Bool} {p : Nat} (hp : ∀ i, m (i + p) = m i) : mkL m p ++ mkL m p = mkL m (2 * p) := by
  refine List.ext_getElem? fun i => ?_
  by_cases c : i < p
  · rw [List.getElem?_append_left (by rw [mkL_len]; exact c), mkL_get c, mkL_get (by omega)]
  · rw [List.getElem?_append_right (by rw [mkL_len]; omega), mkL_len]
    by_cases d : i < 2 * p
    · rw [mkL_get (by omega), mkL_get d]
      have := hp (i - p)
      rw [show i - p + p = i by omega] at this
      rw [this]
    · rw [List.getElem?_eq_none (by rw [mkL_len]; omega), List.getElem?_eq_none (by rw [mkL_len]; omega)]
theorem flat_bls (bs : List Bool) : (bs.map V.bl).all flatV = true := List.all_eq_true.mpr fun x hx => by
  obtain ⟨k, _, rfl⟩ := List.mem_map.mp hx
  rfl
theorem eqV_bl (a b : Bool) : eqV (.bl a) (.bl b) = decide (a = b) := by
  cases a <;> cases b <;> rfl
theorem inV_bl (b : Bool) : ∀ bs : List Bool, inV (.bl b) (bs.map V.bl) = decide (b ∈ bs)
  | [] => by simp [inV]
  | d :: r => by
    have ih := inV_bl b r
    unfold inV at ih ⊢
    rw [List.map_cons, List.any_cons, ih, eqV_bl, Bool.eq_iff_iff, Bool.or_eq_true, decide_eq_true_iff, decide_eq_true_iff, decide_eq_true_iff, List.mem_cons]
    constructor
    · rintro (h | h)
      · exact .inl h.symm
      · exact .inr h
    · rintro (h | h)
      · exact .inl h.symm
      · exact .inr h
theorem false_mem {m : Nat → Bool} {p : Nat} : (false ∈ mkL m p) ↔ ¬ (List.range p).all m = true := by
  unfold mkL
  rw [List.mem_map]
  constructor
  · rintro ⟨i, hi, e⟩ h
    rw [List.all_eq_true.mp h i hi] at e
    cases e
  · intro h
    obtain ⟨q, hq, e⟩ := not_all h
    exact ⟨q, List.mem_range.mpr hq, e⟩
theorem set_last {α : Type} (ini : List α) (a b : α) : (ini ++ [a]).set ini.length b = ini ++ [b] := by
  rw [List.set_append_right _ _ (Nat.le_refl _), Nat.sub_self]
  rfl
theorem ixN_last (n : Nat) (h : 1 ≤ n) : ixN n (-1) = some (n - 1) := by
  unfold ixN
  rw [if_neg (by omega), if_pos (by omega)]
  congr 1
  omega
theorem cut_mid (xs : List V) (a b : Nat) (h1 : a ≤ b) (h2 : b ≤ xs.length) : cutV xs (some (a : Int)) (some (b : Int)) = (xs.drop a).take (b - a) := by
  unfold cutV
  rw [HT.sIx_nat, HT.sIx_nat, Nat.min_eq_left h2, Nat.min_eq_left (show a ≤ xs.length by omega)]
theorem shLt (ts : List Tri) : SeqAt.shaped (.list (ts.map triD)) = true := by
  refine Bool.and_eq_true_iff.mpr ⟨?_, decide_eq_true ?_⟩
  · rw [PyData.canLay0]
    exact canAll ts
  · have := depAll ts
    rw [PyData.depth]
    omega
/-- a slice of marks is all marked exactly if the run is so long -/
theorem slice_run {m : Nat → Bool} {N n L : Nat} (h : n < N) (L1 : L ≤ n + 1) : (false ∈ ((mkL m N).drop (n + 1 - L)).take L) ↔ ¬ L ≤ runF m (n + 1) := by
  constructor
  · intro hf hl
    obtain ⟨i, hi⟩ := List.mem_iff_getElem?.mp hf
    have il : i < L := by
      have := (List.getElem?_eq_some_iff.mp hi).1
      rw [List.length_take] at this
      omega
    rw [List.getElem?_take, if_pos il, List.getElem?_drop, mkL_get (by omega)] at hi
    have := runF_mark (m := m) (n := n + 1) (k := n - (n + 1 - L + i)) (by omega)
    rw [show n + 1 - 1 - (n - (n + 1 - L + i)) = n + 1 - L + i by omega, Option.some.inj hi] at this
    cases this
  · intro hl
    refine Classical.byContradiction fun hf => hl (runF_ge L1 fun k hk => ?_)
    cases q : m (n + 1 - 1 - k) with
    | true => rfl
    | false =>
      refine absurd (List.mem_iff_getElem?.mpr ⟨L - 1 - k, ?_⟩) hf
      rw [List.getElem?_take, if_pos (by omega), List.getElem?_drop, mkL_get (by omega), show n + 1 - L + (L - 1 - k) = n + 1 - 1 - k by omega, q]
theorem per_all {m : Nat → Bool} {p : Nat} (hp : ∀ i, m (i + p) = m i) (p1 : 1 ≤ p) (ha : (List.range p).all m = true) : ∀ i, m i = true := fun i => by
  induction i using Nat.strongRecOn with
  | ind i ih =>
    by_cases c : i < p
    · exact List.all_eq_true.mp ha i (List.mem_range.mpr c)
    · have := hp (i - p)
      rw [show i - p + p = i by omega] at this
      rw [this]
      exact ih (i - p) (by omega)
def ltO (lg : Option Int) (n : Nat) : Bool := match lg with | none => false | some mx => decide (mx < (n : Int))
/-- as FoAt, and the list is new -/
def FoNw (H0 H : Hp) (x : V) : Option (Int × List Nat) → Prop
  | none => x = .non
  | some (n, op) => ∃ a l, x = .ref a ∧ H a = some (.tup [.int n, .ref l]) ∧ H l = some (.lst (op.map pnV)) ∧ H0 l = none
theorem FoNw.at {H0 H : Hp} {x : V} : ∀ {o : Option (Int × List Nat)}, FoNw H0 H x o → FoAt H x o
  | none, h => h
  | some (n, op), ⟨a, l, e, h1, h2, _⟩ => ⟨a, l, e, h1, h2⟩
theorem FoNw.kp {H0 H H' : Hp} {s : Addr} {x : V} {ys : List V} (hs0 : H0 s ≠ none) (hs : H s = some (.lst ys)) (k : Kp s H H') : ∀ {o : Option (Int × List Nat)}, FoNw H0 H x o → FoNw H0 H' x o
  | none, h => h
  | some (n, op), ⟨a, l, e, h1, h2, h3⟩ => ⟨a, l, e, k _ _ (fun z => by rw [z, hs] at h1; cases h1) h1, k _ _ (fun z => hs0 (by rw [← z]; exact h3)) h2, h3⟩
theorem FoNw.same {H0 H H' : Hp} {x : V} (s : Same H H') : ∀ {o : Option (Int × List Nat)}, FoNw H0 H x o → FoNw H0 H' x o
  | none, h => h
  | some (n, op), ⟨a, l, e, h1, h2, h3⟩ => ⟨a, l, e, s _ _ h1, s _ _ h2, h3⟩
def spWLong : Sp := fun vs H Q _ => ∃ (l : Addr) (m : Nat → Bool) (p : Nat), vs = [.ref l] ∧ H l = some (.lst ((mkL m p).map V.bl)) ∧ 1 ≤ p ∧ p ≤ 20 ∧ (∀ i, m (i + p) = m i) ∧ ∀ H', Same H H' → Q (cV (lgO m p)) H'
def spWDue : Sp := fun vs H Q _ => ∃ (lc l : Addr) (xc : List V) (fr : List Tri) (m : Nat → Bool) (p : Nat), vs = [.ref lc, .ref l] ∧ H lc = some (.lst xc) ∧ Brs H xc fr ∧ (∀ b ∈ fr, OkT b) ∧ fr.length ≤ 12 ∧ H l = some (.lst ((mkL m p).map V.bl)) ∧ 1 ≤ p ∧ p ≤ 20 ∧ (∀ i, m (i + p) = m i) ∧
  ∀ x o H', FoIs fr m p o → FoNw H H' x o → Same H H' → Q x H'
section
variable {P : Program} {w : World} {K : PySem.W.Frag} {mg : Str → Option Value} {base : Heap} {L : LA}
abbrev N_wlongest : List Str := ["_law_marks", "_law_runs", "_law_mark"]
theorem sc_wlongest : FnScope N_wlongest ["_law_marks"] (defScope st__law_longest) := ⟨rfl, rfl, rfl, by decide +kernel, rfl, by decide +kernel, by decide +kernel⟩
theorem fn_wlongest (T : LX K mg L) {fd : FuncData} (F : Fun K "_law_longest" "_law_longest" st__law_longest L.f__law_longest fd) : FnOk P w K mg base CX0 1 L.f__law_longest fd ["_law_marks"] (spWLong) := by
  have nd := sc_wlongest.nd
  refine F.ok sc_wlongest (fun vs H Q E h => ?_) (fun cdv A outer S H vs Q E hr h => ?_)
  · obtain ⟨l, m, p, rfl, _⟩ := h
    rfl
  · obtain ⟨l, m, p, rfl, hl, p1, p20, hp, k⟩ := h
    refine ⟨_, (pss_cons (ps_if (pt_cmpR op_notIn_seq pe_bl (pv 0) rfl) (pss_one (ps_ret pe_non)) pss_nil)
       (pss_cons (ps_set (i := 1) nd rfl (Or.inl rfl) (pe_lst (pa_cons pe_int pa_nil)))
       (pss_cons (ps_for PassesOwn.never rfl (pi_list (pe_op op_cat (pv 0) (pv 0))) (pg_name (i := 2) nd rfl (Or.inl rfl)) (pss_one (ps_if (pt_val (pv 2)) (pss_one (ps_asg (pe_op op_add (pe_ix (r := rIxL K) ix_list (pv 1) (pe_un un_neg pe_int) (fun _ _ => rfl)) pe_int) (pg_sub (pv 1) (pe_un un_neg pe_int) set_list))) (pss_one (ps_expr (pe_bm PySem.F.plainAttrs_list PySem.F.slot_list_append PySem.F.type_list_append mt_append (pv 1) (pa_cons pe_int pa_nil)))))))
       (pss_one (ps_ret (pe_callB (cr_max rfl) (by rfl) T.b_max (by decide +kernel) (pa_cons (pv 1) pa_nil))))))), ?_⟩
    refine ⟨_, rfl, l, _, rfl, .inl (SqL.of hl), rfl, flat_bls _, _, rfl, ?_⟩
    show if (!inV (.bl false) ((mkL m p).map V.bl)) = true then _ else _
    rw [inV_bl]
    have kk := k
    by_cases ha : (List.range p).all m = true
    · rw [decide_eq_false (fun z => false_mem.mp z ha)]
      have := kk H (Same.refl H)
      unfold lgO at this
      rw [if_pos ha] at this
      exact iteT this
    rw [decide_eq_true (false_mem.mpr ha)]
    refine iteF ⟨(by show 1 ≤ sizeLine; decide), fun lr hlr => ?_⟩
    have s1 := Same.upd (o := .lst [.int 0]) hlr
    have hlr1 : (upd H lr (.lst [.int 0])) lr = some (.lst ([(0 : Int)].map V.int)) := upd_same
    generalize upd H lr (.lst [.int 0]) = H1 at s1 hlr1 ⊢
    have hl1 := s1 _ _ hl
    refine ⟨_, rfl, _, rfl, l, l, _, _, rfl, rfl, hl1, hl1, small2 (by rw [List.length_map, mkL_len]; omega), fun c hc => ⟨c, rfl, ⟨_, SqL.of upd_same⟩, ?_⟩⟩
    have s2 := Same.upd (o := .lst ((mkL m p).map V.bl ++ (mkL m p).map V.bl)) hc
    have ncr : lr ≠ c := ne_of_none hlr1 hc
    have hc2 : (upd H1 c (.lst ((mkL m p).map V.bl ++ (mkL m p).map V.bl))) c = some (.lst ((mkL m (2 * p)).map V.bl)) := by rw [upd_same, ← List.map_append, mkL_two hp]
    have hr2 := s2 _ _ hlr1
    rw [show (mkL m p).map V.bl ++ (mkL m p).map V.bl = (mkL m (2 * p)).map V.bl by rw [← List.map_append, mkL_two hp]]
    rw [show (mkL m p).map V.bl ++ (mkL m p).map V.bl = (mkL m (2 * p)).map V.bl by rw [← List.map_append, mkL_two hp]] at hc2 hr2 s2
    generalize upd H1 c (.lst ((mkL m (2 * p)).map V.bl)) = H2 at s2 hc2 hr2 ⊢
    have nH : H lr = none := hlr
    refine for_list (K := K) (a := c) (xs := (mkL m (2 * p)).map V.bl) (fun i σ Hx => ∃ (v2 : Option V) (ini : List Int), σ = [some (.ref l), some (.ref lr), v2] ∧ Hx lr = some (.lst ((ini ++ [(runF m i : Int)]).map V.int)) ∧ ini.length ≤ i ∧ (∀ y ∈ ini ++ [(runF m i : Int)], y ≤ (maxR m i : Int)) ∧ (maxR m i : Int) ∈ ini ++ [(runF m i : Int)] ∧ Kp lr H2 Hx)
      ⟨none, [], rfl, hr2, Nat.le_refl _, fun y hy => by rw [List.mem_singleton.mp hy]; exact Int.le_refl _, List.mem_singleton.mpr rfl, Kp.refl⟩ (fun i σ Hx _ ⟨_, _, _, _, _, _, _, kx⟩ => SqL.of (kx _ _ ncr.symm hc2)) ?_ ?_
    · rintro i x σ Hx hxi ⟨v2, ini, rfl, hrx, il, hb, hm, kx⟩
      have hi : i < 2 * p := by
        have := (List.getElem?_eq_some_iff.mp hxi).1
        rw [List.length_map, mkL_len] at this
        exact this
      rw [List.getElem?_map, mkL_get hi] at hxi
      cases hxi
      have er : runF m (i + 1) = if m i = true then runF m i + 1 else 0 := rfl
      have em : maxR m (i + 1) = if maxR m i ≤ runF m (i + 1) then runF m (i + 1) else maxR m i := rfl
      have lx : ((ini ++ [(runF m i : Int)]).map V.int).length = ini.length + 1 := by rw [List.length_map, List.length_append]; rfl
      have hlast : atI ((ini ++ [(runF m i : Int)]).map V.int) (-1) = some (.int (runF m i : Int)) := by
        rw [List.map_append]
        exact atI_last _ _
      have l40 := hi
      refine ⟨_, rfl, _, rfl, ?_⟩
      cases hmi : m i with
      | true =>
        rw [if_pos hmi] at er
        refine iteT ?_
        refine ⟨_, rfl, 1, rfl, lr, _, -1, .int (runF m i : Int), rfl, rfl, SqL.of hrx, hlast, _, _, rfl, rfl, ?_⟩
        refine ⟨_, rfl, 1, rfl, lr, _, -1, ini.length, rfl, rfl, hrx, by rw [lx]; exact ixN_last _ (by omega), ?_⟩
        have es : ((ini ++ [(runF m i : Int)]).map V.int).set ini.length (.int ((runF m i : Int) + 1)) = (ini ++ [(runF m (i + 1) : Int)]).map V.int := by
          rw [List.map_append, List.map_append, er]
          have := set_last (ini.map V.int) (V.int (runF m i : Int)) (V.int ((runF m i : Int) + 1))
          rw [List.length_map] at this
          exact this
        rw [es]
        refine ⟨_, ini, rfl, upd_same, by omega, fun y hy => ?_, ?_, kx.trans Kp.upd⟩
        · rcases List.mem_append.mp hy with hy | hy
          · have := hb y (List.mem_append_left _ hy)
            rw [em]
            split <;> omega
          · rw [List.mem_singleton.mp hy, em]
            split <;> omega
        · rw [em]
          by_cases z : maxR m i ≤ runF m (i + 1)
          · rw [if_pos z]
            exact List.mem_append_right _ (List.mem_singleton.mpr rfl)
          · rw [if_neg z]
            rcases List.mem_append.mp hm with hm | hm
            · exact List.mem_append_left _ hm
            · have := List.mem_singleton.mp hm
              omega
      | false =>
        rw [if_neg (by rw [hmi]; exact Bool.false_ne_true)] at er
        refine iteF ?_
        refine ⟨_, rfl, .inl ⟨rfl, _, SqL.of hrx⟩, lr, _, _, rfl, rfl, hrx, small1 (by omega), ?_⟩
        have emx : maxR m (i + 1) = maxR m i := by
          rw [em]
          split <;> omega
        have es : (ini ++ [(runF m i : Int)]).map V.int ++ [.int 0] = ((ini ++ [(runF m i : Int)]) ++ [(runF m (i + 1) : Int)]).map V.int := by
          rw [List.map_append (l₁ := ini ++ [(runF m i : Int)]), er]
          rfl
        rw [es]
        refine ⟨_, ini ++ [(runF m i : Int)], rfl, upd_same, by rw [List.length_append]; show ini.length + 1 ≤ i + 1; omega, fun y hy => ?_, ?_, kx.trans Kp.upd⟩
        · rw [emx]
          rcases List.mem_append.mp hy with hy | hy
          · exact hb y hy
          · rw [List.mem_singleton.mp hy, er]
            omega
        · rw [emx]
          exact List.mem_append_left _ hm
    · rintro σ Hx ⟨v2, ini, rfl, hrx, il, hb, hm, kx⟩
      rw [List.length_map, mkL_len] at hrx hb hm
      refine ⟨_, rfl, lr, _, rfl, SqL.of hrx, by rw [List.length_append]; exact Nat.succ_pos _, fun mx h1 h2 => ?_⟩
      have e : mx = (maxR m (2 * p) : Int) := Int.le_antisymm (hb mx h1) (h2 _ hm)
      have := kk Hx fun b o e => kx _ _ (ne_of_none e nH) (s2 _ _ (s1 _ _ e))
      unfold lgO at this
      rw [if_neg ha] at this
      rw [e]
      exact this
theorem ok_wlongest (T : LX K mg L) : Cal P w K mg base "_law_longest" 1 L.f__law_longest ["_law_marks"] (spWLong) := T.d__law_longest.cal fun fd F => fn_wlongest T F
abbrev N_wdue : List Str := ["_law_common", "_law_marks", "_law_longest_here", "_law_least", "_law_opened", "_law_turns", "_law_number", "_law_k", "_law_spec"]
theorem sc_wdue : FnScope N_wdue ["_law_common", "_law_marks"] (defScope st__law_due) := ⟨rfl, rfl, rfl, by decide +kernel, rfl, by decide +kernel, by decide +kernel⟩
theorem fn_wdue (T : LX K mg L) {fd : FuncData} (F : Fun K "_law_due" "_law_due" st__law_due L.f__law_due fd) : FnOk P w K mg base CX0 2 L.f__law_due fd ["_law_common", "_law_marks"] (spWDue) := by
  have G_wlongest := ok_wlongest (P := P) (w := w) (base := base) T
  have nd := sc_wdue.nd
  refine F.ok sc_wdue (fun vs H Q E h => ?_) (fun cdv A outer S H vs Q E hr h => ?_)
  · obtain ⟨lc, l, xc, fr, m, p, rfl, _⟩ := h
    rfl
  · obtain ⟨lc, l, xc, fr, m, p, rfl, hlc, hb, ok, l12, hl, p1, p20, hp, k⟩ := h
    refine ⟨_, (pss_cons (ps_set (i := 2) nd rfl (Or.inl rfl) (pe_c G_wlongest (hr.mono (by decide)) rfl (pa_cons (pv 1) pa_nil)))
       (pss_cons (ps_set (i := 3) nd rfl (Or.inr rfl) (pe_callB (cr_min rfl) (by rfl) T.b_min (by decide +kernel) (pa_cons (pe_op op_cat (pe_lc (own := [("_law_spec", 8)]) (g := gName 8) (tt := tYes) rfl nd (pi_list (pv 0)) (blkOk_by (own := [("_law_spec", 8)]) (N := N_wdue) (sc := defScope st__law_due) (by decide +kernel)) (fun _ _ _ _ _ => pg_name (i := 8) nd rfl (Or.inl rfl)) (fun _ _ _ _ _ => pts_nil) (fun _ _ _ _ _ => (pe_ix (r := rIxT K) ix_tup (pv 8) pe_int (fun _ _ => rfl)))) (pe_lst (pa_cons (pe_op op_pow pe_int pe_int) pa_nil))) pa_nil)))
       (pss_cons (ps_if (PW.pt (pw_or (pt_cmpR (op_eqD hr.units) (pv 0) (pe_lst pa_nil) (nomark _)) (pw_or1 (PW.pt (pw_and (pt_cmp (pc_notN (pv 2))) (pw_and1 (pt_cmpR op_lt (pv 2) (pv 3) (nomark _)))))))) (pss_one (ps_ret pe_non)) pss_nil)
       (pss_cons (ps_setLc (i := 4) (own := [("_law_k", 7), ("_law_spec", 8)]) (g := gTup K 2 (gCons (gName 7) (gCons (gName 8) (gNil)))) rfl nd rfl rfl (sw_true rfl rfl rfl (by decide +kernel)) (pi_enum (by rfl) T.b_enumerate (pa_cons (pv 0) pa_nil)) (blkOk_by (own := [("_law_k", 7), ("_law_spec", 8)]) (N := N_wdue) (sc := defScope st__law_due) (by decide +kernel)) (fun _ _ _ _ _ => pg_tup rfl (pgs_cons (pg_name (i := 7) nd rfl (Or.inl rfl)) (pgs_cons (pg_name (i := 8) nd rfl (Or.inl rfl)) pgs_nil))) (fun _ _ _ _ _ => pts_one (pt_cmpR op_eq (pe_ix (r := rIxT K) ix_tup (pv 8) pe_int (fun _ _ => rfl)) (pv 3) (nomark _))) (fun _ _ _ _ _ => (pv 7)))
       (pss_cons (ps_if (pt_cmp (pc_isN (pv 2))) (pss_one (ps_ret (pe_tup (pa_cons (pe_op op_sub (pv 3) pe_int) (pa_cons (pv 4) pa_nil))))) pss_nil)
       (pss_cons (ps_set (i := 5) nd rfl (Or.inl rfl) (pe_op op_cat (pv 1) (pv 1)))
       (pss_cons (ps_for PassesOwn.never rfl (pi_range1 rfl T.b_range (pa_cons (pe_callB call_len_seq (by rfl) T.b_len PySem.boot_len (pa_cons (pv 5) pa_nil)) pa_nil)) (pg_name (i := 6) nd rfl (Or.inl rfl)) (pss_one (ps_if (PW.pt (pw_and (pt_cmpR op_ge (pe_op op_add (pv 6) pe_int) (pv 3) (nomark _)) (pw_and1 (pt_cmpR op_notIn_seq pe_bl (pe_slice (r := rSlL K) sl_list (pv 5) (po_some (pe_op op_sub (pe_op op_add (pv 6) pe_int) (pv 3))) (po_some (pe_op op_add (pv 6) pe_int))) rfl)))) (pss_one (ps_ret (pe_tup (pa_cons (pv 6) (pa_cons (pv 4) pa_nil))))) pss_nil)))
       (pss_one (ps_ret pe_non))))))))), ?_⟩
    have xl := hb.len
    refine ⟨_, rfl, l, m, p, rfl, hl, p1, p20, hp, fun H1 s1 => ?_⟩
    have hlc1 := s1 _ _ hlc
    have hb1 := hb.nl (NL.of s1)
    refine ⟨_, rfl, lc, rfl, ⟨_, SqL.of hlc1⟩, fun D hD => ?_⟩
    refine lc_list (K := K) (a := lc) (xs := xc) (fun j Hx => Hx D = some (.lst (((fr.take j).map fun b => b.1).map V.int)) ∧ Same H1 Hx) ⟨upd_same, Same.upd hD⟩ (fun j Hx _ ⟨_, s⟩ => SqL.of (s _ _ hlc1)) ?_ ?_
    · rintro j x Hx hxj ⟨hDx, sx⟩
      obtain ⟨b, hbj, c0, rfl, hc0⟩ := (hb1.nl (NL.of sx)).get hxj
      have hj := (List.getElem?_eq_some_iff.mp hbj).1
      refine ⟨rfl, tYes_of ⟨_, rfl, c0, _, 0, .int b.1, rfl, rfl, SqT.of hc0, rfl, _, hDx, small1 (by rw [List.length_map, List.length_map, List.length_take]; omega), ?_, fun u w e => by rw [upd_ne (ne_of_none e hD)]; exact sx _ _ e⟩⟩
      rw [upd_same, List.take_add_one, hbj, List.map_append, List.map_append]
      rfl
    rintro H2 ⟨hD2, s2⟩
    rw [xl, List.take_length] at hD2
    have e13 : (10 : Int) ^ (13 : Int).toNat = 10000000000000 := by decide +kernel
    refine ⟨_, _, rfl, rfl, ⟨by decide, by decide, by decide⟩, (by show 1 ≤ sizeLine; decide), fun l13 hl13 => ?_⟩
    rw [show (fun (i j : Int) => V.int (i ^ j.toNat)) (10 : Int) 13 = V.int 10000000000000 from congrArg V.int e13]
    have s3 := Same.upd (o := .lst [.int 10000000000000]) hl13
    refine ⟨D, l13, _, _, rfl, rfl, s3 _ _ hD2, upd_same, small2 (by rw [List.length_map, List.length_map]; show fr.length + 1 ≤ 100000; omega), fun c hc => ?_⟩
    have s4 := s3.trans (Same.upd (o := .lst ((fr.map fun b => b.1).map V.int ++ [.int 10000000000000])) hc)
    have hcc : (upd (upd H2 l13 (.lst [.int 10000000000000])) c (.lst ((fr.map fun b => b.1).map V.int ++ [.int 10000000000000]))) c = some (.lst (((fr.map fun (b : Tri) => b.1) ++ [10000000000000]).map V.int)) := by
      rw [upd_same, List.map_append (l₁ := fr.map fun (b : Tri) => b.1)]
      rfl
    generalize upd (upd H2 l13 (.lst [.int 10000000000000])) c (.lst ((fr.map fun b => b.1).map V.int ++ [.int 10000000000000])) = H3 at s4 hcc ⊢
    have s24 := s2.trans s4
    refine ⟨c, (fr.map fun b => b.1) ++ [10000000000000], rfl, SqL.of hcc, by rw [List.length_append]; exact Nat.succ_pos _, fun mn h1 h2 => ?_⟩
    have hlc3 := s24 _ _ hlc1
    have hb3 := hb1.nl (NL.of s24)
    refine ⟨_, rfl, (by show 0 ≤ sizeLine; decide), fun le hle => ?_⟩
    have s5 := Same.upd (o := .lst []) hle
    refine ⟨.list (fr.map triD), .list [], .lst (SqL.of (s5 _ _ hlc3)) ((hb3.nl (NL.of s5)).dp), .lst (SqL.of upd_same) .nil, shLt fr, shLt [], _, rfl, ?_⟩
    have ee : PyData.eqv (.list (fr.map triD)) (.list []) = decide (fr = []) := by
      rw [PyData.eqv]
      exact triDs_eq fr []
    rw [ee]
    have hlc5 := s5 _ _ hlc3
    have hb5 := hb3.nl (NL.of s5)
    have s15 := s1.trans (s24.trans s5)
    generalize upd H3 le (.lst []) = H5 at s5 hlc5 hb5 s15 ⊢
    by_cases fe : fr = []
    · rw [decide_eq_true fe]
      exact iteT (iteT (k .non none H5 (.inl fe) rfl s15))
    rw [decide_eq_false fe]
    obtain ⟨b1, hb1'⟩ := List.exists_mem_of_ne_nil _ fe
    have hmin : ∀ b ∈ fr, mn ≤ b.1 := fun b hb => h2 _ (List.mem_append_left _ (List.mem_map.mpr ⟨b, hb, rfl⟩))
    obtain ⟨b0, hb0, eb0⟩ : ∃ b ∈ fr, b.1 = mn := by
      rcases List.mem_append.mp h1 with h | h
      · obtain ⟨b, hb, e⟩ := List.mem_map.mp h
        exact ⟨b, hb, e⟩
      · have e := List.mem_singleton.mp h
        have := hmin b1 hb1'
        have := (ok b1 hb1').2.1
        omega
    have m1 : 1 ≤ mn := by
      have := (ok b0 hb0).1
      omega
    obtain ⟨Ln, rfl⟩ := Int.eq_ofNat_of_zero_le (show 0 ≤ mn by omega)
    have foG : ∀ j : Nat, (∀ i, i ≤ j → runF m i < Ln) → runF m (j + 1) = Ln → FoIs fr m p (some ((j : Int), opL fr (Ln : Int))) := fun j f1 f2 => ⟨Ln, j, by omega, hmin, ⟨b0, hb0, eb0⟩, rfl, rfl, f1, f2⟩
    obtain ⟨lg, hlg⟩ : ∃ lg, lg = lgO m p := ⟨_, rfl⟩
    rw [← hlg]
    have xl5 := hb5.len
    refine iteF ?_
    have tst : ∀ Q : Bool → Hp → Prop, Q (ltO lg Ln) H5 → tAnd (tB (tNotN (tVar 2))) (tTest (tOp (rI0 fun i j => V.bl (decide (i < j))) (tVar 2) (tVar 3))) (((L2.start N_wdue [.ref lc, .ref l]).set 2 (some (cV lg))).set 3 (some (.int (Ln : Int)))) H5 Q := by
      intro Q q
      cases lg with
      | none => exact ⟨_, rfl, _, rfl, iteF q⟩
      | some mx => exact ⟨_, rfl, _, rfl, iteT ⟨_, rfl, _, rfl, _, _, rfl, rfl, _, rfl, q⟩⟩
    refine tst _ ?_
    by_cases lt : ∃ mx, lg = some mx ∧ mx < (Ln : Int)
    · obtain ⟨mx, rfl, lt⟩ := lt
      rw [show ltO (some mx) Ln = true from decide_eq_true lt]
      refine iteT ?_
      refine k .non none H5 ?_ rfl s15
      unfold lgO at hlg
      by_cases ha : (List.range p).all m = true
      · rw [if_pos ha] at hlg
        cases hlg
      · rw [if_neg ha] at hlg
        refine .inr ⟨not_all ha, fun b hb => ?_⟩
        have := hmin b hb
        have := Option.some.inj hlg
        omega
    have nlt : ltO lg Ln = false := by
      cases lg with
      | none => rfl
      | some mx => exact decide_eq_false fun z => lt ⟨mx, rfl, z⟩
    rw [nlt]
    refine iteF ⟨_, rfl, lc, xc, rfl, SqL.of hlc5, fun D' hD' => ?_⟩
    refine lc_enum (K := K) (a := lc) (xs := xc) (fun j Hx => Hx D' = some (.lst (((List.range j).filter fun k => decide ((fr[k]?.map fun b => b.1) = some (Ln : Int))).map pnV)) ∧ Same H5 Hx) ⟨upd_same, Same.upd hD'⟩ (fun j Hx ⟨_, s⟩ => SqL.of (s _ _ hlc5)) ?_ ?_
    · rintro j x T' Hx hxj ⟨hDx, sx⟩ hT
      obtain ⟨b, hbj, c0, rfl, hc0⟩ := (hb5.nl (NL.of sx)).get hxj
      have hj := (List.getElem?_eq_some_iff.mp hbj).1
      have sT := Same.upd (o := .tup [.int (j : Nat), .ref c0]) hT
      refine ⟨T', _, rfl, SqT.of upd_same, rfl, _, _, rfl, _, _, rfl, rfl, rfl, ?_⟩
      refine ⟨_, rfl, c0, _, 0, .int b.1, rfl, rfl, SqT.of (sT _ _ hc0), rfl, _, rfl, rfl, _, rfl, ?_⟩
      rw [opL_step hbj]
      have ev : decide (V.int b.1 = V.int (Ln : Int)) = decide (b.1 = (Ln : Int)) := by
        rw [Bool.eq_iff_iff, decide_eq_true_iff, decide_eq_true_iff]
        exact ⟨fun z => by injection z, fun z => by rw [z]⟩
      show if decide (V.int b.1 = V.int (Ln : Int)) = true then _ else _
      rw [ev]
      refine ite2 (fun z => ?_) (fun z => ?_)
      · rw [if_pos (of_decide_eq_true z), List.map_append]
        refine ⟨_, rfl, _, sT _ _ hDx, small1 (by rw [List.length_map]; have := List.length_filter_le (fun k => decide ((fr[k]?.map fun b => b.1) = some (Ln : Int))) (List.range j); rw [List.length_range] at this; omega), upd_same, fun b v e => by rw [upd_ne (ne_of_none e hD')]; exact sT _ _ (sx _ _ e)⟩
      · rw [if_neg (fun y => z (decide_eq_true y)), List.append_nil]
        exact ⟨sT _ _ hDx, sx.trans sT⟩
    rintro H7 ⟨hD7, s7⟩
    rw [xl5] at hD7
    have hD7 : H7 D' = some (.lst ((opL fr (Ln : Int)).map pnV)) := hD7
    have s17 := s15.trans s7
    cases lg with
    | none =>
      unfold lgO at hlg
      by_cases ha : (List.range p).all m = true
      · refine ⟨_, rfl, _, rfl, iteT ⟨_, rfl, _, _, rfl, rfl, _, rfl, (by show 2 ≤ sizeLine; decide), fun ap hap => ?_⟩⟩
        have al : ∀ i, m i = true := fun i => per_all hp p1 ha i
        have fo := foG (Ln - 1) (fun i hi => Nat.lt_of_le_of_lt (runF_le m i) (by omega)) (by rw [runF_all al]; omega)
        rw [show ((Ln - 1 : Nat) : Int) = (Ln : Int) - 1 by omega] at fo
        exact k _ _ _ fo ⟨ap, D', rfl, upd_same, by rw [upd_ne (ne_of_none hD7 hap)]; exact hD7, none_of s15 hD'⟩ (s17.trans (Same.upd hap))
      · rw [if_neg ha] at hlg
        cases hlg
    | some mx =>
      refine ⟨_, rfl, _, rfl, iteF ⟨_, rfl, _, rfl, l, l, _, _, rfl, rfl, s17 _ _ hl, s17 _ _ hl, small2 (by rw [List.length_map, mkL_len]; omega), fun c' hc' => ?_⟩⟩
      have s8 := s17.trans (Same.upd (o := .lst ((mkL m p).map V.bl ++ (mkL m p).map V.bl)) hc')
      have ncD : D' ≠ c' := ne_of_none hD7 hc'
      have hc8 : (upd H7 c' (.lst ((mkL m p).map V.bl ++ (mkL m p).map V.bl))) c' = some (.lst ((mkL m (2 * p)).map V.bl)) := by rw [upd_same, ← List.map_append, mkL_two hp]
      have hD8 : (upd H7 c' (.lst ((mkL m p).map V.bl ++ (mkL m p).map V.bl))) D' = some (.lst ((opL fr (Ln : Int)).map pnV)) := by rw [upd_ne ncD]; exact hD7
      generalize upd H7 c' (.lst ((mkL m p).map V.bl ++ (mkL m p).map V.bl)) = H8 at s8 hc8 hD8 ⊢
      have l8 : ((mkL m (2 * p)).map V.bl).length = 2 * p := by rw [List.length_map, mkL_len]
      have mxe : mx = (maxR m (2 * p) : Int) ∧ ¬ (List.range p).all m = true := by
        unfold lgO at hlg
        by_cases ha : (List.range p).all m = true
        · rw [if_pos ha] at hlg
          cases hlg
        · rw [if_neg ha] at hlg
          exact ⟨Option.some.inj hlg, ha⟩
      have mge : (Ln : Int) ≤ mx := Int.not_lt.mp fun z => lt ⟨mx, rfl, z⟩
      refine ⟨_, rfl, c', _, rfl, .inl (SqL.of hc8), _, rfl, by omega, by omega, ?_⟩
      rw [l8, Int.toNat_natCast]
      refine for_range (lo := 0) (n := 2 * p) (fun j σ H9 => ∃ v6 : Option V, σ = [some (.ref lc), some (.ref l), some (.int mx), some (.int (Ln : Int)), some (.ref D'), some (.ref c'), v6, none, none] ∧ (∀ i, i ≤ j → runF m i < Ln) ∧ Same H8 H9) ⟨none, rfl, fun i hi => by rw [show i = 0 by omega]; show 0 < Ln; omega, Same.refl H8⟩ ?_ ?_
      · rintro j σ H9 hj ⟨v6, rfl, low, s9⟩
        rw [Int.zero_add]
        refine ⟨_, rfl, _, _, rfl, rfl, _, rfl, _, _, rfl, rfl, _, rfl, ?_⟩
        show if decide ((Ln : Int) ≤ (j : Int) + 1) = true then _ else _
        have stp : runF m (j + 1) = if m j = true then runF m j + 1 else 0 := rfl
        have lj := low j (Nat.le_refl j)
        by_cases cj : Ln ≤ j + 1
        · rw [decide_eq_true (show (Ln : Int) ≤ (j : Int) + 1 by omega)]
          have ecut : cutV ((mkL m (2 * p)).map V.bl) (some ((j : Int) + 1 - (Ln : Int))) (some ((j : Int) + 1)) = (((mkL m (2 * p)).drop (j + 1 - Ln)).take Ln).map V.bl := by
            rw [show (j : Int) + 1 - (Ln : Int) = ((j + 1 - Ln : Nat) : Int) by omega, show (j : Int) + 1 = ((j + 1 : Nat) : Int) by omega, cut_mid _ _ _ (by omega) (by omega), List.map_take, List.map_drop, show j + 1 - (j + 1 - Ln) = Ln by omega]
          refine iteT ⟨_, rfl, _, rfl, _, _, rfl, rfl, _, rfl, _, _, rfl, rfl, _, rfl, _, rfl, _, _, rfl, rfl, _, rfl, c', _, rfl, SqL.of (s9 _ _ hc8), fun ps hps => ?_⟩
          have s10 := s9.trans (Same.upd (o := .lst (cutV ((mkL m (2 * p)).map V.bl) (some ((j : Int) + 1 - (Ln : Int))) (some ((j : Int) + 1)))) hps)
          refine ⟨ps, _, rfl, .inl (SqL.of (upd_same.trans (congrArg some (congrArg HO.lst ecut)))), rfl, flat_bls _, _, rfl, ?_⟩
          show if (!inV (.bl false) ((((mkL m (2 * p)).drop (j + 1 - Ln)).take Ln).map V.bl)) = true then _ else _
          rw [inV_bl]
          have sr := slice_run (m := m) (N := 2 * p) (n := j) (L := Ln) hj cj
          by_cases rr : Ln ≤ runF m (j + 1)
          · rw [decide_eq_false (fun z => sr.mp z rr)]
            have e : runF m (j + 1) = Ln := by
              by_cases q : m j = true
              · rw [if_pos q] at stp
                omega
              · rw [if_neg q] at stp
                omega
            refine iteT ⟨_, rfl, _, rfl, (by show 2 ≤ sizeLine; decide), fun ap hap => ?_⟩
            have hD10 := s10 _ _ hD8
            exact k _ _ _ (foG j low e) ⟨ap, D', rfl, upd_same, by rw [upd_ne (ne_of_none hD10 hap)]; exact hD10, none_of s15 hD'⟩ (s8.trans (s10.trans (Same.upd hap)))
          · rw [decide_eq_true (sr.mpr rr)]
            refine iteF ⟨_, rfl, fun i hi => ?_, s10⟩
            by_cases c : i = j + 1
            · rw [c]
              omega
            · exact low i (by omega)
        · rw [decide_eq_false (show ¬ (Ln : Int) ≤ (j : Int) + 1 by omega)]
          refine iteF (iteF ⟨_, rfl, fun i hi => ?_, s9⟩)
          have := runF_le m i
          omega
      · rintro σ H9 ⟨v6, rfl, low, s9⟩
        obtain ⟨j, hj, e⟩ := maxR_at m (2 * p)
        have := low j hj
        omega
theorem ok_wdue (T : LX K mg L) : Cal P w K mg base "_law_due" 2 L.f__law_due ["_law_common", "_law_marks"] (spWDue) := T.d__law_due.cal fun fd F => fn_wdue T F
end
/-! ### routes made; openings told as data -/
section
variable {X : Cx} {L : LA}
/-- Routes(..) -/
theorem pe_mkRoutes (T : LX X.K X.mg L) (hr : Room 9 X.A) {p pos : Pos} {e : Expr} {es : List Expr} {t : TA} (hg : Gl X "Routes") (ha : PA X (e :: es) t)
    (he : starEach (e :: es) X.env = (false, eval e X.env) :: starEach es X.env := by rfl) (hpl : (backTo pos (starEach es X.env)).any (·.1) = false := by rfl) : PE X (.Call (.Name "Routes" p) (e :: es) [] pos) (tMake L.c_Routes (spRtInit L.c_Routes) [] E0 t) := by
  obtain ⟨fd, F, b⟩ := T.in_Routes
  exact pe_make T.mk_Routes (fn_Routesinit T F) hr hg T.gc_Routes b .nil pass0 ha (by decide) he hpl
end
theorem opsL_mem {fr : List Tri} {svs : List Svc} {pat : List Nat} {st : Int} {n : Nat} {p : Nat × Nat} (h : p ∈ opsL fr svs pat st n) : p.1 < n ∧ p.2 ∈ rtOp fr svs pat st p.1 := by
  unfold opsL at h
  obtain ⟨j, hj, hp⟩ := List.mem_flatMap.mp h
  obtain ⟨k, hk, rfl⟩ := List.mem_map.mp hp
  exact ⟨List.mem_range.mp hj, hk⟩
/-- openings are told in their order -/
theorem opsL_asc (fr : List Tri) (svs : List Svc) (pat : List Nat) (st : Int) : ∀ n : Nat, (opsL fr svs pat st n).Pairwise fun a b => a.1 < b.1 ∨ (a.1 = b.1 ∧ a.2 < b.2)
  | 0 => by simp [opsL]
  | n + 1 => by
    rw [opsL_succ, List.pairwise_append]
    refine ⟨opsL_asc fr svs pat st n, ?_, fun a ha b hb => .inl ?_⟩
    · rw [List.pairwise_map]
      unfold rtOp
      refine (List.pairwise_lt_range.sublist List.filter_sublist).imp fun h => .inr ⟨rfl, h⟩
    · obtain ⟨k, _, rfl⟩ := List.mem_map.mp hb
      exact (opsL_mem ha).1
theorem routes_made {C : Addr} {H : Hp} {Q : Addr → Hp → Prop} {lc ls lp : Addr} {st : Int} {xc xs : List V} {fr : List Tri} {svs : List Svc} {pat : List Nat} (h1 : H lc = some (.lst xc)) (h2 : Brs H xc fr) (h3 : H ls = some (.lst xs)) (h4 : Paired (SlAt H) xs svs) (h5 : H lp = some (.lst (pat.map pnV))) (W : RtOk fr svs pat st)
    (k : ∀ p H', RtV C H' p fr svs pat st → Same H H' → H p = none → Q p H') :
    ∀ x dx, H x = none → H dx = none → dx ≠ x → spRtInit C [.ref x, .ref lc, .ref ls, .ref lp, .int st] (upd (upd H dx (.own x)) x (.ins C dx [])) (fun v H3 => v = .non ∧ Q x H3) E0 := by
  intro x dx hx hd hne
  have s0 : Same H (upd (upd H dx (.own x)) x (.ins C dx [])) := fun b o e => by
    rw [upd_ne (ne_of_none e hx), upd_ne (ne_of_none e hd)]
    exact e
  exact ⟨x, lc, ls, lp, st, xc, xs, fr, svs, pat, dx, rfl, upd_same, s0 _ _ h1, h2.nl (NL.of s0), s0 _ _ h3, L2.Paired.mapP h4 (fun _ _ z => z.same s0), s0 _ _ h5, W, fun H' R kp => ⟨rfl, k x H' R (fun b o e => kp b o (ne_of_none e hx) (s0 b o e)) hx⟩⟩
theorem all_canP : ∀ ds : List PyData, (∀ d ∈ ds, d.canLay0 = true ∧ d.depth ≤ 10) → PyData.canLayAll0 ds = true ∧ PyData.depthAll ds ≤ 11
  | [], _ => ⟨by simp [PyData.canLayAll0], by simp [PyData.depthAll]⟩
  | d :: ds, h => by
    obtain ⟨h1, h2⟩ := all_canP ds fun d hd => h d (List.mem_cons_of_mem _ hd)
    obtain ⟨h3, h4⟩ := h d (List.mem_cons_self ..)
    refine ⟨?_, ?_⟩
    · rw [PyData.canLayAll0, h1, h3]
      rfl
    · rw [PyData.depthAll]
      omega
theorem lst_shP {ds : List PyData} (h : ∀ d ∈ ds, d.canLay0 = true ∧ d.depth ≤ 10) : SeqAt.shaped (.list ds) = true := by
  obtain ⟨h1, h2⟩ := all_canP ds h
  refine Bool.and_eq_true_iff.mpr ⟨?_, decide_eq_true ?_⟩
  · rw [PyData.canLay0]
    exact h1
  · rw [PyData.depth]
    omega
theorem eqv_allP : ∀ ds : List PyData, (∀ d ∈ ds, PyData.eqv d d = true) → PyData.eqvAll ds ds = true
  | [], _ => by simp [PyData.eqvAll]
  | d :: ds, h => by
    rw [PyData.eqvAll, h d (List.mem_cons_self ..), eqv_allP ds fun d hd => h d (List.mem_cons_of_mem _ hd)]
    rfl
/-- pairs as data -/
def prD (p : Nat × Nat) : PyData := .tuple [.int (p.1 : Int), .int (p.2 : Int)]
theorem prs_dp {K : PySem.W.Frag} {H : Hp} {xs : List V} {ps : List (Nat × Nat)} (h : Paired (PrAt H) xs ps) : DpAll K H xs (ps.map prD) := by
  induction h with
  | nil => exact .nil
  | cons h _ ih =>
    obtain ⟨a, rfl, h⟩ := h
    exact .cons (.tup (SqT.of h) (.cons (.int _) (.cons (.int _) .nil))) ih
theorem prs_can (ps : List (Nat × Nat)) : ∀ d ∈ ps.map prD, d.canLay0 = true ∧ d.depth ≤ 10 := fun d hd => by
  obtain ⟨p, _, rfl⟩ := List.mem_map.mp hd
  exact ⟨by simp [prD, PyData.canLay0, PyData.canLayAll0], by simp [prD, PyData.depth, PyData.depthAll]⟩
theorem prs_sh (ps : List (Nat × Nat)) : SeqAt.shaped (.list (ps.map prD)) = true := lst_shP (prs_can ps)
theorem prs_eq (ps : List (Nat × Nat)) : PyData.eqv (.list (ps.map prD)) (.list (ps.map prD)) = true := by
  rw [PyData.eqv]
  refine eqv_allP _ fun d hd => ?_
  obtain ⟨p, _, rfl⟩ := List.mem_map.mp hd
  simp [prD, PyData.eqv, PyData.eqvAll]
/-- the pair that stands at a value -/
noncomputable def prK (H : Hp) (x : V) : Int × Int := match x with
  | .ref a => match H a with
    | some (.tup [.int i, .int j]) => (i, j)
    | _ => (0, 0)
  | _ => (0, 0)
theorem prK_of {H : Hp} {x : V} {p : Nat × Nat} (h : PrAt H x p) : prK H x = ((p.1 : Int), (p.2 : Int)) ∧ ∃ t, x = .ref t ∧ H t = some (.tup [.int (prK H x).1, .int (prK H x).2]) := by
  obtain ⟨a, rfl, h⟩ := h
  have e : prK H (.ref a) = ((p.1 : Int), (p.2 : Int)) := by
    simp only [prK, h]
  exact ⟨e, a, rfl, by rw [e]; exact h⟩
theorem prs_srtd {H : Hp} : ∀ {xs : List V} {ps : List (Nat × Nat)}, Paired (PrAt H) xs ps → (ps.Pairwise fun a b => a.1 < b.1 ∨ (a.1 = b.1 ∧ a.2 < b.2)) → SrtO.Srtd (ltP (prK H)) xs
  | _, _, .nil, _ => List.Pairwise.nil
  | _, _, .cons (a := x) (b := p) (l₁ := xs) (l₂ := ps) h t, hp => by
    obtain ⟨h1, h2⟩ := List.pairwise_cons.mp hp
    refine List.Pairwise.cons (fun y hy => ?_) (prs_srtd t h2)
    obtain ⟨j, hj⟩ := List.mem_iff_getElem?.mp hy
    obtain ⟨q, hq, hyq⟩ := paired_get t hj
    have l := h1 q (List.mem_of_getElem? hq)
    refine SrtO.lexB_no.mpr ?_
    rw [(prK_of h).1, (prK_of hyq).1]
    show ¬ _
    omega
/-! ### k58: the law -/
def spLaw (K : PySem.W.Frag) : Sp := fun vs H Q _ => ∃ (a : Addr) (ns : List Int), vs = [.ref a] ∧ SqL K H a (ns.map V.int) ∧ ns.length ≤ 63 ∧ ∀ H', Q (.bl true) H'
theorem pw_len : ∀ (dead : List Nat) (m j : Nat), m ≤ j → dead.Pairwise (· < ·) → (∀ k ∈ dead, m ≤ k ∧ k < j) → m + dead.length ≤ j
  | [], m, j, h, _, _ => h
  | d :: r, m, j, h, pw, db => by
    obtain ⟨p1, p2⟩ := List.pairwise_cons.mp pw
    have h1 := db d (List.mem_cons_self ..)
    have ih := pw_len r (d + 1) j (by omega) p2 fun k hk => ⟨p1 k hk, (db k (List.mem_cons_of_mem _ hk)).2⟩
    rw [List.length_cons]
    omega
theorem pw_lt_len {dead : List Nat} {j : Nat} (pw : dead.Pairwise (· < ·)) (db : ∀ k ∈ dead, k < j) : dead.length ≤ j := by
  have := pw_len dead 0 j (Nat.zero_le _) pw fun k hk => ⟨Nat.zero_le _, db k hk⟩
  omega
/-- a service, none of whose lists is s or D -/
def SlA (s D : Addr) (H : Hp) (v : V) (sv : Svc) : Prop := ∃ a ab ao xb xo, v = .ref a ∧ H a = some (.tup [.ref ab, .ref ao]) ∧ H ab = some (.lst xb) ∧ Brs H xb sv.1 ∧ H ao = some (.lst xo) ∧ Ots H xo (outs sv.2) ∧ (ab ≠ s ∧ ab ≠ D) ∧ ao ≠ s ∧ ao ≠ D
theorem SlA.at {s D : Addr} {H : Hp} {v : V} {sv : Svc} : SlA s D H v sv → SlAt H v sv := fun ⟨a, ab, ao, xb, xo, e, h1, h2, h3, h4, h5, _⟩ => ⟨a, ab, ao, xb, xo, e, h1, h2, h3, h4, h5⟩
theorem SlA.mv {s D : Addr} {H H' : Hp} {v : V} {sv : Svc} (n : NL H H') (k : ∀ b o, b ≠ s → b ≠ D → H b = some o → H' b = some o) : SlA s D H v sv → SlA s D H' v sv := fun ⟨a, ab, ao, xb, xo, e, h1, h2, h3, h4, h5, ⟨n1, n2⟩, n3, n4⟩ =>
  ⟨a, ab, ao, xb, xo, e, n _ _ h1 (fun _ z => nomatch z), k _ _ n1 n2 h2, h3.nl n, k _ _ n3 n4 h4, h5.nl n, ⟨n1, n2⟩, n3, n4⟩
theorem marks_mk {pat dead : List Nat} {n : Nat} (p0 : 1 ≤ pat.length) (pb : ∀ k ∈ pat, k < n) : (pat.map fun k => decide (k ∈ dead)) = mkL (mkD pat dead) pat.length := by
  refine List.ext_getElem? fun i => ?_
  by_cases c : i < pat.length
  · have h := (rtW_lt p0 pb i).1
    rw [Nat.mod_eq_of_lt c] at h
    rw [mkL_get c, List.getElem?_map, h]
    rfl
  · rw [List.getElem?_eq_none (by rw [List.length_map]; omega), List.getElem?_eq_none (by rw [mkL_len]; omega)]
theorem opsL_filter (fr : List Tri) (svs : List Svc) (pat : List Nat) (st : Int) (m : Nat) : ∀ n : Nat, (opsL fr svs pat st n).filter (fun p => decide ((p.1 : Int) < (m : Int))) = opsL fr svs pat st (min n m)
  | 0 => by
    rw [Nat.zero_min]
    simp [opsL]
  | n + 1 => by
    rw [opsL_succ, List.filter_append, opsL_filter fr svs pat st m n]
    by_cases c : n < m
    · rw [List.filter_eq_self.mpr (fun p hp => by
        obtain ⟨k, _, rfl⟩ := List.mem_map.mp hp
        exact decide_eq_true (show (n : Int) < (m : Int) by omega)), Nat.min_eq_left (by omega), Nat.min_eq_left (by omega), opsL_succ]
    · rw [List.filter_eq_nil_iff.mpr (fun p hp => by
        obtain ⟨k, _, rfl⟩ := List.mem_map.mp hp
        simp
        omega), List.append_nil, Nat.min_eq_right (by omega), Nat.min_eq_right (by omega)]
theorem src_ne {H : Hp} {s : Addr} {n : Nat} (h : Src H s n) : H s ≠ none := by
  obtain ⟨y, hy⟩ := h.has
  rw [hy]
  exact fun e => nomatch e
theorem opsL_pick (fr : List Tri) (svs : List Svc) (pat : List Nat) (st : Int) (j : Nat) : ∀ n : Nat, ((opsL fr svs pat st n).filter fun p => decide (p.1 = j)).map (·.2) = if j < n then rtOp fr svs pat st j else []
  | 0 => by
    rw [if_neg (Nat.not_lt_zero _)]
    simp [opsL]
  | n + 1 => by
    rw [opsL_succ, List.filter_append, List.map_append, opsL_pick fr svs pat st j n]
    by_cases c : j = n
    · subst c
      rw [if_neg (Nat.lt_irrefl _), if_pos (Nat.lt_succ_self _), List.filter_eq_self.mpr (fun p hp => by
        obtain ⟨k, _, rfl⟩ := List.mem_map.mp hp
        exact decide_eq_true rfl), List.map_map, List.nil_append]
      show (rtOp fr svs pat st j).map (fun k => k) = _
      rw [List.map_id']
    · rw [List.filter_eq_nil_iff.mpr (fun p hp => by
        obtain ⟨k, _, rfl⟩ := List.mem_map.mp hp
        simp
        omega), List.map_nil, List.append_nil]
      by_cases d : j < n
      · rw [if_pos d, if_pos (by omega)]
      · rw [if_neg d, if_neg (by omega)]
def fstO : Option (Int × List Nat) → Int
  | none => 120
  | some (n, _) => n
/-- nothing opens before the first opening -/
theorem ops_from {fr : List Tri} {svs : List Svc} {pat dead : List Nat} {st : Int} (hs : SvDown svs dead) (p0 : 1 ≤ pat.length) (pb : ∀ k ∈ pat, k < svs.length) (st0 : 1 ≤ st) (st1 : st ≤ 1000000000000) : ∀ {o : Option (Int × List Nat)}, FoIs fr (mkD pat dead) pat.length o → ∀ p ∈ opsL fr svs pat st 120, ¬ (p.1 : Int) < fstO o
  | none, h, p, hp, _ => by
    obtain ⟨h1, h2⟩ := opsL_mem hp
    rcases h with h | ⟨⟨q, hq, mq⟩, h⟩
    · subst h
      unfold rtOp at h2
      rw [List.mem_filter, List.mem_range] at h2
      exact absurd h2.1 (Nat.not_lt_zero _)
    · have := rt_shut (fr := fr) hs p0 pb st0 st1 (L := maxR (mkD pat dead) (2 * pat.length) + 1) (fun b hb => by have := h b hb; omega) (n := p.1) (by omega) (fun j hj => Nat.lt_succ_of_le (maxR_sup mkD_per p0 hq mq j))
      rw [this] at h2
      cases h2
  | some (n, op), ⟨L, j, L1, l1, _, _, en, f1, f2⟩, p, hp, c => by
    obtain ⟨h1, h2⟩ := opsL_mem hp
    have c : (p.1 : Int) < n := c
    have := rt_shut (fr := fr) hs p0 pb st0 st1 (L := L) l1 (n := p.1) (by omega) (fun i hi => f1 i (by omega))
    rw [this] at h2
    cases h2
def dnO (dead : List Nat) (j : Nat) : List (Int × Int) := if j ∈ dead then [(0, 1000000000000000000000000000000)] else []
section
variable {P : Program} {w : World} {K : PySem.W.Frag} {mg : Str → Option Value} {base : Heap} {L : LA}
abbrev N_law : List Str := ["_law_script", "_law_cell", "_law_source", "_law_common", "_law_size", "_law_pattern", "_law_dead", "_law_services", "_law_ways", "_law_marks", "_law_longest_here", "_law_due_here", "_law_opened", "_law_often", "_law_some", "_law_first", "_law_k", "_law_which", "_law_pair", "_law_number"]
theorem sc_law : FnScope N_law ["_law_script"] (defScope st_law) := ⟨rfl, rfl, rfl, by decide +kernel, rfl, by decide +kernel, by decide +kernel⟩
theorem ok_law {aLaw : Addr} {fd : FuncData} (F : Fun K "law" "law" st_law aLaw fd) (T : LX K mg L) : FnOk P w K mg base CX0 12 aLaw fd ["_law_script"] (spLaw K) := by
  have G_wsourceof := ok_wsourceof (P := P) (w := w) (base := base) T
  have G_wspecs := ok_wspecs (P := P) (w := w) (base := base) T
  have G_wlongest := ok_wlongest (P := P) (w := w) (base := base) T
  have G_wdue := ok_wdue (P := P) (w := w) (base := base) T
  have G_commonopenings := ok_commonopenings (P := P) (w := w) (base := base) T
  have G_wcellat := ok_wcellat (P := P) (w := w) (base := base) T
  have G_wone := ok_wone (P := P) (w := w) (base := base) T
  have G_wnext := ok_wnext (P := P) (w := w) (base := base) T
  have G_longestfailure := ok_longestfailure (P := P) (w := w) (base := base) T
  have G_firstopening := ok_firstopening (P := P) (w := w) (base := base) T
  have nd := sc_law.nd
  refine F.ok sc_law (fun vs H Q E h => ?_) (fun cdv A outer S H vs Q E hr h => ?_)
  · obtain ⟨a, ns, rfl, _⟩ := h
    rfl
  · obtain ⟨a, ns, rfl, hS, ln, k⟩ := h
    refine ⟨_, (pss_cons (ps_for PassesOwn.never rfl (pi_list (pe_op op_cat (pe_lst (pa_cons (pe_c G_wcellat (hr.mono (by decide)) rfl (pa_cons (pv 0) (pa_cons pe_int pa_nil))) pa_nil)) (pe_slice (r := rSlL K) sl_list (pv 0) (po_some pe_int) (po_some pe_int)))) (pg_name (i := 1) nd rfl (Or.inl rfl)) (pss_cons (ps_set (i := 2) nd rfl (Or.inr rfl) (pe_c G_wsourceof (hr.mono (by decide)) rfl (pa_cons (pv 1) pa_nil)))
       (pss_cons (ps_set (i := 3) nd rfl (Or.inl rfl) (pe_c G_wspecs (hr.mono (by decide)) rfl (pa_cons (pv 2) (pa_cons pe_int (pa_cons (pe_op op_pow pe_int pe_int) (pa_cons (pe_c G_wone (hr.mono (by decide)) rfl (pa_cons (pv 2) (pa_cons (pe_lst (pa_cons pe_int (pa_cons pe_int (pa_cons (pe_op op_pow pe_int pe_int) pa_nil)))) pa_nil))) pa_nil))))))
       (pss_cons (ps_set (i := 4) nd rfl (Or.inr rfl) (pe_op op_add pe_int (pe_c G_wnext (hr.mono (by decide)) rfl (pa_cons (pv 2) (pa_cons pe_int pa_nil)))))
       (pss_cons (ps_setLc (i := 5) (own := [("_law_k", 16)]) (g := gName 16) (tt := tYes) rfl nd rfl rfl (sw_true rfl rfl rfl (by decide +kernel)) (pi_range1 rfl T.b_range (pa_cons (pe_op op_add pe_int (pe_c G_wnext (hr.mono (by decide)) rfl (pa_cons (pv 2) (pa_cons (pe_c G_wone (hr.mono (by decide)) rfl (pa_cons (pv 2) (pa_cons (pe_lst (pa_cons pe_int (pa_cons pe_int pa_nil))) pa_nil))) pa_nil)))) pa_nil)) (blkOk_by (own := [("_law_k", 16)]) (N := N_law) (sc := defScope st_law) (by decide +kernel)) (fun _ _ _ _ _ => pg_name (i := 16) nd rfl (Or.inl rfl)) (fun _ _ _ _ _ => pts_nil) (fun _ _ _ _ _ => (pe_c G_wnext (hr.mono (by decide)) rfl (pa_cons (pv 2) (pa_cons (pv 4) pa_nil)))))
       (pss_cons (ps_set (i := 6) nd rfl (Or.inr rfl) (pe_lc (own := [("_law_k", 16)]) (g := gName 16) rfl nd (pi_range1 rfl T.b_range (pa_cons (pv 4) pa_nil)) (blkOk_by (own := [("_law_k", 16)]) (N := N_law) (sc := defScope st_law) (by decide +kernel)) (fun _ _ _ _ _ => pg_name (i := 16) nd rfl (Or.inl rfl)) (fun _ _ _ _ _ => pts_one (pt_cmpR op_eq (pe_c G_wnext (hr.mono (by decide)) rfl (pa_cons (pv 2) (pa_cons pe_int pa_nil))) pe_int (nomark _))) (fun _ _ _ _ _ => (pv 16))))
       (pss_cons (ps_setLc (i := 7) (own := [("_law_k", 16)]) (g := gName 16) (tt := tYes) rfl nd rfl rfl (sw_true rfl rfl rfl (by decide +kernel)) (pi_range1 rfl T.b_range (pa_cons (pv 4) pa_nil)) (blkOk_by (own := [("_law_k", 16)]) (N := N_law) (sc := defScope st_law) (by decide +kernel)) (fun _ _ _ _ _ => pg_name (i := 16) nd rfl (Or.inl rfl)) (fun _ _ _ _ _ => pts_nil) (fun _ _ _ _ _ => (pe_tup (pa_cons (pe_c G_wspecs (hr.mono (by decide)) rfl (pa_cons (pv 2) (pa_cons pe_int (pa_cons (pe_op op_pow pe_int pe_int) (pa_cons pe_int pa_nil))))) (pa_cons (pe_op op_rep (pe_lst (pa_cons (pe_tup (pa_cons pe_int (pa_cons (pe_op op_pow pe_int pe_int) pa_nil))) pa_nil)) (pe_callTy call_int1 (by rfl) T.b_int (by decide +kernel) (pa_cons (pe_cmpR (op_inK (K := K) rfl) (pv 16) (pv 6) rfl) pa_nil))) pa_nil)))))
       (pss_cons (ps_set (i := 8) nd rfl (Or.inl rfl) (pe_mkRoutes T (hr.mono (by decide)) rfl (pa_cons (pv 3) (pa_cons (pv 7) (pa_cons (pv 5) (pa_cons (pe_op op_add pe_int (pe_c G_wnext (hr.mono (by decide)) rfl (pa_cons (pv 2) (pa_cons (pe_op op_pow pe_int pe_int) pa_nil)))) pa_nil))))))
       (pss_cons (ps_setLc (i := 9) (own := [("_law_which", 17)]) (g := gName 17) (tt := tYes) rfl nd rfl rfl (sw_true rfl rfl rfl (by decide +kernel)) (pi_list (pv 5)) (blkOk_by (own := [("_law_which", 17)]) (N := N_law) (sc := defScope st_law) (by decide +kernel)) (fun _ _ _ _ _ => pg_name (i := 17) nd rfl (Or.inl rfl)) (fun _ _ _ _ _ => pts_nil) (fun _ _ _ _ _ => (pe_cmpR (op_inK (K := K) rfl) (pv 17) (pv 6) rfl)))
       (pss_cons (ps_set (i := 10) nd rfl (Or.inl rfl) (pe_c G_wlongest (hr.mono (by decide)) rfl (pa_cons (pv 9) pa_nil)))
       (pss_cons (ps_if (PW.pt (pw_or (pt_cmpR op_ne (pe_c G_longestfailure (hr.mono (by decide)) rfl (pa_cons (pv 8) (pa_cons (pv 6) pa_nil))) (pv 10) (nomark _)) (pw_or1 (pt_cmpR op_ne (pe_kr T.d_longest_failure (fun fd F => fn_longestfailure (P := P) (w := w) (base := base) T F) (fun _ _ _ _ _ _ us hl => by match us, hl with | [_, _], _ => rfl) (hr.mono (by decide)) rfl (pk_cons (pv 6) (pk_cons (pv 8) pk_nil))) (pv 10) (nomark _))))) (pss_one (ps_ret pe_bl)) pss_nil)
       (pss_cons (ps_set (i := 11) nd rfl (Or.inl rfl) (pe_c G_wdue (hr.mono (by decide)) rfl (pa_cons (pv 3) (pa_cons (pv 9) pa_nil))))
       (pss_cons (ps_if (PW.pt (pw_or (pt_cmpR (op_neD hr.units) (pe_c G_firstopening (hr.mono (by decide)) rfl (pa_cons (pv 8) (pa_cons (pv 6) pa_nil))) (pv 11) (nomark _)) (pw_or1 (pt_cmpR (op_neD hr.units) (pe_kr T.d_first_opening (fun fd F => fn_firstopening (P := P) (w := w) (base := base) T F) (fun _ _ _ _ _ _ us hl => by match us, hl with | [_, _], _ => rfl) (hr.mono (by decide)) rfl (pk_cons (pv 6) (pk_cons (pv 8) pk_nil))) (pv 11) (nomark _))))) (pss_one (ps_ret pe_bl)) pss_nil)
       (pss_cons (ps_set (i := 12) nd rfl (Or.inl rfl) (pe_c G_commonopenings (hr.mono (by decide)) rfl (pa_cons (pv 8) (pa_cons pe_int pa_nil))))
       (pss_cons (ps_for PassesOwn.never rfl (pi_tup (pe_tup (pa_cons (pe_c G_wnext (hr.mono (by decide)) rfl (pa_cons (pv 2) (pa_cons pe_int pa_nil))) (pa_cons pe_int (pa_cons (pe_c G_wnext (hr.mono (by decide)) rfl (pa_cons (pv 2) (pa_cons pe_int pa_nil))) pa_nil))))) (pg_name (i := 13) nd rfl (Or.inr rfl)) (pss_cons (ps_setLc (i := 14) (own := [("_law_pair", 18)]) (g := gName 18) rfl nd rfl rfl (sw_true rfl rfl rfl (by decide +kernel)) (pi_list (pv 12)) (blkOk_by (own := [("_law_pair", 18)]) (N := N_law) (sc := defScope st_law) (by decide +kernel)) (fun _ _ _ _ _ => pg_name (i := 18) nd rfl (Or.inl rfl)) (fun _ _ _ _ _ => pts_one (pt_cmpR op_lt (pe_ix (r := rIxT K) ix_tup (pv 18) pe_int (fun _ _ => rfl)) (pv 13) (nomark _))) (fun _ _ _ _ _ => (pv 18)))
       (pss_one (ps_if (pt_cmpR (op_neD hr.units) (pe_lc (own := [("_law_pair", 18)]) (g := gName 18) rfl nd (pi_list (pe_c G_commonopenings (hr.mono (by decide)) rfl (pa_cons (pv 8) (pa_cons (pv 13) pa_nil)))) (blkOk_by (own := [("_law_pair", 18)]) (N := N_law) (sc := defScope st_law) (by decide +kernel)) (fun _ _ _ _ _ => pg_name (i := 18) nd rfl (Or.inl rfl)) (fun _ _ _ _ _ => pts_one (pt_cmpR op_lt (pe_ix (r := rIxT K) ix_tup (pv 18) pe_int (fun _ _ => rfl)) pe_int (nomark _))) (fun _ _ _ _ _ => (pv 18))) (pv 14) (nomark _)) (pss_one (ps_ret pe_bl)) pss_nil))))
       (C8.pss_cut (ps_if (PW.pt (pw_and (pt_cmp (pc_isN (pv 11))) (pw_and1 (pt_cmpR (op_neD hr.units) (pv 12) (pe_lst pa_nil) (nomark _))))) (pss_one (ps_ret pe_bl)) pss_nil)
       (C8.pss_cut (ps_set (i := 15) nd rfl (Or.inr rfl) (pe_ix (r := rIxT K) ix_tup (pe_orT (pv 11) (pe_one (pe_tup (pa_cons pe_int (pa_cons (pe_lst pa_nil) pa_nil))))) pe_int (fun _ _ => rfl)))
       (C8.pss_cut (ps_if (PW.pt (pw_and (pt_cmpR op_lt (pv 15) pe_int (nomark _)) (pw_and1 (pt_cmpR (op_neD hr.units) (pe_lc (own := [("_law_number", 19), ("_law_k", 16)]) (g := gTup K 2 (gCons (gName 19) (gCons (gName 16) (gNil)))) rfl nd (pi_list (pv 12)) (blkOk_by (own := [("_law_number", 19), ("_law_k", 16)]) (N := N_law) (sc := defScope st_law) (by decide +kernel)) (fun _ _ _ _ _ => pg_tup rfl (pgs_cons (pg_name (i := 19) nd rfl (Or.inl rfl)) (pgs_cons (pg_name (i := 16) nd rfl (Or.inl rfl)) pgs_nil))) (fun _ _ _ _ _ => pts_one (pt_cmpR op_eq (pv 19) (pv 15) (nomark _))) (fun _ _ _ _ _ => (pv 16))) (pe_ix (r := rIxT K) ix_tup (pv 11) pe_int (fun _ _ => rfl)) (nomark _))))) (pss_one (ps_ret pe_bl)) pss_nil)
       (pss_cons (ps_if (pt_cmpR (op_neD hr.units) (pe_lc (own := [("_law_number", 19), ("_law_k", 16)]) (g := gTup K 2 (gCons (gName 19) (gCons (gName 16) (gNil)))) rfl nd (pi_list (pv 12)) (blkOk_by (own := [("_law_number", 19), ("_law_k", 16)]) (N := N_law) (sc := defScope st_law) (by decide +kernel)) (fun _ _ _ _ _ => pg_tup rfl (pgs_cons (pg_name (i := 19) nd rfl (Or.inl rfl)) (pgs_cons (pg_name (i := 16) nd rfl (Or.inl rfl)) pgs_nil))) (fun _ _ _ _ _ => pts_one (pt_cmpR op_lt (pv 19) (pv 15) (nomark _))) (fun _ _ _ _ _ => pe_int)) (pe_lst pa_nil) (nomark _)) (pss_one (ps_ret pe_bl)) pss_nil)
       (pss_cons (ps_if (PW.pt (pw_or (pt_cmpR op_ne (pe_c G_longestfailure (hr.mono (by decide)) rfl (pa_cons (pv 8) (pa_cons (pe_lst pa_nil) pa_nil))) pe_int (nomark _)) (pw_or1 (pt_cmp (pc_notN (pe_c G_firstopening (hr.mono (by decide)) rfl (pa_cons (pv 8) (pa_cons (pe_lst pa_nil) pa_nil)))))))) (pss_one (ps_ret pe_bl)) pss_nil)
       (pss_one (ps_if (pt_cmp (pc_notN (pe_c G_longestfailure (hr.mono (by decide)) rfl (pa_cons (pv 8) (pa_cons (pe_listRg rfl (by rfl) T.b_list (prg_1 (by rfl) T.b_range (pv 4))) pa_nil))))) (pss_one (ps_ret pe_bl)) pss_nil))))))))))))))))))))))
       (pss_one (ps_ret pe_bl))), ?_⟩
    refine ⟨_, rfl, a, ns, 0, rfl, hS, Int.le_refl _, fun z => ⟨(by show 1 ≤ sizeLine; decide), fun l1 hl1 => ?_⟩⟩
    have z1 : Same H (upd H l1 (.lst [.int z])) := Same.upd hl1
    refine ⟨_, rfl, 1, rfl, 5, rfl, a, ns.map V.int, rfl, z1.seq hS, fun l2 hl2 => ?_⟩
    refine ⟨l1, l2, _, _, rfl, rfl, (Same.upd hl2) _ _ upd_same, upd_same, small2 (by have := cutV_length (ns.map V.int) (some 1) (some 5); rw [List.length_map] at this; show 1 + _ ≤ 100000; omega), fun l3 hl3 => ?_⟩
    have items : ∀ v ∈ [V.int z] ++ cutV (ns.map V.int) (some 1) (some 5), ∃ c, v = .int c := fun v hv => by
      rcases List.mem_append.mp hv with hv | hv
      · exact ⟨z, by simpa using hv⟩
      · obtain ⟨c, _, e⟩ := List.mem_map.mp (List.mem_of_mem_drop (List.mem_of_mem_take hv))
        exact ⟨c, e.symm⟩
    have sI : Same H (upd (upd (upd H l1 (.lst [.int z])) l2 (.lst (cutV (ns.map V.int) (some 1) (some 5)))) l3 (.lst ([.int z] ++ cutV (ns.map V.int) (some 1) (some 5)))) := (z1.trans (Same.upd hl2)).trans (Same.upd hl3)
    generalize hit : [V.int z] ++ cutV (ns.map V.int) (some 1) (some 5) = its at items sI ⊢
    refine ⟨l3, rfl, ⟨_, SqL.of upd_same⟩, ?_⟩
    refine for_list (K := K) (a := l3) (xs := its) (fun i σ H2 => ∃ v1 v2 v3 v4 v5 v6 v7 v8 v9 v10 v11 v12 v13 v14 v15 v16 v17 v18 v19 : Option V, σ = [some (.ref a), v1, v2, v3, v4, v5, v6, v7, v8, v9, v10, v11, v12, v13, v14, v15, v16, v17, v18, v19] ∧ H2 l3 = some (.lst its) ∧ Same H H2)
      ⟨none, none, none, none, none, none, none, none, none, none, none, none, none, none, none, none, none, none, none, rfl, by rw [upd_same], sI⟩ (fun i σ H2 _ ⟨_, _, _, _, _, _, _, _, _, _, _, _, _, _, _, _, _, _, _, _, e, _⟩ => SqL.of e) ?_ ?_
    rotate_left
    · rintro σ H2 ⟨_, _, _, _, _, _, _, _, _, _, _, _, _, _, _, _, _, _, _, rfl, _, sH2⟩
      exact k H2
    rintro i v σ H0 hi ⟨v1, v2, v3, v4, v5, v6, v7, v8, v9, v10, v11, v12, v13, v14, v15, v16, v17, v18, v19, rfl, hL, sH0⟩
    obtain ⟨cc, rfl⟩ := items v (List.mem_of_getElem? hi)
    refine ⟨_, rfl, cc, rfl, fun s H1 hs0 y1 src1 => ?_⟩
    have nls : l3 ≠ s := ne_of_none hL hs0
    have hL1 := y1 _ _ hL
    have nHs : H s = none := by
      cases c : H s with
      | none => rfl
      | some o => rw [sH0 _ _ c] at hs0; cases hs0
    obtain ⟨y1', hy1⟩ := src1.has
    have p20 : (10 : Int) ^ (20 : Int).toNat = 100000000000000000000 := by decide +kernel
    have p12 : (10 : Int) ^ (12 : Int).toNat = 1000000000000 := by decide +kernel
    refine ⟨_, rfl, _, _, rfl, rfl, ⟨by decide, by decide, by decide⟩, ?_⟩
    refine choice_gen (P := P) (w := w) (mg := mg) (a := s) (n := 0) (ns := [5, 5, 10 ^ (12 : Int).toNat]) rfl src1 (by decide) (fun R h => ⟨_, _, rfl, rfl, ⟨by decide, by decide, by decide⟩, h⟩) (by simp) (by simp) fun mny HA hm1 srcA kA => ?_
    have mn1 : 2 ≤ mny ∧ mny ≤ 1000000000000 := by
      simp only [List.mem_cons, List.mem_nil_iff, or_false] at hm1
      rcases hm1 with rfl | rfl | rfl
      · decide
      · decide
      · rw [p12]
        decide
    refine ⟨s, _, 4, _, mny, rfl, srcA, by decide, by decide, by decide, (by show (3 : Int) ≤ (10 : Int) ^ (20 : Int).toNat; rw [p20]; decide), (by show (10 : Int) ^ (20 : Int).toNat ≤ _; rw [p20]; decide), mn1.1, mn1.2, fun la xa fr H2 hla hba okt okf lfr src2 k2 nla => ?_⟩
    refine ⟨_, rfl, s, 4, _, rfl, by decide, by decide, src2, by decide, fun q H3 q0 q1 src3 k3 => ⟨_, _, rfl, rfl, ?_⟩⟩
    obtain ⟨sz, hsz⟩ : ∃ sz : Nat, (sz : Int) = 1 + q := ⟨(1 + q).toNat, by omega⟩
    show gName 4 (.int (1 + q)) _ _ _
    rw [← hsz]
    have sz4 : 1 ≤ sz ∧ sz ≤ 4 := ⟨by omega, by omega⟩
    refine draw_gen (P := P) (w := w) (mg := mg) (a := s) (n := _) (ns := [6, 20]) (hi := 20) rfl src3 (by omega) (fun R h => h) (by simp) (by simp) (fun m hm => ?_) (by decide +kernel) fun r H4 r0 r1 _ src4 k4 => ⟨_, _, rfl, rfl, _, rfl, by omega, by omega, fun D hD => ?_⟩
    · simp only [List.mem_cons, List.mem_nil_iff, or_false] at hm
      rcases hm with rfl | rfl <;> exact ⟨by decide, by decide⟩
    obtain ⟨pl, hpl⟩ : ∃ pl : Nat, (1 + r).toNat = pl := ⟨_, rfl⟩
    rw [hpl]
    have s4D := src4.has
    obtain ⟨y4, hy4⟩ := s4D
    have nDs : D ≠ s := (ne_of_none hy4 hD).symm
    have nlas : la ≠ s := fun e => by
      obtain ⟨y, hy⟩ := src2.has
      rw [e] at nla
      obtain ⟨yA, hyA⟩ := srcA.has
      rw [hyA] at nla
      cases nla
    have hla4 := k4 _ _ nlas (k3 _ _ nlas hla)
    have hba4 : Brs H4 xa fr := L2.Paired.mapP hba fun _ _ ⟨b, e, h⟩ => ⟨b, e, by
      have bs : b ≠ s := fun z => by rw [z] at h; obtain ⟨y, hy⟩ := src2.has; rw [hy] at h; cases h
      exact k4 _ _ bs (k3 _ _ bs h)⟩
    have kH4 : Kp s H1 H4 := ((kA.trans k2).trans k3).trans k4
    refine lc_range (lo := 0) (n := pl) (fun j Hx => ∃ pat : List Nat, Hx D = some (.lst (pat.map pnV)) ∧ pat.length = j ∧ (∀ k ∈ pat, k < sz) ∧ Src Hx s (94404 + 1101 * j) ∧ (∀ b o, b ≠ s → H4 b = some o → Hx b = some o))
      ⟨[], upd_same, rfl, fun k h => (nomatch h), (src4.same (Same.upd hD)).mono (by omega), fun b o _ e => by rw [upd_ne (ne_of_none e hD)]; exact e⟩ ?_ ?_
    · rintro j Hx hj ⟨pat, hDx, plen, pb, srcx, kx⟩
      refine ⟨rfl, tYes_of ⟨_, rfl, _, rfl, s, (sz : Int), _, rfl, by omega, Nat.lt_of_le_of_lt (show (sz : Int).natAbs ≤ 4 by omega) (by decide +kernel), srcx, by omega, fun r' Hy r0' r1' srcy ky => ?_⟩⟩
      obtain ⟨rn, rfl⟩ := Int.eq_ofNat_of_zero_le r0'
      have hDy := ky _ _ nDs hDx
      refine ⟨_, hDy, small1 (by rw [List.length_map]; omega), pat ++ [rn], by rw [upd_same, List.map_append]; rfl, by rw [List.length_append, plen]; rfl, fun k hk => ?_, ?_, fun b o n e => ?_⟩
      · rcases List.mem_append.mp hk with hk | hk
        · exact pb k hk
        · rw [List.mem_singleton.mp hk]
          omega
      · exact src_kp Kp.upd nDs.symm (srcy.mono (by omega))
      · rw [upd_ne (ne_of_none e hD)]
        exact ky _ _ n (kx _ _ n e)
    rintro H5 ⟨pat, hD5, plen, pb, src5, k5⟩
    -- the services that are down
    refine ⟨_, rfl, _, rfl, by omega, by omega, fun Dd hDd => ?_⟩
    rw [Int.toNat_natCast]
    obtain ⟨y5, hy5⟩ := src5.has
    have nDds : Dd ≠ s := (ne_of_none hy5 hDd).symm
    refine lc_range (lo := 0) (n := sz) (fun j Hx => ∃ dead : List Nat, Hx Dd = some (.lst (dead.map pnV)) ∧ dead.Pairwise (· < ·) ∧ (∀ k ∈ dead, k < j) ∧ Src Hx s (94404 + 1101 * 20 + 1101 * j) ∧ (∀ b o, b ≠ s → H5 b = some o → Hx b = some o))
      ⟨[], upd_same, List.Pairwise.nil, fun k h => (nomatch h), (src5.same (Same.upd hDd)).mono (by omega), fun b o _ e => by rw [upd_ne (ne_of_none e hDd)]; exact e⟩ ?_ ?_
    · rintro j Hx hj ⟨dead, hDx, pw, db, srcx, kx⟩
      rw [Int.zero_add]
      refine ⟨rfl, _, rfl, s, 2, _, rfl, by decide, by decide, srcx, by omega, fun z Hy z0 z1 srcy ky => ⟨rfl, _, rfl, ?_⟩⟩
      have hDy := ky _ _ nDds hDx
      have dl := pw_lt_len pw db
      refine ite2 (fun c => ?_) (fun c => ?_)
      · refine ⟨_, rfl, _, hDy, small1 (by rw [List.length_map]; omega), dead ++ [j], by rw [upd_same, List.map_append]; rfl, List.pairwise_append.mpr ⟨pw, List.pairwise_singleton _ _, fun x hx y hy => by rw [List.mem_singleton.mp hy]; exact db x hx⟩, fun k hk => ?_, ?_, fun b o n e => ?_⟩
        · rcases List.mem_append.mp hk with hk | hk
          · exact Nat.lt_succ_of_lt (db k hk)
          · rw [List.mem_singleton.mp hk]
            exact Nat.lt_succ_self j
        · exact src_kp Kp.upd nDds.symm (srcy.mono (by omega))
        · rw [upd_ne (ne_of_none e hDd)]
          exact ky _ _ n (kx _ _ n e)
      · exact ⟨dead, hDy, pw, fun k hk => Nat.lt_succ_of_lt (db k hk), srcy.mono (by omega), fun b o n e => ky _ _ n (kx _ _ n e)⟩
    rintro H6 ⟨dead, hDd6, pw, db, src6, k6⟩
    have hD6 := k6 _ _ nDs hD5
    have k46 : ∀ b o, b ≠ s → H4 b = some o → H6 b = some o := fun b o n e => k6 _ _ n (k5 _ _ n e)
    -- the services
    refine ⟨_, rfl, _, rfl, by omega, by omega, fun Ds hDs => ?_⟩
    rw [Int.toNat_natCast]
    have e30 : (10 : Int) ^ (30 : Int).toNat = 1000000000000000000000000000000 := by decide +kernel
    obtain ⟨y6, hy6⟩ := src6.has
    have nDss : Ds ≠ s := (ne_of_none hy6 hDs).symm
    refine lc_range (lo := 0) (n := sz) (fun j Hx => ∃ zs svs, Hx Ds = some (.lst zs) ∧ Paired (SlA s Ds Hx) zs svs ∧ svs.length = j ∧ SvDown svs dead ∧ (∀ sv ∈ svs, OkSv sv) ∧ Src Hx s (120828 + 90000 * j) ∧ (∀ b o, b ≠ s → H6 b = some o → Hx b = some o))
      ⟨[], [], upd_same, .nil, rfl, fun w sv h => by simp at h, fun sv h => (nomatch h), (src6.same (Same.upd hDs)).mono (by omega), fun b o _ e => by rw [upd_ne (ne_of_none e hDs)]; exact e⟩ ?_ ?_
    · rintro j Hx hj ⟨zs, svs, hDx, hz, sl, sd, oks, srcx, kx⟩
      rw [Int.zero_add]
      refine ⟨rfl, tYes_of ⟨_, rfl, _, _, rfl, rfl, ⟨by decide, by decide, by decide⟩, s, _, 2, _, 4, rfl, srcx, by omega, by decide, by decide, (by show (3 : Int) ≤ (10 : Int) ^ (20 : Int).toNat; rw [p20]; decide), (by show (10 : Int) ^ (20 : Int).toNat ≤ _; rw [p20]; decide), by decide, by decide, fun lb xb bs Ha hlb hbb okb okfb lbl srca ka nlb => ?_⟩⟩
      obtain ⟨yx, hyx⟩ := srcx.has
      have nlbs : lb ≠ s := (ne_of_none hyx nlb).symm
      have nlbD : lb ≠ Ds := (ne_of_none hDx nlb).symm
      have hDa := ka _ _ nDss hDx
      have zl := paired_len hz
      -- the end of the turn
      have fin : ∀ (Hb : Hp) (lo2 t2 : Addr) (xo : List V), Hb lo2 = some (.lst xo) → Ots Hb xo (outs (dnO dead j)) → Same Ha Hb → Ha lo2 = none → Hb t2 = none → ∃ acc, (upd Hb t2 (.tup [.ref lb, .ref lo2])) Ds = some (.lst acc) ∧ acc.length < sizeLine ∧ ∃ zs svs, (upd (upd Hb t2 (.tup [.ref lb, .ref lo2])) Ds (.lst (acc ++ [.ref t2]))) Ds = some (.lst zs) ∧ Paired (SlA s Ds (upd (upd Hb t2 (.tup [.ref lb, .ref lo2])) Ds (.lst (acc ++ [.ref t2])))) zs svs ∧ svs.length = j + 1 ∧ SvDown svs dead ∧ (∀ sv ∈ svs, OkSv sv) ∧ Src (upd (upd Hb t2 (.tup [.ref lb, .ref lo2])) Ds (.lst (acc ++ [.ref t2]))) s (120828 + 90000 * (j + 1)) ∧ (∀ b o, b ≠ s → H6 b = some o → (upd (upd Hb t2 (.tup [.ref lb, .ref lo2])) Ds (.lst (acc ++ [.ref t2]))) b = some o) := by
        intro Hb lo2 t2 xo hlo2 hot sab nlo2 ht2
        have s2 := sab.trans (Same.upd (o := .tup [.ref lb, .ref lo2]) ht2)
        have hD2 := s2 _ _ hDa
        have lo2b := (Same.upd (o := .tup [.ref lb, .ref lo2]) ht2) _ _ hlo2
        have n2 := NL.upd (o := .lst (zs ++ [.ref t2])) hD2
        have nx := ((Kp.nl ka hyx).trans (NL.of s2)).trans n2
        have nlo2s : lo2 ≠ s := by
          obtain ⟨ya, hya⟩ := srca.has
          exact (ne_of_none hya nlo2).symm
        have nlo2D : lo2 ≠ Ds := (ne_of_none hDa nlo2).symm
        have od : OkSv (bs, dnO dead j) := by
          refine ⟨okb, by show bs.length ≤ 12; omega, ?_, ?_⟩
          · show VOut 0 (dnO dead j)
            unfold dnO
            split
            · exact ⟨by decide, by decide, by decide, True.intro⟩
            · exact True.intro
          · show (dnO dead j).length ≤ 50
            unfold dnO
            split <;> decide
        refine ⟨zs, hD2, small1 (by omega), zs ++ [.ref t2], svs ++ [(bs, dnO dead j)], upd_same, ?_, by rw [List.length_append, sl]; rfl, fun w sv h => ?_, fun sv h => ?_, ?_, fun b o n e => ?_⟩
        · refine paired_app (L2.Paired.mapP hz fun _ _ z => z.mv nx fun b o n1 n2' e => ?_) (.cons ⟨t2, lb, lo2, xb, xo, rfl, ?_, ?_, ?_, ?_, ?_, ⟨nlbs, nlbD⟩, nlo2s, nlo2D⟩ .nil)
          · rw [upd_ne n2']
            exact s2 _ _ (ka _ _ n1 e)
          · exact n2 _ _ upd_same fun _ z => nomatch z
          · rw [upd_ne nlbD]
            exact s2 _ _ hlb
          · exact (hbb.nl (NL.of s2)).nl n2
          · rw [upd_ne nlo2D]
            exact lo2b
          · exact (hot.nl (NL.of (Same.upd (o := .tup [.ref lb, .ref lo2]) ht2))).nl n2
        · by_cases c : w < svs.length
          · rw [List.getElem?_append_left c] at h
            exact sd w sv h
          · rw [List.getElem?_append_right (by omega)] at h
            have w0 : w = j := by
              have := (List.getElem?_eq_some_iff.mp h).1
              rw [List.length_singleton] at this
              omega
            rw [w0, sl, Nat.sub_self] at h
            have e : (bs, dnO dead j) = sv := Option.some.inj h
            rw [← e, w0]
            exact ⟨okb, rfl⟩
        · rcases List.mem_append.mp h with h | h
          · exact oks sv h
          · rw [List.mem_singleton.mp h]
            exact od
        · exact src_kp Kp.upd nDss.symm ((srca.same s2).mono (by omega))
        · rw [upd_ne (ne_of_none e hDs)]
          exact s2 _ _ (ka _ _ n (kx _ _ n e))
      refine ⟨_, _, rfl, rfl, ⟨by decide, by decide, by decide⟩, (by show 2 ≤ sizeLine; decide), fun tp htp => ⟨(by show 1 ≤ sizeLine; decide), fun lo hlo => ?_⟩⟩
      rw [show (fun (i j : Int) => V.int (i ^ j.toNat)) (10 : Int) 30 = V.int 1000000000000000000000000000000 from congrArg V.int e30] at *
      have sL := (Same.upd (o := .tup [.int 0, .int 1000000000000000000000000000000]) htp).trans (Same.upd (o := .lst [.ref tp]) hlo)
      have glo : (upd (upd Ha tp (.tup [.int 0, .int 1000000000000000000000000000000])) lo (.lst [.ref tp])) lo = some (.lst [.ref tp]) := upd_same
      have gtp := (Same.upd (o := .lst [.ref tp]) hlo) _ _ (upd_same (H := Ha) (a := tp) (o := .tup [.int 0, .int 1000000000000000000000000000000]))
      generalize upd (upd Ha tp (.tup [.int 0, .int 1000000000000000000000000000000])) lo (.lst [.ref tp]) = HL at sL glo gtp ⊢
      have hDdL := sL _ _ (ka _ _ nDds (kx _ _ nDds hDd6))
      refine ⟨_, rfl, _, rfl, Dd, _, rfl, .inl (SqL.of hDdL), rfl, flat_pns _, ?_⟩
      have ei : inV (V.int (j : Int)) (dead.map pnV) = decide (j ∈ dead) := inV_pns j dead
      by_cases c : j ∈ dead
      · rw [ei, decide_eq_true c]
        refine .inr ⟨true, rfl, lo, 1, _, rfl, rfl, glo, by decide, by decide, (by show 1 * 1 ≤ sizeLine; decide), fun po hpo => ⟨(by show 2 ≤ sizeLine; decide), fun t2 ht2 => ?_⟩⟩
        refine fin _ po t2 [.ref tp] upd_same ?_ (sL.trans (Same.upd hpo)) (none_of sL hpo) ht2
        unfold dnO
        rw [if_pos c]
        exact .cons ⟨tp, rfl, (Same.upd (o := .lst [.ref tp]) hpo) _ _ gtp⟩ .nil
      · rw [ei, decide_eq_false c]
        refine .inr ⟨false, rfl, lo, 0, _, rfl, rfl, glo, by decide, by decide, (by show 1 * 0 ≤ sizeLine; decide), fun po hpo => ⟨(by show 2 ≤ sizeLine; decide), fun t2 ht2 => ?_⟩⟩
        refine fin _ po t2 [] upd_same ?_ (sL.trans (Same.upd hpo)) (none_of sL hpo) ht2
        unfold dnO
        rw [if_neg c]
        exact .nil
    rintro H7 ⟨zs, svs, hDs7, hz, sl, sdn, oks, src7, k7⟩
    obtain ⟨y7, hy7⟩ := src7.has
    -- the routes
    have p9 : (10 : Int) ^ (9 : Int).toNat = 1000000000 := by decide +kernel
    have hla7 := k7 _ _ nlas (k46 _ _ nlas hla4)
    refine ⟨_, rfl, _, rfl, _, rfl, _, rfl, _, _, rfl, rfl, ⟨by decide, by decide, by decide⟩, s, _, _, rfl, (by show (0 : Int) < (10 : Int) ^ (9 : Int).toNat; rw [p9]; decide), (by show ((10 : Int) ^ (9 : Int).toNat).natAbs < _; rw [p9]; decide +kernel), src7, by omega, fun st0 H8 st00 st01 src8 k8 => ⟨_, _, rfl, rfl, ?_⟩⟩
    have st0' : 0 ≤ st0 ∧ st0 < 1000000000 := ⟨st00, by have := st01; rw [p9] at this; exact this⟩
    have hla8 := k8 _ _ nlas hla7
    have hba8 : Brs H8 xa fr := L2.Paired.mapP hba4 fun _ _ ⟨b, e, h⟩ => ⟨b, e, by
      have bs : b ≠ s := fun z => by rw [z, hy4] at h; cases h
      exact k8 _ _ bs (k7 _ _ bs (k46 _ _ bs h))⟩
    have hDs8 := k8 _ _ nDss hDs7
    have hz8 : Paired (SlAt H8) zs svs := L2.Paired.mapP hz fun _ _ z => (z.mv (Kp.nl k8 hy7) fun b o n1 _ e => k8 _ _ n1 e).at
    have hD8 := k8 _ _ nDs (k7 _ _ nDs hD6)
    have hDd8 := k8 _ _ nDds (k7 _ _ nDds hDd6)
    have RO : RtOk fr svs pat (1 + st0) := ⟨okt, by omega, oks, by omega, by omega, by omega, by omega, fun k hk => by rw [sl]; exact pb k hk, by omega, by omega⟩
    refine routes_made (fr := fr) (svs := svs) (pat := pat) (st := 1 + st0) hla8 hba8 hDs8 hz8 hD8 RO fun pr H9 RV s9 n9 => ?_
    have st1 : 1 ≤ 1 + st0 ∧ 1 + st0 ≤ 1000000000000 := ⟨by omega, by omega⟩
    generalize 1 + st0 = st at RV RO st1 ⊢
    have p0 := RO.p0
    have p1 := RO.p1
    have hD9 := s9 _ _ hD8
    have hDd9 := s9 _ _ hDd8
    -- the marks
    refine ⟨_, rfl, D, rfl, ⟨_, SqL.of hD9⟩, fun Dm hDm => ?_⟩
    refine lc_list (K := K) (a := D) (xs := pat.map pnV) (fun j Hx => Hx Dm = some (.lst (((pat.take j).map fun k => decide (k ∈ dead)).map V.bl)) ∧ Same H9 Hx) ⟨upd_same, Same.upd hDm⟩ (fun j Hx _ ⟨_, s⟩ => SqL.of (s _ _ hD9)) ?_ ?_
    · rintro j x Hx hxj ⟨hDx, sx⟩
      rw [List.getElem?_map] at hxj
      obtain ⟨k', hk', rfl⟩ := Option.map_eq_some_iff.mp hxj
      have hj := (List.getElem?_eq_some_iff.mp hk').1
      refine ⟨rfl, tYes_of ⟨_, rfl, _, rfl, Dd, _, rfl, .inl (SqL.of (sx _ _ hDd9)), rfl, flat_pns _, ?_⟩⟩
      rw [show inV (pnV k') (dead.map pnV) = decide (k' ∈ dead) from inV_pns k' dead]
      refine ⟨_, hDx, small1 (by rw [List.length_map, List.length_map, List.length_take]; omega), ?_, fun u w e => by rw [upd_ne (ne_of_none e hDm)]; exact sx _ _ e⟩
      rw [upd_same, List.take_add_one, hk', List.map_append, List.map_append]
      rfl
    rintro HM ⟨hDmM, sM⟩
    rw [List.length_map, List.take_length, marks_mk p0 (fun k hk => RO.pb k hk)] at hDmM
    have RVM := RV.nl (NL.of sM)
    -- the longest failure
    refine ⟨_, rfl, Dm, mkD pat dead, pat.length, rfl, hDmM, p0, p1, mkD_per, fun HN sN => ?_⟩
    have db' : ∀ k ∈ dead, k < svs.length := fun k hk => by rw [sl]; exact db k hk
    obtain ⟨lg, hlg⟩ : ∃ lg, lg = lgO (mkD pat dead) pat.length := ⟨_, rfl⟩
    have scl : scal (cV lg) (cV lg) = true := by cases lg <;> rfl
    rw [← hlg]
    have s9N := sM.trans sN
    have RVN := RV.nl (NL.of s9N)
    refine ⟨_, rfl, _, rfl, pr, fr, svs, pat, st, Dd, dead, rfl, RVN, s9N _ _ hDd9, pw, db', fun Ha sa => ⟨_, rfl, ?_⟩⟩
    rw [← hlg]
    refine ⟨scl, false, by rw [decide_eq_true rfl]; rfl, iteF ?_⟩
    refine ⟨_, rfl, _, rfl, rfl, rfl, pr, fr, svs, pat, st, Dd, dead, rfl, RVN.nl (NL.of sa), sa _ _ (s9N _ _ hDd9), pw, db', fun Hb sb => ⟨_, rfl, ?_⟩⟩
    rw [← hlg]
    refine ⟨scl, false, by rw [decide_eq_true rfl]; rfl, iteF ?_⟩
    have s9b := (s9N.trans sa).trans sb
    -- the first opening
    have hbab : Brs Hb xa fr := hba8.nl (NL.of (s9.trans s9b))
    refine ⟨_, rfl, _, rfl, la, Dm, xa, fr, mkD pat dead, pat.length, rfl, s9b _ _ (s9 _ _ hla8), hbab, okt, by omega, sb _ _ (sa _ _ (sN _ _ hDmM)), p0, p1, mkD_per, fun x o Hc fo fa sc => ?_⟩
    have s9c := s9b.trans sc
    refine ⟨_, rfl, _, rfl, pr, fr, svs, pat, st, Dd, dead, rfl, RV.nl (NL.of s9c), s9c _ _ hDd9, pw, db', fun x2 o2 Hd fo2 fa2 sd => ⟨_, rfl, ?_⟩⟩
    have eo := FoIs.uniq mkD_per fo2 fo
    subst eo
    refine ⟨foD o2, foD o2, fa2.dp, (fa.at.same sd).dp, foD_sh _, foD_sh _, false, by rw [foD_eq]; rfl, iteF ?_⟩
    have s9d := s9c.trans sd
    refine ⟨_, rfl, _, rfl, rfl, rfl, pr, fr, svs, pat, st, Dd, dead, rfl, RV.nl (NL.of s9d), s9d _ _ hDd9, pw, db', fun x3 o3 He fo3 fa3 se => ⟨_, rfl, ?_⟩⟩
    have eo := FoIs.uniq mkD_per fo3 fo
    subst eo
    refine ⟨foD o3, foD o3, fa3.dp, ((fa.at.same sd).same se).dp, foD_sh _, foD_sh _, false, by rw [foD_eq]; rfl, iteF ?_⟩
    have s9e := s9d.trans se
    have fae := (fa.same sd).same se
    -- the openings
    refine ⟨_, rfl, pr, fr, svs, pat, st, 120, rfl, RV.nl (NL.of s9e), by decide, fun lo xo Hf hlo hxo sf nf => ?_⟩
    have s9f := s9e.trans sf
    have faf := fae.same sf
    have srcF := src8.same (s9.trans s9f)
    refine ⟨_, rfl, s, 120, _, rfl, by decide, by decide, srcF, by omega, fun ra Hg ra0 ra1 srcG kg => ⟨_, rfl, s, 120, _, rfl, by decide, by decide, srcG, by omega, fun rb Hh rb0 rb1 srcH kh => ⟨(by show 3 ≤ sizeLine; decide), fun t4 ht4 => ⟨t4, rfl, ⟨_, SqT.of upd_same⟩, ?_⟩⟩⟩⟩
    have nlo : lo ≠ s := by
      obtain ⟨y, hy⟩ := (src8.same (s9.trans s9e)).has
      exact (ne_of_none hy nf).symm
    obtain ⟨yF, hyF⟩ := srcF.has
    obtain ⟨yG, hyG⟩ := srcG.has
    have sT4 := Same.upd (o := .tup [.int ra, .int 150, .int rb]) ht4
    have gt4 : (upd Hh t4 (.tup [.int ra, .int 150, .int rb])) t4 = some (.tup [.int ra, .int 150, .int rb]) := upd_same
    have nFI : NL Hf (upd Hh t4 (.tup [.int ra, .int 150, .int rb])) := ((Kp.nl kg hyF).trans (Kp.nl kh hyG)).trans (NL.of sT4)
    have kFI : ∀ b o, b ≠ s → Hf b = some o → (upd Hh t4 (.tup [.int ra, .int 150, .int rb])) b = some o := fun b o n e => sT4 _ _ (kh _ _ n (kg _ _ n e))
    have faI : FoNw Hb (upd Hh t4 (.tup [.int ra, .int 150, .int rb])) x o3 := ((FoNw.kp (src_ne (src8.same (s9.trans s9b))) hyG kh (FoNw.kp (src_ne (src8.same (s9.trans s9b))) hyF kg (((fa.same sd).same se).same sf))).same sT4)
    generalize upd Hh t4 (.tup [.int ra, .int 150, .int rb]) = HI at sT4 gt4 nFI kFI faI ⊢
    have loI := kFI _ _ nlo hlo
    have hxoI : Paired (PrAt HI) xo (opsL fr svs pat st 120) := L2.Paired.mapP hxo fun _ _ z => z.nl nFI
    have RVI := (RV.nl (NL.of s9f)).nl nFI
    have kAll : ∀ b o, b ≠ s → H1 b = some o → HI b = some o := fun b o n e => kFI _ _ n (s9f _ _ (s9 _ _ (k8 _ _ n (k7 _ _ n (k46 _ _ n (kH4 _ _ n e))))))
    have hLI := kAll _ _ nls hL1
    have sHI : Same H HI := fun b o e => kAll b o (ne_of_none e nHs) (y1 _ _ (sH0 _ _ e))
    have xol : xo.length ≤ 1800 := by
      have h1 := paired_len hxo
      have h2 := opsL_len fr svs pat st 120
      have h3 : fr.length * 120 ≤ 4 * 120 := Nat.mul_le_mul_right _ (by omega)
      omega
    have its3 : ∀ x ∈ [V.int ra, V.int 150, V.int rb], ∃ M : Nat, x = .int (M : Int) ∧ M ≤ 150 := fun x hx => by
      simp only [List.mem_cons, List.mem_nil_iff, or_false] at hx
      rcases hx with rfl | rfl | rfl
      · exact ⟨ra.toNat, by rw [Int.toNat_of_nonneg (by omega)], by omega⟩
      · exact ⟨150, rfl, by omega⟩
      · exact ⟨rb.toNat, by rw [Int.toNat_of_nonneg (by omega)], by omega⟩
    refine for_tup (K := K) (a := t4) (xs := [V.int ra, V.int 150, V.int rb]) (fun i σ Hx => ∃ v13 v14 v15 v16 v17 v18 v19 : Option V, σ = [some (.ref a), some (.int cc), some (.ref s), some (.ref la), some (.int (sz : Int)), some (.ref D), some (.ref Dd), some (.ref Ds), some (.ref pr), some (.ref Dm), some (cV lg), some x, some (.ref lo), v13, v14, v15, v16, v17, v18, v19] ∧ Same HI Hx)
      ⟨_, _, _, _, _, _, _, rfl, Same.refl _⟩ (fun i σ Hx _ ⟨_, _, _, _, _, _, _, _, e⟩ => SqT.of (e _ _ gt4)) ?_ ?_
    · rintro i xi σ Hx0 hxi ⟨v13, v14, v15, v16, v17, v18, v19, rfl, sx0⟩
      obtain ⟨n, rfl, n150⟩ := its3 xi (List.mem_of_getElem? hxi)
      have loX := sx0 _ _ loI
      have hxoX : Paired (PrAt Hx0) xo (opsL fr svs pat st 120) := L2.Paired.mapP hxoI fun _ _ z => z.nl (NL.of sx0)
      refine ⟨_, rfl, lo, rfl, ⟨_, SqL.of loX⟩, fun D1 hD1 => ?_⟩
      refine lc_list (K := K) (a := lo) (xs := xo) (fun j Hx => ∃ ys, Hx D1 = some (.lst ys) ∧ Paired (PrAt Hx0) ys (((opsL fr svs pat st 120).take j).filter fun p => decide ((p.1 : Int) < (n : Int))) ∧ ys.length ≤ j ∧ Same Hx0 Hx) ⟨[], upd_same, .nil, Nat.le_refl _, Same.upd hD1⟩ (fun j Hx _ ⟨_, _, _, _, s⟩ => SqL.of (s _ _ loX)) ?_ ?_
      · rintro j x Hx hxj ⟨ys, hDx, hp, yl, sx⟩
        obtain ⟨q, hq, c0, rfl, hc0⟩ := paired_get hxoX hxj
        have hj := (List.getElem?_eq_some_iff.mp hxj).1
        refine ⟨rfl, _, rfl, c0, _, 0, .int (q.1 : Int), rfl, rfl, SqT.of (sx _ _ hc0), rfl, _, rfl, _, _, rfl, rfl, _, rfl, ?_⟩
        rw [List.take_add_one, hq, List.filter_append]
        refine ite2 (fun z => ?_) (fun z => ?_)
        · rw [show (some q).toList.filter (fun p => decide ((p.1 : Int) < (n : Int))) = [q] from by simpa using z]
          exact ⟨_, rfl, _, hDx, small1 (by omega), _, upd_same, paired_app hp (.cons ⟨c0, rfl, hc0⟩ .nil), by rw [List.length_append]; exact Nat.succ_le_succ yl, fun u w e => by rw [upd_ne (ne_of_none e hD1)]; exact sx _ _ e⟩
        · rw [show (some q).toList.filter (fun p => decide ((p.1 : Int) < (n : Int))) = [] from by simpa using z, List.append_nil]
          exact ⟨_, hDx, hp, Nat.le_succ_of_le yl, sx⟩
      rintro HJ ⟨ys1, hD1J, hp1, yl1, sJ⟩
      rw [paired_len hxo, List.take_length, opsL_filter] at hp1
      refine ⟨_, rfl, _, rfl, pr, fr, svs, pat, st, n, rfl, (RVI.nl (NL.of sx0)).nl (NL.of sJ), by omega, fun l2 x2 Ha hl2 hx2 s2 n2 => ⟨l2, rfl, ⟨_, SqL.of hl2⟩, fun D2 hD2 => ?_⟩⟩
      have x2l : x2.length ≤ 1800 := by
        have h1 := paired_len hx2
        have h2 := opsL_len fr svs pat st n
        have h3 : fr.length * n ≤ 4 * 150 := Nat.mul_le_mul (by omega) (by omega)
        omega
      refine lc_list (K := K) (a := l2) (xs := x2) (fun j Hx => ∃ ys, Hx D2 = some (.lst ys) ∧ Paired (PrAt Ha) ys (((opsL fr svs pat st n).take j).filter fun p => decide ((p.1 : Int) < 120)) ∧ ys.length ≤ j ∧ Same Ha Hx) ⟨[], upd_same, .nil, Nat.le_refl _, Same.upd hD2⟩ (fun j Hx _ ⟨_, _, _, _, s⟩ => SqL.of (s _ _ hl2)) ?_ ?_
      · rintro j x Hx hxj ⟨ys, hDx, hp, yl, sx⟩
        obtain ⟨q, hq, c0, rfl, hc0⟩ := paired_get hx2 hxj
        have hj := (List.getElem?_eq_some_iff.mp hxj).1
        refine ⟨rfl, _, rfl, c0, _, 0, .int (q.1 : Int), rfl, rfl, SqT.of (sx _ _ hc0), rfl, _, _, rfl, rfl, _, rfl, ?_⟩
        rw [List.take_add_one, hq, List.filter_append]
        refine ite2 (fun z => ?_) (fun z => ?_)
        · rw [show (some q).toList.filter (fun p => decide ((p.1 : Int) < 120)) = [q] from by simpa using z]
          exact ⟨_, rfl, _, hDx, small1 (by omega), _, upd_same, paired_app hp (.cons ⟨c0, rfl, hc0⟩ .nil), by rw [List.length_append]; exact Nat.succ_le_succ yl, fun u w e => by rw [upd_ne (ne_of_none e hD2)]; exact sx _ _ e⟩
        · rw [show (some q).toList.filter (fun p => decide ((p.1 : Int) < 120)) = [] from by simpa using z, List.append_nil]
          exact ⟨_, hDx, hp, Nat.le_succ_of_le yl, sx⟩
      rintro HK ⟨ys2, hD2K, hp2, yl2, sK⟩
      rw [paired_len hx2, List.take_length, show (120 : Int) = ((120 : Nat) : Int) from rfl, opsL_filter, Nat.min_comm] at hp2
      have sJK := s2.trans sK
      have d1 := prs_dp (K := K) (L2.Paired.mapP hp1 fun _ _ z => z.nl (NL.of (sJ.trans sJK)))
      have d2 := prs_dp (K := K) (L2.Paired.mapP hp2 fun _ _ z => z.nl (NL.of sK))
      refine ⟨_, rfl, _, _, .lst (SqL.of hD2K) d2, .lst (SqL.of (sJK _ _ hD1J)) d1, prs_sh _, prs_sh _, false, by rw [prs_eq]; rfl, iteF ?_⟩
      exact ⟨_, _, _, _, _, _, _, rfl, ((sx0.trans sJ).trans sJK)⟩
    rintro σ Hx ⟨v13, v14, v15, v16, v17, v18, v19, rfl, sx⟩
    have hno : ∀ p ∈ opsL fr svs pat st 120, ¬ (p.1 : Int) < fstO o3 := ops_from sdn p0 RO.pb st1.1 st1.2 fo
    refine ⟨fun σ' H' => ∃ v13 v14 v15 v16 v17 v18 v19 : Option V, σ' = [some (.ref a), some (.int cc), some (.ref s), some (.ref la), some (.int (sz : Int)), some (.ref D), some (.ref Dd), some (.ref Ds), some (.ref pr), some (.ref Dm), some (cV lg), some x, some (.ref lo), v13, v14, v15, v16, v17, v18, v19] ∧ Same HI H', ?_, ?_⟩
    · cases o3 with
      | none =>
        have e : x = .non := faI
        subst e
        refine ⟨_, rfl, _, rfl, iteT ⟨_, rfl, (by show 0 ≤ sizeLine; decide), fun le hle => ?_⟩⟩
        have s2 := sx.trans (Same.upd (o := .lst []) hle)
        have dd := prs_dp (K := K) (L2.Paired.mapP hxoI fun _ _ z => z.nl (NL.of s2))
        have eo : opsL fr svs pat st 120 = [] := List.eq_nil_iff_forall_not_mem.mpr fun p hp => hno p hp (by have := (opsL_mem hp).1; show (p.1 : Int) < 120; omega)
        rw [eo] at dd
        exact ⟨.list [], .list [], .lst (SqL.of (s2 _ _ loI)) dd, .lst (SqL.of upd_same) .nil, by decide, by decide, false, by simp [PyData.eqv, PyData.eqvAll], iteF ⟨_, _, _, _, _, _, _, rfl, s2⟩⟩
      | some no =>
        obtain ⟨n, op⟩ := no
        obtain ⟨xa', xl', rfl, h1, h2, _⟩ := faI
        exact ⟨_, rfl, _, rfl, iteF (iteF ⟨_, _, _, _, _, _, _, rfl, sx⟩)⟩
    rintro σ Hx ⟨v13, v14, v15, v16, v17, v18, v19, rfl, sx⟩
    refine ⟨fun σ' H' => ∃ v13 v14 v16 v17 v18 v19 : Option V, σ' = [some (.ref a), some (.int cc), some (.ref s), some (.ref la), some (.int (sz : Int)), some (.ref D), some (.ref Dd), some (.ref Ds), some (.ref pr), some (.ref Dm), some (cV lg), some x, some (.ref lo), v13, v14, some (.int (fstO o3)), v16, v17, v18, v19] ∧ Same HI H', ?_, ?_⟩
    · cases o3 with
      | none =>
        have e : x = .non := faI
        subst e
        refine ⟨_, rfl, false, rfl, iteF ⟨(by show 0 ≤ sizeLine; decide), fun l0 hl0 => ⟨(by show 2 ≤ sizeLine; decide), fun t0 ht0 => ⟨t0, _, 0, .int 120, rfl, rfl, SqT.of upd_same, rfl, ?_⟩⟩⟩⟩
        exact ⟨_, _, _, _, _, _, rfl, (sx.trans (Same.upd hl0)).trans (Same.upd ht0)⟩
      | some no =>
        obtain ⟨n, op⟩ := no
        obtain ⟨xa', xl', rfl, h1, h2, _⟩ := faI
        exact ⟨_, rfl, true, .inr (.inl ⟨_, SqT.of (sx _ _ h1), rfl⟩), iteT ⟨xa', _, 0, .int n, rfl, rfl, SqT.of (sx _ _ h1), rfl, _, _, _, _, _, _, rfl, sx⟩⟩
    rintro σ Hx ⟨v13, v14, v16, v17, v18, v19, rfl, sx⟩
    refine ⟨fun σ' H' => ∃ v13 v14 v16 v17 v18 v19 : Option V, σ' = [some (.ref a), some (.int cc), some (.ref s), some (.ref la), some (.int (sz : Int)), some (.ref D), some (.ref Dd), some (.ref Ds), some (.ref pr), some (.ref Dm), some (cV lg), some x, some (.ref lo), v13, v14, some (.int (fstO o3)), v16, v17, v18, v19] ∧ Same HI H', ?_, ?_⟩
    · cases o3 with
      | none => exact ⟨_, rfl, _, _, rfl, rfl, false, rfl, iteF (iteF ⟨_, _, _, _, _, _, rfl, sx⟩)⟩
      | some no =>
        obtain ⟨n, op⟩ := no
        obtain ⟨xa', xl', rfl, g1, g2, _⟩ := faI
        refine ⟨_, rfl, _, _, rfl, rfl, _, rfl, ?_⟩
        show if decide (n < 120) = true then _ else _
        by_cases c : n < 120
        · rw [decide_eq_true c]
          obtain ⟨L', j, L1, l1, _, eop, en, f1, f2⟩ := fo
          have hxoX : Paired (PrAt Hx) xo (opsL fr svs pat st 120) := L2.Paired.mapP hxoI fun _ _ z => z.nl (NL.of sx)
          refine iteT ⟨_, rfl, lo, rfl, ⟨_, SqL.of (sx _ _ loI)⟩, fun D3 hD3 => ?_⟩
          refine lc_list (K := K) (a := lo) (xs := xo) (fun i Hy => Hy D3 = some (.lst (((((opsL fr svs pat st 120).take i).filter fun p => decide (p.1 = j)).map (·.2)).map pnV)) ∧ Same Hx Hy) ⟨upd_same, Same.upd hD3⟩ (fun i Hy _ ⟨_, s⟩ => SqL.of (s _ _ (sx _ _ loI))) ?_ ?_
          · rintro i y Hy hyi ⟨hDy, sy⟩
            obtain ⟨q, hq, c0', rfl, hc0⟩ := paired_get hxoX hyi
            have hi := (List.getElem?_eq_some_iff.mp hyi).1
            refine ⟨c0', _, rfl, SqT.of (sy _ _ hc0), rfl, _, _, rfl, _, _, rfl, rfl, rfl, ?_⟩
            refine ⟨_, rfl, _, rfl, rfl, _, rfl, ?_⟩
            have ev : decide (V.int (q.1 : Int) = V.int n) = decide (q.1 = j) := by
              rw [Bool.eq_iff_iff, decide_eq_true_iff, decide_eq_true_iff]
              constructor
              · intro z
                injection z with z
                omega
              · intro z
                rw [z, en]
            show if decide (V.int (q.1 : Int) = V.int n) = true then _ else _
            rw [ev, List.take_add_one, hq, List.filter_append]
            refine ite2 (fun z => ?_) (fun z => ?_)
            · rw [show (some q).toList.filter (fun p => decide (p.1 = j)) = [q] from by simpa using z, List.map_append, List.map_append]
              refine ⟨_, rfl, _, hDy, small1 ?_, upd_same, fun u w e => by rw [upd_ne (ne_of_none e hD3)]; exact sy _ _ e⟩
              rw [List.length_map, List.length_map]
              have h1 := List.length_filter_le (fun p : Nat × Nat => decide (p.1 = j)) ((opsL fr svs pat st 120).take i)
              rw [List.length_take] at h1
              omega
            · rw [show (some q).toList.filter (fun p => decide (p.1 = j)) = [] from by simpa using z, List.append_nil]
              exact ⟨hDy, sy⟩
          rintro Hy ⟨hDy, sy⟩
          have jl : j < 120 := by omega
          have er : rtOp fr svs pat st j = op := by
            rw [rt_open (fr := fr) sdn p0 RO.pb st1.1 st1.2 (L := L') l1 (n := j) (by omega) f1 f2 L1, eop]
            rfl
          rw [paired_len hxo, List.take_length, opsL_pick, if_pos jl, er] at hDy
          have sxy := sx.trans sy
          have hDy' : Hy D3 = some (.lst ((op.map fun (k : Nat) => (k : Int)).map V.int)) := by rw [hDy, List.map_map]; rfl
          have g2' : Hy xl' = some (.lst ((op.map fun (k : Nat) => (k : Int)).map V.int)) := by rw [sxy _ _ g2, List.map_map]; rfl
          refine ⟨_, rfl, xa', _, 1, .ref xl', rfl, rfl, SqT.of (sxy _ _ g1), rfl, ?_⟩
          refine ⟨_, _, Dp.ints hDy', Dp.ints g2', shInts _, shInts _, false, by rw [eqInts, decide_eq_true rfl]; rfl, iteF ?_⟩
          exact ⟨_, _, _, _, _, _, rfl, sxy⟩
        · rw [decide_eq_false c]
          exact iteF (iteF ⟨_, _, _, _, _, _, rfl, sx⟩)
    rintro σ Hx ⟨v13, v14, v16, v17, v18, v19, rfl, sx⟩
    have hxoX : Paired (PrAt Hx) xo (opsL fr svs pat st 120) := L2.Paired.mapP hxoI fun _ _ z => z.nl (NL.of sx)
    refine ⟨_, rfl, lo, rfl, ⟨_, SqL.of (sx _ _ loI)⟩, fun D4 hD4 => ?_⟩
    refine lc_list (K := K) (a := lo) (xs := xo) (fun i Hy => Hy D4 = some (.lst []) ∧ Same Hx Hy) ⟨upd_same, Same.upd hD4⟩ (fun i Hy _ ⟨_, s⟩ => SqL.of (s _ _ (sx _ _ loI))) ?_ ?_
    · rintro i y Hy hyi ⟨hDy, sy⟩
      obtain ⟨q, hq, c0', rfl, hc0⟩ := paired_get hxoX hyi
      refine ⟨c0', _, rfl, SqT.of (sy _ _ hc0), rfl, _, _, rfl, _, _, rfl, rfl, rfl, ?_⟩
      refine ⟨_, rfl, _, rfl, _, _, rfl, rfl, _, rfl, ite2 (fun z => absurd (of_decide_eq_true z) (hno q (List.mem_of_getElem? hq))) fun _ => ⟨hDy, sy⟩⟩
    rintro Hy ⟨hDy, sy⟩
    refine ⟨(by show 0 ≤ sizeLine; decide), fun le hle => ?_⟩
    have se' := Same.upd (o := .lst []) hle
    refine ⟨_, _, Dp.ints (ns := []) (se' _ _ hDy), Dp.ints (ns := []) upd_same, shInts _, shInts _, false, by rw [eqInts, decide_eq_true rfl]; rfl, iteF ?_⟩
    have sxe := (sx.trans sy).trans se'
    generalize upd Hy le (.lst []) = HE at se' sxe ⊢
    -- no service down
    refine ⟨_, rfl, (by show 0 ≤ sizeLine; decide), fun lz hlz => ?_⟩
    have sz1 := sxe.trans (Same.upd (o := .lst []) hlz)
    have pe : ∀ i, mkD pat [] i = false := fun i => rfl
    have lz0 : lgO (mkD pat []) pat.length = some 0 := by
      unfold lgO
      rw [if_neg (fun h => by have := List.all_eq_true.mp h 0 (List.mem_range.mpr (by omega)); rw [pe] at this; cases this)]
      obtain ⟨i, _, e⟩ := maxR_at (mkD pat []) (2 * pat.length)
      rw [← e, runF_none pe]
      rfl
    refine ⟨pr, fr, svs, pat, st, lz, [], rfl, RVI.nl (NL.of sz1), upd_same, List.Pairwise.nil, fun k h => (nomatch h), fun Hz sHz => ?_⟩
    rw [lz0]
    refine ⟨rfl, false, rfl, iteF ⟨_, rfl, (by show 0 ≤ sizeLine; decide), fun ly hly => ?_⟩⟩
    have sz2 := (sz1.trans sHz).trans (Same.upd (o := .lst []) hly)
    refine ⟨pr, fr, svs, pat, st, ly, [], rfl, RVI.nl (NL.of sz2), upd_same, List.Pairwise.nil, fun k h => (nomatch h), fun x4 o4 Hw fo4 fa4 sw => ?_⟩
    have eo4 : o4 = none := FoIs.uniq mkD_per fo4 (show FoIs fr (mkD pat []) pat.length none from by
      by_cases fe : fr = []
      · exact .inl fe
      · refine .inr ⟨⟨0, by omega, rfl⟩, fun b hb => ?_⟩
        obtain ⟨i, _, e⟩ := maxR_at (mkD pat []) (2 * pat.length)
        rw [← e, runF_none pe]
        exact Int.lt_of_lt_of_le (by decide) (okt b hb).1)
    subst eo4
    have ex4 : x4 = .non := fa4
    subst ex4
    refine ⟨false, rfl, iteF ?_⟩
    have sz3 := sz2.trans sw
    -- all services down
    refine ⟨_, rfl, _, rfl, (sz : Int), rfl, ⟨by decide, by decide, by omega, by omega, by omega⟩, fun lw hlw => ?_⟩
    have sz4' := sz3.trans (Same.upd (o := .lst (rgV 0 (sz : Int))) hlw)
    have erg : rgV 0 (sz : Int) = (List.range sz).map pnV := by
      unfold rgV
      rw [Int.sub_zero, Int.toNat_natCast]
      refine List.map_congr_left fun i _ => ?_
      show V.int (0 + (i : Int)) = V.int (i : Int)
      rw [Int.zero_add]
    rw [erg] at sz4' ⊢
    refine ⟨pr, fr, svs, pat, st, lw, List.range sz, rfl, RVI.nl (NL.of sz4'), upd_same, List.pairwise_lt_range, fun k h => by rw [sl]; exact List.mem_range.mp h, fun Hv sv => ?_⟩
    have lall : lgO (mkD pat (List.range sz)) pat.length = none := by
      unfold lgO
      have h : (List.range pat.length).all (mkD pat (List.range sz)) = true := List.all_eq_true.mpr fun i _ => by
        have h := (rtW_lt p0 RO.pb i).2
        rw [sl] at h
        exact decide_eq_true (List.mem_range.mpr h)
      rw [if_pos h]
    rw [lall]
    have sEnd := sz4'.trans sv
    exact ⟨false, rfl, iteF ⟨_, _, _, _, _, _, _, _, _, _, _, _, _, _, _, _, _, _, _, rfl, sEnd _ _ hLI, sHI.trans sEnd⟩⟩
end
/-! ### the end -/
theorem bn_q0 (kV doc pm : Value) (an : Option Addr) (cdv ct : Value) (us : List Value) (hl : us.length = (["k"] : List Str).length) : bindArgs (PySem.W.fnOf "_wall" "_wall" (defArgs st__wall) (defBody st__wall) (defScope st__wall) .none kV doc pm an cdv ct) ⟨us, []⟩ = pure ((["k"] : List Str).zip us) :=
  match us, hl with | [_], _ => rfl
theorem bn_q1 (kV doc pm : Value) (an : Option Addr) (cdv ct : Value) (us : List Value) (hl : us.length = (["value"] : List Str).length) : bindArgs (PySem.W.fnOf "is_integer" "is_integer" (defArgs st_is_integer) (defBody st_is_integer) (defScope st_is_integer) .none kV doc pm an cdv ct) ⟨us, []⟩ = pure ((["value"] : List Str).zip us) :=
  match us, hl with | [_], _ => rfl
theorem bn_q2 (kV doc pm : Value) (an : Option Addr) (cdv ct : Value) (us : List Value) (hl : us.length = (["value", "least"] : List Str).length) : bindArgs (PySem.W.fnOf "is_at_least" "is_at_least" (defArgs st_is_at_least) (defBody st_is_at_least) (defScope st_is_at_least) .none kV doc pm an cdv ct) ⟨us, []⟩ = pure ((["value", "least"] : List Str).zip us) :=
  match us, hl with | [_, _], _ => rfl
theorem bn_q3 (kV doc pm : Value) (an : Option Addr) (cdv ct : Value) (us : List Value) (hl : us.length = (["value", "least", "most"] : List Str).length) : bindArgs (PySem.W.fnOf "is_within" "is_within" (defArgs st_is_within) (defBody st_is_within) (defScope st_is_within) .none kV doc pm an cdv ct) ⟨us, []⟩ = pure ((["value", "least", "most"] : List Str).zip us) :=
  match us, hl with | [_, _, _], _ => rfl
theorem bn_q4 (kV doc pm : Value) (an : Option Addr) (cdv ct : Value) (us : List Value) (hl : us.length = (["value"] : List Str).length) : bindArgs (PySem.W.fnOf "is_breaker" "is_breaker" (defArgs st_is_breaker) (defBody st_is_breaker) (defScope st_is_breaker) .none kV doc pm an cdv ct) ⟨us, []⟩ = pure ((["value"] : List Str).zip us) :=
  match us, hl with | [_], _ => rfl
theorem bn_q5 (kV doc pm : Value) (an : Option Addr) (cdv ct : Value) (us : List Value) (hl : us.length = (["breakers", "part"] : List Str).length) : bindArgs (PySem.W.fnOf "check_breakers" "check_breakers" (defArgs st_check_breakers) (defBody st_check_breakers) (defScope st_check_breakers) .none kV doc pm an cdv ct) ⟨us, []⟩ = pure ((["breakers", "part"] : List Str).zip us) :=
  match us, hl with | [_, _], _ => rfl
theorem bn_q6 (kV doc pm : Value) (an : Option Addr) (cdv ct : Value) (us : List Value) (hl : us.length = (["step"] : List Str).length) : bindArgs (PySem.W.fnOf "check_step" "check_step" (defArgs st_check_step) (defBody st_check_step) (defScope st_check_step) .none kV doc pm an cdv ct) ⟨us, []⟩ = pure ((["step"] : List Str).zip us) :=
  match us, hl with | [_], _ => rfl
theorem bn_q7 (kV doc pm : Value) (an : Option Addr) (cdv ct : Value) (us : List Value) (hl : us.length = (["number"] : List Str).length) : bindArgs (PySem.W.fnOf "closed_states" "closed_states" (defArgs st_closed_states) (defBody st_closed_states) (defScope st_closed_states) .none kV doc pm an cdv ct) ⟨us, []⟩ = pure ((["number"] : List Str).zip us) :=
  match us, hl with | [_], _ => rfl
theorem bn_q8 (kV doc pm : Value) (an : Option Addr) (cdv ct : Value) (us : List Value) (hl : us.length = (["breaker", "state", "time"] : List Str).length) : bindArgs (PySem.W.fnOf "passes" "passes" (defArgs st_passes) (defBody st_passes) (defScope st_passes) .none kV doc pm an cdv ct) ⟨us, []⟩ = pure ((["breaker", "state", "time"] : List Str).zip us) :=
  match us, hl with | [_, _, _], _ => rfl
theorem bn_q9 (kV doc pm : Value) (an : Option Addr) (cdv ct : Value) (us : List Value) (hl : us.length = (["breaker", "state", "time", "succeeded"] : List Str).length) : bindArgs (PySem.W.fnOf "state_behind" "state_behind" (defArgs st_state_behind) (defBody st_state_behind) (defScope st_state_behind) .none kV doc pm an cdv ct) ⟨us, []⟩ = pure ((["breaker", "state", "time", "succeeded"] : List Str).zip us) :=
  match us, hl with | [_, _, _, _], _ => rfl
theorem bn_q10 (kV doc pm : Value) (an : Option Addr) (cdv ct : Value) (us : List Value) (hl : us.length = (["breakers", "states", "time", "up"] : List Str).length) : bindArgs (PySem.W.fnOf "sent" "sent" (defArgs st_sent) (defBody st_sent) (defScope st_sent) .none kV doc pm an cdv ct) ⟨us, []⟩ = pure ((["breakers", "states", "time", "up"] : List Str).zip us) :=
  match us, hl with | [_, _, _, _], _ => rfl
theorem bn_q11 (kV doc pm : Value) (an : Option Addr) (cdv ct : Value) (us : List Value) (hl : us.length = (["outages"] : List Str).length) : bindArgs (PySem.W.fnOf "check_outages" "check_outages" (defArgs st_check_outages) (defBody st_check_outages) (defScope st_check_outages) .none kV doc pm an cdv ct) ⟨us, []⟩ = pure ((["outages"] : List Str).zip us) :=
  match us, hl with | [_], _ => rfl
theorem bn_q12 (kV doc pm : Value) (an : Option Addr) (cdv ct : Value) (us : List Value) (hl : us.length = (["value"] : List Str).length) : bindArgs (PySem.W.fnOf "is_outage" "is_outage" (defArgs st_is_outage) (defBody st_is_outage) (defScope st_is_outage) .none kV doc pm an cdv ct) ⟨us, []⟩ = pure ((["value"] : List Str).zip us) :=
  match us, hl with | [_], _ => rfl
theorem bn_q13 (kV doc pm : Value) (an : Option Addr) (cdv ct : Value) (us : List Value) (hl : us.length = (["value"] : List Str).length) : bindArgs (PySem.W.fnOf "is_service" "is_service" (defArgs st_is_service) (defBody st_is_service) (defScope st_is_service) .none kV doc pm an cdv ct) ⟨us, []⟩ = pure ((["value"] : List Str).zip us) :=
  match us, hl with | [_], _ => rfl
theorem bn_q14 (kV doc pm : Value) (an : Option Addr) (cdv ct : Value) (us : List Value) (hl : us.length = (["services"] : List Str).length) : bindArgs (PySem.W.fnOf "check_services" "check_services" (defArgs st_check_services) (defBody st_check_services) (defScope st_check_services) .none kV doc pm an cdv ct) ⟨us, []⟩ = pure ((["services"] : List Str).zip us) :=
  match us, hl with | [_], _ => rfl
theorem bn_q15 (kV doc pm : Value) (an : Option Addr) (cdv ct : Value) (us : List Value) (hl : us.length = (["pattern", "number"] : List Str).length) : bindArgs (PySem.W.fnOf "check_pattern" "check_pattern" (defArgs st_check_pattern) (defBody st_check_pattern) (defScope st_check_pattern) .none kV doc pm an cdv ct) ⟨us, []⟩ = pure ((["pattern", "number"] : List Str).zip us) :=
  match us, hl with | [_, _], _ => rfl
theorem bn_q16 (kV doc pm : Value) (an : Option Addr) (cdv ct : Value) (us : List Value) (hl : us.length = (["outages", "time"] : List Str).length) : bindArgs (PySem.W.fnOf "is_up" "is_up" (defArgs st_is_up) (defBody st_is_up) (defScope st_is_up) .none kV doc pm an cdv ct) ⟨us, []⟩ = pure ((["outages", "time"] : List Str).zip us) :=
  match us, hl with | [_, _], _ => rfl
theorem bn_q17 (kV doc pm : Value) (an : Option Addr) (cdv ct : Value) (us : List Value) (hl : us.length = (["routes", "count"] : List Str).length) : bindArgs (PySem.W.fnOf "sent_requests" "sent_requests" (defArgs st_sent_requests) (defBody st_sent_requests) (defScope st_sent_requests) .none kV doc pm an cdv ct) ⟨us, []⟩ = pure ((["routes", "count"] : List Str).zip us) :=
  match us, hl with | [_, _], _ => rfl
theorem bn_q18 (kV doc pm : Value) (an : Option Addr) (cdv ct : Value) (us : List Value) (hl : us.length = (["routes", "count"] : List Str).length) : bindArgs (PySem.W.fnOf "common_openings" "common_openings" (defArgs st_common_openings) (defBody st_common_openings) (defScope st_common_openings) .none kV doc pm an cdv ct) ⟨us, []⟩ = pure ((["routes", "count"] : List Str).zip us) :=
  match us, hl with | [_, _], _ => rfl
theorem bn_q19 (kV doc pm : Value) (an : Option Addr) (cdv ct : Value) (us : List Value) (hl : us.length = (["routes", "down"] : List Str).length) : bindArgs (PySem.W.fnOf "check_down" "check_down" (defArgs st_check_down) (defBody st_check_down) (defScope st_check_down) .none kV doc pm an cdv ct) ⟨us, []⟩ = pure ((["routes", "down"] : List Str).zip us) :=
  match us, hl with | [_, _], _ => rfl
theorem bn_q20 (kV doc pm : Value) (an : Option Addr) (cdv ct : Value) (us : List Value) (hl : us.length = (["routes", "down"] : List Str).length) : bindArgs (PySem.W.fnOf "failing_runs" "failing_runs" (defArgs st_failing_runs) (defBody st_failing_runs) (defScope st_failing_runs) .none kV doc pm an cdv ct) ⟨us, []⟩ = pure ((["routes", "down"] : List Str).zip us) :=
  match us, hl with | [_, _], _ => rfl
theorem bn_q21 (kV doc pm : Value) (an : Option Addr) (cdv ct : Value) (us : List Value) (hl : us.length = (["routes", "down"] : List Str).length) : bindArgs (PySem.W.fnOf "longest_failure" "longest_failure" (defArgs st_longest_failure) (defBody st_longest_failure) (defScope st_longest_failure) .none kV doc pm an cdv ct) ⟨us, []⟩ = pure ((["routes", "down"] : List Str).zip us) :=
  match us, hl with | [_, _], _ => rfl
theorem bn_q22 (kV doc pm : Value) (an : Option Addr) (cdv ct : Value) (us : List Value) (hl : us.length = (["routes", "down"] : List Str).length) : bindArgs (PySem.W.fnOf "first_opening" "first_opening" (defArgs st_first_opening) (defBody st_first_opening) (defScope st_first_opening) .none kV doc pm an cdv ct) ⟨us, []⟩ = pure ((["routes", "down"] : List Str).zip us) :=
  match us, hl with | [_, _], _ => rfl
theorem bn_q23 (kV doc pm : Value) (an : Option Addr) (cdv ct : Value) (us : List Value) (hl : us.length = (["_law_cell"] : List Str).length) : bindArgs (PySem.W.fnOf "_law_source_of" "_law_source_of" (defArgs st__law_source_of) (defBody st__law_source_of) (defScope st__law_source_of) .none kV doc pm an cdv ct) ⟨us, []⟩ = pure ((["_law_cell"] : List Str).zip us) :=
  match us, hl with | [_], _ => rfl
theorem bn_q24 (kV doc pm : Value) (an : Option Addr) (cdv ct : Value) (us : List Value) (hl : us.length = (["_law_source", "_law_many"] : List Str).length) : bindArgs (PySem.W.fnOf "_law_next" "_law_next" (defArgs st__law_next) (defBody st__law_next) (defScope st__law_next) .none kV doc pm an cdv ct) ⟨us, []⟩ = pure ((["_law_source", "_law_many"] : List Str).zip us) :=
  match us, hl with | [_, _], _ => rfl
theorem bn_q25 (kV doc pm : Value) (an : Option Addr) (cdv ct : Value) (us : List Value) (hl : us.length = (["_law_source", "_law_options"] : List Str).length) : bindArgs (PySem.W.fnOf "_law_one" "_law_one" (defArgs st__law_one) (defBody st__law_one) (defScope st__law_one) .none kV doc pm an cdv ct) ⟨us, []⟩ = pure ((["_law_source", "_law_options"] : List Str).zip us) :=
  match us, hl with | [_, _], _ => rfl
theorem bn_q26 (kV doc pm : Value) (an : Option Addr) (cdv ct : Value) (us : List Value) (hl : us.length = (["_law_script", "_law_k"] : List Str).length) : bindArgs (PySem.W.fnOf "_law_cell_at" "_law_cell_at" (defArgs st__law_cell_at) (defBody st__law_cell_at) (defScope st__law_cell_at) .none kV doc pm an cdv ct) ⟨us, []⟩ = pure ((["_law_script", "_law_k"] : List Str).zip us) :=
  match us, hl with | [_, _], _ => rfl
theorem bn_q27 (kV doc pm : Value) (an : Option Addr) (cdv ct : Value) (us : List Value) (hl : us.length = (["_law_source", "_law_most", "_law_wide", "_law_many"] : List Str).length) : bindArgs (PySem.W.fnOf "_law_specs" "_law_specs" (defArgs st__law_specs) (defBody st__law_specs) (defScope st__law_specs) .none kV doc pm an cdv ct) ⟨us, []⟩ = pure ((["_law_source", "_law_most", "_law_wide", "_law_many"] : List Str).zip us) :=
  match us, hl with | [_, _, _, _], _ => rfl
theorem bn_q28 (kV doc pm : Value) (an : Option Addr) (cdv ct : Value) (us : List Value) (hl : us.length = (["_law_marks"] : List Str).length) : bindArgs (PySem.W.fnOf "_law_longest" "_law_longest" (defArgs st__law_longest) (defBody st__law_longest) (defScope st__law_longest) .none kV doc pm an cdv ct) ⟨us, []⟩ = pure ((["_law_marks"] : List Str).zip us) :=
  match us, hl with | [_], _ => rfl
theorem bn_q29 (kV doc pm : Value) (an : Option Addr) (cdv ct : Value) (us : List Value) (hl : us.length = (["_law_common", "_law_marks"] : List Str).length) : bindArgs (PySem.W.fnOf "_law_due" "_law_due" (defArgs st__law_due) (defBody st__law_due) (defScope st__law_due) .none kV doc pm an cdv ct) ⟨us, []⟩ = pure ((["_law_common", "_law_marks"] : List Str).zip us) :=
  match us, hl with | [_, _], _ => rfl
theorem bn_NRoutes (kV doc pm : Value) (an : Option Addr) (cdv ct : Value) (us : List Value) (hl : us.length = (["self", "common", "services", "pattern", "step"] : List Str).length) : bindArgs (PySem.W.fnOf "__init__" "Routes.__init__" (defArgs st_Routes_init) (defBody st_Routes_init) (defScope st_Routes_init) .none kV doc pm an cdv ct) ⟨us, []⟩ = pure ((["self", "common", "services", "pattern", "step"] : List Str).zip us) :=
  match us, hl with | [_, _, _, _, _], _ => rfl
theorem bn_q30 (kV doc pm : Value) (an : Option Addr) (cdv ct : Value) (us : List Value) (hl : us.length = (["self"] : List Str).length) : bindArgs (PySem.W.fnOf "parts" "Routes.parts" (defArgs st_Routes_parts) (defBody st_Routes_parts) (defScope st_Routes_parts) .none kV doc pm an cdv ct) ⟨us, []⟩ = pure ((["self"] : List Str).zip us) :=
  match us, hl with | [_], _ => rfl
theorem bn_q31 (kV doc pm : Value) (an : Option Addr) (cdv ct : Value) (us : List Value) (hl : us.length = (["self", "other"] : List Str).length) : bindArgs (PySem.W.fnOf "__eq__" "Routes.__eq__" (defArgs st_Routes_eq) (defBody st_Routes_eq) (defScope st_Routes_eq) .none kV doc pm an cdv ct) ⟨us, []⟩ = pure ((["self", "other"] : List Str).zip us) :=
  match us, hl with | [_, _], _ => rfl
theorem mk_dfn {K : PySem.W.Frag} {h : Heap} {mg : Str → Option Value} {x : Str} {st : Stmt} {f : Addr} {ps : List Str} {oc : Value} {od an : Option Addr} {sl : Array (Option Value)} {kV dc pm cd ct : Value} (X : K.In h) (G : h.Ns mainGlobals mg) (a : PySem.W.nsIn K mainGlobals x = some (some (.ref f)))
    (l : K.lookup f = some ⟨oc, od, .func (PySem.W.fnOf x x (defArgs st) (defBody st) (defScope st) .none kV dc pm an cd ct), sl⟩) (c : PySem.W.codeIn K cd x = true) (k : PySem.W.keepIn K (.ref f) = true)
    (hb : ∀ (kV doc pm : Value) (an : Option Addr) (cdv ct : Value) (us : List Value), us.length = ps.length → bindArgs (PySem.W.fnOf x x (defArgs st) (defBody st) (defScope st) .none kV doc pm an cdv ct) ⟨us, []⟩ = pure (ps.zip us)) : Dfn K mg x st f ps :=
  ⟨⟨_, fun_mk l c k, (fun_mk l c k).binds hb⟩, PySem.W.mg_of X G a⟩
theorem mk_mth {K : PySem.W.Frag} {C : Addr} {x q : Str} {st : Stmt} {f : Addr} {ps : List Str} {oc : Value} {od an : Option Addr} {sl : Array (Option Value)} {kV dc pm cd ct : Value} (a : PySem.W.findIn K (.ref C) x = some (some (.ref f))) (i : PySem.W.isFn K (.ref f) = true) (fk : PySem.W.fnIn K f = true)
    (l : K.lookup f = some ⟨oc, od, .func (PySem.W.fnOf x q (defArgs st) (defBody st) (defScope st) .none kV dc pm an cd ct), sl⟩) (c : PySem.W.codeIn K cd q = true) (k : PySem.W.keepIn K (.ref f) = true)
    (hb : ∀ (kV doc pm : Value) (an : Option Addr) (cdv ct : Value) (us : List Value), us.length = ps.length → bindArgs (PySem.W.fnOf x q (defArgs st) (defBody st) (defScope st) .none kV doc pm an cdv ct) ⟨us, []⟩ = pure (ps.zip us)) : Mth K C x q st f ps :=
  ⟨⟨_, fun_mk l c k, (fun_mk l c k).binds hb⟩, a, i, fk⟩
set_option maxHeartbeats 16000000 in
theorem all_mk {P : Program} {w : World} {K : PySem.W.Frag} {h : Heap} {mg : Str → Option Value} {lv : List (Str × PySem.W.WData)} {fa aLaw aTSERVED aTFAILED fq0 fq1 fq2 fq3 fq4 fq5 fq6 fq7 fq8 fq9 fq10 fq11 fq12 fq13 fq14 fq15 fq16 fq17 fq18 fq19 fq20 fq21 fq22 fq23 fq24 fq25 fq26 fq27 fq28 fq29 CRoutes aIRoutes fq30 fq31 : Addr} {tkTSERVED0 tkTFAILED0 tNMOST_BREAKERS tNMOST_REQUESTS tNMOST_OUTAGES tNMOST_SERVICES tNMOST_PLACES : Tok} {nTSERVED nTFAILED : Nat} {odq0 anq0 odq1 anq1 odq2 anq2 odq3 anq3 odq4 anq4 odq5 anq5 odq6 anq6 odq7 anq7 odq8 anq8 odq9 anq9 odq10 anq10 odq11 anq11 odq12 anq12 odq13 anq13 odq14 anq14 odq15 anq15 odq16 anq16 odq17 anq17 odq18 anq18 odq19 anq19 odq20 anq20 odq21 anq21 odq22 anq22 odq23 anq23 odq24 anq24 odq25 anq25 odq26 anq26 odq27 anq27 odq28 anq28 odq29 anq29 odq30 anq30 odq31 anq31 odY anY odTSERVED odTFAILED odNRoutes anNRoutes : Option Addr} {slq0 slq1 slq2 slq3 slq4 slq5 slq6 slq7 slq8 slq9 slq10 slq11 slq12 slq13 slq14 slq15 slq16 slq17 slq18 slq19 slq20 slq21 slq22 slq23 slq24 slq25 slq26 slq27 slq28 slq29 slq30 slq31 slY slTSERVED slTFAILED slNRoutes : Array (Option Value)} {ocq0 kVq0 dcq0 pmq0 cdq0 ctq0 ocq1 kVq1 dcq1 pmq1 cdq1 ctq1 ocq2 kVq2 dcq2 pmq2 cdq2 ctq2 ocq3 kVq3 dcq3 pmq3 cdq3 ctq3 ocq4 kVq4 dcq4 pmq4 cdq4 ctq4 ocq5 kVq5 dcq5 pmq5 cdq5 ctq5 ocq6 kVq6 dcq6 pmq6 cdq6 ctq6 ocq7 kVq7 dcq7 pmq7 cdq7 ctq7 ocq8 kVq8 dcq8 pmq8 cdq8 ctq8 ocq9 kVq9 dcq9 pmq9 cdq9 ctq9 ocq10 kVq10 dcq10 pmq10 cdq10 ctq10 ocq11 kVq11 dcq11 pmq11 cdq11 ctq11 ocq12 kVq12 dcq12 pmq12 cdq12 ctq12 ocq13 kVq13 dcq13 pmq13 cdq13 ctq13 ocq14 kVq14 dcq14 pmq14 cdq14 ctq14 ocq15 kVq15 dcq15 pmq15 cdq15 ctq15 ocq16 kVq16 dcq16 pmq16 cdq16 ctq16 ocq17 kVq17 dcq17 pmq17 cdq17 ctq17 ocq18 kVq18 dcq18 pmq18 cdq18 ctq18 ocq19 kVq19 dcq19 pmq19 cdq19 ctq19 ocq20 kVq20 dcq20 pmq20 cdq20 ctq20 ocq21 kVq21 dcq21 pmq21 cdq21 ctq21 ocq22 kVq22 dcq22 pmq22 cdq22 ctq22 ocq23 kVq23 dcq23 pmq23 cdq23 ctq23 ocq24 kVq24 dcq24 pmq24 cdq24 ctq24 ocq25 kVq25 dcq25 pmq25 cdq25 ctq25 ocq26 kVq26 dcq26 pmq26 cdq26 ctq26 ocq27 kVq27 dcq27 pmq27 cdq27 ctq27 ocq28 kVq28 dcq28 pmq28 cdq28 ctq28 ocq29 kVq29 dcq29 pmq29 cdq29 ctq29 ocq30 kVq30 dcq30 pmq30 cdq30 ctq30 ocq31 kVq31 dcq31 pmq31 cdq31 ctq31 ocY kVY dcY pmY cdY ctY ocNRoutes dcNRoutes pmNRoutes cdNRoutes ctNRoutes kVNRoutes : Value}
    (X : K.In h) (G : h.Ns mainGlobals mg) (LL : PySem.W.LooseAre lv mg h) (hLMOST_COUNT : (("MOST_COUNT" : Str), PySem.W.WData.int 1000000000000) ∈ lv) (hLMOST_TIME : (("MOST_TIME" : Str), PySem.W.WData.int 1000000000000000000000000000000) ∈ lv) (hfa : mg "law" = some (.ref fa))
    (gTSERVED : PySem.W.nsIn K mainGlobals "SERVED" = some (some (.ref aTSERVED)))
    (lTSERVED : K.lookup aTSERVED = some ⟨.type "tuple", odTSERVED, .seq #[.str "served" tkTSERVED0] nTSERVED, slTSERVED⟩)
    (gTFAILED : PySem.W.nsIn K mainGlobals "FAILED" = some (some (.ref aTFAILED)))
    (lTFAILED : K.lookup aTFAILED = some ⟨.type "tuple", odTFAILED, .seq #[.str "failed" tkTFAILED0] nTFAILED, slTFAILED⟩)
    (aq0 : PySem.W.nsIn K mainGlobals "_wall" = some (some (.ref fq0)))
    (lq0 : K.lookup fq0 = some ⟨ocq0, odq0, .func (PySem.W.fnOf "_wall" "_wall" (defArgs st__wall) (defBody st__wall) (defScope st__wall) .none kVq0 dcq0 pmq0 anq0 cdq0 ctq0), slq0⟩)
    (cq0 : PySem.W.codeIn K cdq0 "_wall" = true)
    (kq0 : PySem.W.keepIn K (.ref fq0) = true)
    (aq1 : PySem.W.nsIn K mainGlobals "is_integer" = some (some (.ref fq1)))
    (lq1 : K.lookup fq1 = some ⟨ocq1, odq1, .func (PySem.W.fnOf "is_integer" "is_integer" (defArgs st_is_integer) (defBody st_is_integer) (defScope st_is_integer) .none kVq1 dcq1 pmq1 anq1 cdq1 ctq1), slq1⟩)
    (cq1 : PySem.W.codeIn K cdq1 "is_integer" = true)
    (kq1 : PySem.W.keepIn K (.ref fq1) = true)
    (aq2 : PySem.W.nsIn K mainGlobals "is_at_least" = some (some (.ref fq2)))
    (lq2 : K.lookup fq2 = some ⟨ocq2, odq2, .func (PySem.W.fnOf "is_at_least" "is_at_least" (defArgs st_is_at_least) (defBody st_is_at_least) (defScope st_is_at_least) .none kVq2 dcq2 pmq2 anq2 cdq2 ctq2), slq2⟩)
    (cq2 : PySem.W.codeIn K cdq2 "is_at_least" = true)
    (kq2 : PySem.W.keepIn K (.ref fq2) = true)
    (aq3 : PySem.W.nsIn K mainGlobals "is_within" = some (some (.ref fq3)))
    (lq3 : K.lookup fq3 = some ⟨ocq3, odq3, .func (PySem.W.fnOf "is_within" "is_within" (defArgs st_is_within) (defBody st_is_within) (defScope st_is_within) .none kVq3 dcq3 pmq3 anq3 cdq3 ctq3), slq3⟩)
    (cq3 : PySem.W.codeIn K cdq3 "is_within" = true)
    (kq3 : PySem.W.keepIn K (.ref fq3) = true)
    (aq4 : PySem.W.nsIn K mainGlobals "is_breaker" = some (some (.ref fq4)))
    (lq4 : K.lookup fq4 = some ⟨ocq4, odq4, .func (PySem.W.fnOf "is_breaker" "is_breaker" (defArgs st_is_breaker) (defBody st_is_breaker) (defScope st_is_breaker) .none kVq4 dcq4 pmq4 anq4 cdq4 ctq4), slq4⟩)
    (cq4 : PySem.W.codeIn K cdq4 "is_breaker" = true)
    (kq4 : PySem.W.keepIn K (.ref fq4) = true)
    (aq5 : PySem.W.nsIn K mainGlobals "check_breakers" = some (some (.ref fq5)))
    (lq5 : K.lookup fq5 = some ⟨ocq5, odq5, .func (PySem.W.fnOf "check_breakers" "check_breakers" (defArgs st_check_breakers) (defBody st_check_breakers) (defScope st_check_breakers) .none kVq5 dcq5 pmq5 anq5 cdq5 ctq5), slq5⟩)
    (cq5 : PySem.W.codeIn K cdq5 "check_breakers" = true)
    (kq5 : PySem.W.keepIn K (.ref fq5) = true)
    (aq6 : PySem.W.nsIn K mainGlobals "check_step" = some (some (.ref fq6)))
    (lq6 : K.lookup fq6 = some ⟨ocq6, odq6, .func (PySem.W.fnOf "check_step" "check_step" (defArgs st_check_step) (defBody st_check_step) (defScope st_check_step) .none kVq6 dcq6 pmq6 anq6 cdq6 ctq6), slq6⟩)
    (cq6 : PySem.W.codeIn K cdq6 "check_step" = true)
    (kq6 : PySem.W.keepIn K (.ref fq6) = true)
    (aq7 : PySem.W.nsIn K mainGlobals "closed_states" = some (some (.ref fq7)))
    (lq7 : K.lookup fq7 = some ⟨ocq7, odq7, .func (PySem.W.fnOf "closed_states" "closed_states" (defArgs st_closed_states) (defBody st_closed_states) (defScope st_closed_states) .none kVq7 dcq7 pmq7 anq7 cdq7 ctq7), slq7⟩)
    (cq7 : PySem.W.codeIn K cdq7 "closed_states" = true)
    (kq7 : PySem.W.keepIn K (.ref fq7) = true)
    (aq8 : PySem.W.nsIn K mainGlobals "passes" = some (some (.ref fq8)))
    (lq8 : K.lookup fq8 = some ⟨ocq8, odq8, .func (PySem.W.fnOf "passes" "passes" (defArgs st_passes) (defBody st_passes) (defScope st_passes) .none kVq8 dcq8 pmq8 anq8 cdq8 ctq8), slq8⟩)
    (cq8 : PySem.W.codeIn K cdq8 "passes" = true)
    (kq8 : PySem.W.keepIn K (.ref fq8) = true)
    (aq9 : PySem.W.nsIn K mainGlobals "state_behind" = some (some (.ref fq9)))
    (lq9 : K.lookup fq9 = some ⟨ocq9, odq9, .func (PySem.W.fnOf "state_behind" "state_behind" (defArgs st_state_behind) (defBody st_state_behind) (defScope st_state_behind) .none kVq9 dcq9 pmq9 anq9 cdq9 ctq9), slq9⟩)
    (cq9 : PySem.W.codeIn K cdq9 "state_behind" = true)
    (kq9 : PySem.W.keepIn K (.ref fq9) = true)
    (aq10 : PySem.W.nsIn K mainGlobals "sent" = some (some (.ref fq10)))
    (lq10 : K.lookup fq10 = some ⟨ocq10, odq10, .func (PySem.W.fnOf "sent" "sent" (defArgs st_sent) (defBody st_sent) (defScope st_sent) .none kVq10 dcq10 pmq10 anq10 cdq10 ctq10), slq10⟩)
    (cq10 : PySem.W.codeIn K cdq10 "sent" = true)
    (kq10 : PySem.W.keepIn K (.ref fq10) = true)
    (aq11 : PySem.W.nsIn K mainGlobals "check_outages" = some (some (.ref fq11)))
    (lq11 : K.lookup fq11 = some ⟨ocq11, odq11, .func (PySem.W.fnOf "check_outages" "check_outages" (defArgs st_check_outages) (defBody st_check_outages) (defScope st_check_outages) .none kVq11 dcq11 pmq11 anq11 cdq11 ctq11), slq11⟩)
    (cq11 : PySem.W.codeIn K cdq11 "check_outages" = true)
    (kq11 : PySem.W.keepIn K (.ref fq11) = true)
    (aq12 : PySem.W.nsIn K mainGlobals "is_outage" = some (some (.ref fq12)))
    (lq12 : K.lookup fq12 = some ⟨ocq12, odq12, .func (PySem.W.fnOf "is_outage" "is_outage" (defArgs st_is_outage) (defBody st_is_outage) (defScope st_is_outage) .none kVq12 dcq12 pmq12 anq12 cdq12 ctq12), slq12⟩)
    (cq12 : PySem.W.codeIn K cdq12 "is_outage" = true)
    (kq12 : PySem.W.keepIn K (.ref fq12) = true)
    (aq13 : PySem.W.nsIn K mainGlobals "is_service" = some (some (.ref fq13)))
    (lq13 : K.lookup fq13 = some ⟨ocq13, odq13, .func (PySem.W.fnOf "is_service" "is_service" (defArgs st_is_service) (defBody st_is_service) (defScope st_is_service) .none kVq13 dcq13 pmq13 anq13 cdq13 ctq13), slq13⟩)
    (cq13 : PySem.W.codeIn K cdq13 "is_service" = true)
    (kq13 : PySem.W.keepIn K (.ref fq13) = true)
    (aq14 : PySem.W.nsIn K mainGlobals "check_services" = some (some (.ref fq14)))
    (lq14 : K.lookup fq14 = some ⟨ocq14, odq14, .func (PySem.W.fnOf "check_services" "check_services" (defArgs st_check_services) (defBody st_check_services) (defScope st_check_services) .none kVq14 dcq14 pmq14 anq14 cdq14 ctq14), slq14⟩)
    (cq14 : PySem.W.codeIn K cdq14 "check_services" = true)
    (kq14 : PySem.W.keepIn K (.ref fq14) = true)
    (aq15 : PySem.W.nsIn K mainGlobals "check_pattern" = some (some (.ref fq15)))
    (lq15 : K.lookup fq15 = some ⟨ocq15, odq15, .func (PySem.W.fnOf "check_pattern" "check_pattern" (defArgs st_check_pattern) (defBody st_check_pattern) (defScope st_check_pattern) .none kVq15 dcq15 pmq15 anq15 cdq15 ctq15), slq15⟩)
    (cq15 : PySem.W.codeIn K cdq15 "check_pattern" = true)
    (kq15 : PySem.W.keepIn K (.ref fq15) = true)
    (aq16 : PySem.W.nsIn K mainGlobals "is_up" = some (some (.ref fq16)))
    (lq16 : K.lookup fq16 = some ⟨ocq16, odq16, .func (PySem.W.fnOf "is_up" "is_up" (defArgs st_is_up) (defBody st_is_up) (defScope st_is_up) .none kVq16 dcq16 pmq16 anq16 cdq16 ctq16), slq16⟩)
    (cq16 : PySem.W.codeIn K cdq16 "is_up" = true)
    (kq16 : PySem.W.keepIn K (.ref fq16) = true)
    (aq17 : PySem.W.nsIn K mainGlobals "sent_requests" = some (some (.ref fq17)))
    (lq17 : K.lookup fq17 = some ⟨ocq17, odq17, .func (PySem.W.fnOf "sent_requests" "sent_requests" (defArgs st_sent_requests) (defBody st_sent_requests) (defScope st_sent_requests) .none kVq17 dcq17 pmq17 anq17 cdq17 ctq17), slq17⟩)
    (cq17 : PySem.W.codeIn K cdq17 "sent_requests" = true)
    (kq17 : PySem.W.keepIn K (.ref fq17) = true)
    (aq18 : PySem.W.nsIn K mainGlobals "common_openings" = some (some (.ref fq18)))
    (lq18 : K.lookup fq18 = some ⟨ocq18, odq18, .func (PySem.W.fnOf "common_openings" "common_openings" (defArgs st_common_openings) (defBody st_common_openings) (defScope st_common_openings) .none kVq18 dcq18 pmq18 anq18 cdq18 ctq18), slq18⟩)
    (cq18 : PySem.W.codeIn K cdq18 "common_openings" = true)
    (kq18 : PySem.W.keepIn K (.ref fq18) = true)
    (aq19 : PySem.W.nsIn K mainGlobals "check_down" = some (some (.ref fq19)))
    (lq19 : K.lookup fq19 = some ⟨ocq19, odq19, .func (PySem.W.fnOf "check_down" "check_down" (defArgs st_check_down) (defBody st_check_down) (defScope st_check_down) .none kVq19 dcq19 pmq19 anq19 cdq19 ctq19), slq19⟩)
    (cq19 : PySem.W.codeIn K cdq19 "check_down" = true)
    (kq19 : PySem.W.keepIn K (.ref fq19) = true)
    (aq20 : PySem.W.nsIn K mainGlobals "failing_runs" = some (some (.ref fq20)))
    (lq20 : K.lookup fq20 = some ⟨ocq20, odq20, .func (PySem.W.fnOf "failing_runs" "failing_runs" (defArgs st_failing_runs) (defBody st_failing_runs) (defScope st_failing_runs) .none kVq20 dcq20 pmq20 anq20 cdq20 ctq20), slq20⟩)
    (cq20 : PySem.W.codeIn K cdq20 "failing_runs" = true)
    (kq20 : PySem.W.keepIn K (.ref fq20) = true)
    (aq21 : PySem.W.nsIn K mainGlobals "longest_failure" = some (some (.ref fq21)))
    (lq21 : K.lookup fq21 = some ⟨ocq21, odq21, .func (PySem.W.fnOf "longest_failure" "longest_failure" (defArgs st_longest_failure) (defBody st_longest_failure) (defScope st_longest_failure) .none kVq21 dcq21 pmq21 anq21 cdq21 ctq21), slq21⟩)
    (cq21 : PySem.W.codeIn K cdq21 "longest_failure" = true)
    (kq21 : PySem.W.keepIn K (.ref fq21) = true)
    (aq22 : PySem.W.nsIn K mainGlobals "first_opening" = some (some (.ref fq22)))
    (lq22 : K.lookup fq22 = some ⟨ocq22, odq22, .func (PySem.W.fnOf "first_opening" "first_opening" (defArgs st_first_opening) (defBody st_first_opening) (defScope st_first_opening) .none kVq22 dcq22 pmq22 anq22 cdq22 ctq22), slq22⟩)
    (cq22 : PySem.W.codeIn K cdq22 "first_opening" = true)
    (kq22 : PySem.W.keepIn K (.ref fq22) = true)
    (aq23 : PySem.W.nsIn K mainGlobals "_law_source_of" = some (some (.ref fq23)))
    (lq23 : K.lookup fq23 = some ⟨ocq23, odq23, .func (PySem.W.fnOf "_law_source_of" "_law_source_of" (defArgs st__law_source_of) (defBody st__law_source_of) (defScope st__law_source_of) .none kVq23 dcq23 pmq23 anq23 cdq23 ctq23), slq23⟩)
    (cq23 : PySem.W.codeIn K cdq23 "_law_source_of" = true)
    (kq23 : PySem.W.keepIn K (.ref fq23) = true)
    (aq24 : PySem.W.nsIn K mainGlobals "_law_next" = some (some (.ref fq24)))
    (lq24 : K.lookup fq24 = some ⟨ocq24, odq24, .func (PySem.W.fnOf "_law_next" "_law_next" (defArgs st__law_next) (defBody st__law_next) (defScope st__law_next) .none kVq24 dcq24 pmq24 anq24 cdq24 ctq24), slq24⟩)
    (cq24 : PySem.W.codeIn K cdq24 "_law_next" = true)
    (kq24 : PySem.W.keepIn K (.ref fq24) = true)
    (aq25 : PySem.W.nsIn K mainGlobals "_law_one" = some (some (.ref fq25)))
    (lq25 : K.lookup fq25 = some ⟨ocq25, odq25, .func (PySem.W.fnOf "_law_one" "_law_one" (defArgs st__law_one) (defBody st__law_one) (defScope st__law_one) .none kVq25 dcq25 pmq25 anq25 cdq25 ctq25), slq25⟩)
    (cq25 : PySem.W.codeIn K cdq25 "_law_one" = true)
    (kq25 : PySem.W.keepIn K (.ref fq25) = true)
    (aq26 : PySem.W.nsIn K mainGlobals "_law_cell_at" = some (some (.ref fq26)))
    (lq26 : K.lookup fq26 = some ⟨ocq26, odq26, .func (PySem.W.fnOf "_law_cell_at" "_law_cell_at" (defArgs st__law_cell_at) (defBody st__law_cell_at) (defScope st__law_cell_at) .none kVq26 dcq26 pmq26 anq26 cdq26 ctq26), slq26⟩)
    (cq26 : PySem.W.codeIn K cdq26 "_law_cell_at" = true)
    (kq26 : PySem.W.keepIn K (.ref fq26) = true)
    (aq27 : PySem.W.nsIn K mainGlobals "_law_specs" = some (some (.ref fq27)))
    (lq27 : K.lookup fq27 = some ⟨ocq27, odq27, .func (PySem.W.fnOf "_law_specs" "_law_specs" (defArgs st__law_specs) (defBody st__law_specs) (defScope st__law_specs) .none kVq27 dcq27 pmq27 anq27 cdq27 ctq27), slq27⟩)
    (cq27 : PySem.W.codeIn K cdq27 "_law_specs" = true)
    (kq27 : PySem.W.keepIn K (.ref fq27) = true)
    (aq28 : PySem.W.nsIn K mainGlobals "_law_longest" = some (some (.ref fq28)))
    (lq28 : K.lookup fq28 = some ⟨ocq28, odq28, .func (PySem.W.fnOf "_law_longest" "_law_longest" (defArgs st__law_longest) (defBody st__law_longest) (defScope st__law_longest) .none kVq28 dcq28 pmq28 anq28 cdq28 ctq28), slq28⟩)
    (cq28 : PySem.W.codeIn K cdq28 "_law_longest" = true)
    (kq28 : PySem.W.keepIn K (.ref fq28) = true)
    (aq29 : PySem.W.nsIn K mainGlobals "_law_due" = some (some (.ref fq29)))
    (lq29 : K.lookup fq29 = some ⟨ocq29, odq29, .func (PySem.W.fnOf "_law_due" "_law_due" (defArgs st__law_due) (defBody st__law_due) (defScope st__law_due) .none kVq29 dcq29 pmq29 anq29 cdq29 ctq29), slq29⟩)
    (cq29 : PySem.W.codeIn K cdq29 "_law_due" = true)
    (kq29 : PySem.W.keepIn K (.ref fq29) = true)
    (gcRoutes : PySem.W.nsIn K mainGlobals "Routes" = some (some (.ref CRoutes)))
    (gRoutes0 : PySem.W.plainGet K CRoutes Str.empty = true)
    (gRoutes1 : PySem.W.hasDictIn K CRoutes = true)
    (gRoutes2 : PySem.W.plainOver K CRoutes = true)
    (gRoutes3 : PySem.W.findIn K (.ref CRoutes) "__setattr__" = some (some (.builtin "object.__setattr__")))
    (gRoutes4 : PySem.W.makesIn K CRoutes = true)
    (gRoutes5 : PySem.W.keepIn K (.ref CRoutes) = true)
    (gRoutes6 : PySem.W.isClsIn K CRoutes = true)
    (gRoutes7 : PySem.W.typeIn K (.ref CRoutes) = some (.type "type"))
    (gRoutes8 : PySem.W.findIn K (.ref CRoutes) "__class__" = some (some (.builtin "object.__class__")))
    (gRoutes9 : PySem.W.mroIn K CRoutes (.type "object") = some true)
    (gRoutes10 : PySem.W.selfFirst K CRoutes = true)
    (gRoutes11 : PySem.W.findIn K (.ref CRoutes) "__ne__" = some (some (.builtin "object.__ne__")))
    (gO1 : PySem.W.specialIn K (.builtin "object.__class__") "__get__" = some (some (.builtin "getset_descriptor.__get__")))
    (gO2 : PySem.W.takesIn K (.builtin "object.__class__") = some true)
    (nfRoutes_common : PySem.W.findIn K (.ref CRoutes) "common" = some none)
    (nfRoutes_services : PySem.W.findIn K (.ref CRoutes) "services" = some none)
    (nfRoutes_pattern : PySem.W.findIn K (.ref CRoutes) "pattern" = some none)
    (nfRoutes_step : PySem.W.findIn K (.ref CRoutes) "step" = some none)
    (aNRoutes : PySem.W.findIn K (.ref CRoutes) "__init__" = some (some (.ref aIRoutes)))
    (iNRoutes : PySem.W.isFn K (.ref aIRoutes) = true)
    (lNRoutes : K.lookup aIRoutes = some ⟨ocNRoutes, odNRoutes, .func (PySem.W.fnOf "__init__" "Routes.__init__" (defArgs st_Routes_init) (defBody st_Routes_init) (defScope st_Routes_init) .none kVNRoutes dcNRoutes pmNRoutes anNRoutes cdNRoutes ctNRoutes), slNRoutes⟩)
    (cNRoutes : PySem.W.codeIn K cdNRoutes "Routes.__init__" = true)
    (kNRoutes : PySem.W.keepIn K (.ref aIRoutes) = true)
    (aq30 : PySem.W.findIn K (.ref CRoutes) "parts" = some (some (.ref fq30)))
    (iq30 : PySem.W.isFn K (.ref fq30) = true)
    (nq30 : PySem.W.fnIn K fq30 = true)
    (lq30 : K.lookup fq30 = some ⟨ocq30, odq30, .func (PySem.W.fnOf "parts" "Routes.parts" (defArgs st_Routes_parts) (defBody st_Routes_parts) (defScope st_Routes_parts) .none kVq30 dcq30 pmq30 anq30 cdq30 ctq30), slq30⟩)
    (cq30 : PySem.W.codeIn K cdq30 "Routes.parts" = true)
    (kq30 : PySem.W.keepIn K (.ref fq30) = true)
    (aq31 : PySem.W.findIn K (.ref CRoutes) "__eq__" = some (some (.ref fq31)))
    (iq31 : PySem.W.isFn K (.ref fq31) = true)
    (nq31 : PySem.W.fnIn K fq31 = true)
    (lq31 : K.lookup fq31 = some ⟨ocq31, odq31, .func (PySem.W.fnOf "__eq__" "Routes.__eq__" (defArgs st_Routes_eq) (defBody st_Routes_eq) (defScope st_Routes_eq) .none kVq31 dcq31 pmq31 anq31 cdq31 ctq31), slq31⟩)
    (cq31 : PySem.W.codeIn K cdq31 "Routes.__eq__" = true)
    (kq31 : PySem.W.keepIn K (.ref fq31) = true)
    (gNMOST_BREAKERS : PySem.W.nsIn K mainGlobals "MOST_BREAKERS" = some (some (.int 12 tNMOST_BREAKERS)))
    (gNMOST_REQUESTS : PySem.W.nsIn K mainGlobals "MOST_REQUESTS" = some (some (.int 10000 tNMOST_REQUESTS)))
    (gNMOST_OUTAGES : PySem.W.nsIn K mainGlobals "MOST_OUTAGES" = some (some (.int 50 tNMOST_OUTAGES)))
    (gNMOST_SERVICES : PySem.W.nsIn K mainGlobals "MOST_SERVICES" = some (some (.int 10 tNMOST_SERVICES)))
    (gNMOST_PLACES : PySem.W.nsIn K mainGlobals "MOST_PLACES" = some (some (.int 20 tNMOST_PLACES)))
    (aY : PySem.W.nsIn K mainGlobals "law" = some (some (.ref aLaw)))
    (lY : K.lookup aLaw = some ⟨ocY, odY, .func (PySem.W.fnOf "law" "law" (defArgs st_law) (defBody st_law) (defScope st_law) .none kVY dcY pmY anY cdY ctY), slY⟩)
    (cY : PySem.W.codeIn K cdY "law" = true)
    (kY : PySem.W.keepIn K (.ref aLaw) = true)
    (z_bool : PySem.W.nsIn K mainGlobals "bool" = some none)
    (z_enumerate : PySem.W.nsIn K mainGlobals "enumerate" = some none)
    (z_int : PySem.W.nsIn K mainGlobals "int" = some none)
    (z_isinstance : PySem.W.nsIn K mainGlobals "isinstance" = some none)
    (z_len : PySem.W.nsIn K mainGlobals "len" = some none)
    (z_list : PySem.W.nsIn K mainGlobals "list" = some none)
    (z_max : PySem.W.nsIn K mainGlobals "max" = some none)
    (z_min : PySem.W.nsIn K mainGlobals "min" = some none)
    (z_range : PySem.W.nsIn K mainGlobals "range" = some none)
    (z_tuple : PySem.W.nsIn K mainGlobals "tuple" = some none)
    (z_zip : PySem.W.nsIn K mainGlobals "zip" = some none) :
    ∃ fd : FuncData, (∀ (s : Shared) (v : Value), BindsTo s fd ⟨[v], []⟩ [("_law_script", v)]) ∧ ∀ base : Heap, K.In base → base.Ns mainGlobals mg → FnOk P w K mg base CX0 12 fa fd ["_law_script"] (spLaw K) := by
  have e := hfa.symm.trans (PySem.W.mg_of X G aY)
  cases e
  obtain ⟨vMOST_COUNT, hvMOST_COUNT, rMOST_COUNT⟩ := LL.val _ hLMOST_COUNT
  obtain ⟨tMOST_COUNT, rfl, -⟩ := PySem.W.readsW_int_inv rMOST_COUNT
  obtain ⟨vMOST_TIME, hvMOST_TIME, rMOST_TIME⟩ := LL.val _ hLMOST_TIME
  obtain ⟨tMOST_TIME, rfl, -⟩ := PySem.W.readsW_int_inv rMOST_TIME
  have T : LX K mg ⟨fq0, fq1, fq2, fq3, fq4, fq5, fq6, fq7, fq8, fq9, fq10, fq11, fq12, fq13, fq14, fq15, fq16, fq17, fq18, fq19, fq20, fq21, fq22, fq23, fq24, fq25, fq26, fq27, fq28, fq29, CRoutes, aIRoutes, fq30, fq31⟩ := ⟨PySem.W.mg_none_of X G z_bool,
    PySem.W.mg_none_of X G z_enumerate,
    PySem.W.mg_none_of X G z_int,
    PySem.W.mg_none_of X G z_isinstance,
    PySem.W.mg_none_of X G z_len,
    PySem.W.mg_none_of X G z_list,
    PySem.W.mg_none_of X G z_max,
    PySem.W.mg_none_of X G z_min,
    PySem.W.mg_none_of X G z_range,
    PySem.W.mg_none_of X G z_tuple,
    PySem.W.mg_none_of X G z_zip,
    ⟨_, PySem.W.mg_of X G gNMOST_BREAKERS⟩,
    ⟨_, hvMOST_COUNT⟩,
    ⟨_, hvMOST_TIME⟩,
    ⟨_, PySem.W.mg_of X G gNMOST_REQUESTS⟩,
    ⟨_, PySem.W.mg_of X G gNMOST_OUTAGES⟩,
    ⟨_, PySem.W.mg_of X G gNMOST_SERVICES⟩,
    ⟨_, PySem.W.mg_of X G gNMOST_PLACES⟩,
    ⟨_, PySem.W.mg_of X G gTSERVED, fun _ => .inr ⟨_, _, _, lTSERVED, rfl, rfl, (by show 1 ≤ sizeLine; decide), .cons ⟨_, rfl⟩ (.nil)⟩⟩,
    ⟨_, PySem.W.mg_of X G gTFAILED, fun _ => .inr ⟨_, _, _, lTFAILED, rfl, rfl, (by show 1 ≤ sizeLine; decide), .cons ⟨_, rfl⟩ (.nil)⟩⟩,
    mk_dfn X G aq0 lq0 cq0 kq0 bn_q0,
    mk_dfn X G aq1 lq1 cq1 kq1 bn_q1,
    mk_dfn X G aq2 lq2 cq2 kq2 bn_q2,
    mk_dfn X G aq3 lq3 cq3 kq3 bn_q3,
    mk_dfn X G aq4 lq4 cq4 kq4 bn_q4,
    mk_dfn X G aq5 lq5 cq5 kq5 bn_q5,
    mk_dfn X G aq6 lq6 cq6 kq6 bn_q6,
    mk_dfn X G aq7 lq7 cq7 kq7 bn_q7,
    mk_dfn X G aq8 lq8 cq8 kq8 bn_q8,
    mk_dfn X G aq9 lq9 cq9 kq9 bn_q9,
    mk_dfn X G aq10 lq10 cq10 kq10 bn_q10,
    mk_dfn X G aq11 lq11 cq11 kq11 bn_q11,
    mk_dfn X G aq12 lq12 cq12 kq12 bn_q12,
    mk_dfn X G aq13 lq13 cq13 kq13 bn_q13,
    mk_dfn X G aq14 lq14 cq14 kq14 bn_q14,
    mk_dfn X G aq15 lq15 cq15 kq15 bn_q15,
    mk_dfn X G aq16 lq16 cq16 kq16 bn_q16,
    mk_dfn X G aq17 lq17 cq17 kq17 bn_q17,
    mk_dfn X G aq18 lq18 cq18 kq18 bn_q18,
    mk_dfn X G aq19 lq19 cq19 kq19 bn_q19,
    mk_dfn X G aq20 lq20 cq20 kq20 bn_q20,
    mk_dfn X G aq21 lq21 cq21 kq21 bn_q21,
    mk_dfn X G aq22 lq22 cq22 kq22 bn_q22,
    mk_dfn X G aq23 lq23 cq23 kq23 bn_q23,
    mk_dfn X G aq24 lq24 cq24 kq24 bn_q24,
    mk_dfn X G aq25 lq25 cq25 kq25 bn_q25,
    mk_dfn X G aq26 lq26 cq26 kq26 bn_q26,
    mk_dfn X G aq27 lq27 cq27 kq27 bn_q27,
    mk_dfn X G aq28 lq28 cq28 kq28 bn_q28,
    mk_dfn X G aq29 lq29 cq29 kq29 bn_q29,
    PySem.W.mg_of X G gcRoutes,
    ⟨⟨gRoutes0, gRoutes1, gRoutes2, gRoutes3⟩, gRoutes6, gRoutes7, gRoutes8, gO1, gO2, gRoutes9, gRoutes10, gRoutes11⟩,
    ⟨gRoutes4, aNRoutes, iNRoutes, gRoutes5⟩,
    nfRoutes_common,
    nfRoutes_services,
    nfRoutes_pattern,
    nfRoutes_step,
    ⟨_, fun_mk lNRoutes cNRoutes kNRoutes, (fun_mk lNRoutes cNRoutes kNRoutes).binds bn_NRoutes⟩,
    mk_mth aq30 iq30 nq30 lq30 cq30 kq30 bn_q30,
    mk_mth aq31 iq31 nq31 lq31 cq31 kq31 bn_q31⟩
  exact ⟨_, fun s v => .of_eq rfl, fun base _ _ => ok_law (fun_mk lY cY kY) T⟩
/-- as the hand layer's end, with what the loose names hold -/
theorem walk_loose {l : PySem.W.OpenLaw} {q p : Program} {lv : List (Str × PySem.W.WData)} {loose : List Str} {YP : World → Heap → Prop} {d : DefRec} {K : Params → PySem.W.Frag} (hn : l.most = some 63) (hd : d.params.defaults = []) (hY : ∀ (w : World) (h : Heap), YP w h → (K w.params).In h)
    (F : ∀ (w : World) (mg : Str → Option Value) (fa : Addr) (h : Heap), (K w.params).In h → h.Ns mainGlobals mg → PySem.W.LooseAre lv mg h → mg d.name = some (.ref fa) → ∃ fd : FuncData, (∀ (s : Shared) (u : Value), BindsTo s fd ⟨[u], []⟩ [("_law_script", u)]) ∧ ∀ base : Heap, (K w.params).In base → base.Ns mainGlobals mg → FnOk l.prog w (K w.params) mg base CX0 12 fa fd ["_law_script"] (spLaw (K w.params))) :
    PySem.W.WalkO q loose (PySem.W.XL p lv) YP l.row.toRowW d [] (fun f vs => PySem.call f vs) := Att.attach_call hn hd fun w _ s₁ mg mb fa _ _ _ _ a vs ns G Y _ _ _ hmg hobj hints hlen hg => by
  obtain ⟨fd, hb, hF⟩ := F w mg fa s₁.heap (hY w s₁.heap Y) G.T.g G.X.2 hmg
  exact law_call (hY w s₁.heap Y) G.T.g G.T.b G.T.builtins G.T.nolimit hg hobj hints (Nat.le_trans hlen (by decide)) ⟨rfl, by decide, by decide⟩ hF hb (fun H _ hS => ⟨a, ns, rfl, hS, hlen, fun _ => rfl⟩) fun _ _ _ z => z

end Toy
open PySem PySem.W PyProof.Rows
set_option maxRecDepth 100000 in
set_option maxHeartbeats 0 in
theorem PySem.Challenge.cw_breakerrow_k58_whole_first_openings_holds : PySem.Challenge.rw_breakerrow_k58_whole_first_openings.Holds := by
  w_on; o_law; k_head; (case hw => w_witness2)
  k_fill
  refine Toy.walk_loose (l := PySem.Challenge.rw_breakerrow_k58_whole_first_openings) rfl rfl (fun w h Y => PySem.W.kIn_of Y) ?F
  intro w mg fa h KX G LL hmg
  refine' Toy.all_mk KX G LL (by first | exact .head _ | exact .tail _ (.head _) | exact .tail _ (.tail _ (.head _)) | exact .tail _ (.tail _ (.tail _ (.head _))) | exact .tail _ (.tail _ (.tail _ (.tail _ (.head _)))) | exact .tail _ (.tail _ (.tail _ (.tail _ (.tail _ (.head _))))) | exact .tail _ (.tail _ (.tail _ (.tail _ (.tail _ (.tail _ (.head _)))))) | exact .tail _ (.tail _ (.tail _ (.tail _ (.tail _ (.tail _ (.tail _ (.head _))))))) | exact .tail _ (.tail _ (.tail _ (.tail _ (.tail _ (.tail _ (.tail _ (.tail _ (.head _)))))))) | exact .tail _ (.tail _ (.tail _ (.tail _ (.tail _ (.tail _ (.tail _ (.tail _ (.tail _ (.head _)))))))))) (by first | exact .head _ | exact .tail _ (.head _) | exact .tail _ (.tail _ (.head _)) | exact .tail _ (.tail _ (.tail _ (.head _))) | exact .tail _ (.tail _ (.tail _ (.tail _ (.head _)))) | exact .tail _ (.tail _ (.tail _ (.tail _ (.tail _ (.head _))))) | exact .tail _ (.tail _ (.tail _ (.tail _ (.tail _ (.tail _ (.head _)))))) | exact .tail _ (.tail _ (.tail _ (.tail _ (.tail _ (.tail _ (.tail _ (.head _))))))) | exact .tail _ (.tail _ (.tail _ (.tail _ (.tail _ (.tail _ (.tail _ (.tail _ (.head _)))))))) | exact .tail _ (.tail _ (.tail _ (.tail _ (.tail _ (.tail _ (.tail _ (.tail _ (.tail _ (.head _)))))))))) hmg ?gTSERVED ?lTSERVED ?gTFAILED ?lTFAILED ?aq0 ?lq0 ?cq0 ?kq0 ?aq1 ?lq1 ?cq1 ?kq1 ?aq2 ?lq2 ?cq2 ?kq2 ?aq3 ?lq3 ?cq3 ?kq3 ?aq4 ?lq4 ?cq4 ?kq4 ?aq5 ?lq5 ?cq5 ?kq5 ?aq6 ?lq6 ?cq6 ?kq6 ?aq7 ?lq7 ?cq7 ?kq7 ?aq8 ?lq8 ?cq8 ?kq8 ?aq9 ?lq9 ?cq9 ?kq9 ?aq10 ?lq10 ?cq10 ?kq10 ?aq11 ?lq11 ?cq11 ?kq11 ?aq12 ?lq12 ?cq12 ?kq12 ?aq13 ?lq13 ?cq13 ?kq13 ?aq14 ?lq14 ?cq14 ?kq14 ?aq15 ?lq15 ?cq15 ?kq15 ?aq16 ?lq16 ?cq16 ?kq16 ?aq17 ?lq17 ?cq17 ?kq17 ?aq18 ?lq18 ?cq18 ?kq18 ?aq19 ?lq19 ?cq19 ?kq19 ?aq20 ?lq20 ?cq20 ?kq20 ?aq21 ?lq21 ?cq21 ?kq21 ?aq22 ?lq22 ?cq22 ?kq22 ?aq23 ?lq23 ?cq23 ?kq23 ?aq24 ?lq24 ?cq24 ?kq24 ?aq25 ?lq25 ?cq25 ?kq25 ?aq26 ?lq26 ?cq26 ?kq26 ?aq27 ?lq27 ?cq27 ?kq27 ?aq28 ?lq28 ?cq28 ?kq28 ?aq29 ?lq29 ?cq29 ?kq29 ?gcRoutes ?gRoutes0 ?gRoutes1 ?gRoutes2 ?gRoutes3 ?gRoutes4 ?gRoutes5 ?gRoutes6 ?gRoutes7 ?gRoutes8 ?gRoutes9 ?gRoutes10 ?gRoutes11 ?gO1 ?gO2 ?nfRoutes_common ?nfRoutes_services ?nfRoutes_pattern ?nfRoutes_step ?aNRoutes ?iNRoutes ?lNRoutes ?cNRoutes ?kNRoutes ?aq30 ?iq30 ?nq30 ?lq30 ?cq30 ?kq30 ?aq31 ?iq31 ?nq31 ?lq31 ?cq31 ?kq31 ?gNMOST_BREAKERS ?gNMOST_REQUESTS ?gNMOST_OUTAGES ?gNMOST_SERVICES ?gNMOST_PLACES ?aY ?lY ?cY ?kY ?z_bool ?z_enumerate ?z_int ?z_isinstance ?z_len ?z_list ?z_max ?z_min ?z_range ?z_tuple ?z_zip
  (case gTSERVED => k_is)
  (case lTSERVED => k_is)
  (case gTFAILED => k_is)
  (case lTFAILED => k_is)
  (case aq0 => k_is)
  (case lq0 => k_is)
  (case cq0 => k_is)
  (case kq0 => k_is)
  (case aq1 => k_is)
  (case lq1 => k_is)
  (case cq1 => k_is)
  (case kq1 => k_is)
  (case aq2 => k_is)
  (case lq2 => k_is)
  (case cq2 => k_is)
  (case kq2 => k_is)
  (case aq3 => k_is)
  (case lq3 => k_is)
  (case cq3 => k_is)
  (case kq3 => k_is)
  (case aq4 => k_is)
  (case lq4 => k_is)
  (case cq4 => k_is)
  (case kq4 => k_is)
  (case aq5 => k_is)
  (case lq5 => k_is)
  (case cq5 => k_is)
  (case kq5 => k_is)
  (case aq6 => k_is)
  (case lq6 => k_is)
  (case cq6 => k_is)
  (case kq6 => k_is)
  (case aq7 => k_is)
  (case lq7 => k_is)
  (case cq7 => k_is)
  (case kq7 => k_is)
  (case aq8 => k_is)
  (case lq8 => k_is)
  (case cq8 => k_is)
  (case kq8 => k_is)
  (case aq9 => k_is)
  (case lq9 => k_is)
  (case cq9 => k_is)
  (case kq9 => k_is)
  (case aq10 => k_is)
  (case lq10 => k_is)
  (case cq10 => k_is)
  (case kq10 => k_is)
  (case aq11 => k_is)
  (case lq11 => k_is)
  (case cq11 => k_is)
  (case kq11 => k_is)
  (case aq12 => k_is)
  (case lq12 => k_is)
  (case cq12 => k_is)
  (case kq12 => k_is)
  (case aq13 => k_is)
  (case lq13 => k_is)
  (case cq13 => k_is)
  (case kq13 => k_is)
  (case aq14 => k_is)
  (case lq14 => k_is)
  (case cq14 => k_is)
  (case kq14 => k_is)
  (case aq15 => k_is)
  (case lq15 => k_is)
  (case cq15 => k_is)
  (case kq15 => k_is)
  (case aq16 => k_is)
  (case lq16 => k_is)
  (case cq16 => k_is)
  (case kq16 => k_is)
  (case aq17 => k_is)
  (case lq17 => k_is)
  (case cq17 => k_is)
  (case kq17 => k_is)
  (case aq18 => k_is)
  (case lq18 => k_is)
  (case cq18 => k_is)
  (case kq18 => k_is)
  (case aq19 => k_is)
  (case lq19 => k_is)
  (case cq19 => k_is)
  (case kq19 => k_is)
  (case aq20 => k_is)
  (case lq20 => k_is)
  (case cq20 => k_is)
  (case kq20 => k_is)
  (case aq21 => k_is)
  (case lq21 => k_is)
  (case cq21 => k_is)
  (case kq21 => k_is)
  (case aq22 => k_is)
  (case lq22 => k_is)
  (case cq22 => k_is)
  (case kq22 => k_is)
  (case aq23 => k_is)
  (case lq23 => k_is)
  (case cq23 => k_is)
  (case kq23 => k_is)
  (case aq24 => k_is)
  (case lq24 => k_is)
  (case cq24 => k_is)
  (case kq24 => k_is)
  (case aq25 => k_is)
  (case lq25 => k_is)
  (case cq25 => k_is)
  (case kq25 => k_is)
  (case aq26 => k_is)
  (case lq26 => k_is)
  (case cq26 => k_is)
  (case kq26 => k_is)
  (case aq27 => k_is)
  (case lq27 => k_is)
  (case cq27 => k_is)
  (case kq27 => k_is)
  (case aq28 => k_is)
  (case lq28 => k_is)
  (case cq28 => k_is)
  (case kq28 => k_is)
  (case aq29 => k_is)
  (case lq29 => k_is)
  (case cq29 => k_is)
  (case kq29 => k_is)
  (case gcRoutes => k_is)
  (case gRoutes0 => k_is)
  (case gRoutes1 => k_is)
  (case gRoutes2 => k_is)
  (case gRoutes3 => k_is)
  (case gRoutes4 => k_is)
  (case gRoutes5 => k_is)
  (case gRoutes6 => k_is)
  (case gRoutes7 => k_is)
  (case gRoutes8 => k_is)
  (case gRoutes9 => k_is)
  (case gRoutes10 => k_is)
  (case gRoutes11 => k_is)
  (case gO1 => k_is)
  (case gO2 => k_is)
  (case nfRoutes_common => k_is)
  (case nfRoutes_services => k_is)
  (case nfRoutes_pattern => k_is)
  (case nfRoutes_step => k_is)
  (case aNRoutes => k_is)
  (case iNRoutes => k_is)
  (case lNRoutes => k_is)
  (case cNRoutes => k_is)
  (case kNRoutes => k_is)
  (case aq30 => k_is)
  (case iq30 => k_is)
  (case nq30 => k_is)
  (case lq30 => k_is)
  (case cq30 => k_is)
  (case kq30 => k_is)
  (case aq31 => k_is)
  (case iq31 => k_is)
  (case nq31 => k_is)
  (case lq31 => k_is)
  (case cq31 => k_is)
  (case kq31 => k_is)
  (case gNMOST_BREAKERS => k_is)
  (case gNMOST_REQUESTS => k_is)
  (case gNMOST_OUTAGES => k_is)
  (case gNMOST_SERVICES => k_is)
  (case gNMOST_PLACES => k_is)
  (case aY => k_is)
  (case lY => k_is)
  (case cY => k_is)
  (case kY => k_is)
  (case z_bool => k_is)
  (case z_enumerate => k_is)
  (case z_int => k_is)
  (case z_isinstance => k_is)
  (case z_len => k_is)
  (case z_list => k_is)
  (case z_max => k_is)
  (case z_min => k_is)
  (case z_range => k_is)
  (case z_tuple => k_is)
  (case z_zip => k_is)
