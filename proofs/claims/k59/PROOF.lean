import PyProof.Rows.All
import Wide.All
import OpenK.AllK
import Wide.FinOn
import HandS.ForMost
import HandS.IsInst
import HandS.Wide
import HandS.Style
import HandS.Defaults
import HandS.MakeKwOnly
import HandS.Zip
import HandS.SortRule
import HandS.TupAny
import HandS.Lambda
import KE.GoesEnum
import HandS.Flow
import HandS.Codes
import HandS.WideBits
import HandS.OwnEq
import HandS.TryOnly
import HandS.TupLe
import HandS.SetFor
import KE.DataMinMax
import HandS.Conv
import KE.DataFind
import PyProof.Rows.CallKwBuiltin
import PyProof.LongRange
import HandS.ExcInit
import KE.KExcInit
import HandS.WordsExc
import HandS.ExcField
import KE.KExcIs
import HandS.RaiseMore
import HandS.EndTab
import KE.KNestM
import KE.KDflt
import PyProof.ReprRoads
import PyProof.ReprHeads
import PyProof.ReprDict
import PySem.Challenge.RW_breakerrow_k59_invalid_routes
set_option Elab.async false
set_option linter.all false
set_option maxRecDepth 100000
set_option maxHeartbeats 4000000
namespace Own
open PySem PySem.Spec PyProof.Rows L2
open Builtin

section
variable {X : Cx} {CX : CXT} {k : Nat} {f C : Addr} {fd : FuncData} {ps : List Str} {sp : Sp} {E : XK}

theorem rr {p : Addr} : L2.RelV (.ref p) (.ref p) := rfl
/-- a promise used under any frame below the body -/
theorem run_at {A : Around} {pins : List (Addr × Obj)} {σ : L2.St} {H : Hp} {s : Shared} {Q : VK} {us : List Value} {vs : List V} (F : FnOk X.prog X.w X.K X.mg X.base CX k f fd ps sp) (hr : Room k A) (hA : A.frames = X.A.frames)
    (hb : Binds X.K fd ps []) (hx : Passes CX X E) (I : Inv X pins σ H s) (r : Vals vs us) (h : sp vs H Q E) : wpAny (model X.prog X.w) A (call (.ref f) us) (EP X pins σ Q) X.xe s := by
  have hl : us.length = ps.length := by rw [← r.length]; exact F.len _ _ _ _ h
  have e0 : Env0 X.prog X.w X.K X.mg X.base A X.stack s H := by
    have e := I.env0
    exact ⟨by rw [hA]; exact e.frames, e.mod, e.bs, e.bsz, e.funs, e.frf, e.hok, e.bare⟩
  have hB : BindsTo s fd ⟨us, []⟩ (ps.zip us) := by
    have := hb s us I.kIn (by rw [List.append_nil]; exact hl)
    rwa [List.append_nil] at this
  refine wpAny_call (codeAny_mono (F.run A X.stack s H ⟨us, []⟩ us vs Q E hr e0 hB r h) fun r s' hq => ?_)
  cases r with
  | error e => exact hx pins σ H s e s' I hq
  | ok fl =>
    cases fl with
    | ret u => exact I.after hq
    | next => exact False.elim hq
    | brk => exact False.elim hq
    | cont => exact False.elim hq

theorem inst_of {pins : List (Addr × Obj)} {σ : L2.St} {H : Hp} {s : Shared} {p dx : Addr} {fs : List (Str × V)} (I : Inv X pins σ H s) (e : H p = some (.ins C dx fs)) : ∃ od, PySem.W.InstAt s.heap p (PySem.W.instObj C dx) C od := by
  obtain ⟨mA, O, _⟩ := ins_get I.hok e
  obtain ⟨od, J, _⟩ := O.look
  exact ⟨_, J⟩

/-- a bool is wanted of the method -/
def BlQ (Q : VK) (g : Bool → Bool) : VK := fun v H' => ∃ b, v = .bl b ∧ Q (.bl (g b)) H'
def rOwnIn (C : Addr) (sp : Sp) (E : XK) (g : Bool → Bool) : R2 := fun x y H Q => ∃ p dx fs, y = .ref p ∧ H p = some (.ins C dx fs) ∧ sp [.ref p, x] H (BlQ Q g) E
theorem op_own_in (F : FnOk X.prog X.w X.K X.mg X.base CX k f fd ps sp) (hr : Room k X.A) (hs : PySem.W.findIn X.K (.ref C) "__contains__" = some (some (.ref f))) (hf : PySem.W.isFn X.K (.ref f) = true) (hb : Binds X.K fd ps []) (hx : Passes CX X E) :
    OpR X (compareOp .In) (rOwnIn C sp E id) := by
  intro pins s σ H x y v u Q I rx ry h
  obtain ⟨p, dx, fs, rfl, hp, q⟩ := h
  cases ry
  obtain ⟨od, J⟩ := inst_of I hp
  obtain ⟨m, hF⟩ := I.fr
  refine PySem.W.in_K hF I.ok.mod.kin J hs hf (thn (run_at F hr rfl hb hx I (.cons rr (.cons rx .nil)) q) fun r s' hh => ?_)
  obtain ⟨z, H', I', rz, b, ez, q'⟩ := hh
  subst ez
  cases rz
  exact wpAny_truthy_bool ⟨.bl b, H', I', rfl, q'⟩
theorem op_own_notin (F : FnOk X.prog X.w X.K X.mg X.base CX k f fd ps sp) (hr : Room k X.A) (hs : PySem.W.findIn X.K (.ref C) "__contains__" = some (some (.ref f))) (hf : PySem.W.isFn X.K (.ref f) = true) (hb : Binds X.K fd ps []) (hx : Passes CX X E) :
    OpR X (compareOp .NotIn) (rOwnIn C sp E not) := by
  intro pins s σ H x y v u Q I rx ry h
  obtain ⟨p, dx, fs, rfl, hp, q⟩ := h
  cases ry
  obtain ⟨od, J⟩ := inst_of I hp
  obtain ⟨m, hF⟩ := I.fr
  refine PySem.W.notIn_K hF I.ok.mod.kin J hs hf (thn (run_at F hr rfl hb hx I (.cons rr (.cons rx .nil)) q) fun r s' hh => ?_)
  obtain ⟨z, H', I', rz, b, ez, q'⟩ := hh
  subst ez
  cases rz
  exact wpAny_truthy_bool ⟨.bl (!b), H', I', rfl, q'⟩
/-- len(o) -/
def rOwnLen (C : Addr) (sp : Sp) (E : XK) : List V → Hp → VK → Prop := fun xs H Q => ∃ p dx fs, xs = [.ref p] ∧ H p = some (.ins C dx fs) ∧ sp [.ref p] H (fun v H' => ∃ n : Int, v = .int n ∧ 0 ≤ n ∧ n < 2 ^ 63 ∧ Q (.int n) H') E
theorem call_own_len (F : FnOk X.prog X.w X.K X.mg X.base CX k f fd ps sp) (hr : Room (k + 1) X.A) (hs : PySem.W.findIn X.K (.ref C) "__len__" = some (some (.ref f))) (hf : PySem.W.isFn X.K (.ref f) = true) (hb : Binds X.K fd ps []) (hx : Passes CX X E) :
    CallR X (.builtin "len") (rOwnLen C sp E) := by
  intro pins s σ H xs us Q I r h
  obtain ⟨p, dx, fs, rfl, hp, q⟩ := h
  obtain ⟨u, rfl, ru⟩ := vals1 r
  cases ru
  obtain ⟨od, J⟩ := inst_of I hp
  obtain ⟨m, hF⟩ := I.fr
  refine PySem.W.len_K hF I.ok.mod.kin J hs hf (thn (run_at F hr.in1 rfl hb hx I (.cons rr .nil) q) fun r s' hh => ?_)
  obtain ⟨z, H', I', rz, n, ez, h0, h1, q'⟩ := hh
  subst ez
  obtain ⟨t, rfl⟩ := rz
  exact ⟨⟨h0, h1⟩, ⟨.int n, H', I'.tok _, ⟨_, rfl⟩, q'⟩⟩
/-- o + p, both of the class -/
def rOwnAdd (C : Addr) (sp : Sp) (E : XK) : R2 := fun x y H Q => ∃ p dx fs q dy gs, x = .ref p ∧ H p = some (.ins C dx fs) ∧ y = .ref q ∧ H q = some (.ins C dy gs) ∧ sp [.ref p, .ref q] H (fun v H' => (∃ a, v = .ref a) ∧ Q v H') E
theorem op_own_add (F : FnOk X.prog X.w X.K X.mg X.base CX k f fd ps sp) (hr : Room k X.A) (hc : PySem.W.selfFirst X.K C = true) (hs : PySem.W.findIn X.K (.ref C) "__add__" = some (some (.ref f))) (hf : PySem.W.isFn X.K (.ref f) = true) (hb : Binds X.K fd ps []) (hx : Passes CX X E) :
    OpR X (binaryOp .Add) (rOwnAdd C sp E) := by
  intro pins s σ H x y v u Q I rx ry h
  obtain ⟨p, dx, fs, q, dy, gs, rfl, hp, rfl, hq, hh⟩ := h
  cases rx
  cases ry
  obtain ⟨od, J⟩ := inst_of I hp
  obtain ⟨od', J'⟩ := inst_of I hq
  obtain ⟨m, hF⟩ := I.fr
  refine PySem.W.binop_K hF I.ok.mod.kin J J'.type hc hs hf (thn (run_at F hr rfl hb hx I (.cons rr (.cons rr .nil)) hh) fun r s' hh => ?_)
  obtain ⟨z, H', I', rz, ⟨a, ez⟩, q'⟩ := hh
  subst ez
  cases rz
  exact ⟨.ref a, H', I', rfl, q'⟩
/-- o[i] -/
def rOwnIx (C : Addr) (sp : Sp) (E : XK) : R2 := fun x y H Q => ∃ p dx fs, x = .ref p ∧ H p = some (.ins C dx fs) ∧ sp [.ref p, y] H Q E
theorem pe_own_ix {a b : Expr} {ta tb : TE} {pos : Pos} (F : FnOk X.prog X.w X.K X.mg X.base CX k f fd ps sp) (hr : Room (k + 1) X.A) (hs : PySem.W.findIn X.K (.ref C) "__getitem__" = some (some (.ref f))) (hfn : PySem.W.fnIn X.K f = true) (hf : PySem.W.isFn X.K (.ref f) = true)
    (hb : Binds X.K fd ps []) (hx : Passes CX X E) (ha : PE X a ta) (hb' : PE X b tb) (hsl : ∀ o i, subscripted b true o i = runValue (.builtin "lifetime.subscript" ⟨[o, i], []⟩) := by exact fun _ _ => rfl) :
    PE X (.Subscript a b pos) (tOp (rOwnIx C sp E) ta tb) := by
  refine ⟨fun pins s σ H Q I h => ?_⟩
  refine Subscript_ (binT ha hb' I h fun v u s2 x y H2 I2 rx ry q => ?_)
  obtain ⟨p, dx, fs, rfl, hp, q⟩ := q
  cases rx
  obtain ⟨od, J⟩ := inst_of I2 hp
  obtain ⟨m, hF⟩ := I2.fr
  exact PySem.W.sub_K hF I2.ok.mod.kin J hs hfn hf (run_at F hr.in1 rfl hb hx I2 (.cons rr (.cons ry .nil)) q) (hsl _ _)

/-! ### own == and the != that comes with it -/
theorem sub_ty {K : PySem.W.Frag} {C : Addr} {T : String} {l : List String} (e : fastBuiltinMro T = some (l.map Value.type)) : PySem.W.subIn K (.type T) (.ref C) = some false := by
  show (fastBuiltinMro T).map (·.contains (.ref C)) = some false
  rw [e]
  have : ∀ l : List String, (l.map Value.type).contains (Value.ref C) = false := by
    intro l
    induction l with
    | nil => rfl
    | cons a r ih =>
      rw [List.map_cons, List.contains_cons, ih]
      rfl
  rw [Option.map_some, this]
/-- a value's type, not one below the class C -/
inductive TyN (H : Hp) (C : Addr) : V → Value → Prop where
  | non : TyN H C .non (.type "NoneType")
  | bl (x : Bool) : TyN H C (.bl x) (.type "bool")
  | int (i : Int) : TyN H C (.int i) (.type "int")
  | str (x : Str) : TyN H C (.str x) (.type "str")
  | lst {a : Addr} {xs : List V} (e : H a = some (.lst xs)) : TyN H C (.ref a) (.type "list")
  | tup {a : Addr} {xs : List V} (e : H a = some (.tup xs)) : TyN H C (.ref a) (.type "tuple")
  | ins {a dx : Addr} {fs : List (Str × V)} (e : H a = some (.ins C dx fs)) : TyN H C (.ref a) (.ref C)
theorem TyN.notFirst {K : PySem.W.Frag} {H : Hp} {x : V} {t : Value} (h : TyN H C x t) : PySem.W.notFirst K C t = true := by
  cases h with
  | non => exact Bool.or_eq_true_iff.mpr (.inr (beq_iff_eq.mpr (sub_ty (l := ["NoneType", "object"]) (by decide +kernel))))
  | bl _ => exact Bool.or_eq_true_iff.mpr (.inr (beq_iff_eq.mpr (sub_ty (l := ["bool", "int", "object"]) (by decide +kernel))))
  | int _ => exact Bool.or_eq_true_iff.mpr (.inr (beq_iff_eq.mpr (sub_ty (l := ["int", "object"]) (by decide +kernel))))
  | str _ => exact Bool.or_eq_true_iff.mpr (.inr (beq_iff_eq.mpr (sub_ty (l := ["str", "object"]) (by decide +kernel))))
  | lst _ => exact Bool.or_eq_true_iff.mpr (.inr (beq_iff_eq.mpr (sub_ty (l := ["list", "object"]) (by decide +kernel))))
  | tup _ => exact Bool.or_eq_true_iff.mpr (.inr (beq_iff_eq.mpr (sub_ty (l := ["tuple", "object"]) (by decide +kernel))))
  | ins _ => exact Bool.or_eq_true_iff.mpr (.inl (by simp))
theorem looks_obj {M : Model} {h : Heap} {a : Addr} {o : Obj} (e : h.get? a = some o) : PySem.W.Looks M h (typeOf (.ref a)) o.cls := fun A Q E s kp q => PySem.wpAny_typeOf_ref (kp _ _ e) q
theorem TyN.looks {M : Model} {pins : List (Addr × Obj)} {σ : L2.St} {H : Hp} {s : Shared} {x : V} {u t : Value} (I : Inv X pins σ H s) (r : RelV x u) (h : TyN H C x t) : PySem.W.Looks M s.heap (typeOf u) t := by
  cases h with
  | non => cases r; exact PySem.W.Looks.of_pure rfl
  | bl _ => cases r; exact PySem.W.Looks.of_pure rfl
  | int _ => obtain ⟨_, rfl⟩ := r; exact PySem.W.Looks.of_pure rfl
  | str _ => obtain ⟨_, rfl⟩ := r; exact PySem.W.Looks.of_pure rfl
  | @lst a xs e =>
    cases r
    obtain ⟨_, _, n, _, h1⟩ := (show ObjOk X.prog X.w H s.heap a (.lst xs) from I.hok a _ e)
    exact looks_obj h1
  | @tup a xs e =>
    cases r
    obtain ⟨_, _, _, o, h1, h2, _⟩ := (show ObjOk X.prog X.w H s.heap a (.tup xs) from I.hok a _ e)
    have := looks_obj (M := M) h1
    rw [h2] at this
    exact this
  | ins e =>
    cases r
    obtain ⟨od, J⟩ := inst_of I e
    exact J.type
def rOwnEq (C : Addr) (sp : Sp) (E : XK) (g : Bool → Bool) : R2 := fun x y H Q => ∃ p dx fs t, x = .ref p ∧ H p = some (.ins C dx fs) ∧ TyN H C y t ∧ sp [.ref p, y] H (BlQ Q g) E
theorem op_own_eq (F : FnOk X.prog X.w X.K X.mg X.base CX k f fd ps sp) (hr : Room k X.A) (hs : PySem.W.findIn X.K (.ref C) "__eq__" = some (some (.ref f))) (hf : PySem.W.isFn X.K (.ref f) = true) (hb : Binds X.K fd ps []) (hx : Passes CX X E) :
    OpR X (compareOp .Eq) (rOwnEq C sp E id) := by
  intro pins s σ H x y v u Q I rx ry h
  obtain ⟨p, dx, fs, t, rfl, hp, ty, q⟩ := h
  cases rx
  obtain ⟨od, J⟩ := inst_of I hp
  obtain ⟨m, hF⟩ := I.fr
  show wpAny (model X.prog X.w) X.A (richCompare .Eq (.ref p) u) (EP X pins σ Q) X.xe s
  refine PySem.W.cmp_K (op := .Eq) hr.units0 hF I.ok.mod.kin J (ty.looks I ry) ty.notFirst hs hf (thn (run_at F hr rfl hb hx I (.cons rr (.cons ry .nil)) q) fun r s' hh => ?_)
  obtain ⟨z, H', I', rz, b, ez, q'⟩ := hh
  subst ez
  cases rz
  exact ⟨.bl b, H', I', rfl, q'⟩
section
variable {prog : Program} {w : World} {A : Around} {E' : Value → Shared → Prop} {s : Shared} {K : PySem.W.Frag} {x : Addr} {ox : Obj} {od : Option Obj} {b : Value}
theorem objNe_entry (hX : K.In s.heap) (I : PySem.W.InstAt s.heap x ox C od) (hs : PySem.W.findIn K (.ref C) "__eq__" = some (some (.ref f))) (hf : PySem.W.isFn K (.ref f) = true) (hu : A.units < cLine) {Q : Fin → Shared → Prop}
    (hcall : wpAny (model prog w) A (call (.ref f) [.ref x, b]) (fun v s' => ∃ k, v = .bool k ∧ Q (.done (.ret (.bool (!k)))) s') E' s) :
    wpAny (model prog w) A (Builtin.«object.__ne__» ⟨[.ref x, b], []⟩) Q E' s := by
  unfold Builtin.«object.__ne__»
  repeat (first
    | with_reducible refine wpAny_cRoomFor hu ?_
    | (refine wpAny_bind (m := callSpecialIfBound? (.ref x) (Str.ofString "__eq__") [b])
        (PySem.W.ifBound_K hX I hs hf (wpAny_mono hcall (fun r s' hr => by
          obtain ⟨k, rfl, hq⟩ := hr
          repeat (first | exact hq | exact wpAny_pure hq | exact wpAny_truthy_bool hq | (refine wpAny_bind (m := truthy (.bool _)) (wpAny_truthy_bool ?_)) | wp_step)) fun _ _ e => e)))
    | wp_step)
theorem call_objNe (hX : K.In s.heap) (I : PySem.W.InstAt s.heap x ox C od) (hm : PySem.W.mroIn K C (.type "object") = some true) (hs : PySem.W.findIn K (.ref C) "__eq__" = some (some (.ref f))) (hf : PySem.W.isFn K (.ref f) = true) (hu : A.units + 1 < cLine) {Q : Value → Shared → Prop}
    (hcall : wpAny (model prog w) A.in1 (call (.ref f) [.ref x, b]) (fun v s' => ∃ k, v = .bool k ∧ Q (.bool (!k)) s') E' s) :
    wpAny (model prog w) A (call (.builtin "object.__ne__") [.ref x, b]) Q E' s :=
  wpAny_call (codeAny_call_builtin PySem.F.cmp_object.ne.plain PySem.F.cmpEntry_ne (PySem.W.check_slot PySem.F.cmpKind_ne PySem.F.cmpSplit_ne (I.type.andThen (PySem.W.looks_mroIn hX hm)) (PySem.F.cmpArgs_ne _ _)
    (objNe_entry (A := A.in1) hX I hs hf hu (wpAny_mono hcall (fun v s' hv => by
      obtain ⟨k, e, hq⟩ := hv
      exact ⟨k, e, hq⟩) fun _ _ e => e))))
theorem ifBound_objNe {M : Model} {args : List Value} {Q : Option Value → Shared → Prop} (hX : K.In s.heap) (I : PySem.W.InstAt s.heap x ox C od) (hs : PySem.W.findIn K (.ref C) "__ne__" = some (some (.builtin "object.__ne__")))
    (h : wpAny M A (call (.builtin "object.__ne__") (.ref x :: args)) (fun v => Q (some v)) E' s) : wpAny M A (callSpecialIfBound? (.ref x) "__ne__" args) Q E' s := by
  simp only [callSpecialIfBound?, bindSpecialIfBound?]
  refine wpAny_holding (wpAny_bind (wpAny_bind (wpAny_bind (I.type.here ((PySem.W.looks_findIn hX hs).here ?_)))))
  refine wpAny_bind (wpAny_askSetting (wpAny_ite ?_))
  have fin : wpAny M A (call (.builtin "object.__ne__") ([.ref x] ++ args) >>= fun v => pure (some v)) Q E' s := wpAny_bind (wpAny_mono h (fun v s' h' => wpAny_pure h') fun _ _ h' => h')
  split
  · exact wpAny_bind (wpAny_of_eq (PySem.F.cmp_object.ne.bind _) (wpAny_pure (by exact fin)))
  · exact wpAny_tryCatch (wpAny_bind (wpAny_of_eq (PySem.F.cmp_object.ne.bind _) (wpAny_pure (by exact fin))))
theorem rc_ne {tb : Value} {Q : Value → Shared → Prop} (hu : A.units + 1 < cLine) (hX : K.In s.heap) (I : PySem.W.InstAt s.heap x ox C od) (hb : PySem.W.Looks (model prog w) s.heap (typeOf b) tb) (hn : PySem.W.notFirst K C tb = true)
    (hm : PySem.W.mroIn K C (.type "object") = some true) (hne : PySem.W.findIn K (.ref C) "__ne__" = some (some (.builtin "object.__ne__"))) (hs : PySem.W.findIn K (.ref C) "__eq__" = some (some (.ref f))) (hf : PySem.W.isFn K (.ref f) = true)
    (hcall : wpAny (model prog w) A.in1 (call (.ref f) [.ref x, b]) (fun v s' => ∃ k, v = .bool k ∧ Q (.bool (!k)) s') E' s) : wpAny (model prog w) A (richCompare .NotEq (.ref x) b) Q E' s := by
  have one : wpAny (model prog w) A (tryCompare (.ref x) "__ne__" b) (fun r s' => ∃ v, r = some v ∧ Q v s') E' s := by
    unfold tryCompare
    refine wpAny_bind (ifBound_objNe hX I hne (call_objNe hX I hm hs hf hu (wpAny_mono hcall (fun v s' hv => ?_) fun _ _ e => e)))
    obtain ⟨k, rfl, hq⟩ := hv
    exact ⟨k, rfl, wpAny_pure ⟨_, rfl, hq⟩⟩
  unfold richCompare
  simp only [oneThing_ref, cmpInfo_NotEq]
  refine wpAny_holding (wpAny_bind (wpAny_cRoomFor (Nat.lt_of_succ_lt hu) ?_))
  refine wpAny_bind (I.type.here (wpAny_bind (hb.here ?_)))
  split
  · rename_i q
    have e : PySem.W.subIn K tb (.ref C) = some false := by
      rcases Bool.or_eq_true_iff.mp hn with e | e
      · rw [beq_iff_eq.mp e] at q; simp at q
      · exact beq_iff_eq.mp e
    refine wpAny_bind ((PySem.W.looks_subIn hX e).here ?_)
    simp only [Bool.false_eq_true, if_false]
    refine wpAny_bind (wpAny_mono one (fun r s' z => ?_) fun _ _ e => e)
    obtain ⟨v, rfl, hq⟩ := z
    exact wpAny_pure hq
  · refine wpAny_bind (wpAny_pure ?_)
    simp only [Bool.false_eq_true, if_false]
    refine wpAny_bind (wpAny_mono one (fun r s' z => ?_) fun _ _ e => e)
    obtain ⟨v, rfl, hq⟩ := z
    exact wpAny_pure hq
end
theorem op_own_ne (F : FnOk X.prog X.w X.K X.mg X.base CX k f fd ps sp) (hr : Room (k + 1) X.A) (hm : PySem.W.mroIn X.K C (.type "object") = some true) (hne : PySem.W.findIn X.K (.ref C) "__ne__" = some (some (.builtin "object.__ne__")))
    (hs : PySem.W.findIn X.K (.ref C) "__eq__" = some (some (.ref f))) (hf : PySem.W.isFn X.K (.ref f) = true) (hb : Binds X.K fd ps []) (hx : Passes CX X E) :
    OpR X (compareOp .NotEq) (rOwnEq C sp E not) := by
  intro pins s σ H x y v u Q I rx ry h
  obtain ⟨p, dx, fs, t, rfl, hp, ty, q⟩ := h
  cases rx
  obtain ⟨od, J⟩ := inst_of I hp
  show wpAny (model X.prog X.w) X.A (richCompare .NotEq (.ref p) u) (EP X pins σ Q) X.xe s
  refine rc_ne (hu_of hr) I.kIn J (ty.looks I ry) ty.notFirst hm hne hs hf (thn (run_at F hr.in1 rfl hb hx I (.cons rr (.cons ry .nil)) q) fun r s' hh => ?_)
  obtain ⟨z, H', I', rz, b, ez, q'⟩ := hh
  subst ez
  cases rz
  exact ⟨b, rfl, .bl (!b), H', I', rfl, q'⟩
end
end Own

namespace Toy
open PySem L2 Own
/-! ### exceptions of the text's own, over ArithmeticError, with fields of their own -/
abbrev aeT : List Value := [.type "ArithmeticError", .type "Exception", .type "BaseException", .type "object"]
theorem no_taker {K : PySem.W.Frag} {C : Addr} {f : Str} (h : PySem.W.findIn K (.ref C) f = some none) : PySem.W.takerIn K C f = some none := by
  unfold PySem.W.takerIn
  rw [h]
  rfl
section
variable {prog : Program} {w : World} {A : Around} {R : Result → Shared → Prop} {hp : Heap} {g : Array GenState} {d : Drawn} {t : Nat} {os : OsState}
/-- the first field -/
theorem ae_first {K : PySem.W.Frag} {f : Str} {tk : Tok} {u : Value} {x C : Addr} {fv : Array Value} {cd : ClassData} (X : K.In hp) (hx : hp.get? x = some { cls := .ref C, data := .fields fv }) (hc : PySem.W.clsIn K C = some cd) (hd : cd.hasDict = true)
    (over : PySem.W.excOver K C aeT = true) (no : PySem.W.findIn K (.ref C) f = some none)
    (k : ∀ h' tk' dx, (∀ b o, b ≠ x → hp.get? b = some o → h'.get? b = some o) → hp.objs.size ≤ dx → dx ≠ x → h'.get? x = some { cls := .ref C, dict := some dx, data := .fields fv } → h'.Ns1 dx (fun y => if y = f then some u else none) → R (.ok (.ret .none)) ⟨h', g, d, tk', os⟩) :
    codeAny (model prog w) A (.call (.builtin "object.__setattr__") ⟨[.ref x, .str f tk, u], []⟩) R ⟨hp, g, d, t, os⟩ := by
  have I : PySem.W.InstAt hp x { cls := .ref C, data := .fields fv } C none := ⟨hx, rfl, rfl, trivial⟩
  refine PySem.W.osa_openX PySem.F.store_ArithmeticError X I over (no_taker no) fun b => ?_
  have look : PySem.W.Looks (model prog w) hp (classData C) cd := PySem.W.looks_clsIn X hc
  have old : x ≠ hp.objs.size := Nat.ne_of_lt (Heap.lt_size hx)
  obtain ⟨nm, bs, mro, ns, qn, hdd, sn, sb, ab, col, dl⟩ := cd
  dsimp only at hd
  subst hd
  dsimp only
  unfold Builtin.ObjectAttr.storeInOwnDict Builtin.ObjectAttr.ownDictForStores
  repeat (first
    | with_reducible refine look.at ?_
    | with_reducible refine wpAny_loadPart_at hx ?_
    | with_reducible refine PySem.HandSPX.store_in_new ?_ ?_
    | wp_step)
  · exact ⟨_, #[], _, (Heap.get?_update_ne _ _ _ _ old.symm).trans (Heap.get?_push_at rfl rfl), rfl, (fun e he => absurd he (by simp)), fun _ => rfl⟩
  · intro h' tk' n1 sb'
    have hx' : (hp.push { cls := .type "dict", data := .dict #[] }).get? x = some { cls := .ref C, data := .fields fv } := Heap.get?_push_of_some _ hx
    refine k h' tk' hp.objs.size (fun b o nb e => ?_) (Nat.le_refl _) old.symm ((sb'.2 x old).trans (Heap.get?_update_self _ hx' rfl)) n1
    rw [sb'.2 b (Nat.ne_of_lt (Heap.lt_size e)), Heap.get?_update_ne _ _ _ _ nb]
    exact Heap.get?_push_of_some _ e
/-- a further one -/
theorem ae_more {K : PySem.W.Frag} {f : Str} {tk : Tok} {u : Value} {x C dx : Addr} {fv : Array Value} {cd : ClassData} {m0 : Str → Option Value} {nl : List Str} (X : K.In hp) (hx : hp.get? x = some { cls := .ref C, dict := some dx, data := .fields fv }) (hn : hp.Ns1 dx m0) (hw : Within m0 nl) (hz : nl.length ≤ 1000)
    (hc : PySem.W.clsIn K C = some cd) (hd : cd.hasDict = true) (over : PySem.W.excOver K C aeT = true) (no : PySem.W.findIn K (.ref C) f = some none)
    (k : ∀ h' tk', (∀ b o, b ≠ dx → hp.get? b = some o → h'.get? b = some o) → h'.Ns1 dx (fun y => if y = f then some u else m0 y) → R (.ok (.ret .none)) ⟨h', g, d, tk', os⟩) :
    codeAny (model prog w) A (.call (.builtin "object.__setattr__") ⟨[.ref x, .str f tk, u], []⟩) R ⟨hp, g, d, t, os⟩ := by
  obtain ⟨oD, _, _, hoD, _, _⟩ := hn.count hw
  have I : PySem.W.InstAt hp x { cls := .ref C, dict := some dx, data := .fields fv } C (some oD) := ⟨hx, rfl, rfl, hoD⟩
  refine PySem.W.osa_openX PySem.F.store_ArithmeticError X I over (no_taker no) fun b => ?_
  have look : PySem.W.Looks (model prog w) hp (classData C) cd := PySem.W.looks_clsIn X hc
  obtain ⟨nm, bs, mro, ns, qn, hdd, sn, sb, ab, col, dl⟩ := cd
  dsimp only at hd
  subst hd
  dsimp only
  unfold Builtin.ObjectAttr.storeInOwnDict Builtin.ObjectAttr.ownDictForStores
  repeat (first
    | with_reducible refine look.at ?_
    | with_reducible refine wpAny_loadPart_at hx ?_
    | with_reducible refine PySem.OEX.store_in_old hn hw hz ?_
    | wp_step)
  intro h' tk' n1 sb'
  exact k h' tk' (fun b o nb e => (sb'.2 b nb).trans e) n1
end
/-- what the text has written of such a class -/
structure AeC (K : PySem.W.Frag) (C : Addr) : Prop where
  obj : ∃ nm q N bs bm sn sub ab col dd k0 k1 k2 k3 k5, K.lookup C = some (excClassObj nm q C N bs bm true sn sub ab col dd k0 k1 k2 k3 k5 "ArithmeticError.__new__") ∧ PySem.W.excTail aeT bm = true
  sa : PySem.W.findIn K (.ref C) "__setattr__" = some (some (.builtin "object.__setattr__"))
  ex : PySem.W.subIn K (.ref C) (.type "BaseException") = some true
  ty : PySem.W.typeIn K (.ref C) = some (.type "type")
  kp : PySem.W.keepIn K (.ref C) = true
theorem AeC.cd {K : PySem.W.Frag} {C : Addr} (T : AeC K C) : ∃ cd, PySem.W.clsIn K C = some cd ∧ cd.hasDict = true ∧ PySem.W.excOver K C aeT = true := by
  obtain ⟨nm, q, N, bs, bm, sn, sub, ab, col, dd, k0, k1, k2, k3, k5, hC, ht⟩ := T.obj
  have hc : PySem.W.clsIn K C = some { name := nm, bases := bs, mro := .ref C :: bm, ns := N, qualname := q, hasDict := true, slotNames := sn, subclasses := sub, abstract := ab, collection := col, hasDel := false } := by
    unfold PySem.W.clsIn
    rw [hC] <;> rfl
  refine ⟨_, hc, rfl, ?_⟩
  unfold PySem.W.excOver
  rw [hc]
  show (C == C && PySem.W.excTail aeT bm) = true
  rw [ht, beq_self_eq_true] <;> rfl
section
variable {X : Cx} {pins : List (Addr × Obj)} {σ : L2.St} {H : Hp} {s : Shared} {a C dx : Addr} {f : Str} {y : V} {u : Value} {fs : List (Str × V)} {Q : Unit → Shared → Prop} {E : Value → Shared → Prop} {A : Around}
theorem ast_first (T : AeC X.K C) (I : L2.Inv X pins σ H s) (e : H a = some (L2.exo a C none)) (no : PySem.W.findIn X.K (.ref C) f = some none) (ry : L2.RelV y u)
    (k : ∀ dx s', H dx = none → dx ≠ a → L2.Inv X pins σ (upd (upd H dx (L2.exd dx [(f, y)])) a (L2.exo a C (some dx))) s' → Q () s') : wpAny (model X.prog X.w) A (setAttr (.ref a) f u) Q E s := by
  obtain ⟨cd, hc, hd, over⟩ := T.cd
  obtain ⟨t1, ho⟩ := L2.exo_at I.hok e
  obtain ⟨hp, g, d, t, os⟩ := s
  refine PySem.W.set_plain I.kIn (ox := { cls := .ref C, dict := none, data := .fields #[.ref t1, .none, .none, .none, .bool false, .none] }) (od := none) ⟨ho, rfl, rfl, trivial⟩ T.sa ?_
  refine ae_first I.kIn ho hc hd over no fun h' tk' dx keep big ne hx n1 => ?_
  -- between the two there is a heap with the dict, and the exception still without it
  let G := h'.update a fun _ => { cls := .ref C, dict := none, data := .fields #[.ref t1, .none, .none, .none, .bool false, .none] }
  have ga : G.get? a = some { cls := .ref C, dict := none, data := .fields #[.ref t1, .none, .none, .none, .bool false, .none] } := Heap.get?_update_self _ hx rfl
  have gb : ∀ b, b ≠ a → G.get? b = h'.get? b := fun b nb => Heap.get?_update_ne _ _ _ _ nb
  have hdx : H dx = none := I.hok.fresh big
  have I1 := I.laid (t' := tk') (a := dx) (o := L2.exd dx [(f, y)]) (h' := G) (fun b o q => by
    by_cases c : b = a
    · subst c
      rw [ga]
      exact ho.symm.trans q
    · rw [gb b c]
      exact keep b o c q) big (L2.exd_ok (n1.at fun o q => (gb dx ne).trans q) (L2.relO_put (fs := []) ry fun _ => True.intro))
  have ea : (upd H dx (L2.exd dx [(f, y)])) a = some (L2.exo a C none) := by rw [upd_ne ne.symm, e]
  have I2 := I1.write (t' := tk') (x := a) (e := a) (o := L2.exo a C (some dx)) (h' := h') (by rw [ea]; exact True.intro) (.inl rfl) (fun b o nb q => (gb b nb).symm.trans q) ⟨_, hx⟩ (L2.exo_ok hx)
  exact k dx _ hdx ne I2
theorem ast_more (T : AeC X.K C) (I : L2.Inv X pins σ H s) (e : H a = some (L2.exo a C (some dx))) (ed : H dx = some (L2.exd dx fs)) (hl : fs.length ≤ 900) (no : PySem.W.findIn X.K (.ref C) f = some none) (ry : L2.RelV y u)
    (k : ∀ s', L2.Inv X pins σ (upd H dx (L2.exd dx ((f, y) :: fs))) s' → Q () s') : wpAny (model X.prog X.w) A (setAttr (.ref a) f u) Q E s := by
  obtain ⟨cd, hc, hd, over⟩ := T.cd
  obtain ⟨t1, ho⟩ := L2.exo_at I.hok e
  obtain ⟨mA, n1, rel⟩ := L2.exd_at I.hok ed
  have hw := L2.within_of rel
  obtain ⟨hp, g, d, t, os⟩ := s
  obtain ⟨oD, _, _, hoD, _, _⟩ := n1.count hw
  refine PySem.W.set_plain I.kIn (ox := { cls := .ref C, dict := some dx, data := .fields #[.ref t1, .none, .none, .none, .bool false, .none] }) (od := some oD) ⟨ho, rfl, rfl, hoD⟩ T.sa ?_
  refine ae_more I.kIn ho n1 hw (by rw [List.length_map]; omega) hc hd over no fun h' tk' keep n2 => ?_
  have there : ∃ o, h'.get? dx = some o := by
    obtain ⟨o, _, _, q, _⟩ := n2
    exact ⟨o, q⟩
  exact k _ (I.write (t' := tk') (x := dx) (e := dx) (o := L2.exd dx ((f, y) :: fs)) (by rw [ed]; exact True.intro) (.inl rfl) keep there (L2.exd_ok n2 (L2.relO_put ry rel)))
end
/-- o.f = e, o such an exception that is being made -/
def sAe (K : PySem.W.Frag) (f : Str) (to te : TE) : TS := fun D σ H => te σ H fun y H1 => to σ H1 fun x H2 => ∃ a C : Addr, x = .ref a ∧ AeC K C ∧ PySem.W.findIn K (.ref C) f = some none ∧
  ((H2 a = some (L2.exo a C none) ∧ ∀ dx, H2 dx = none → dx ≠ a → D.nx σ (upd (upd H2 dx (L2.exd dx [(f, y)])) a (L2.exo a C (some dx)))) ∨
    ∃ (dx : Addr) (fs : List (Str × V)), H2 a = some (L2.exo a C (some dx)) ∧ H2 dx = some (L2.exd dx fs) ∧ fs.length ≤ 900 ∧ D.nx σ (upd H2 dx (L2.exd dx ((f, y) :: fs))))
theorem ps_ae {X : Cx} {o e : Expr} {to te : TE} {f : Str} {p' pos : Pos} (ho : PE X o to) (he : PE X e te) (hs : swapsWith e (some (.Attribute o f p')) pos.line X.env = pure false := by rfl) : PS X (.Assign [.Attribute o f p'] e pos) (sAe X.K f to te) := by
  refine ⟨fun pins s σ H D I h => plainObj_wpAny_Assign_Attribute (L2.thn (he.run pins s σ H _ I h) fun v s1 ⟨y, H1, I1, r1, q1⟩ => L2.thn (ho.run pins s1 σ H1 _ I1 q1) fun z s2 ⟨x, H2, I2, r2, a, C, ex, T, no, q⟩ => ?_) hs⟩
  subst ex
  obtain rfl : z = Value.ref a := r2
  rcases q with ⟨ea, q⟩ | ⟨dx, fs, ea, ed, hl, q⟩
  · exact ast_first T I2 ea no r1 fun dx s' n ne J => ⟨σ, _, J, q dx n ne⟩
  · exact ast_more T I2 ea ed hl no r1 fun s' J => ⟨σ, _, J, q⟩
/-- C(e, ..): C's own __init__ keeps sp -/
theorem pmk_ae {X : Cx} {CX : CXT} {x : Str} {C f : Addr} {k : Nat} {fd : FuncData} {ps : List Str} {sp : Sp} {ds : List Value} {dvs : List V} {e : Expr} {es : List Expr} {ta : TA} {p pos : Pos} (T : AeC X.K C) (hi : PySem.W.findIn X.K (.ref C) "__init__" = some (some (.ref f))) (ht : PySem.W.typeIn X.K (.ref f) = some (.type "function"))
    (F : FnOk X.prog X.w X.K X.mg X.base CX k f fd ps sp) (hr : Room (k + 1) X.A) (hb : Binds X.K fd ps ds) (hd : L2.Vals dvs ds) (hx : Passes CX X fun _ _ _ => False) (hg : Gl X x) (hm : X.mg x = some (.ref C)) (ha : PA X (e :: es) ta)
    (hdb : (x == ("__debug__" : Str)) = false := by decide) (he : starEach (e :: es) X.env = (false, eval e X.env) :: starEach es X.env := by rfl) (hpl : (backTo pos (starEach es X.env)).any (·.1) = false := by rfl) :
    L2.PMk X (.Call (.Name x p) (e :: es) [] pos) (L2.tMkO C sp dvs ta) := by
  rintro pins s σ H Q I h
  obtain ⟨nm, q, N, bs, bm, sn, sub, ab, col, dd, k0, k1, k2, k3, k5, hC, hbm⟩ := T.obj
  refine wpAny_Call_Name_kw (L2.ld_glob I hg hm ?_ hdb)
  refine PySem.W.callWith_K (h₀ := X.base) I.ok.mod.kin T.kp (L2.thn (ha.run pos pins s σ H _ I h) fun us s1 ⟨vs, H1, I1, r1, hz, q1⟩ => ⟨I1.kIn, ?_⟩) he hpl
  obtain ⟨hp, g, dr, tk, os⟩ := s1
  have up : hp.objs.size ≤ hp.objs.size + 1 := Nat.le_succ _
  have fresh : H1 (hp.objs.size + 1) = none := I1.hok.fresh up
  have prom := q1 _ fresh
  have keep : ∀ b o, hp.get? b = some o → ((hp.push (PySem.W.kdv_tup us)).push (PySem.HandSPX.excO C hp.objs.size)).get? b = some o := fun b o z => Heap.get?_push_of_some _ (Heap.get?_push_of_some _ z)
  have at_ : ((hp.push (PySem.W.kdv_tup us)).push (PySem.HandSPX.excO C hp.objs.size)).get? (hp.objs.size + 1) = some (PySem.HandSPX.excO C hp.objs.size) := by heap_get
  have I2 := I1.laid (t' := tk) (a := hp.objs.size + 1) (o := L2.exo (hp.objs.size + 1) C none) keep up (L2.exo_ok at_)
  have rel : L2.Vals (V.ref (hp.objs.size + 1) :: (vs ++ dvs)) (Value.ref (hp.objs.size + 1) :: (us ++ ds)) := .cons rfl (r1.append hd)
  have len := rel.length
  rw [F.len _ _ _ _ prom] at len
  have small : us.length ≤ sizeLine := by
    rw [← r1.length, sizeLine_eq]
    omega
  have body := F.run _ X.stack _ _ ⟨Value.ref (hp.objs.size + 1) :: us, []⟩ (Value.ref (hp.objs.size + 1) :: (us ++ ds)) _ _ (fun _ _ _ => False) (hr.make C us []) (I2.env0.make C us []) (hb _ (Value.ref (hp.objs.size + 1) :: us) I2.kIn len.symm) rel prom
  refine wpAny_call (PySem.HandSPX.call_own PySem.F.excBase_ArithmeticError (fun Y => PySem.W.excTail_contains Y bm hbm) (I1.kIn _ _ hC) (PySem.W.looks_findIn I1.kIn hi) (fun self => PySem.W.bind_fn I1.kIn self ht) small (codeAny_mono body ?_))
  rintro (er | fl) s' hq
  · exact hx pins σ _ _ er s' I2 hq
  · cases fl with
    | ret u =>
      obtain ⟨v, H2, os2, bare2, un2, hok2, rv, ev, d, fs, ea, ed, hd1, q2⟩ := hq
      subst ev
      obtain ⟨h2, g2, d2, t2, os'⟩ := s'
      exact ⟨rv, L2.mk_end (L2.raises_own T.ex T.ty) I1 up keep un2 hok2 os2 bare2 ea ed hd1 q2⟩
    | next => exact False.elim hq
    | brk => exact False.elim hq
    | cont => exact False.elim hq
/-- what is needed for isinstance(e, ..), e such an exception -/
structure IsC (K : PySem.W.Frag) (D : Addr) : Prop where
  hg : PySem.W.findIn K (.ref D) "__getattribute__" = some (some (.builtin "BaseException.__getattribute__"))
  hk : PySem.W.findIn K (.ref D) "__getattr__" = some none
  hs : PySem.W.subIn K (.ref D) (.type "BaseException") = some true
  hd : PySem.W.hasDictIn K D = true
  ha : PySem.W.findIn K (.ref D) "__class__" = some (some (.builtin "object.__class__"))
  hn : PySem.W.specialIn K (.builtin "object.__class__") "__get__" = some (some (.builtin "getset_descriptor.__get__"))
  ht : PySem.W.takesIn K (.builtin "object.__class__") = some true
  hm : PySem.W.mroIn K D (.type "object") = some true
def rIsX (K : PySem.W.Frag) (D a d : Addr) : List V → Hp → VK → Prop := fun xs H Q => ∃ (c : V) (cv : Value) (b : Bool) (fs : List (Str × V)), xs = [.ref a, c] ∧ H d = some (.xd fs) ∧ (∀ u, L2.RelV c u → u = cv) ∧ PySem.W.kitOne K (.ref D) cv = some b ∧ Q (.bl b) H
/-- isinstance(e, c), e the caught exception with its fields in a dict at d -/
theorem call_isX {X : Cx} {a D d : Addr} {oe : Obj} {pn : List (Addr × Obj)} (T : IsC X.K D) (hz : L2.Zc (.ref D) (some d) oe) (hf : ∃ vs, oe.data = .fields vs) : CallR (X.suite a ((a, oe) :: pn)) (.builtin "isinstance") (rIsX X.K D a d) := by
  rintro pins s σ H xs us Q I r ⟨c, cv, b, fs, rfl, hdd, hcv, e, q⟩
  match us, r with
  | [_, _], .cons rx (.cons rt .nil) =>
    cases rx
    have ec := hcv _ rt
    subst ec
    obtain ⟨hget, _⟩ := I.pin (a, oe) (List.mem_append.mpr (.inl List.mem_cons_self))
    obtain ⟨vs, hv⟩ := hf
    have hx : ObjOk X.prog X.w H s.heap d (.xd fs) := I.hok d _ hdd
    obtain ⟨mA, hns, _⟩ := hx
    obtain ⟨od, ho, _⟩ := lookIn_ns hns
    have J : PySem.W.InstAt s.heap a oe D (some od) := by
      refine ⟨hget, hz.1, by unfold PySem.W.notCls; rw [hv] <;> rfl, ?_⟩
      rw [hz.2]
      exact ho
    have hcl : (PySem.W.clsIn X.K D).isSome = true := by
      obtain ⟨cd, hc, _⟩ := PySem.W.any_some T.hd
      rw [hc] <;> rfl
    exact PySem.W.kia_one (PySem.W.kitx_exc hcl T.hg T.hk T.hs T.ha T.hn T.ht T.hm) I.kIn J e (fun z => nomatch z) fun tk => ⟨.bl b, H, I.kept (t' := tk) fun _ _ z => z, rfl, q⟩
/-- the same where the suite is told of any error -/
def rIsY (K : PySem.W.Frag) (D a : Addr) (cls : Value) (d : Option Addr) : List V → Hp → VK → Prop := fun xs H Q => cls = .ref D ∧ ∃ dd, d = some dd ∧ rIsX K D a dd xs H Q
theorem call_isY {X : Cx} {a D : Addr} {cls : Value} {d : Option Addr} {oe : Obj} {pn : List (Addr × Obj)} (T : IsC X.K D) (hz : L2.Zc cls d oe) (hf : ∃ vs, oe.data = .fields vs) : CallR (X.suite a ((a, oe) :: pn)) (.builtin "isinstance") (rIsY X.K D a cls d) := by
  rintro pins s σ H xs us Q I r ⟨rfl, dd, rfl, h⟩
  exact call_isX T hz hf pins s σ H xs us Q I r h
/-- isinstance(e, (C1, ..)), the tuple new or not -/
def rIsT (K : PySem.W.Frag) (D a : Addr) (cls : Value) (d : Option Addr) : List V → Hp → VK → Prop := fun xs H Q => cls = .ref D ∧ ∃ (dd t : Addr) (cs : List Addr) (fs : List (Str × V)), d = some dd ∧ H dd = some (.xd fs) ∧ xs = [.ref a, .ref t] ∧ H t = some (.tup (cs.map V.ref)) ∧ PySem.W.kitAny K (.ref D) (cs.map Value.ref) = some false ∧ Q (.bl false) H
theorem refs_vals : ∀ {cs : List Addr} {us : List Value}, L2.Vals (cs.map V.ref) us → us = cs.map Value.ref
  | [], _, r => by cases r; rfl
  | c :: cs, _, r => by
    cases r with
    | cons h t =>
      have e : _ = Value.ref c := h
      rw [e, refs_vals t]
      rfl
theorem call_isT {X : Cx} {a D : Addr} {cls : Value} {d : Option Addr} {oe : Obj} {pn : List (Addr × Obj)} (T : IsC X.K D) (hz : L2.Zc cls d oe) (hf : ∃ vs, oe.data = .fields vs) : CallR (X.suite a ((a, oe) :: pn)) (.builtin "isinstance") (rIsT X.K D a cls d) := by
  rintro pins s σ H xs us Q I r ⟨rfl, dd, t, cs, fs, rfl, hdd, rfl, ht, e, q⟩
  match us, r with
  | [_, _], .cons rx (.cons rt .nil) =>
    cases rx
    cases rt
    obtain ⟨hget, _⟩ := I.pin (a, oe) (List.mem_append.mpr (.inl List.mem_cons_self))
    obtain ⟨vs, hv⟩ := hf
    have hx : ObjOk X.prog X.w H s.heap dd (.xd fs) := I.hok dd _ hdd
    obtain ⟨mA, hns, _⟩ := hx
    obtain ⟨od, ho, _⟩ := lookIn_ns hns
    have J : PySem.W.InstAt s.heap a oe D (some od) := by
      refine ⟨hget, hz.1, by unfold PySem.W.notCls; rw [hv] <;> rfl, ?_⟩
      rw [hz.2]
      exact ho
    have hcl : (PySem.W.clsIn X.K D).isSome = true := by
      obtain ⟨cd, hc, _⟩ := PySem.W.any_some T.hd
      rw [hc] <;> rfl
    obtain ⟨its, rv, htp, _⟩ := I.tuple (SqT.of ht)
    have ei := refs_vals rv
    subst ei
    obtain ⟨⟨tc, tdd, tda, tsl⟩, hto, htc, n, htd⟩ := htp
    dsimp only at htc htd
    subst htc htd
    exact PySem.W.kia_tup (PySem.W.kitx_exc hcl T.hg T.hk T.hs T.ha T.hn T.ht T.hm) I.kIn J hto e (fun z => nomatch z) fun tk => ⟨.bl false, H, I.kept (t' := tk) fun _ _ z => z, rfl, q⟩
/-! ### defs in which lambdas are made: what the text says of them -/
/-- a def of the text whose code object stands at c -/
structure FunT (K : PySem.W.Frag) (x q : Str) (st : Stmt) (f c : Addr) (fd : FuncData) : Prop where
  ex : ∃ (oc : Value) (od : Option Addr) (kV doc pm : Value) (an : Option Addr) (ct : Value) (osl : Array (Option Value)), fd = PySem.W.fnOf x q (defArgs st) (defBody st) (defScope st) .none kV doc pm an (.ref c) ct ∧ K.lookup f = some ⟨oc, od, .func fd, osl⟩ ∧ PySem.W.codeIn K (.ref c) q = true
  kp : PySem.W.keepIn K (.ref f) = true
theorem FunT.ok {P : Program} {w : World} {K : PySem.W.Frag} {mg : Str → Option Value} {base : Heap} {x q : Str} {st : Stmt} {f c : Addr} {fd : FuncData} {N ps : List Str} {k : Nat} {sp : Sp} (F : FunT K x q st f c fd) (S : FnScope N ps (defScope st)) (len : ∀ vs H Q E, sp vs H Q E → vs.length = ps.length)
    (hbody : ∀ (A : Around) (outer : List Env) (s : Shared) (H : Hp) (vs : List V) (Q : VK) (E : XK), Room k (A.deeper (PyProof.Rows.envOfC q (defScope st) s.heap.objs.size f (.ref c))) → sp vs H Q E →
      ∃ t, PSs (cxOf CX0 P w K mg base N q (defScope st) f (.ref c) A outer s H E).nox (defBody st) t ∧ t { nx := fun _ H' => Q .non H', rt := Q } (start N vs) H) : FnOk P w K mg base CX0 (k + 1) f fd ps sp := by
  obtain ⟨oc, od, kV, doc, pm, an, ct, osl, rfl, lk, hcd⟩ := F.ex
  refine fn_of lk hcd S len fun A outer s H vs Q E hr hsp => ?_
  obtain ⟨t, h, z⟩ := hbody A outer s H vs Q E hr hsp
  exact ⟨t, h.nox, z⟩
structure DfnT (K : PySem.W.Frag) (mg : Str → Option Value) (x : Str) (st : Stmt) (f c : Addr) (ps : List Str) : Prop where
  ex : ∃ fd, FunT K x x st f c fd ∧ Binds K fd ps []
  g : mg x = some (.ref f)
/-! ### the text by places -/
def top (i : Nat) : Stmt := PySem.Challenge.pw_breakerrow_k59_invalid_routes.main.body.getD i (.Pass ⟨0, 0, 0, 0⟩)
abbrev st_InvalidRow_init : Stmt := inClass (top 2) 0
abbrev st_InvalidOutages_init : Stmt := inClass (top 3) 0
abbrev st_InvalidBound_init : Stmt := inClass (top 4) 0
abbrev st_is_integer : Stmt := top 6
abbrev st_is_at_least : Stmt := top 7
abbrev st_is_within : Stmt := top 8
abbrev st_is_breaker : Stmt := top 13
abbrev st_check_breakers : Stmt := top 14
abbrev st_check_step : Stmt := top 15
abbrev st_closed_states : Stmt := top 20
abbrev st_passes : Stmt := top 21
abbrev st_state_behind : Stmt := top 22
abbrev st_sent : Stmt := top 23
abbrev st_check_outages : Stmt := top 26
abbrev st_is_outage : Stmt := top 27
abbrev st_Routes_init : Stmt := inClass (top 31) 0
abbrev st_Routes_parts : Stmt := inClass (top 31) 1
abbrev st_Routes_eq : Stmt := inClass (top 31) 2
abbrev st_is_service : Stmt := top 32
abbrev st_check_services : Stmt := top 33
abbrev st_check_pattern : Stmt := top 34
abbrev st_is_up : Stmt := top 35
abbrev st_sent_requests : Stmt := top 36
abbrev st_served : Stmt := top 37
abbrev st_common_openings : Stmt := top 38
abbrev st_check_down : Stmt := top 39
abbrev st_failing_runs : Stmt := top 40
abbrev st_longest_failure : Stmt := top 41
abbrev st_first_opening : Stmt := top 42
abbrev st__law_source_of : Stmt := top 44
abbrev st__law_next : Stmt := top 45
abbrev st__law_one : Stmt := top 46
abbrev st__law_cell_at : Stmt := top 47
abbrev st__law_raised : Stmt := top 48
abbrev st__law_parts_right : Stmt := top 49
abbrev st_law : Stmt := top 50
/-- a def of the top -/
structure Dfn (K : PySem.W.Frag) (mg : Str → Option Value) (x : Str) (st : Stmt) (f : Addr) (ps : List Str) : Prop where
  ex : ∃ fd, Fun K x x st f fd ∧ Binds K fd ps []
  g : mg x = some (.ref f)
structure Mth (K : PySem.W.Frag) (C : Addr) (m q : Str) (st : Stmt) (f : Addr) (ps : List Str) : Prop where
  ex : ∃ fd, Fun K m q st f fd ∧ Binds K fd ps []
  at_ : PySem.W.findIn K (.ref C) m = some (some (.ref f))
  fn : PySem.W.isFn K (.ref f) = true
  fk : PySem.W.fnIn K f = true
/-- a def that is called by its name, with its promise -/
structure Cal (P : Program) (w : World) (K : PySem.W.Frag) (mg : Str → Option Value) (base : Heap) (x : Str) (k : Nat) (f : Addr) (ps : List Str) (sp : Sp) : Prop where
  ex : ∃ fd, FnOk P w K mg base CX0 k f fd ps sp ∧ Binds K fd ps []
  g : mg x = some (.ref f)
  kp : PySem.W.keepIn K (.ref f) = true
theorem Dfn.cal {P : Program} {w : World} {K : PySem.W.Frag} {mg : Str → Option Value} {base : Heap} {x : Str} {st : Stmt} {f : Addr} {ps : List Str} {k : Nat} {sp : Sp} (D : Dfn K mg x st f ps) (h : ∀ fd, Fun K x x st f fd → FnOk P w K mg base CX0 k f fd ps sp) : Cal P w K mg base x k f ps sp := by
  obtain ⟨fd, F, b⟩ := D.ex
  exact ⟨⟨fd, h fd F, b⟩, D.g, F.kp⟩
theorem pe_c {X : Cx} {x : Str} {k : Nat} {f : Addr} {ps : List Str} {sp : Sp} {t : TA} {e : Expr} {es : List Expr} {p pos : Pos} (c : Cal X.prog X.w X.K X.mg X.base x k f ps sp) (hr : Room k X.A) (hg : Gl X x)
    (ha : PA X (e :: es) t) (hdb : (x == ("__debug__" : Str)) = false := by decide) (he : starEach (e :: es) X.env = (false, eval e X.env) :: starEach es X.env := by rfl) (hpl : (backTo pos (starEach es X.env)).any (·.1) = false := by rfl) :
    PE X (.Call (.Name x p) (e :: es) [] pos) (tCall sp [] E0 t) := by
  obtain ⟨fd, F, b⟩ := c.ex
  exact pe_call F hr hg c.g c.kp b .nil pass0 ha hdb he hpl
/-- a method with its promise -/
structure Met (P : Program) (w : World) (K : PySem.W.Frag) (mg : Str → Option Value) (base : Heap) (C : Addr) (m : Str) (k : Nat) (f : Addr) (ps : List Str) (sp : Sp) : Prop where
  ex : ∃ fd, FnOk P w K mg base CX0 k f fd ps sp ∧ Binds K fd ps []
  me : Meth K C m f
  fk : PySem.W.fnIn K f = true
theorem Mth.met {P : Program} {w : World} {K : PySem.W.Frag} {mg : Str → Option Value} {base : Heap} {C : Addr} {m q : Str} {st : Stmt} {f : Addr} {ps : List Str} {k : Nat} {sp : Sp} (D : Mth K C m q st f ps) (h : ∀ fd, Fun K m q st f fd → FnOk P w K mg base CX0 k f fd ps sp) : Met P w K mg base C m k f ps sp := by
  obtain ⟨fd, F, b⟩ := D.ex
  exact ⟨⟨fd, h fd F, b⟩, ⟨D.at_, D.fn, F.kp⟩, D.fk⟩

/-! ### values of plain kinds -/
inductive Kd (H : Hp) : V → String → Prop where
  | non : Kd H .non "NoneType"
  | bl (b : Bool) : Kd H (.bl b) "bool"
  | int (i : Int) : Kd H (.int i) "int"
  | str (x : Str) : Kd H (.str x) "str"
  | lst {a : Addr} {xs : List V} (e : H a = some (.lst xs)) : Kd H (.ref a) "list"
  | tup {a : Addr} {xs : List V} (e : H a = some (.tup xs)) : Kd H (.ref a) "tuple"
  | dK {a : Addr} {xs : List (Key × V)} (e : H a = some (.dK xs)) : Kd H (.ref a) "dict"
theorem Kd.ty {K : PySem.W.Frag} {H : Hp} {v : V} {n : String} (h : Kd H v n) : TyX K H v (.type n) := by
  cases h with
  | non => exact .base .non
  | bl b => exact .base (.bl b)
  | int i => exact .base (.int i)
  | str x => exact .base (.str x)
  | lst e => exact .base (.lst e)
  | tup e => exact .base (.tup e)
  | dK e => exact .base (.dK e)
def isI : V → Bool
  | .int _ => true
  | _ => false
def toI : V → Int
  | .int i => i
  | _ => 0
theorem Kd.kit {K : PySem.W.Frag} {H : Hp} {v : V} {n : String} (h : Kd H v n) (c : String) (b : Bool) (hc : c = "int" ∧ b = (n == "int" || n == "bool") ∨ c ≠ "int" ∧ c ∈ ["bool", "list", "tuple"] ∧ b = (n == c)) : PySem.W.kitOne K (.type n) (.type c) = some b := by
  rcases hc with ⟨rfl, rfl⟩ | ⟨_, hc, rfl⟩
  · cases h <;> exact kit_ty (by decide +kernel)
  · simp only [List.mem_cons, List.mem_nil_iff, or_false] at hc
    rcases hc with rfl | rfl | rfl <;> cases h <;> exact kit_ty (by decide +kernel)
theorem Kd.same {H H' : Hp} {v : V} {n : String} (h : Kd H v n) (s : ∀ b o, v = .ref b → H b = some o → H' b = some o) : Kd H' v n := by
  cases h with
  | non => exact .non
  | bl b => exact .bl b
  | int i => exact .int i
  | str x => exact .str x
  | lst e => exact .lst (s _ _ rfl e)
  | tup e => exact .tup (s _ _ rfl e)
  | dK e => exact .dK (s _ _ rfl e)
/-- all but what stands at a is kept -/
def Kp (a : Addr) (H H' : Hp) : Prop := ∀ b o, b ≠ a → H b = some o → H' b = some o
theorem Kp.refl {a : Addr} {H : Hp} : Kp a H H := fun _ _ _ h => h
theorem Kp.trans {a : Addr} {H H1 H2 : Hp} (h : Kp a H H1) (h' : Kp a H1 H2) : Kp a H H2 := fun b o n e => h' b o n (h b o n e)
theorem Kp.of {a : Addr} {H H' : Hp} (s : Same H H') : Kp a H H' := fun b o _ e => s b o e
theorem Kp.upd {a : Addr} {H : Hp} {o : HO} : Kp a H (upd H a o) := fun b _ n e => by rw [upd_ne n]; exact e
theorem Same.upd {H : Hp} {p : Addr} {o : HO} (h : H p = none) : Same H (L2.upd H p o) := fun b u e => by rw [upd_ne (ne_of_none e h)]; exact e
theorem Kp.free {a b : Addr} {H H' : Hp} {o : HO} (k : Kp a H H') (ha : H a = some o) (h : H' b = none) (n : b ≠ a) : H b = none := by
  cases q : H b with
  | none => rfl
  | some u => rw [k b u n q] at h; cases h

/-! ### the promises of the small defs -/
def spIsInt : Sp := fun vs H Q _ => ∃ v n, vs = [v] ∧ Kd H v n ∧ Q (.bl (isI v)) H
def spAtL : Sp := fun vs H Q _ => ∃ v n l, vs = [v, .int l] ∧ Kd H v n ∧ Q (.bl (isI v && decide (l ≤ toI v))) H
def spWithin : Sp := fun vs H Q _ => ∃ v n l m, vs = [v, .int l, .int m] ∧ Kd H v n ∧ Q (.bl (isI v && (decide (l ≤ toI v) && decide (toI v ≤ m)))) H
/-- how many steps -/
def stepsUp (d s : Int) : Int := if -(-d / s) > 0 then -(-d / s) else 0
def spSteps : Sp := fun vs H Q _ => ∃ d s, vs = [.int d, .int s] ∧ 0 < s ∧ s.natAbs.log2 < 9000 ∧ Q (.int (stepsUp d s)) H

/-- what is no list is kept -/
def NL (H H' : Hp) : Prop := ∀ b o, H b = some o → (∀ xs, o ≠ .lst xs) → H' b = some o
theorem NL.refl {H : Hp} : NL H H := fun _ _ h _ => h
theorem NL.trans {H H1 H2 : Hp} (a : NL H H1) (b : NL H1 H2) : NL H H2 := fun c o h n => b c o (a c o h n) n
theorem NL.of {H H' : Hp} (s : Same H H') : NL H H' := fun b o e _ => s b o e
theorem Kp.nl {a : Addr} {H H' : Hp} {xs : List V} (k : Kp a H H') (h : H a = some (.lst xs)) : NL H H' := fun b o e n => k b o (fun z => by subst z; rw [h] at e; exact n xs (Option.some.inj e).symm) e
theorem NL.upd {H : Hp} {p : Addr} {xs : List V} {o : HO} (h : H p = some (.lst xs)) : NL H (L2.upd H p o) := Kp.nl Kp.upd h
theorem pe_gI {X : Cx} {x : Str} {i : Int} {t : Tok} {pos : Pos} (hm : X.mg x = some (.int i t)) (hg : Gl X x := by rfl) (hd : (x == ("__debug__" : Str)) = false := by decide) : PE X (.Name x pos) (tC (.int i)) := pe_glob hg hm ⟨t, rfl⟩ hd
@[irreducible] def PB (n : Nat) : Int := 2 ^ n
theorem PB_succ (n : Nat) : PB (n + 1) = PB n + PB n := by
  unfold PB
  rw [Int.pow_succ]
  omega
theorem PB_pos (n : Nat) : 1 ≤ PB n := by
  unfold PB
  have : (0 : Int) < 2 ^ n := Int.pow_pos (by decide)
  omega
theorem PB_le {n m : Nat} (h : n ≤ m) : PB n ≤ PB m := by
  induction m with
  | zero => rw [Nat.le_zero.mp h]; exact Int.le_refl _
  | succ m ih =>
    by_cases e : n = m + 1
    · rw [e]; exact Int.le_refl _
    · have h1 := ih (by omega)
      have h2 := PB_succ m
      have h3 := PB_pos m
      omega
theorem PB_abs {i : Int} {n : Nat} (h0 : 0 ≤ i) (h : i ≤ PB n) : i.natAbs < 2 ^ (n + 1) := by
  unfold PB at h
  have e : (2 : Nat) ^ (n + 1) = 2 ^ n * 2 := Nat.pow_succ 2 n
  have e2 : ((2 ^ n : Nat) : Int) = 2 ^ n := by rw [Int.natCast_pow]; rfl
  rw [← e2] at h
  have : 0 < 2 ^ n := Nat.pow_pos (by decide)
  rw [e]
  generalize 2 ^ n = w at *
  omega
theorem PB_of {i : Int} {n : Nat} (h : i.natAbs < 2 ^ n) : i ≤ PB n := by
  unfold PB
  have e2 : ((2 ^ n : Nat) : Int) = 2 ^ n := by rw [Int.natCast_pow]; rfl
  rw [← e2]
  generalize 2 ^ n = w at *
  omega
def BB : Int := PB 5000
theorem BB0 : 0 ≤ BB := by
  have := PB_pos 5000
  unfold BB
  omega
theorem bb_lt {i : Int} (h0 : 0 ≤ i) (h : i ≤ BB + BB) : i.natAbs < 2 ^ 5002 := PB_abs h0 (by rw [PB_succ]; exact h)
theorem mulBB {i j : Int} (i0 : 0 ≤ i) (i1 : i ≤ BB + BB) (j0 : 0 ≤ j) (j1 : j ≤ BB + BB) : CMulW i j := wide_mul (bb_lt i0 i1) (bb_lt j0 j1) (by decide) (by decide) (by decide)
theorem BB1 : 1 ≤ BB := PB_pos 5000
theorem divBB {j : Int} (j0 : 1 ≤ j) (j1 : j ≤ BB) : j.natAbs.log2 < 9000 := (wide_div (i := 0) (by omega : 0 < j) (bb_lt (by omega) (by have := BB0; omega)) (by decide) (by decide)).2
theorem small2 {n : Nat} (h : n ≤ 100000) : n ≤ sizeLine := Nat.le_trans h (by decide)
theorem small1 {n : Nat} (h : n ≤ 100000) : n < sizeLine := Nat.lt_of_le_of_lt h (by decide)
theorem tYes_of {σ : L2.St} {H : Hp} {A B : Hp → Prop} (h : A H) : tYes σ H (fun b H3 => if b = true then A H3 else B H3) := by
  show if true = true then A H else B H
  rw [if_pos rfl]
  exact h
theorem cut_init (xs : List V) : cutV xs none (some (-1)) = xs.take (xs.length - 1) := by
  show (xs.drop 0).take ((if (-1 : Int) < 0 then ((-1 : Int) + (xs.length : Int)).toNat else min (-1 : Int).toNat xs.length) - 0) = _
  rw [if_pos (by decide), List.drop_zero]
  congr 1
  omega
theorem cut_last (xs : List V) : cutV xs (some (-1)) none = xs.drop (xs.length - 1) := by
  show (xs.drop (if (-1 : Int) < 0 then ((-1 : Int) + (xs.length : Int)).toNat else min (-1 : Int).toNat xs.length)).take (xs.length - (if (-1 : Int) < 0 then ((-1 : Int) + (xs.length : Int)).toNat else min (-1 : Int).toNat xs.length)) = _
  rw [if_pos (by decide)]
  have e : ((-1 : Int) + (xs.length : Int)).toNat = xs.length - 1 := by omega
  rw [e]
  refine List.take_of_length_le ?_
  rw [List.length_drop]
  exact Nat.le_refl _
theorem none_of {H H' : Hp} {l : Addr} (s : Same H H') (h : H' l = none) : H l = none := by
  cases q : H l with
  | none => rfl
  | some o => rw [s _ _ q] at h; cases h
theorem for_enum {K : PySem.W.Frag} {a : Addr} {xs : List V} {g : TG} {tb : TS} {D : Ends} {σ : L2.St} {H : Hp} (Pv : Nat → L2.St → Hp → Prop) (h0 : Pv 0 σ H) (hl : ∀ i σ H, i ≤ xs.length → Pv i σ H → SqL K H a xs)
    (hs : ∀ i x T σ H, xs[i]? = some x → Pv i σ H → H T = none → g (.ref T) σ (upd H T (.tup [.int (i : Nat), x])) fun σ2 H2 => tb { D with nx := Pv (i + 1), ct := Pv (i + 1), bk := D.nx } σ2 H2) (hd : ∀ σ H, Pv xs.length σ H → D.nx σ H) :
    ∃ W : Nat → Nat → L2.St → Hp → Prop, (∃ m, W 0 m σ H) ∧ ∀ i m σ H, W i m σ H →
      ((Ite K a).stop i H ∧ D.nx σ H) ∨ ((Ite K a).go i H ∧ ∃ N : L2.St → Hp → Prop, (∀ σ' H', N σ' H' → ∃ m', m' < m ∧ W (i + 1) m' σ' H') ∧ ∀ x H', (Ite K a).yld i H x H' → g x σ H' fun σ2 H2 => tb { D with nx := N, ct := N, bk := D.nx } σ2 H2) := by
  refine ⟨fun i m σ H => m = xs.length - i ∧ i ≤ xs.length ∧ Pv i σ H, ⟨xs.length, by simp, Nat.zero_le _, h0⟩, ?_⟩
  rintro i m σ H ⟨rfl, hi, p⟩
  have q := hl i σ H hi p
  by_cases hlt : i < xs.length
  · refine .inr ⟨⟨xs, xs[i], q, by simp [hlt]⟩, Pv (i + 1), fun σ' H' p' => ⟨xs.length - (i + 1), by omega, rfl, hlt, p'⟩, fun x H' y => ?_⟩
    obtain ⟨T, x', rfl, hT, rfl, hx⟩ := y
    exact hs i x' T σ H (hx xs q) p hT
  · have e : i = xs.length := by omega
    subst e
    exact .inl ⟨⟨xs, q, Nat.le_refl _⟩, hd σ H p⟩
theorem pe_callN0 {X : Cx} {CX : CXT} {k : Nat} {f : Addr} {fd : FuncData} {ps ks : List Str} {sp : Sp} {E : XK} {x : Str} {p pos : Pos} {kws : List Keyword} {tk : TA} {g : List Value → List Value → List Value} {gV : List V → List V → List V}
    (F : FnOk X.prog X.w X.K X.mg X.base CX k f fd ps sp) (hr : Room k X.A) (hg : Gl X x) (hm : X.mg x = some (.ref f)) (hk : PySem.W.keepIn X.K (.ref f) = true) (hb : KBn X.K fd ps 0 ks g gV) (hx : Passes CX X E) (hkw : PK X kws tk)
    (hall : (backToKw pos (keywordEach kws X.env)).all (·.1.isSome) = true := by rfl) (hks : (backToKw pos (keywordEach kws X.env)).filterMap (·.1) = ks := by rfl) (hdb : (x == ("__debug__" : Str)) = false := by decide)
    (hpl : ((backTo pos (starEach [] X.env)).any (·.1) || (backToKw pos (keywordEach kws X.env)).any (·.1.isNone)) = false := by rfl) :
    PE X (.Call (.Name x p) [] kws pos) (tCallN 0 ks.length sp gV E tNil tk) := by
  refine ⟨fun pins s σ H Q I h => ?_⟩
  refine wpAny_Call_Name_kw (ld_glob I hg hm ?_ hdb)
  refine PySem.W.callWith_KW0 (h₀ := X.base) I.ok.mod.kin hk hall ?_ hpl
  refine thn (hkw.run pos pins s σ H _ I h) fun ws s2 ⟨zs, H2, I2, rz, l1, l2, q2⟩ => ⟨I2.kIn, ?_⟩
  rw [hks]
  exact run_fnN F hr hb hx I2 .nil rz rfl l2 q2
section
variable {X : Cx} {C : Addr} {k : Nat} {f : Addr} {ps : List Str} {sp : Sp}
theorem Met.op_in (c : Met X.prog X.w X.K X.mg X.base C "__contains__" k f ps sp) (hr : Room k X.A) : OpR X (compareOp .In) (rOwnIn C sp E0 _root_.id) := by
  obtain ⟨fd, F, b⟩ := c.ex
  exact op_own_in F hr c.me.at_ c.me.fn b pass0
theorem Met.op_notin (c : Met X.prog X.w X.K X.mg X.base C "__contains__" k f ps sp) (hr : Room k X.A) : OpR X (compareOp .NotIn) (rOwnIn C sp E0 Bool.not) := by
  obtain ⟨fd, F, b⟩ := c.ex
  exact op_own_notin F hr c.me.at_ c.me.fn b pass0
theorem Met.c_len (c : Met X.prog X.w X.K X.mg X.base C "__len__" k f ps sp) (hr : Room (k + 1) X.A) : CallR X (.builtin "len") (rOwnLen C sp E0) := by
  obtain ⟨fd, F, b⟩ := c.ex
  exact call_own_len F hr c.me.at_ c.me.fn b pass0
theorem Met.op_add (c : Met X.prog X.w X.K X.mg X.base C "__add__" k f ps sp) (hr : Room k X.A) (hc : PySem.W.selfFirst X.K C = true) : OpR X (binaryOp .Add) (rOwnAdd C sp E0) := by
  obtain ⟨fd, F, b⟩ := c.ex
  exact op_own_add F hr hc c.me.at_ c.me.fn b pass0
theorem Met.op_eq (c : Met X.prog X.w X.K X.mg X.base C "__eq__" k f ps sp) (hr : Room k X.A) : OpR X (compareOp .Eq) (rOwnEq C sp E0 _root_.id) := by
  obtain ⟨fd, F, b⟩ := c.ex
  exact op_own_eq F hr c.me.at_ c.me.fn b pass0
theorem Met.op_ne (c : Met X.prog X.w X.K X.mg X.base C "__eq__" k f ps sp) (hr : Room (k + 1) X.A) (hm : PySem.W.mroIn X.K C (.type "object") = some true) (hne : PySem.W.findIn X.K (.ref C) "__ne__" = some (some (.builtin "object.__ne__"))) : OpR X (compareOp .NotEq) (rOwnEq C sp E0 Bool.not) := by
  obtain ⟨fd, F, b⟩ := c.ex
  exact op_own_ne F hr hm hne c.me.at_ c.me.fn b pass0
theorem Met.p_ix {a b : Expr} {ta tb : TE} {pos : Pos} (c : Met X.prog X.w X.K X.mg X.base C "__getitem__" k f ps sp) (hr : Room (k + 1) X.A) (ha : PE X a ta) (hb' : PE X b tb) (hsl : ∀ o i, subscripted b true o i = runValue (.builtin "lifetime.subscript" ⟨[o, i], []⟩) := by exact fun _ _ => rfl) :
    PE X (.Subscript a b pos) (tOp (rOwnIx C sp E0) ta tb) := by
  obtain ⟨fd, F, bb⟩ := c.ex
  exact pe_own_ix F hr c.me.at_ c.fk c.me.fn bb pass0 ha hb' hsl
end
theorem Met.p_m0 {X : Cx} {C : Addr} {k : Nat} {f : Addr} {ps : List Str} {sp : Sp} {m : Str} {o : Expr} {ta : TE} {apos pos : Pos} {pl : Sem Bool} (c : Met X.prog X.w X.K X.mg X.base C m k f ps sp) (cl : Cls X.K C) (hr : Room k X.A) (he : PE X o ta)
    (ht : eval (.Call (.Attribute o m apos) [] [] pos) X.env = (do
      let ov ← eval o X.env
      standAt apos.atName
      let (f, first) ← holding [ov] (getMethod ov m pl)
      callWith pos f first (backTo pos (starEach [] X.env)) (backToKw pos (keywordEach [] X.env))) := by rfl) :
    PE X (.Call (.Attribute o m apos) [] [] pos) (tMeth C m sp [] E0 ta tNil) := by
  obtain ⟨fd, F, b⟩ := c.ex
  exact pe_meth0 he cl c.me F hr b .nil pass0 ht
/-! ### a class of the text -/
structure CF (K : PySem.W.Frag) (C : Addr) : Prop where
  cl : Cls K C
  cls : PySem.W.isClsIn K C = true
  ty : PySem.W.typeIn K (.ref C) = some (.type "type")
  oc : PySem.W.findIn K (.ref C) "__class__" = some (some (.builtin "object.__class__"))
  og : PySem.W.specialIn K (.builtin "object.__class__") "__get__" = some (some (.builtin "getset_descriptor.__get__"))
  ot : PySem.W.takesIn K (.builtin "object.__class__") = some true
  om : PySem.W.mroIn K C (.type "object") = some true
  sf : PySem.W.selfFirst K C = true
  ne : PySem.W.findIn K (.ref C) "__ne__" = some (some (.builtin "object.__ne__"))
theorem CF.kitT {K : PySem.W.Frag} {C : Addr} (M : CF K C) {H : Hp} {v : V} {n : String} (h : Kd H v n) : PySem.W.kitOne K (.type n) (.ref C) = some false := by
  have e1 : ((PySem.W.clsIn K C).isSome && PySem.W.typeIn K (.ref C) == some (.type "type")) = true := by
    have h2 : (PySem.W.clsIn K C).isSome = true := M.cls
    rw [h2, M.ty] <;> rfl
  have e2 : PySem.W.subIn K (.type n) (.ref C) = some false := by
    cases h with
    | non => exact sub_ty (l := ["NoneType", "object"]) (by decide +kernel)
    | bl _ => exact sub_ty (l := ["bool", "int", "object"]) (by decide +kernel)
    | int _ => exact sub_ty (l := ["int", "object"]) (by decide +kernel)
    | str _ => exact sub_ty (l := ["str", "object"]) (by decide +kernel)
    | lst _ => exact sub_ty (l := ["list", "object"]) (by decide +kernel)
    | tup _ => exact sub_ty (l := ["tuple", "object"]) (by decide +kernel)
    | dK _ => exact sub_ty (l := ["dict", "object"]) (by decide +kernel)
  show (if (Value.type n == Value.ref C) = true then some true else PySem.W.kitCls K (.type n) (.ref C)) = some false
  rw [if_neg (by intro z; cases z)]
  show (if ((PySem.W.clsIn K C).isSome && PySem.W.typeIn K (.ref C) == some (.type "type")) = true then PySem.W.subIn K (.type n) (.ref C) else none) = some false
  rw [if_pos e1, e2]
theorem CF.tyR {K : PySem.W.Frag} {C : Addr} (M : CF K C) {H : Hp} {p dx : Addr} {fs : List (Str × V)} (h : H p = some (.ins C dx fs)) : TyX K H (.ref p) (.ref C) := .base (.ins h M.cl M.oc M.og M.ot M.om)
theorem vals_rev {vs : List V} {us : List Value} (r : Vals vs us) : Vals vs.reverse us.reverse := by
  induction r with
  | nil => exact .nil
  | cons h t ih =>
    rw [List.reverse_cons, List.reverse_cons]
    exact ih.append (.cons h .nil)
/-- f(c = .., b = .., a = ..) of a def f(a, b, c) -/
theorem pe_kr {X : Cx} {k : Nat} {f : Addr} {sp : Sp} {x : Str} {ps : List Str} {st : Stmt} {kws : List Keyword} {tk : TA} {p pos : Pos} (D : Dfn X.K X.mg x st f ps) (h : ∀ fd, Fun X.K x x st f fd → FnOk X.prog X.w X.K X.mg X.base CX0 k f fd ps sp)
    (hbind : ∀ (kV doc pm : Value) (an : Option Addr) (cdv ct : Value) (us : List Value), us.length = ps.reverse.length → bindArgs (PySem.W.fnOf x x (defArgs st) (defBody st) (defScope st) .none kV doc pm an cdv ct) ⟨[], ps.reverse.zip us⟩ = pure (ps.zip us.reverse))
    (hr : Room k X.A) (hg : Gl X x) (hkw : PK X kws tk) (hall : (backToKw pos (keywordEach kws X.env)).all (·.1.isSome) = true := by rfl) (hks : (backToKw pos (keywordEach kws X.env)).filterMap (·.1) = ps.reverse := by rfl) (hdb : (x == ("__debug__" : Str)) = false := by decide)
    (hpl : ((backTo pos (starEach [] X.env)).any (·.1) || (backToKw pos (keywordEach kws X.env)).any (·.1.isNone)) = false := by rfl) :
    PE X (.Call (.Name x p) [] kws pos) (tCallN 0 ps.reverse.length sp (fun us ws => us ++ ws.reverse) E0 tNil tk) := by
  obtain ⟨fd, F, _⟩ := D.ex
  have hb : KBn X.K fd ps 0 ps.reverse (fun us ws => us ++ ws.reverse) (fun us ws => us ++ ws.reverse) := by
    refine ⟨fun s us ws hX h1 h2 => ?_, fun r1 r2 => r1.append (vals_rev r2)⟩
    obtain ⟨oc, od, kV, doc, pm, an, cdv, ct, osl, rfl, lk, hcd⟩ := F.ex
    match us, h1 with
    | [], _ => exact .of_eq (hbind kV doc pm an cdv ct ws h2)
  exact pe_callN0 (h fd F) hr hg D.g F.kp hb pass0 hkw hall hks hdb hpl
/-- where the defs and classes of the text stand -/
structure LA where
  f_is_integer : Addr
  f_is_at_least : Addr
  f_is_within : Addr
  f_is_breaker : Addr
  f_check_breakers : Addr
  f_check_step : Addr
  f_closed_states : Addr
  f_passes : Addr
  f_state_behind : Addr
  f_sent : Addr
  f_check_outages : Addr
  f_is_outage : Addr
  f_is_service : Addr
  f_check_services : Addr
  f_check_pattern : Addr
  f_is_up : Addr
  f_sent_requests : Addr
  f_served : Addr
  f_common_openings : Addr
  f_check_down : Addr
  f_failing_runs : Addr
  f_longest_failure : Addr
  f_first_opening : Addr
  f__law_source_of : Addr
  f__law_next : Addr
  f__law_one : Addr
  f__law_cell_at : Addr
  f__law_raised : Addr
  f__law_parts_right : Addr
  k__law_parts_right : Addr
  t__law_parts_right : Addr
  k_law : Addr
  t_law : Addr
  c_Routes : Addr
  i_Routes : Addr
  m_Routes_parts : Addr
  m_Routes_eq : Addr
  e_BreakerError : Addr
  e_InvalidRow : Addr
  e_InvalidOutages : Addr
  e_InvalidBound : Addr
  i_InvalidRow : Addr
  i_InvalidOutages : Addr
  i_InvalidBound : Addr
/-- what the text says of them -/
structure LX (K : PySem.W.Frag) (mg : Str → Option Value) (L : LA) : Prop where
  b_ArithmeticError : mg "ArithmeticError" = none
  b_bool : mg "bool" = none
  b_enumerate : mg "enumerate" = none
  b_int : mg "int" = none
  b_isinstance : mg "isinstance" = none
  b_len : mg "len" = none
  b_list : mg "list" = none
  b_max : mg "max" = none
  b_min : mg "min" = none
  b_range : mg "range" = none
  b_tuple : mg "tuple" = none
  b_zip : mg "zip" = none
  n_MOST_BREAKERS : ∃ t, mg "MOST_BREAKERS" = some (.int 12 t)
  n_MOST_COUNT : ∃ t, mg "MOST_COUNT" = some (.int 1000000000000 t)
  n_MOST_TIME : ∃ t, mg "MOST_TIME" = some (.int 1000000000000000000000000000000 t)
  n_MOST_REQUESTS : ∃ t, mg "MOST_REQUESTS" = some (.int 10000 t)
  n_MOST_OUTAGES : ∃ t, mg "MOST_OUTAGES" = some (.int 50 t)
  n_MOST_SERVICES : ∃ t, mg "MOST_SERVICES" = some (.int 10 t)
  n_MOST_PLACES : ∃ t, mg "MOST_PLACES" = some (.int 20 t)
  n_SERVED : ∃ a, mg "SERVED" = some (.ref a) ∧ ∀ H : Hp, SqT K H a [.str "served"]
  n_FAILED : ∃ a, mg "FAILED" = some (.ref a) ∧ ∀ H : Hp, SqT K H a [.str "failed"]
  d_is_integer : Dfn K mg "is_integer" st_is_integer L.f_is_integer ["value"]
  d_is_at_least : Dfn K mg "is_at_least" st_is_at_least L.f_is_at_least ["value", "least"]
  d_is_within : Dfn K mg "is_within" st_is_within L.f_is_within ["value", "least", "most"]
  d_is_breaker : Dfn K mg "is_breaker" st_is_breaker L.f_is_breaker ["value"]
  d_check_breakers : Dfn K mg "check_breakers" st_check_breakers L.f_check_breakers ["breakers", "part"]
  d_check_step : Dfn K mg "check_step" st_check_step L.f_check_step ["step"]
  d_closed_states : Dfn K mg "closed_states" st_closed_states L.f_closed_states ["number"]
  d_passes : Dfn K mg "passes" st_passes L.f_passes ["breaker", "state", "time"]
  d_state_behind : Dfn K mg "state_behind" st_state_behind L.f_state_behind ["breaker", "state", "time", "succeeded"]
  d_sent : Dfn K mg "sent" st_sent L.f_sent ["breakers", "states", "time", "up"]
  d_check_outages : Dfn K mg "check_outages" st_check_outages L.f_check_outages ["outages"]
  d_is_outage : Dfn K mg "is_outage" st_is_outage L.f_is_outage ["value"]
  d_is_service : Dfn K mg "is_service" st_is_service L.f_is_service ["value"]
  d_check_services : Dfn K mg "check_services" st_check_services L.f_check_services ["services"]
  d_check_pattern : Dfn K mg "check_pattern" st_check_pattern L.f_check_pattern ["pattern", "number"]
  d_is_up : Dfn K mg "is_up" st_is_up L.f_is_up ["outages", "time"]
  d_sent_requests : Dfn K mg "sent_requests" st_sent_requests L.f_sent_requests ["routes", "count"]
  d_served : Dfn K mg "served" st_served L.f_served ["routes", "count"]
  d_common_openings : Dfn K mg "common_openings" st_common_openings L.f_common_openings ["routes", "count"]
  d_check_down : Dfn K mg "check_down" st_check_down L.f_check_down ["routes", "down"]
  d_failing_runs : Dfn K mg "failing_runs" st_failing_runs L.f_failing_runs ["routes", "down"]
  d_longest_failure : Dfn K mg "longest_failure" st_longest_failure L.f_longest_failure ["routes", "down"]
  d_first_opening : Dfn K mg "first_opening" st_first_opening L.f_first_opening ["routes", "down"]
  d__law_source_of : Dfn K mg "_law_source_of" st__law_source_of L.f__law_source_of ["_law_cell"]
  d__law_next : Dfn K mg "_law_next" st__law_next L.f__law_next ["_law_source", "_law_many"]
  d__law_one : Dfn K mg "_law_one" st__law_one L.f__law_one ["_law_source", "_law_options"]
  d__law_cell_at : Dfn K mg "_law_cell_at" st__law_cell_at L.f__law_cell_at ["_law_script", "_law_k"]
  d__law_raised : Dfn K mg "_law_raised" st__law_raised L.f__law_raised ["_law_call"]
  d__law_parts_right : DfnT K mg "_law_parts_right" st__law_parts_right L.f__law_parts_right L.k__law_parts_right ["_law_source"]
  nt__law_parts_right_law : L.t__law_parts_right ≠ L.t_law
  gc_Routes : mg "Routes" = some (.ref L.c_Routes)
  cf_Routes : CF K L.c_Routes
  mk_Routes : Mk K L.c_Routes L.i_Routes
  nf_Routes_common : NoAttr K L.c_Routes "common"
  nf_Routes_services : NoAttr K L.c_Routes "services"
  nf_Routes_pattern : NoAttr K L.c_Routes "pattern"
  nf_Routes_step : NoAttr K L.c_Routes "step"
  in_Routes : ∃ fd, Fun K "__init__" "Routes.__init__" st_Routes_init L.i_Routes fd ∧ Binds K fd ["self", "common", "services", "pattern", "step"] []
  mm_Routes_parts : Mth K L.c_Routes "parts" "Routes.parts" st_Routes_parts L.m_Routes_parts ["self"]
  mm_Routes_eq : Mth K L.c_Routes "__eq__" "Routes.__eq__" st_Routes_eq L.m_Routes_eq ["self", "other"]
  ge_BreakerError : mg "BreakerError" = some (.ref L.e_BreakerError)
  xe_BreakerError : L2.XfC K L.e_BreakerError
  te_BreakerError : PySem.W.typeIn K (.ref L.e_BreakerError) = some (.type "type")
  ge_InvalidRow : mg "InvalidRow" = some (.ref L.e_InvalidRow)
  xe_InvalidRow : L2.XfC K L.e_InvalidRow
  te_InvalidRow : PySem.W.typeIn K (.ref L.e_InvalidRow) = some (.type "type")
  ge_InvalidOutages : mg "InvalidOutages" = some (.ref L.e_InvalidOutages)
  xe_InvalidOutages : L2.XfC K L.e_InvalidOutages
  te_InvalidOutages : PySem.W.typeIn K (.ref L.e_InvalidOutages) = some (.type "type")
  ge_InvalidBound : mg "InvalidBound" = some (.ref L.e_InvalidBound)
  xe_InvalidBound : L2.XfC K L.e_InvalidBound
  te_InvalidBound : PySem.W.typeIn K (.ref L.e_InvalidBound) = some (.type "type")
  ae_InvalidRow : AeC K L.e_InvalidRow
  hi_InvalidRow : PySem.W.findIn K (.ref L.e_InvalidRow) "__init__" = some (some (.ref L.i_InvalidRow))
  ti_InvalidRow : PySem.W.typeIn K (.ref L.i_InvalidRow) = some (.type "function")
  in_InvalidRow : ∃ fd, Fun K "__init__" "InvalidRow.__init__" st_InvalidRow_init L.i_InvalidRow fd ∧ Binds K fd ["self", "part", "at"] []
  ne_InvalidRow_part : PySem.W.findIn K (.ref L.e_InvalidRow) "part" = some none
  ne_InvalidRow_at : PySem.W.findIn K (.ref L.e_InvalidRow) "at" = some none
  is_InvalidRow : IsC K L.e_InvalidRow
  se_InvalidRow_BreakerError : PySem.W.subIn K (.ref L.e_InvalidRow) (.ref L.e_BreakerError) = some true
  se_InvalidRow_InvalidRow : PySem.W.subIn K (.ref L.e_InvalidRow) (.ref L.e_InvalidRow) = some true
  se_InvalidRow_InvalidOutages : PySem.W.subIn K (.ref L.e_InvalidRow) (.ref L.e_InvalidOutages) = some false
  se_InvalidRow_InvalidBound : PySem.W.subIn K (.ref L.e_InvalidRow) (.ref L.e_InvalidBound) = some false
  sa_InvalidRow : PySem.W.subIn K (.ref L.e_InvalidRow) (.type "ArithmeticError") = some true
  ae_InvalidOutages : AeC K L.e_InvalidOutages
  hi_InvalidOutages : PySem.W.findIn K (.ref L.e_InvalidOutages) "__init__" = some (some (.ref L.i_InvalidOutages))
  ti_InvalidOutages : PySem.W.typeIn K (.ref L.i_InvalidOutages) = some (.type "function")
  in_InvalidOutages : ∃ fd, Fun K "__init__" "InvalidOutages.__init__" st_InvalidOutages_init L.i_InvalidOutages fd ∧ Binds K fd ["self", "at"] []
  ne_InvalidOutages_part : PySem.W.findIn K (.ref L.e_InvalidOutages) "part" = some none
  ne_InvalidOutages_at : PySem.W.findIn K (.ref L.e_InvalidOutages) "at" = some none
  is_InvalidOutages : IsC K L.e_InvalidOutages
  se_InvalidOutages_BreakerError : PySem.W.subIn K (.ref L.e_InvalidOutages) (.ref L.e_BreakerError) = some true
  se_InvalidOutages_InvalidRow : PySem.W.subIn K (.ref L.e_InvalidOutages) (.ref L.e_InvalidRow) = some false
  se_InvalidOutages_InvalidOutages : PySem.W.subIn K (.ref L.e_InvalidOutages) (.ref L.e_InvalidOutages) = some true
  se_InvalidOutages_InvalidBound : PySem.W.subIn K (.ref L.e_InvalidOutages) (.ref L.e_InvalidBound) = some false
  sa_InvalidOutages : PySem.W.subIn K (.ref L.e_InvalidOutages) (.type "ArithmeticError") = some true
  ae_InvalidBound : AeC K L.e_InvalidBound
  hi_InvalidBound : PySem.W.findIn K (.ref L.e_InvalidBound) "__init__" = some (some (.ref L.i_InvalidBound))
  ti_InvalidBound : PySem.W.typeIn K (.ref L.i_InvalidBound) = some (.type "function")
  in_InvalidBound : ∃ fd, Fun K "__init__" "InvalidBound.__init__" st_InvalidBound_init L.i_InvalidBound fd ∧ Binds K fd ["self", "part"] []
  ne_InvalidBound_part : PySem.W.findIn K (.ref L.e_InvalidBound) "part" = some none
  ne_InvalidBound_at : PySem.W.findIn K (.ref L.e_InvalidBound) "at" = some none
  is_InvalidBound : IsC K L.e_InvalidBound
  se_InvalidBound_BreakerError : PySem.W.subIn K (.ref L.e_InvalidBound) (.ref L.e_BreakerError) = some true
  se_InvalidBound_InvalidRow : PySem.W.subIn K (.ref L.e_InvalidBound) (.ref L.e_InvalidRow) = some false
  se_InvalidBound_InvalidOutages : PySem.W.subIn K (.ref L.e_InvalidBound) (.ref L.e_InvalidOutages) = some false
  se_InvalidBound_InvalidBound : PySem.W.subIn K (.ref L.e_InvalidBound) (.ref L.e_InvalidBound) = some true
  sa_InvalidBound : PySem.W.subIn K (.ref L.e_InvalidBound) (.type "ArithmeticError") = some true
/-- the code objects of the defs in which lambdas are made, and their tables -/
structure TX (base : Heap) (mg : Str → Option Value) (L : LA) : Prop where
  b__law_parts_right : LamX.TabB base mg L.k__law_parts_right L.t__law_parts_right
  b_law : LamX.TabB base mg L.k_law L.t_law
def LT (L : LA) : List (Addr × Str) := [(L.t__law_parts_right, (("_law_parts_right" : Str) ++ ".<locals>.") ++ "<lambda>"), (L.t_law, (("law" : Str) ++ ".<locals>.") ++ "<lambda>")]

/-- a comprehension over zip of two lists -/
theorem lc_zip {K : PySem.W.Frag} {a b : Addr} {xs ys : List V} {g : TG} {tt : TT} {te : TE} {vs : List Nat} {σ : L2.St} {H1 : Hp} {D : Addr} {Qd : Hp → Prop} (hlen : ys.length ≤ xs.length) (Pv : Nat → Hp → Prop) (h0 : Pv 0 (upd H1 D (.lst []))) (hl : ∀ i H, Pv i H → SqL K H a xs ∧ SqL K H b ys)
    (hs : ∀ (i : Nat) (x y : V) (T : Addr) (H : Hp), xs[i]? = some x → ys[i]? = some y → Pv i H → H T = none → g (.ref T) (wipe σ vs) (upd H T (.tup [x, y])) fun σ2 H2 => wipe σ2 vs = wipe σ vs ∧ tt σ2 H2 fun b H3 =>
      if b = true then te σ2 H3 fun y H4 => ∃ acc, H4 D = some (.lst acc) ∧ acc.length < sizeLine ∧ Pv (i + 1) (upd H4 D (.lst (acc ++ [y]))) else Pv (i + 1) H3) (hd : ∀ H, Pv ys.length H → Qd H) :
    ∃ W : Nat → Nat → Hp → Prop, (∃ m, W 0 m (upd H1 D (.lst []))) ∧ ∀ i m H, W i m H → ((Itz K a b).stop i H ∧ Qd H) ∨ ((Itz K a b).go i H ∧ ∃ Nx : Hp → Prop, (∀ H', Nx H' → ∃ m', m' < m ∧ W (i + 1) m' H') ∧ ∀ x H', (Itz K a b).yld i H x H' → g x (wipe σ vs) H' fun σ2 H2 => wipe σ2 vs = wipe σ vs ∧ tt σ2 H2 fun b H3 =>
        if b = true then te σ2 H3 fun y H4 => ∃ acc, H4 D = some (.lst acc) ∧ acc.length < sizeLine ∧ Nx (upd H4 D (.lst (acc ++ [y]))) else Nx H3) := by
  refine ⟨fun i m H => m = ys.length - i ∧ i ≤ ys.length ∧ Pv i H, ⟨ys.length, by omega, Nat.zero_le _, h0⟩, ?_⟩
  rintro i m H ⟨rfl, hi, p⟩
  obtain ⟨qx, qy⟩ := hl i H p
  by_cases hlt : i < ys.length
  · have hx : xs[i]? = some xs[i] := List.getElem?_eq_getElem (by omega)
    have hy : ys[i]? = some ys[i] := List.getElem?_eq_getElem hlt
    refine .inr ⟨⟨xs, ys, _, _, qx, qy, hx, hy⟩, Pv (i + 1), fun H' p' => ⟨ys.length - (i + 1), by omega, rfl, hlt, p'⟩, fun v H' y => ?_⟩
    obtain ⟨T, x', y', rfl, hT, rfl, f1, f2⟩ := y
    exact hs i x' y' T H (f1 xs qx) (f2 ys qy) p hT
  · have e : i = ys.length := by omega
    subst e
    exact .inl ⟨⟨xs, ys, qx, qy, .inr (Nat.le_refl _)⟩, hd H p⟩
/-- an attribute inside a comprehension -/
theorem pe_fldK {X : Cx} {K : PySem.W.Frag} {e : Expr} {f : Str} {pos : Pos} {ta : TE} (hK : X.K = K) (he : PE X e ta) (hb : attributeBase e f X.env (eval e X.env) = eval e X.env) : PE X (.Attribute e f pos) (tFld K ta f) := by
  subst hK
  exact pe_fld he hb
theorem putF_len (f : Str) (v : V) (fs : List (Str × V)) {n : Nat} (h : fs.length ≤ n) : (putF f v fs).length ≤ n + 1 := Nat.le_trans (length_putF f v fs) (Nat.succ_le_succ h)
def spRup : Sp := fun vs H Q _ => ∃ v u : Int, vs = [.int v, .int u] ∧ 0 < u ∧ u.natAbs.log2 < 9000 ∧ CMulW (stepsUp v u) u ∧ Q (.int (stepsUp v u * u)) H
/-! ### the small defs -/
section
variable {P : Program} {w : World} {K : PySem.W.Frag} {mg : Str → Option Value} {base : Heap} {L : LA}
abbrev N_isinteger : List Str := ["value"]
theorem sc_isinteger : FnScope N_isinteger ["value"] (defScope st_is_integer) := ⟨rfl, rfl, rfl, by decide +kernel, rfl, by decide +kernel, by decide +kernel⟩
theorem fn_isinteger (T : LX K mg L) {fd : FuncData} (F : Fun K "is_integer" "is_integer" st_is_integer L.f_is_integer fd) : FnOk P w K mg base CX0 1 L.f_is_integer fd ["value"] (spIsInt) := by
  have nd := sc_isinteger.nd
  refine F.ok sc_isinteger (fun vs H Q E h => ?_) (fun cdv A outer S H vs Q E hr h => ?_)
  · obtain ⟨v, n, rfl, _⟩ := h
    rfl
  · obtain ⟨v, n, rfl, hv, k⟩ := h
    refine ⟨_, (pss_one (ps_ret (pe_and (pe_callB call_isi (by rfl) T.b_isinstance (by decide +kernel) (pa_cons (pv 0) (pa_cons (pe_bltn (by rfl) T.b_int (by decide +kernel : bootBuiltins "int" = some (.type "int")) (v := .ty "int") rfl) pa_nil))) (pe_one (pe_not (pe_callB call_isi (by rfl) T.b_isinstance (by decide +kernel) (pa_cons (pv 0) (pa_cons (pe_bltn (by rfl) T.b_bool (by decide +kernel : bootBuiltins "bool" = some (.type "bool")) (v := .ty "bool") rfl) pa_nil)))))))), ?_⟩
    refine ⟨_, rfl, v, .ty "int", _, _, _, rfl, .ty "int", hv.ty, hv.kit "int" _ (.inl ⟨rfl, rfl⟩), _, rfl, ?_⟩
    refine ite2 (fun c => ?_) (fun c => ?_)
    · refine ⟨_, rfl, v, .ty "bool", _, _, _, rfl, .ty "bool", hv.ty, hv.kit "bool" _ (.inr ⟨by decide, by decide, rfl⟩), _, rfl, ?_⟩
      cases hv <;> first | exact k | (exact absurd c (by decide))
    · cases hv <;> first | exact k | (exact absurd (by decide) c)
theorem ok_isinteger (T : LX K mg L) : Cal P w K mg base "is_integer" 1 L.f_is_integer ["value"] (spIsInt) := T.d_is_integer.cal fun fd F => fn_isinteger T F
abbrev N_isatleast : List Str := ["value", "least"]
theorem sc_isatleast : FnScope N_isatleast ["value", "least"] (defScope st_is_at_least) := ⟨rfl, rfl, rfl, by decide +kernel, rfl, by decide +kernel, by decide +kernel⟩
theorem fn_isatleast (T : LX K mg L) {fd : FuncData} (F : Fun K "is_at_least" "is_at_least" st_is_at_least L.f_is_at_least fd) : FnOk P w K mg base CX0 2 L.f_is_at_least fd ["value", "least"] (spAtL) := by
  have G_isinteger := ok_isinteger (P := P) (w := w) (base := base) T
  have nd := sc_isatleast.nd
  refine F.ok sc_isatleast (fun vs H Q E h => ?_) (fun cdv A outer S H vs Q E hr h => ?_)
  · obtain ⟨v, n, l, rfl, _⟩ := h
    rfl
  · obtain ⟨v, n, l, rfl, hv, k⟩ := h
    refine ⟨_, (pss_one (ps_ret (pe_and (pe_c G_isinteger (hr.mono (by decide)) rfl (pa_cons (pv 0) pa_nil)) (pe_one (pe_cmpR op_ge (pv 0) (pv 1) (nomark _)))))), ?_⟩
    refine ⟨_, rfl, v, n, rfl, hv, _, rfl, ?_⟩
    cases v with
    | int i => exact iteT ⟨_, rfl, _, rfl, _, _, rfl, rfl, k⟩
    | _ => exact iteF k
theorem ok_isatleast (T : LX K mg L) : Cal P w K mg base "is_at_least" 2 L.f_is_at_least ["value", "least"] (spAtL) := T.d_is_at_least.cal fun fd F => fn_isatleast T F
abbrev N_iswithin : List Str := ["value", "least", "most"]
theorem sc_iswithin : FnScope N_iswithin ["value", "least", "most"] (defScope st_is_within) := ⟨rfl, rfl, rfl, by decide +kernel, rfl, by decide +kernel, by decide +kernel⟩
theorem fn_iswithin (T : LX K mg L) {fd : FuncData} (F : Fun K "is_within" "is_within" st_is_within L.f_is_within fd) : FnOk P w K mg base CX0 2 L.f_is_within fd ["value", "least", "most"] (spWithin) := by
  have G_isinteger := ok_isinteger (P := P) (w := w) (base := base) T
  have nd := sc_iswithin.nd
  refine F.ok sc_iswithin (fun vs H Q E h => ?_) (fun cdv A outer S H vs Q E hr h => ?_)
  · obtain ⟨v, n, l, m, rfl, _⟩ := h
    rfl
  · obtain ⟨v, n, l, m, rfl, hv, k⟩ := h
    refine ⟨_, (pss_one (ps_ret (pe_and (pe_c G_isinteger (hr.mono (by decide)) rfl (pa_cons (pv 0) pa_nil)) (pe_one (pe_chain op_le op_le (pv 1) (pv 0) (pv 2)))))), ?_⟩
    refine ⟨_, rfl, v, n, rfl, hv, _, rfl, ?_⟩
    cases v with
    | int i =>
      refine iteT ⟨_, rfl, _, rfl, _, _, rfl, rfl, _, rfl, ?_⟩
      refine ite2 (fun c => ?_) (fun c => ?_)
      · refine ⟨_, rfl, _, _, rfl, rfl, ?_⟩
        have c' : decide (l ≤ i) = true := c
        have k' : Q (.bl (decide (l ≤ i) && decide (i ≤ m))) H := k
        rw [c', Bool.true_and] at k'
        exact k'
      · have c' : decide (l ≤ i) = false := by simpa using c
        have k' : Q (.bl (decide (l ≤ i) && decide (i ≤ m))) H := k
        rw [c', Bool.false_and] at k'
        exact k'
    | _ => exact iteF k
theorem ok_iswithin (T : LX K mg L) : Cal P w K mg base "is_within" 2 L.f_is_within ["value", "least", "most"] (spWithin) := T.d_is_within.cal fun fd F => fn_iswithin T F
end
/-! ### trains as data -/
abbrev Trn := Int × Int × Option Int
def OkTr (t : Trn) : Prop := 0 ≤ t.1 ∧ 1 ≤ t.2.1 ∧ ∀ c, t.2.2 = some c → 1 ≤ c
/-- all times of the first are before the second -/
def Lt (t u : Trn) : Prop := ∃ c, t.2.2 = some c ∧ t.1 + (c - 1) * t.2.1 < u.1
def Srt (ts : List Trn) : Prop := (∀ t ∈ ts, OkTr t) ∧ ts.Pairwise Lt
def minO (n : Int) : Option Int → Int
  | none => n
  | some c => if c < n then c else n
/-- how many times of a train are before x -/
def nbT (t : Trn) (x : Int) : Int := minO (stepsUp (x - t.1) t.2.1) t.2.2
def NB : List Trn → Int → Int
  | [], _ => 0
  | t :: ts, x => nbT t x + NB ts x
def At : List Trn → Int → Option Int
  | [], _ => none
  | t :: ts, i => match t.2.2 with
    | none => some (t.1 + i * t.2.1)
    | some c => if i < c then some (t.1 + i * t.2.1) else At ts (i - c)
def addO (c : Int) : Option Int → Option Int
  | none => none
  | some n => some (c + n)
def Tot : List Trn → Option Int
  | [] => some 0
  | t :: ts => match t.2.2 with
    | none => none
    | some c => addO c (Tot ts)
/-- d / s, rounded up -/
def cl (d s : Int) : Int := -(-d / s)
theorem stepsUp_cl (d s : Int) : stepsUp d s = if cl d s > 0 then cl d s else 0 := rfl
theorem cl_sub (d s c : Int) (hs : 0 < s) : cl (d - c * s) s = cl d s - c := by
  unfold cl
  have e : -(d - c * s) = -d + c * s := by omega
  rw [e, Int.add_mul_ediv_right _ _ (show s ≠ 0 by omega)]
  omega
theorem cl_le {d s n : Int} (hs : 0 < s) : cl d s ≤ n ↔ d ≤ n * s := by
  unfold cl
  have h : -n ≤ -d / s ↔ -n * s ≤ -d := Int.le_ediv_iff_mul_le hs
  rw [Int.neg_mul] at h
  omega
theorem cl_gt {d s n : Int} (hs : 0 < s) : n < cl d s ↔ n * s < d := by
  have h := cl_le (d := d) (s := s) (n := n) hs
  omega
def subO (k : Option Int) (c : Int) : Option Int := match k with
  | none => none
  | some n => some (n - c)
/-- a train is its first c times, and the others -/
theorem nbT_split {s p c : Int} {k : Option Int} (hp : 0 < p) (hc : 0 ≤ c) (hk : ∀ n, k = some n → c ≤ n) (x : Int) : nbT (s, p, k) x = nbT (s, p, some c) x + nbT (s + c * p, p, subO k c) x := by
  have e : x - (s + c * p) = x - s - c * p := by omega
  show minO (stepsUp (x - s) p) k = minO (stepsUp (x - s) p) (some c) + minO (stepsUp (x - (s + c * p)) p) (subO k c)
  rw [e, stepsUp_cl, stepsUp_cl, cl_sub _ _ _ hp]
  cases k with
  | none =>
    show (if cl (x - s) p > 0 then cl (x - s) p else 0) = (if c < (if cl (x - s) p > 0 then cl (x - s) p else 0) then c else (if cl (x - s) p > 0 then cl (x - s) p else 0)) + (if cl (x - s) p - c > 0 then cl (x - s) p - c else 0)
    split <;> split <;> split <;> omega
  | some n =>
    have := hk n rfl
    show (if n < (if cl (x - s) p > 0 then cl (x - s) p else 0) then n else (if cl (x - s) p > 0 then cl (x - s) p else 0)) = (if c < (if cl (x - s) p > 0 then cl (x - s) p else 0) then c else (if cl (x - s) p > 0 then cl (x - s) p else 0)) + (if n - c < (if cl (x - s) p - c > 0 then cl (x - s) p - c else 0) then n - c else (if cl (x - s) p - c > 0 then cl (x - s) p - c else 0))
    split <;> split <;> split <;> split <;> (try split) <;> omega
/-- the step of a single time is nothing -/
theorem nbT_one {s p q : Int} (hp : 0 < p) (hq : 0 < q) (x : Int) : nbT (s, p, some 1) x = nbT (s, q, some 1) x := by
  have one : ∀ p : Int, 0 < p → nbT (s, p, some 1) x = if s < x then 1 else 0 := fun p hp => by
    show (if (1 : Int) < (if cl (x - s) p > 0 then cl (x - s) p else 0) then (1 : Int) else (if cl (x - s) p > 0 then cl (x - s) p else 0)) = _
    have h0 : 0 < cl (x - s) p ↔ 0 * p < x - s := cl_gt hp
    rw [Int.zero_mul] at h0
    split <;> split <;> split <;> omega
  rw [one p hp, one q hq]
theorem NB_app : ∀ (ts us : List Trn) (x : Int), NB (ts ++ us) x = NB ts x + NB us x
  | [], us, x => by show NB us x = 0 + NB us x; omega
  | t :: ts, us, x => by
    show nbT t x + NB (ts ++ us) x = nbT t x + NB ts x + NB us x
    rw [NB_app ts us x]
    omega
theorem addO_addO (a b : Int) (k : Option Int) : addO a (addO b k) = addO (a + b) k := by
  cases k with
  | none => rfl
  | some n => show some (a + (b + n)) = some (a + b + n); rw [Int.add_assoc]
theorem nbT_nn {t : Trn} (h : OkTr t) (x : Int) : 0 ≤ nbT t x := by
  obtain ⟨s, p, k⟩ := t
  show 0 ≤ minO (stepsUp (x - s) p) k
  rw [stepsUp_cl]
  cases k with
  | none => show 0 ≤ if cl (x - s) p > 0 then cl (x - s) p else 0; split <;> omega
  | some c =>
    have := h.2.2 c rfl
    show 0 ≤ if c < (if cl (x - s) p > 0 then cl (x - s) p else 0) then c else (if cl (x - s) p > 0 then cl (x - s) p else 0)
    split <;> (try split) <;> omega
theorem nbT_zero {t : Trn} (h : OkTr t) {x : Int} (hx : x ≤ t.1) : nbT t x = 0 := by
  obtain ⟨s, p, k⟩ := t
  have hp : 0 < p := by
    have h2 : 1 ≤ p := h.2.1
    omega
  have h1 : cl (x - s) p ≤ 0 := (cl_le hp).mpr (by
    have h2 : x ≤ s := hx
    omega)
  show minO (stepsUp (x - s) p) k = 0
  rw [stepsUp_cl, if_neg (by omega)]
  cases k with
  | none => rfl
  | some c =>
    have := h.2.2 c rfl
    show (if c < 0 then c else 0) = 0
    rw [if_neg (by omega)]
theorem nbT_all {t : Trn} (h : OkTr t) {x c : Int} (hc : t.2.2 = some c) (hx : t.1 + (c - 1) * t.2.1 < x) : nbT t x = c := by
  obtain ⟨s, p, k⟩ := t
  have hp : 0 < p := by
    have h2 : 1 ≤ p := h.2.1
    omega
  have h0 : k = some c := hc
  subst h0
  have h1 : c - 1 < cl (x - s) p := (cl_gt hp).mpr (by
    have h2 : s + (c - 1) * p < x := hx
    omega)
  have := h.2.2 c rfl
  show (if c < stepsUp (x - s) p then c else stepsUp (x - s) p) = c
  rw [stepsUp_cl]
  split <;> (try split at *) <;> omega
theorem NB_nn {ts : List Trn} (h : ∀ t ∈ ts, OkTr t) (x : Int) : 0 ≤ NB ts x := by
  induction ts with
  | nil => exact Int.le_refl _
  | cons t ts ih =>
    have h1 := nbT_nn (h t (List.mem_cons_self ..)) x
    have h2 := ih fun u hu => h u (List.mem_cons_of_mem _ hu)
    show 0 ≤ nbT t x + NB ts x
    omega
theorem NB_zero {ts : List Trn} (h : ∀ t ∈ ts, OkTr t) {x : Int} (hx : ∀ t ∈ ts, x ≤ t.1) : NB ts x = 0 := by
  induction ts with
  | nil => rfl
  | cons t ts ih =>
    show nbT t x + NB ts x = 0
    rw [nbT_zero (h t (List.mem_cons_self ..)) (hx t (List.mem_cons_self ..)), ih (fun u hu => h u (List.mem_cons_of_mem _ hu)) fun u hu => hx u (List.mem_cons_of_mem _ hu)]
    rfl
theorem Srt.tail {t : Trn} {ts : List Trn} (h : Srt (t :: ts)) : Srt ts := ⟨fun u hu => h.1 u (List.mem_cons_of_mem _ hu), (List.pairwise_cons.mp h.2).2⟩
theorem Srt.head {t : Trn} {ts : List Trn} (h : Srt (t :: ts)) : OkTr t := h.1 t (List.mem_cons_self ..)
theorem Srt.lt {t : Trn} {ts : List Trn} (h : Srt (t :: ts)) : ∀ u ∈ ts, Lt t u := (List.pairwise_cons.mp h.2).1
theorem lt_start {t u : Trn} (h : OkTr t) (l : Lt t u) : t.1 < u.1 := by
  obtain ⟨c, e, q⟩ := l
  have hc := h.2.2 c e
  have : 0 ≤ (c - 1) * t.2.1 := Int.mul_nonneg (by omega) (by have := h.2.1; omega)
  omega
/-! what is before x, and which time is the i-th -/
theorem nbT_le {t : Trn} {x c : Int} (e : t.2.2 = some c) : nbT t x ≤ c := by
  unfold nbT
  rw [e]
  show (if c < stepsUp (x - t.1) t.2.1 then c else stepsUp (x - t.1) t.2.1) ≤ c
  split <;> omega
/-- the times before x are those with an index below nbT -/
theorem nbT_lt {t : Trn} (h : OkTr t) {x i : Int} (i0 : 0 ≤ i) (hi : ∀ c, t.2.2 = some c → i < c) : i < nbT t x ↔ t.1 + i * t.2.1 < x := by
  obtain ⟨s, p, k⟩ := t
  have hp : 0 < p := by
    have h2 : 1 ≤ p := h.2.1
    omega
  have h1 : i < cl (x - s) p ↔ i * p < x - s := cl_gt hp
  have e : (s + i * p < x) ↔ i * p < x - s := by omega
  show i < minO (stepsUp (x - s) p) k ↔ s + i * p < x
  rw [stepsUp_cl, e, ← h1]
  cases k with
  | none =>
    show i < (if cl (x - s) p > 0 then cl (x - s) p else 0) ↔ _
    split <;> omega
  | some c =>
    have := hi c rfl
    show i < (if c < (if cl (x - s) p > 0 then cl (x - s) p else 0) then c else (if cl (x - s) p > 0 then cl (x - s) p else 0)) ↔ _
    split <;> (try split) <;> (try split at *) <;> omega
theorem At_lt : ∀ {ts : List Trn}, Srt ts → ∀ {i y : Int}, 0 ≤ i → At ts i = some y → ∀ x, i < NB ts x ↔ y < x
  | [], _, i, y, _, e, _ => by cases e
  | t :: ts, h, i, y, i0, e, x => by
    have ht := h.head
    have hs := h.tail
    have nn := NB_nn hs.1 x
    cases hk : t.2.2 with
    | none =>
      have e' : At (t :: ts) i = some (t.1 + i * t.2.1) := by
        show (match t.2.2 with | none => some (t.1 + i * t.2.1) | some c => if i < c then some (t.1 + i * t.2.1) else At ts (i - c)) = _
        rw [hk]
      rw [e'] at e
      have ey := Option.some.inj e
      subst ey
      have nt : ts = [] := by
        cases ts with
        | nil => rfl
        | cons u us =>
          obtain ⟨c, hc, _⟩ := h.lt u (List.mem_cons_self ..)
          rw [hk] at hc
          cases hc
      subst nt
      have := nbT_lt ht (x := x) i0 (fun c hc => by rw [hk] at hc; cases hc)
      show i < nbT t x + 0 ↔ _
      rw [Int.add_zero]
      exact this
    | some c =>
      have e' : At (t :: ts) i = if i < c then some (t.1 + i * t.2.1) else At ts (i - c) := by
        show (match t.2.2 with | none => some (t.1 + i * t.2.1) | some c => if i < c then some (t.1 + i * t.2.1) else At ts (i - c)) = _
        rw [hk]
      rw [e'] at e
      show i < nbT t x + NB ts x ↔ y < x
      by_cases hi : i < c
      · rw [if_pos hi] at e
        have ey := Option.some.inj e
        have h1 := nbT_lt ht (x := x) i0 (fun c' hc => by rw [hk] at hc; cases hc; exact hi)
        by_cases hl : t.1 + (c - 1) * t.2.1 < x
        · have h2 := nbT_all ht hk hl
          omega
        · have h3 : NB ts x = 0 := NB_zero hs.1 fun u hu => by
            obtain ⟨c', hc, q⟩ := h.lt u hu
            rw [hk] at hc
            cases hc
            omega
          omega
      · rw [if_neg hi] at e
        have ih := At_lt hs (i := i - c) (by omega) e x
        have h2 := nbT_le (x := x) hk
        by_cases hl : t.1 + (c - 1) * t.2.1 < x
        · have h3 := nbT_all ht hk hl
          omega
        · have h3 : NB ts x = 0 := NB_zero hs.1 fun u hu => by
            obtain ⟨c', hc, q⟩ := h.lt u hu
            rw [hk] at hc
            cases hc
            omega
          omega
theorem tot_nn : ∀ {ts : List Trn}, (∀ t ∈ ts, OkTr t) → ∀ n, Tot ts = some n → 0 ≤ n
  | [], _, n, e => by cases e; exact Int.le_refl _
  | t :: ts, h, n, e => by
    cases hk : t.2.2 with
    | none =>
      have e2 : Tot (t :: ts) = none := by
        show (match t.2.2 with | none => none | some c => addO c (Tot ts)) = _
        rw [hk]
      rw [e2] at e
      cases e
    | some c =>
      have e2 : Tot (t :: ts) = addO c (Tot ts) := by
        show (match t.2.2 with | none => none | some c => addO c (Tot ts)) = _
        rw [hk]
      rw [e2] at e
      cases ht : Tot ts with
      | none => rw [ht] at e; cases e
      | some m =>
        rw [ht] at e
        have z' : c + m = n := Option.some.inj e
        have := tot_nn (fun u hu => h u (List.mem_cons_of_mem _ hu)) m ht
        have := (h t (List.mem_cons_self ..)).2.2 c hk
        omega
theorem At_none : ∀ {ts : List Trn}, (∀ t ∈ ts, OkTr t) → ∀ {i : Int}, 0 ≤ i → (At ts i = none ↔ ∃ n, Tot ts = some n ∧ n ≤ i)
  | [], _, i, i0 => ⟨fun _ => ⟨0, rfl, i0⟩, fun _ => rfl⟩
  | t :: ts, h, i, i0 => by
    cases hk : t.2.2 with
    | none =>
      have e' : At (t :: ts) i = some (t.1 + i * t.2.1) := by
        show (match t.2.2 with | none => some (t.1 + i * t.2.1) | some c => if i < c then some (t.1 + i * t.2.1) else At ts (i - c)) = _
        rw [hk]
      have e2 : Tot (t :: ts) = none := by
        show (match t.2.2 with | none => none | some c => addO c (Tot ts)) = _
        rw [hk]
      rw [e', e2]
      exact ⟨fun z => (by cases z), fun ⟨n, z, _⟩ => (by cases z)⟩
    | some c =>
      have e' : At (t :: ts) i = if i < c then some (t.1 + i * t.2.1) else At ts (i - c) := by
        show (match t.2.2 with | none => some (t.1 + i * t.2.1) | some c => if i < c then some (t.1 + i * t.2.1) else At ts (i - c)) = _
        rw [hk]
      have e2 : Tot (t :: ts) = addO c (Tot ts) := by
        show (match t.2.2 with | none => none | some c => addO c (Tot ts)) = _
        rw [hk]
      have tn : ∀ n, Tot ts = some n → 0 ≤ n := tot_nn fun u hu => h u (List.mem_cons_of_mem _ hu)
      rw [e', e2]
      by_cases hi : i < c
      · rw [if_pos hi]
        refine ⟨fun z => (by cases z), fun ⟨n, z, hn⟩ => ?_⟩
        cases ht : Tot ts with
        | none => rw [ht] at z; cases z
        | some m =>
          rw [ht] at z
          have := tn m ht
          have z' : c + m = n := Option.some.inj z
          omega
      · rw [if_neg hi]
        have ih := At_none (ts := ts) (fun u hu => h u (List.mem_cons_of_mem _ hu)) (i := i - c) (by omega)
        rw [ih]
        constructor
        · rintro ⟨n, e, hn⟩
          exact ⟨c + n, by rw [e]; rfl, by omega⟩
        · rintro ⟨n, e, hn⟩
          cases ht : Tot ts with
          | none => rw [ht] at e; cases e
          | some m =>
            rw [ht] at e
            have z' : c + m = n := Option.some.inj e
            exact ⟨m, rfl, by omega⟩
theorem NB_tot : ∀ {ts : List Trn}, (∀ t ∈ ts, OkTr t) → ∀ {n : Int}, Tot ts = some n → ∀ x, NB ts x ≤ n
  | [], _, n, e, x => by cases e; exact Int.le_refl _
  | t :: ts, h, n, e, x => by
    cases hk : t.2.2 with
    | none =>
      have e2 : Tot (t :: ts) = none := by
        show (match t.2.2 with | none => none | some c => addO c (Tot ts)) = _
        rw [hk]
      rw [e2] at e
      cases e
    | some c =>
      have e2 : Tot (t :: ts) = addO c (Tot ts) := by
        show (match t.2.2 with | none => none | some c => addO c (Tot ts)) = _
        rw [hk]
      rw [e2] at e
      cases ht : Tot ts with
      | none => rw [ht] at e; cases e
      | some m =>
        rw [ht] at e
        have z' : c + m = n := Option.some.inj e
        have h1 := nbT_le (x := x) hk
        have h2 := NB_tot (fun u hu => h u (List.mem_cons_of_mem _ hu)) ht x
        show nbT t x + NB ts x ≤ n
        omega
theorem nbT_step {t : Trn} (h : OkTr t) (x : Int) : nbT t (x + 1) ≤ nbT t x + 1 := by
  obtain ⟨s, p, k⟩ := t
  have hp : 1 ≤ p := h.2.1
  have h1 : cl (x + 1 - s) p ≤ cl (x - s) p + 1 := by
    refine (cl_le (by omega)).mpr ?_
    have h2 : x - s ≤ cl (x - s) p * p := (cl_le (by omega)).mp (Int.le_refl _)
    rw [Int.add_mul, Int.one_mul]
    omega
  show minO (stepsUp (x + 1 - s) p) k ≤ minO (stepsUp (x - s) p) k + 1
  rw [stepsUp_cl, stepsUp_cl]
  cases k with
  | none =>
    show (if cl (x + 1 - s) p > 0 then cl (x + 1 - s) p else 0) ≤ (if cl (x - s) p > 0 then cl (x - s) p else 0) + 1
    split <;> split <;> omega
  | some c =>
    show (if c < (if cl (x + 1 - s) p > 0 then cl (x + 1 - s) p else 0) then c else (if cl (x + 1 - s) p > 0 then cl (x + 1 - s) p else 0)) ≤ (if c < (if cl (x - s) p > 0 then cl (x - s) p else 0) then c else (if cl (x - s) p > 0 then cl (x - s) p else 0)) + 1
    repeat' split
    all_goals omega
theorem NB_step : ∀ {ts : List Trn}, Srt ts → ∀ x, NB ts (x + 1) ≤ NB ts x + 1
  | [], _, x => by show (0 : Int) ≤ 0 + 1; omega
  | t :: ts, h, x => by
    have ht := h.head
    have hs := h.tail
    have st := nbT_step ht x
    show nbT t (x + 1) + NB ts (x + 1) ≤ nbT t x + NB ts x + 1
    cases hk : t.2.2 with
    | none =>
      have nt : ts = [] := by
        cases ts with
        | nil => rfl
        | cons u us =>
          obtain ⟨c, hc, _⟩ := h.lt u (List.mem_cons_self ..)
          rw [hk] at hc
          cases hc
      subst nt
      show nbT t (x + 1) + 0 ≤ nbT t x + 0 + 1
      omega
    | some c =>
      by_cases hl : t.1 + (c - 1) * t.2.1 < x
      · have h1 := nbT_all ht hk hl
        have h2 := nbT_all ht hk (show t.1 + (c - 1) * t.2.1 < x + 1 by omega)
        have h3 := NB_step hs x
        omega
      · have z : ∀ y, y ≤ x + 1 → NB ts y = 0 := fun y hy => NB_zero hs.1 fun u hu => by
          obtain ⟨c', hc, q⟩ := h.lt u hu
          rw [hk] at hc
          cases hc
          omega
        have h1 := z x (by omega)
        have h2 := z (x + 1) (Int.le_refl _)
        omega
/-- the i-th time is told by what is before x -/
theorem At_iff {ts : List Trn} (h : Srt ts) {i y : Int} (i0 : 0 ≤ i) : At ts i = some y ↔ NB ts y = i ∧ NB ts (y + 1) = i + 1 := by
  have one : ∀ {z}, At ts i = some z → NB ts z = i ∧ NB ts (z + 1) = i + 1 := fun {z} e => by
    have h1 := At_lt h i0 e z
    have h2 := At_lt h i0 e (z + 1)
    have h3 := NB_step h z
    omega
  refine ⟨one, fun ⟨e1, e2⟩ => ?_⟩
  cases q : At ts i with
  | none =>
    obtain ⟨n, e3, e4⟩ := (At_none h.1 i0).mp q
    have := NB_tot h.1 e3 (y + 1)
    omega
  | some w =>
    have h3 := At_lt h i0 q y
    have h4 := At_lt h i0 q (y + 1)
    congr 1
    omega
/-- trains with the same counts have the same times -/
theorem At_same {ts us : List Trn} (h : Srt ts) (h' : Srt us) (e : ∀ x, NB ts x = NB us x) {i : Int} (i0 : 0 ≤ i) : At ts i = At us i := by
  cases q : At ts i with
  | some y =>
    obtain ⟨e1, e2⟩ := (At_iff h i0).mp q
    exact ((At_iff h' i0).mpr ⟨by rw [← e]; exact e1, by rw [← e]; exact e2⟩).symm
  | none =>
    cases q2 : At us i with
    | none => rfl
    | some y =>
      obtain ⟨e1, e2⟩ := (At_iff h' i0).mp q2
      rw [(At_iff h i0).mpr ⟨by rw [e]; exact e1, by rw [e]; exact e2⟩] at q
      cases q
/-! ### rows in the heap -/
/-! ### breakers and rows -/
abbrev Tri := Int × Int × Int
def TriV (t : Tri) : List V := [.int t.1, .int t.2.1, .int t.2.2]
def BrAt (H : Hp) (x : V) (t : Tri) : Prop := ∃ a, x = .ref a ∧ H a = some (.tup (TriV t))
def OkT (t : Tri) : Prop := 1 ≤ t.1 ∧ t.1 ≤ 1000000000000 ∧ 1 ≤ t.2.1 ∧ t.2.1 ≤ 1000000000000000000000000000000 ∧ 1 ≤ t.2.2 ∧ t.2.2 ≤ 1000000000000
abbrev Brs (H : Hp) (xs : List V) (ts : List Tri) : Prop := Paired (BrAt H) xs ts
theorem BrAt.nl {H H' : Hp} (k : NL H H') {x : V} {t : Tri} (h : BrAt H x t) : BrAt H' x t := by
  obtain ⟨a, e, h⟩ := h
  exact ⟨a, e, k _ _ h fun _ z => nomatch z⟩
theorem Brs.nl {H H' : Hp} (k : NL H H') {xs : List V} {ts : List Tri} (h : Brs H xs ts) : Brs H' xs ts := L2.Paired.mapP h fun _ _ z => z.nl k
theorem Brs.len {H : Hp} : ∀ {xs : List V} {ts : List Tri}, Brs H xs ts → xs.length = ts.length
  | _, _, .nil => rfl
  | _, _, .cons _ t => congrArg Nat.succ (Brs.len t)
theorem Brs.get {H : Hp} : ∀ {xs : List V} {ts : List Tri} {i : Nat} {x : V}, Brs H xs ts → xs[i]? = some x → ∃ t, ts[i]? = some t ∧ BrAt H x t
  | _, _, _, _, .nil, e => by simp at e
  | _, _, 0, _, .cons r _, e => by simp at e; subst e; exact ⟨_, rfl, r⟩
  | _, _, i + 1, x, .cons _ t, e => by
    obtain ⟨u, h1, h2⟩ := Brs.get (i := i) (x := x) t (by simpa using e)
    exact ⟨u, by simpa using h1, h2⟩
theorem Brs.app {H : Hp} : ∀ {xs ys : List V} {ts us : List Tri}, Brs H xs ts → Brs H ys us → Brs H (xs ++ ys) (ts ++ us)
  | _, _, _, _, .nil, s => s
  | _, _, _, _, .cons r t, s => .cons r (Brs.app t s)
theorem Brs.rev {H : Hp} : ∀ {xs : List V} {ts : List Tri}, Brs H xs ts → Brs H xs.reverse ts.reverse
  | _, _, .nil => .nil
  | _, _, .cons r t => by
    rw [List.reverse_cons, List.reverse_cons]
    exact Brs.app (Brs.rev t) (.cons r .nil)
theorem Brs.take {H : Hp} : ∀ {xs : List V} {ts : List Tri} (n : Nat), Brs H xs ts → Brs H (xs.take n) (ts.take n)
  | _, _, 0, _ => .nil
  | _, _, _ + 1, .nil => .nil
  | _, _, n + 1, .cons r t => .cons r (Brs.take n t)
theorem Brs.drop {H : Hp} : ∀ {xs : List V} {ts : List Tri} (n : Nat), Brs H xs ts → Brs H (xs.drop n) (ts.drop n)
  | _, _, 0, r => r
  | _, _, _ + 1, .nil => .nil
  | _, _, n + 1, .cons _ t => Brs.drop n t
/-! the attributes of a row, as __init__ stores them -/
theorem k1 : ¬ (("breakers" : Str) = "step") := by decide +kernel
theorem k2 : ¬ (("breakers" : Str) = "phase") := by decide +kernel
theorem k3 : ¬ (("step" : Str) = "phase") := by decide +kernel
def rowF (T : Addr) (st ph : Int) : List (Str × V) := putF "phase" (.int ph) (putF "step" (.int st) (putF "breakers" (.ref T) []))
theorem rowF_b (T : Addr) (st ph : Int) : (rowF T st ph).lookup ("breakers" : Str) = some (.ref T) := by
  unfold rowF
  rw [lookup_putF, if_neg k2, lookup_putF, if_neg k1, lookup_putF, if_pos rfl]
theorem rowF_s (T : Addr) (st ph : Int) : (rowF T st ph).lookup ("step" : Str) = some (.int st) := by
  unfold rowF
  rw [lookup_putF, if_neg k3, lookup_putF, if_pos rfl]
theorem rowF_p (T : Addr) (st ph : Int) : (rowF T st ph).lookup ("phase" : Str) = some (.int ph) := by
  unfold rowF
  rw [lookup_putF, if_pos rfl]
theorem rowF_no (T : Addr) (st ph : Int) {m : Str} (h1 : ¬ m = "phase") (h2 : ¬ m = "step") (h3 : ¬ m = "breakers") : (rowF T st ph).lookup m = none := by
  unfold rowF
  rw [lookup_putF, if_neg h1, lookup_putF, if_neg h2, lookup_putF, if_neg h3]
  all_goals rfl
/-- a Row stands at p -/
structure RowAt (C : Addr) (H : Hp) (p T : Addr) (xs : List V) (ts : List Tri) (st ph : Int) : Prop where
  ob : ∃ dx, H p = some (.ins C dx (rowF T st ph))
  tp : H T = some (.tup xs)
  br : Brs H xs ts
  ok : ∀ t ∈ ts, OkT t
  ln : ts.length ≤ 12
  s0 : 1 ≤ st
  s1 : st ≤ 1000000000000000000000000000000
  p0 : 0 ≤ ph
  p1 : ph ≤ 1000000000000000000000000000000
theorem RowAt.nl {C : Addr} {H H' : Hp} {p T : Addr} {xs : List V} {ts : List Tri} {st ph : Int} (R : RowAt C H p T xs ts st ph) (k : NL H H') : RowAt C H' p T xs ts st ph := by
  obtain ⟨dx, h⟩ := R.ob
  exact ⟨⟨dx, k _ _ h fun _ z => nomatch z⟩, k _ _ R.tp fun _ z => (nomatch z), R.br.nl k, R.ok, R.ln, R.s0, R.s1, R.p0, R.p1⟩
/-! ### promises -/
def spIsBr : Sp := fun vs H Q _ => ∃ x t, vs = [x] ∧ BrAt H x t ∧ OkT t ∧ Q (.bl true) H
def spRChk : Sp := fun vs H Q _ => ∃ a xs ts pt, vs = [.ref a, .str pt] ∧ H a = some (.lst xs) ∧ Brs H xs ts ∧ (∀ t ∈ ts, OkT t) ∧ ts.length ≤ 12 ∧ ∀ H', Same H H' → Q .non H'
def spRStep : Sp := fun vs H Q _ => ∃ st : Int, vs = [.int st] ∧ 1 ≤ st ∧ st ≤ 1000000000000000000000000000000 ∧ Q .non H
def spRInit (C : Addr) : Sp := fun vs H Q _ => ∃ p a st ph xs ts dx, vs = [.ref p, .ref a, .int st, .int ph] ∧ H p = some (.ins C dx []) ∧ H a = some (.lst xs) ∧ Brs H xs ts ∧ (∀ t ∈ ts, OkT t) ∧ ts.length ≤ 12 ∧
  (1 ≤ st ∧ st ≤ 1000000000000000000000000000000 ∧ 0 ≤ ph ∧ ph ≤ 1000000000000000000000000000000) ∧ ∀ T H', RowAt C H' p T xs ts st ph → Kp p H H' → Q .non H'
def spRBl (C : Addr) : Sp := fun vs H Q _ => ∃ p T xs ts st ph, vs = [.ref p] ∧ RowAt C H p T xs ts st ph ∧ ∀ l H', H l = none → H' = upd H l (.lst xs) → Q (.ref l) H'
def spRSt (C : Addr) : Sp := fun vs H Q _ => ∃ p T xs ts st ph, vs = [.ref p] ∧ RowAt C H p T xs ts st ph ∧ Q (.int st) H
def spRPh (C : Addr) : Sp := fun vs H Q _ => ∃ p T xs ts st ph, vs = [.ref p] ∧ RowAt C H p T xs ts st ph ∧ Q (.int ph) H
def spRLen (C : Addr) : Sp := fun vs H Q _ => ∃ p T xs ts st ph, vs = [.ref p] ∧ RowAt C H p T xs ts st ph ∧ Q (.int xs.length) H
def spRGet (C : Addr) : Sp := fun vs H Q _ => ∃ p T xs ts st ph i x, vs = [.ref p, .int i] ∧ RowAt C H p T xs ts st ph ∧ 0 ≤ i ∧ atI xs i = some x ∧ i < xs.length ∧ Q x H
def spRCon (C : Addr) : Sp := fun vs H Q _ => ∃ p T xs ts st ph x n, vs = [.ref p, x] ∧ RowAt C H p T xs ts st ph ∧ Kd H x n ∧ Q (.bl (isI x && (decide (ph ≤ toI x) && decide ((toI x - ph) % st = 0)))) H
def spRRt (C : Addr) : Sp := fun vs H Q _ => ∃ p T xs ts st ph i, vs = [.ref p, .int i] ∧ RowAt C H p T xs ts st ph ∧ 0 ≤ i ∧ i ≤ BB ∧ Q (.int (ph + i * st)) H
def spRFr (C : Addr) : Sp := fun vs H Q _ => ∃ p T xs ts st ph i, vs = [.ref p, .int i] ∧ RowAt C H p T xs ts st ph ∧ 0 ≤ i ∧ Q (.int (stepsUp (i - ph) st)) H
theorem row_made {C : Addr} {H : Hp} {Q : Addr → Hp → Prop} {a : Addr} {st ph : Int} {xs : List V} {ts : List Tri} (ha : H a = some (.lst xs)) (hb : Brs H xs ts) (ho : ∀ t ∈ ts, OkT t) (hl : ts.length ≤ 12)
    (bd : 1 ≤ st ∧ st ≤ 1000000000000000000000000000000 ∧ 0 ≤ ph ∧ ph ≤ 1000000000000000000000000000000) (k : ∀ p T H', RowAt C H' p T xs ts st ph → Same H H' → H p = none → Q p H') :
    ∀ x dx, H x = none → H dx = none → dx ≠ x → spRInit C [.ref x, .ref a, .int st, .int ph] (upd (upd H dx (.own x)) x (.ins C dx [])) (fun v H3 => v = .non ∧ Q x H3) E0 := by
  intro x dx hx hd hne
  have s0 : Same H (upd (upd H dx (.own x)) x (.ins C dx [])) := fun b o e => by
    rw [upd_ne (ne_of_none e hx), upd_ne (ne_of_none e hd)]
    exact e
  refine ⟨x, a, st, ph, xs, ts, dx, rfl, upd_same, s0 _ _ ha, hb.nl (NL.of s0), ho, hl, bd, fun T H' R kp => ⟨rfl, k x T H' R (fun b o e => kp b o (ne_of_none e hx) (s0 b o e)) hx⟩⟩
abbrev RDat := List Tri × Int × Int
/-- what == is asked of -/
inductive EqOf (C : Addr) (H : Hp) (d : RDat) : V → Bool → Prop where
  | row {q U : Addr} {ys : List V} {us : List Tri} {st ph : Int} (R : RowAt C H q U ys us st ph) : EqOf C H d (.ref q) (decide (d = (us, st, ph)))
  | non : EqOf C H d .non false
  | lst {a : Addr} {xs : List V} (e : H a = some (.lst xs)) : EqOf C H d (.ref a) false
  | tup {a : Addr} {xs : List V} (e : H a = some (.tup xs)) : EqOf C H d (.ref a) false
theorem EqOf.nl {C : Addr} {H H' : Hp} {d : RDat} {v : V} {b : Bool} (h : EqOf C H d v b) (k : Same H H') : EqOf C H' d v b := by
  cases h with
  | row R => exact .row (R.nl (NL.of k))
  | non => exact .non
  | lst e => exact .lst (k _ _ e)
  | tup e => exact .tup (k _ _ e)
/-- breakers as data -/
def triD (t : Tri) : PyData := .tuple [.int t.1, .int t.2.1, .int t.2.2]
theorem Brs.dp {K : PySem.W.Frag} {H : Hp} : ∀ {xs : List V} {ts : List Tri}, Brs H xs ts → DpAll K H xs (ts.map triD)
  | _, _, .nil => .nil
  | _, _, .cons ⟨a, e, h⟩ t => by
    subst e
    exact .cons (.tup (SqT.of h) (.cons (.int _) (.cons (.int _) (.cons (.int _) .nil)))) (Brs.dp t)
theorem triD_eq (t u : Tri) : PyData.eqv (triD t) (triD u) = decide (t = u) := by
  obtain ⟨a, b, c⟩ := t
  obtain ⟨a', b', c'⟩ := u
  simp only [triD, PyData.eqv, PyData.eqvAll, Bool.and_true]
  rw [Bool.eq_iff_iff]
  simp [Prod.ext_iff]
theorem triDs_eq : ∀ ts us : List Tri, PyData.eqvAll (ts.map triD) (us.map triD) = decide (ts = us)
  | [], [] => by simp [PyData.eqvAll]
  | [], _ :: _ => by simp [PyData.eqvAll]
  | _ :: _, [] => by simp [PyData.eqvAll]
  | t :: ts, u :: us => by
    rw [List.map_cons, List.map_cons, PyData.eqvAll, triD_eq, triDs_eq ts us, Bool.eq_iff_iff]
    simp
theorem canAll : ∀ ts : List Tri, PyData.canLayAll0 (ts.map triD) = true
  | [] => by simp [PyData.canLayAll0]
  | t :: ts => by
    rw [List.map_cons, PyData.canLayAll0, canAll ts]
    simp [triD, PyData.canLay0, PyData.canLayAll0]
theorem depAll : ∀ ts : List Tri, PyData.depthAll (ts.map triD) ≤ 10
  | [] => by simp [PyData.depthAll]
  | t :: ts => by
    have := depAll ts
    rw [List.map_cons, PyData.depthAll]
    have h2 : (triD t).depth ≤ 10 := by simp [triD, PyData.depth, PyData.depthAll]
    omega
theorem shT (ts : List Tri) : SeqAt.shaped (.tuple (ts.map triD)) = true := by
  refine Bool.and_eq_true_iff.mpr ⟨?_, decide_eq_true ?_⟩
  · rw [PyData.canLay0]
    exact canAll ts
  · have := depAll ts
    rw [PyData.depth]
    omega

theorem wide200 {i j : Int} (h1 : i.natAbs < 2 ^ 200) (h2 : j.natAbs < 2 ^ 200) : CMulW i j := wide_mul h1 h2 (by decide) (by decide) (by decide)
theorem lt200 {i : Int} (h0 : 0 ≤ i) (h : i ≤ 1000000000000000000000000000000) : i.natAbs < 2 ^ 200 := Nat.lt_of_le_of_lt (show i.natAbs ≤ 1000000000000000000000000000000 by omega) (by decide)
theorem log200 {i : Int} (h0 : 1 ≤ i) (h : i ≤ 1000000000000000000000000000000) : i.natAbs.log2 < 9000 := (wide_div (by omega : 0 < i) (lt200 (by omega) h) (by decide) (by decide) (i := 0)).2
theorem st_bb {s : Int} (h : s ≤ 1000000000000000000000000000000) : s ≤ BB := Int.le_trans h (Int.le_trans (PB_of (n := 100) (by decide +kernel)) (PB_le (by decide)))
theorem k6_pos {P : Prop} {q : Prop} [Decidable P] [Decidable q] (h : P) (h' : q) : (decide P && decide q) = true := by rw [decide_eq_true h, decide_eq_true h']; rfl
section
variable {P : Program} {w : World} {K : PySem.W.Frag} {mg : Str → Option Value} {base : Heap} {L : LA}
abbrev N_isbreaker : List Str := ["value", "failures", "wait", "successes"]
theorem sc_isbreaker : FnScope N_isbreaker ["value"] (defScope st_is_breaker) := ⟨rfl, rfl, rfl, by decide +kernel, rfl, by decide +kernel, by decide +kernel⟩
theorem fn_isbreaker (T : LX K mg L) {fd : FuncData} (F : Fun K "is_breaker" "is_breaker" st_is_breaker L.f_is_breaker fd) : FnOk P w K mg base CX0 3 L.f_is_breaker fd ["value"] (spIsBr) := by
  have G_iswithin := ok_iswithin (P := P) (w := w) (base := base) T
  obtain ⟨tk_MOST_COUNT, c_MOST_COUNT⟩ := T.n_MOST_COUNT
  obtain ⟨tk_MOST_TIME, c_MOST_TIME⟩ := T.n_MOST_TIME
  have nd := sc_isbreaker.nd
  refine F.ok sc_isbreaker (fun vs H Q E h => ?_) (fun cdv A outer S H vs Q E hr h => ?_)
  · obtain ⟨x, t, rfl, _⟩ := h
    rfl
  · obtain ⟨x, t, rfl, ⟨a, rfl, ha⟩, ⟨h1, h2, h3, h4, h5, h6⟩, k⟩ := h
    refine ⟨_, (pss_cons (ps_if (PW.pt (pw_or (pt_not (pt_val (pe_callB call_isi (by rfl) T.b_isinstance (by decide +kernel) (pa_cons (pv 0) (pa_cons (pe_bltn (by rfl) T.b_tuple (by decide +kernel : bootBuiltins "tuple" = some (.type "tuple")) (v := .ty "tuple") rfl) pa_nil))))) (pw_or1 (pt_cmpR op_ne (pe_callB call_len_seq (by rfl) T.b_len PySem.boot_len (pa_cons (pv 0) pa_nil)) pe_int (nomark _))))) (pss_one (ps_ret pe_bl)) pss_nil)
       (pss_cons (ps_asg (pv 0) (pg_tup rfl (pgs_cons (pg_name (i := 1) nd rfl (Or.inl rfl)) (pgs_cons (pg_name (i := 2) nd rfl (Or.inl rfl)) (pgs_cons (pg_name (i := 3) nd rfl (Or.inl rfl)) pgs_nil)))))
       (pss_one (ps_ret (pe_and (pe_c G_iswithin (hr.mono (by decide)) rfl (pa_cons (pv 1) (pa_cons pe_int (pa_cons (pe_gI c_MOST_COUNT) pa_nil)))) (pe_and (pe_c G_iswithin (hr.mono (by decide)) rfl (pa_cons (pv 2) (pa_cons pe_int (pa_cons (pe_gI c_MOST_TIME) pa_nil)))) (pe_one (pe_c G_iswithin (hr.mono (by decide)) rfl (pa_cons (pv 3) (pa_cons pe_int (pa_cons (pe_gI c_MOST_COUNT) pa_nil))))))))))), ?_⟩
    refine ⟨_, rfl, _, .ty "tuple", _, _, _, rfl, .ty "tuple", (Kd.tup ha).ty, (Kd.tup ha).kit "tuple" _ (.inr ⟨by decide, by decide, rfl⟩), _, rfl, iteF ?_⟩
    refine ⟨_, rfl, a, _, rfl, .inr (SqT.of ha), rfl, _, rfl, iteF ?_⟩
    refine ⟨_, rfl, a, _, rfl, SqT.of ha, rfl, _, _, rfl, _, _, rfl, _, _, rfl, rfl, ?_⟩
    refine ⟨_, rfl, _, _, _, _, rfl, .int _, _, rfl, ?_⟩
    have e1 : (decide ((1 : Int) ≤ t.1) && decide (t.1 ≤ 1000000000000)) = true := k6_pos h1 h2
    have e2 : (decide ((1 : Int) ≤ t.2.1) && decide (t.2.1 ≤ 1000000000000000000000000000000)) = true := k6_pos h3 h4
    have e3 : (decide ((1 : Int) ≤ t.2.2) && decide (t.2.2 ≤ 1000000000000)) = true := k6_pos h5 h6
    show if (decide ((1 : Int) ≤ t.1) && decide (t.1 ≤ 1000000000000)) = true then _ else _
    rw [e1]
    refine iteT ?_
    refine ⟨_, rfl, _, _, _, _, rfl, .int _, _, rfl, ?_⟩
    show if (decide ((1 : Int) ≤ t.2.1) && decide (t.2.1 ≤ 1000000000000000000000000000000)) = true then _ else _
    rw [e2]
    refine iteT ?_
    refine ⟨_, rfl, _, _, _, _, rfl, .int _, ?_⟩
    show Q (.bl (decide ((1 : Int) ≤ t.2.2) && decide (t.2.2 ≤ 1000000000000))) H
    rw [e3]
    exact k
theorem ok_isbreaker (T : LX K mg L) : Cal P w K mg base "is_breaker" 3 L.f_is_breaker ["value"] (spIsBr) := T.d_is_breaker.cal fun fd F => fn_isbreaker T F
abbrev N_checkbreakers : List Str := ["breakers", "part", "at", "breaker"]
theorem sc_checkbreakers : FnScope N_checkbreakers ["breakers", "part"] (defScope st_check_breakers) := ⟨rfl, rfl, rfl, by decide +kernel, rfl, by decide +kernel, by decide +kernel⟩
theorem fn_checkbreakers (T : LX K mg L) {fd : FuncData} (F : Fun K "check_breakers" "check_breakers" st_check_breakers L.f_check_breakers fd) : FnOk P w K mg base CX0 4 L.f_check_breakers fd ["breakers", "part"] (spRChk) := by
  obtain ⟨tk_MOST_BREAKERS, c_MOST_BREAKERS⟩ := T.n_MOST_BREAKERS
  have G_isbreaker := ok_isbreaker (P := P) (w := w) (base := base) T
  have nd := sc_checkbreakers.nd
  refine F.ok sc_checkbreakers (fun vs H Q E h => ?_) (fun cdv A outer S H vs Q E hr h => ?_)
  · obtain ⟨a, xs, ts, pt, rfl, _⟩ := h
    rfl
  · obtain ⟨a, xs, ts, pt, rfl, ha, hb, ho, hl, k⟩ := h
    refine ⟨_, (pss_cons (ps_if (PW.pt (pw_or (pt_not (pt_val (pe_callB call_isi (by rfl) T.b_isinstance (by decide +kernel) (pa_cons (pv 0) (pa_cons (pe_bltn (by rfl) T.b_list (by decide +kernel : bootBuiltins "list" = some (.type "list")) (v := .ty "list") rfl) pa_nil))))) (pw_or1 (pt_cmpR op_gt (pe_callB call_len_seq (by rfl) T.b_len PySem.boot_len (pa_cons (pv 0) pa_nil)) (pe_gI c_MOST_BREAKERS) (nomark _))))) (pss_one (ps_never)) pss_nil)
       (pss_one (ps_for PassesOwn.never rfl (pi_enum (by rfl) T.b_enumerate (pa_cons (pv 0) pa_nil)) (pg_tup rfl (pgs_cons (pg_name (i := 2) nd rfl (Or.inl rfl)) (pgs_cons (pg_name (i := 3) nd rfl (Or.inl rfl)) pgs_nil))) (pss_one (ps_if (pt_not (pt_val (pe_c G_isbreaker (hr.mono (by decide)) rfl (pa_cons (pv 3) pa_nil)))) (pss_one (ps_never)) pss_nil))))), ?_⟩
    refine ⟨_, rfl, _, .ty "list", _, _, _, rfl, .ty "list", (Kd.lst ha).ty, (Kd.lst ha).kit "list" _ (.inr ⟨by decide, by decide, rfl⟩), _, rfl, iteF ?_⟩
    refine ⟨_, rfl, a, _, rfl, .inl (SqL.of ha), _, _, rfl, rfl, _, rfl, ?_⟩
    have hn : ¬ ((12 : Int) < (xs.length : Nat)) := by rw [hb.len]; omega
    rw [decide_eq_false hn]
    refine iteF ?_
    refine ⟨_, rfl, a, xs, rfl, SqL.of ha, for_enum (K := K) (a := a) (xs := xs) (fun i σ H2 => ∃ u v : Option V, σ = [some (.ref a), some (.str pt), u, v] ∧ Same H H2) ⟨none, none, rfl, Same.refl H⟩ (fun i σ H2 _ ⟨_, _, _, s2⟩ => SqL.of (s2 _ _ ha)) ?_ ?_⟩
    · rintro i x T' σ H2 hx ⟨u, v, rfl, s2⟩ hT
      obtain ⟨t, ht, hbr⟩ := hb.get hx
      have s3 : Same H (upd H2 T' (.tup [.int (i : Nat), x])) := s2.trans (Same.upd hT)
      refine ⟨T', _, rfl, SqT.of upd_same, rfl, _, _, rfl, _, _, rfl, rfl, ?_⟩
      refine ⟨_, rfl, x, t, rfl, hbr.nl (NL.of s3), ho t (List.mem_of_getElem? ht), _, rfl, iteF ?_⟩
      exact ⟨_, _, rfl, s3⟩
    · rintro σ H2 ⟨u, v, rfl, s2⟩
      exact k H2 s2
theorem ok_checkbreakers (T : LX K mg L) : Cal P w K mg base "check_breakers" 4 L.f_check_breakers ["breakers", "part"] (spRChk) := T.d_check_breakers.cal fun fd F => fn_checkbreakers T F
abbrev N_checkstep : List Str := ["step"]
theorem sc_checkstep : FnScope N_checkstep ["step"] (defScope st_check_step) := ⟨rfl, rfl, rfl, by decide +kernel, rfl, by decide +kernel, by decide +kernel⟩
theorem fn_checkstep (T : LX K mg L) {fd : FuncData} (F : Fun K "check_step" "check_step" st_check_step L.f_check_step fd) : FnOk P w K mg base CX0 3 L.f_check_step fd ["step"] (spRStep) := by
  have G_iswithin := ok_iswithin (P := P) (w := w) (base := base) T
  obtain ⟨tk_MOST_TIME, c_MOST_TIME⟩ := T.n_MOST_TIME
  have nd := sc_checkstep.nd
  refine F.ok sc_checkstep (fun vs H Q E h => ?_) (fun cdv A outer S H vs Q E hr h => ?_)
  · obtain ⟨st, rfl, _⟩ := h
    rfl
  · obtain ⟨st, rfl, b1, b2, k⟩ := h
    refine ⟨_, (pss_one (ps_if (pt_not (pt_val (pe_c G_iswithin (hr.mono (by decide)) rfl (pa_cons (pv 0) (pa_cons pe_int (pa_cons (pe_gI c_MOST_TIME) pa_nil)))))) (pss_one (ps_never)) pss_nil)), ?_⟩
    have e1 : (decide ((1 : Int) ≤ st) && decide (st ≤ 1000000000000000000000000000000)) = true := k6_pos b1 b2
    refine ⟨_, rfl, _, _, _, _, rfl, .int _, _, rfl, ?_⟩
    show if (!(decide ((1 : Int) ≤ st) && decide (st ≤ 1000000000000000000000000000000))) = true then _ else _
    rw [e1]
    exact iteF k
theorem ok_checkstep (T : LX K mg L) : Cal P w K mg base "check_step" 3 L.f_check_step ["step"] (spRStep) := T.d_check_step.cal fun fd F => fn_checkstep T F
end
/-! ### states of breakers, and data of them -/
abbrev StD := Str × Int
def StAt (H : Hp) (x : V) (s : StD) : Prop := ∃ a, x = .ref a ∧ H a = some (.tup [.str s.1, .int s.2])
abbrev Sts (H : Hp) (xs : List V) (ss : List StD) : Prop := Paired (StAt H) xs ss
theorem StAt.nl {H H' : Hp} (k : NL H H') {x : V} {d : StD} (h : StAt H x d) : StAt H' x d := by
  obtain ⟨a, e, h⟩ := h
  exact ⟨a, e, k _ _ h fun _ z => nomatch z⟩
theorem Sts.nl {H H' : Hp} (k : NL H H') {xs : List V} {ss : List StD} (h : Sts H xs ss) : Sts H' xs ss := L2.Paired.mapP h fun _ _ z => z.nl k
theorem paired_len {α β : Type} {F : α → β → Prop} : ∀ {xs : List α} {ys : List β}, Paired F xs ys → xs.length = ys.length
  | _, _, .nil => rfl
  | _, _, .cons _ p => by rw [List.length_cons, List.length_cons, paired_len p]
theorem paired_get {α β : Type} {F : α → β → Prop} : ∀ {xs : List α} {ys : List β} {i : Nat} {x : α}, Paired F xs ys → xs[i]? = some x → ∃ y, ys[i]? = some y ∧ F x y
  | _, _, i, x, .nil, e => by cases e
  | _, _, 0, x, .cons h _, e => by cases e; exact ⟨_, rfl, h⟩
  | _, _, i + 1, x, .cons _ p, e => paired_get (i := i) p e
theorem paired_get2 {α β : Type} {F : α → β → Prop} : ∀ {xs : List α} {ys : List β} {i : Nat} {y : β}, Paired F xs ys → ys[i]? = some y → ∃ x, xs[i]? = some x ∧ F x y
  | _, _, i, x, .nil, e => by cases e
  | _, _, 0, x, .cons h _, e => by cases e; exact ⟨_, rfl, h⟩
  | _, _, i + 1, x, .cons _ p, e => paired_get2 (i := i) p e
theorem paired_app {α β : Type} {F : α → β → Prop} : ∀ {xs us : List α} {ys vs : List β}, Paired F xs ys → Paired F us vs → Paired F (xs ++ us) (ys ++ vs)
  | _, _, _, _, .nil, q => q
  | _, _, _, _, .cons h p, q => .cons h (paired_app p q)
theorem StAt.same {H H' : Hp} (s : Same H H') {x : V} {d : StD} (h : StAt H x d) : StAt H' x d := by
  obtain ⟨a, e, h⟩ := h
  exact ⟨a, e, s _ _ h⟩
theorem Sts.same {H H' : Hp} (s : Same H H') {xs : List V} {ss : List StD} (h : Sts H xs ss) : Sts H' xs ss := L2.Paired.mapP h fun _ _ z => z.same s
/-- the breaker passes a request at t -/
def psB (b : Tri) (s : StD) (t : Int) : Prop := s.1 = "open" → b.2.1 ≤ t - s.2
def hfS (s : StD) : StD := if s.1 = "open" then ("half", 0) else s
def okS (b : Tri) (s : StD) : StD := if (hfS s).1 = "half" ∧ (hfS s).2 + 1 < b.2.2 then ("half", (hfS s).2 + 1) else ("closed", 0)
def badS (b : Tri) (s : StD) (t : Int) : StD := if (hfS s).1 = "closed" ∧ (hfS s).2 + 1 < b.1 then ("closed", (hfS s).2 + 1) else ("open", t)
theorem sC_O : ¬ (("closed" : Str) = "open") := by decide +kernel
theorem sH_O : ¬ (("half" : Str) = "open") := by decide +kernel
theorem sO_C : ¬ (("open" : Str) = "closed") := by decide +kernel
theorem sH_C : ¬ (("half" : Str) = "closed") := by decide +kernel
theorem sC_H : ¬ (("closed" : Str) = "half") := by decide +kernel
theorem sO_H : ¬ (("open" : Str) = "half") := by decide +kernel
theorem hf_closed (n : Int) : hfS (("closed" : Str), n) = (("closed" : Str), n) := if_neg sC_O
theorem hf_half (n : Int) : hfS (("half" : Str), n) = (("half" : Str), n) := if_neg sH_O
theorem hf_open (n : Int) : hfS (("open" : Str), n) = (("half" : Str), 0) := if_pos rfl
/-- what is told of a request that k of n breakers pass -/
def outV (n k : Nat) (inS : Bool) : List V := if k < n then [.str "rejected", .int k] else if inS then [.str "failed"] else [.str "served"]
def okW (s : StD) : Prop := s.1 = "closed" ∨ s.1 = "open" ∨ s.1 = "half"
def stD (s : StD) : PyData := .tuple [.str s.1, .int s.2]
theorem Sts.dp {K : PySem.W.Frag} {H : Hp} : ∀ {xs : List V} {ss : List StD}, Sts H xs ss → DpAll K H xs (ss.map stD)
  | _, _, .nil => .nil
  | _, _, .cons ⟨a, e, h⟩ t => by
    subst e
    exact .cons (.tup (SqT.of h) (.cons (.str _) (.cons (.int _) .nil))) (Sts.dp t)
theorem stD_eq (s u : StD) : PyData.eqv (stD s) (stD u) = decide (s = u) := by
  obtain ⟨a, b⟩ := s
  obtain ⟨a', b'⟩ := u
  simp only [stD, PyData.eqv, PyData.eqvAll, Bool.and_true]
  rw [Bool.eq_iff_iff]
  simp [Prod.ext_iff]
theorem stDs_eq : ∀ ss us : List StD, PyData.eqvAll (ss.map stD) (us.map stD) = decide (ss = us)
  | [], [] => by simp [PyData.eqvAll]
  | [], _ :: _ => by simp [PyData.eqvAll]
  | _ :: _, [] => by simp [PyData.eqvAll]
  | t :: ts, u :: us => by
    rw [List.map_cons, List.map_cons, PyData.eqvAll, stD_eq, stDs_eq ts us, Bool.eq_iff_iff]
    simp
theorem sok_W {s : StD} (h : okW s) : PyData.strOk s.1 = true := by
  obtain ⟨a, b⟩ := s
  rcases h with h | h | h
  · have h : a = "closed" := h
    subst h
    show PyData.strOk "closed" = true
    decide +kernel
  · have h : a = "open" := h
    subst h
    show PyData.strOk "open" = true
    decide +kernel
  · have h : a = "half" := h
    subst h
    show PyData.strOk "half" = true
    decide +kernel
theorem canSts : ∀ {ss : List StD}, (∀ s ∈ ss, okW s) → PyData.canLayAll0 (ss.map stD) = true
  | [], _ => by simp [PyData.canLayAll0]
  | t :: ts, h => by
    rw [List.map_cons, PyData.canLayAll0, canSts fun s hs => h s (List.mem_cons_of_mem _ hs)]
    simp [stD, PyData.canLay0, PyData.canLayAll0, sok_W (h t (List.mem_cons_self ..))]
theorem depSts : ∀ ss : List StD, PyData.depthAll (ss.map stD) ≤ 10
  | [] => by simp [PyData.depthAll]
  | t :: ts => by
    have := depSts ts
    rw [List.map_cons, PyData.depthAll]
    have h2 : (stD t).depth ≤ 10 := by simp [stD, PyData.depth, PyData.depthAll]
    omega
theorem shSts {ss : List StD} (h : ∀ s ∈ ss, okW s) : SeqAt.shaped (.list (ss.map stD)) = true := by
  refine Bool.and_eq_true_iff.mpr ⟨?_, decide_eq_true ?_⟩
  · rw [PyData.canLay0]
    exact canSts h
  · have := depSts ss
    rw [PyData.depth]
    omega
theorem Sts.dpl {K : PySem.W.Frag} {H : Hp} {l : Addr} {ys : List V} {ss : List StD} (h : H l = some (.lst ys)) (s : Sts H ys ss) : Dp K H (.ref l) (.list (ss.map stD)) := .lst (SqL.of h) s.dp
theorem eqSts (ss us : List StD) : PyData.eqv (.list (ss.map stD)) (.list (us.map stD)) = decide (ss = us) := by
  rw [PyData.eqv]
  exact stDs_eq ss us
/-! ### the states before all requests -/
theorem sts_rep {H : Hp} {t : Addr} {d : StD} (h : H t = some (.tup [.str d.1, .int d.2])) : ∀ n : Nat, Sts H (List.replicate n (V.ref t)) (List.replicate n d)
  | 0 => .nil
  | n + 1 => .cons ⟨t, rfl, h⟩ (sts_rep h n)
def spClosed : Sp := fun vs H Q _ => ∃ n : Nat, vs = [.int n] ∧ n ≤ 100 ∧ ∀ l ys H', H' l = some (.lst ys) → Sts H' ys (List.replicate n ("closed", 0)) → Same H H' → H l = none → Q (.ref l) H'
section
variable {P : Program} {w : World} {K : PySem.W.Frag} {mg : Str → Option Value} {base : Heap} {L : LA}
abbrev N_closedstates : List Str := ["number"]
theorem sc_closedstates : FnScope N_closedstates ["number"] (defScope st_closed_states) := ⟨rfl, rfl, rfl, by decide +kernel, rfl, by decide +kernel, by decide +kernel⟩
theorem fn_closedstates (T : LX K mg L) {fd : FuncData} (F : Fun K "closed_states" "closed_states" st_closed_states L.f_closed_states fd) : FnOk P w K mg base CX0 3 L.f_closed_states fd ["number"] (spClosed) := by
  have nd := sc_closedstates.nd
  refine F.ok sc_closedstates (fun vs H Q E h => ?_) (fun cdv A outer S H vs Q E hr h => ?_)
  · obtain ⟨n, rfl, _⟩ := h
    rfl
  · obtain ⟨n, rfl, hn, k⟩ := h
    refine ⟨_, (pss_one (ps_ret (pe_op op_rep (pe_lst (pa_cons (pe_tup (pa_cons pe_str (pa_cons pe_int pa_nil))) pa_nil)) (pv 0)))), ?_⟩
    refine ⟨(by show 2 ≤ sizeLine; decide), fun t ht => ⟨(by show 1 ≤ sizeLine; decide), fun l hl => ?_⟩⟩
    have s1 := Same.upd (o := .tup [.str "closed", .int 0]) ht
    have s2 := s1.trans (Same.upd (o := .lst [.ref t]) hl)
    refine ⟨_, rfl, ?_⟩
    refine ⟨l, _, [.ref t], rfl, rfl, upd_same, by omega, by omega, small2 (by rw [Int.toNat_natCast]; show 1 * n ≤ 100000; omega), fun r hr => ?_⟩
    have s3 := s2.trans (Same.upd (o := .lst (List.replicate (n : Int).toNat [V.ref t]).flatten) hr)
    refine k r _ _ upd_same ?_ s3 (none_of s2 hr)
    rw [Int.toNat_natCast, List.flatten_replicate_singleton]
    have ht3 : (upd (upd (upd H t (.tup [.str "closed", .int 0])) l (.lst [.ref t])) r (.lst (List.replicate n (V.ref t)))) t = some (.tup [.str "closed", .int 0]) := by
      have h1 : (upd (upd H t (.tup [.str "closed", .int 0])) l (.lst [.ref t])) t = some (.tup [.str "closed", .int 0]) := (Same.upd hl) _ _ upd_same
      rw [upd_ne (ne_of_none h1 hr)]
      exact h1
    exact sts_rep ht3 n
theorem ok_closedstates (T : LX K mg L) : Cal P w K mg base "closed_states" 3 L.f_closed_states ["number"] (spClosed) := T.d_closed_states.cal fun fd F => fn_closedstates T F
end
/-! ### lists of ints as data; what the law asks of told times -/
def intsD (ns : List Int) : PyData := .list (ns.map PyData.int)
theorem ints_dp {K : PySem.W.Frag} {H : Hp} : ∀ ns : List Int, DpAll K H (ns.map V.int) (ns.map PyData.int)
  | [] => .nil
  | n :: ns => .cons (.int n) (ints_dp ns)
theorem canInts : ∀ ns : List Int, PyData.canLayAll0 (ns.map PyData.int) = true
  | [] => by simp [PyData.canLayAll0]
  | n :: ns => by rw [List.map_cons, PyData.canLayAll0, canInts ns]; simp [PyData.canLay0]
theorem depInts : ∀ ns : List Int, PyData.depthAll (ns.map PyData.int) ≤ 10
  | [] => by simp [PyData.depthAll]
  | n :: ns => by
    have := depInts ns
    rw [List.map_cons, PyData.depthAll]
    have h2 : (PyData.int n).depth ≤ 10 := by simp [PyData.depth]
    omega
theorem shInts (ns : List Int) : SeqAt.shaped (intsD ns) = true := by
  refine Bool.and_eq_true_iff.mpr ⟨?_, decide_eq_true ?_⟩
  · unfold intsD
    rw [PyData.canLay0]
    exact canInts ns
  · have := depInts ns
    unfold intsD
    rw [PyData.depth]
    omega
theorem eqInts1 : ∀ ns ms : List Int, PyData.eqvAll (ns.map PyData.int) (ms.map PyData.int) = decide (ns = ms)
  | [], [] => by simp [PyData.eqvAll]
  | [], _ :: _ => by simp [PyData.eqvAll]
  | _ :: _, [] => by simp [PyData.eqvAll]
  | n :: ns, m :: ms => by
    rw [List.map_cons, List.map_cons, PyData.eqvAll, eqInts1 ns ms, Bool.eq_iff_iff]
    simp [PyData.eqv]
theorem eqInts (ns ms : List Int) : PyData.eqv (intsD ns) (intsD ms) = decide (ns = ms) := by
  unfold intsD
  rw [PyData.eqv]
  exact eqInts1 ns ms
theorem Dp.ints {K : PySem.W.Frag} {H : Hp} {a : Addr} {ns : List Int} (h : H a = some (.lst (ns.map V.int))) : Dp K H (.ref a) (intsD ns) := .lst (SqL.of h) (ints_dp ns)
/-! ### rules inside comprehensions -/
theorem call_lenK {X : Cx} {K : PySem.W.Frag} (h : X.K = K) : CallR X (.builtin "len") (fun xs H Q => ∃ p ys, xs = [.ref p] ∧ (SqL K H p ys ∨ SqT K H p ys) ∧ Q (.int ys.length) H) := h ▸ call_len_seq
theorem call_listK {X : Cx} {K : PySem.W.Frag} (h : X.K = K) : CallR X (.type "list") (fun xs H Q => ∃ p ys, xs = [.ref p] ∧ (SqL K H p ys ∨ SqT K H p ys) ∧ ∀ l, H l = none → Q (.ref l) (upd H l (.lst ys))) := h ▸ call_list_of
theorem op_neDK {X : Cx} {K : PySem.W.Frag} (h : X.K = K) (hu : X.A.units + 64 < cLine) : OpR X (compareOp .NotEq) (rNeD K) := h ▸ op_neD hu
theorem op_eqDK {X : Cx} {K : PySem.W.Frag} (h : X.K = K) (hu : X.A.units + 64 < cLine) : OpR X (compareOp .Eq) (rEqD K) := h ▸ op_eqD hu
theorem op_inK {X : Cx} {K : PySem.W.Frag} (h : X.K = K) : OpR X (compareOp CmpOp.In) (rIn K false) := h ▸ op_in_seq
theorem op_notInK {X : Cx} {K : PySem.W.Frag} (h : X.K = K) : OpR X (compareOp CmpOp.NotIn) (rIn K true) := h ▸ op_notIn_seq
/-! ### list.count of strings -/
def eqs (k : Str) (v : Value) : Bool := match v with
  | .str n _ => n == k
  | _ => false
def rCntS (K : PySem.W.Frag) : V → List V → Hp → VK → Prop := fun x xs H Q => ∃ (p : Addr) (ss : List Str) (k : Str), x = .ref p ∧ xs = [.str k] ∧ SqL K H p (ss.map V.str) ∧ Q (.int (ss.countP (fun y => decide (y = k)) : Nat)) H
theorem eqs_at {k : Str} {t : Tok} {A : Around} {s : Shared} : ∀ {ss : List Str} {us : List Value}, Vals (ss.map V.str) us → ∀ y ∈ us, SeqAt.EqAt A s y (.str k t) (eqs k y)
  | [], us, r => by
    rw [List.map_nil] at r
    cases r
    exact fun y hy => nomatch hy
  | n :: ss, us, r => by
    rw [List.map_cons] at r
    cases r with
    | cons r1 r2 =>
      obtain ⟨t', rfl⟩ := r1
      intro y hy
      rcases List.mem_cons.mp hy with q | q
      · rw [q]
        exact SeqAt.EqAt.str_str n t' k t
      · exact eqs_at r2 y q
theorem eqs_count {k : Str} : ∀ {ss : List Str} {us : List Value}, Vals (ss.map V.str) us → us.countP (eqs k) = ss.countP fun y => decide (y = k)
  | [], us, r => by
    rw [List.map_nil] at r
    cases r
    rfl
  | n :: ss, us, r => by
    rw [List.map_cons] at r
    cases r with
    | cons r1 r2 =>
      obtain ⟨t', rfl⟩ := r1
      have ih := eqs_count (k := k) r2
      rw [List.countP_cons, List.countP_cons, ih]
      rfl
theorem mt_scount {X : Cx} : MtR X "list.count" (rCntS X.K) := by
  intro pins s σ H x xs v us Q I rx rxs h
  obtain ⟨p, ns, k, rfl, rfl, hs, q⟩ := h
  cases rx
  obtain ⟨u, rfl, ru⟩ := rxs.one
  obtain ⟨t, rfl⟩ := ru
  obtain ⟨its, rv, ⟨⟨cls, dd, data, sl⟩, n, ho, hc, hdn, hd⟩, hlen⟩ := I.list hs
  simp only at hc hd
  subst hc hd
  refine call_meets PySem.F.slot_list_count ⟨_, ho, rfl⟩ PySem.F.entry_list_count (PySem.F.args_list_count_2 _ _)
    (SeqAt.list_countAt p its.toArray n dd sl (.str k t) (eqs k)) ⟨ho, fun y hy => eqs_at rv y (by simpa using hy), ?_⟩
  have ec : its.toArray.toList.countP (eqs k) = ns.countP fun y => decide (y = k) := eqs_count rv
  refine ⟨.int (ns.countP (fun y => decide (y = k)) : Nat), H, I.tok _, ⟨s.toks, ?_⟩, q⟩
  show Value.int ((its.toArray.toList.countP (eqs k) : Nat) : Int) s.toks = Value.int ((ns.countP (fun y => decide (y = k)) : Nat) : Int) s.toks
  rw [ec]
/-- a comprehension over enumerate -/
theorem lc_enum {K : PySem.W.Frag} {a : Addr} {xs : List V} {g : TG} {tt : TT} {te : TE} {vs : List Nat} {σ : L2.St} {H1 : Hp} {D : Addr} {Qd : Hp → Prop} (Pv : Nat → Hp → Prop) (h0 : Pv 0 (upd H1 D (.lst []))) (hl : ∀ i H, Pv i H → SqL K H a xs)
    (hs : ∀ (i : Nat) (x : V) (T : Addr) (H : Hp), xs[i]? = some x → Pv i H → H T = none → g (.ref T) (wipe σ vs) (upd H T (.tup [.int (i : Nat), x])) fun σ2 H2 => wipe σ2 vs = wipe σ vs ∧ tt σ2 H2 fun b H3 =>
      if b = true then te σ2 H3 fun y H4 => ∃ acc, H4 D = some (.lst acc) ∧ acc.length < sizeLine ∧ Pv (i + 1) (upd H4 D (.lst (acc ++ [y]))) else Pv (i + 1) H3) (hd : ∀ H, Pv xs.length H → Qd H) :
    ∃ W : Nat → Nat → Hp → Prop, (∃ m, W 0 m (upd H1 D (.lst []))) ∧ ∀ i m H, W i m H → ((Ite K a).stop i H ∧ Qd H) ∨ ((Ite K a).go i H ∧ ∃ Nx : Hp → Prop, (∀ H', Nx H' → ∃ m', m' < m ∧ W (i + 1) m' H') ∧ ∀ x H', (Ite K a).yld i H x H' → g x (wipe σ vs) H' fun σ2 H2 => wipe σ2 vs = wipe σ vs ∧ tt σ2 H2 fun b H3 =>
        if b = true then te σ2 H3 fun y H4 => ∃ acc, H4 D = some (.lst acc) ∧ acc.length < sizeLine ∧ Nx (upd H4 D (.lst (acc ++ [y]))) else Nx H3) := by
  refine ⟨fun i m H => m = xs.length - i ∧ i ≤ xs.length ∧ Pv i H, ⟨xs.length, by omega, Nat.zero_le _, h0⟩, ?_⟩
  rintro i m H ⟨rfl, hi, p⟩
  have q := hl i H p
  by_cases hlt : i < xs.length
  · refine .inr ⟨⟨xs, xs[i], q, List.getElem?_eq_getElem hlt⟩, Pv (i + 1), fun H' p' => ⟨xs.length - (i + 1), by omega, rfl, hlt, p'⟩, fun v H' y => ?_⟩
    obtain ⟨T, x', rfl, hT, rfl, f⟩ := y
    exact hs i x' T H (f xs q) p hT
  · have e : i = xs.length := by omega
    subst e
    exact .inl ⟨⟨xs, q, Nat.le_refl _⟩, hd H p⟩
theorem op_powW {X : Cx} : OpR X (binaryOp .Pow) (rI (fun i j => 0 ≤ j ∧ (Builtin.Int.intBits i : Int) * j ≤ 2 ^ 27) fun i j => .int (i ^ j.toNat)) := opI fun _ _ _ _ _ _ _ hc q => PyProof.Rows.pow_int hc.1 hc.2 q
/-! ### list.count over data -/
def rCntD (K : PySem.W.Frag) : V → List V → Hp → VK → Prop := fun x xs H Q => ∃ (p : Addr) (ys : List V) (ds : List PyData) (y : V) (d : PyData), x = .ref p ∧ xs = [y] ∧ SqL K H p ys ∧ DpAll K H ys ds ∧ Dp K H y d ∧ PyData.plainAll ds = true ∧ d.plain = true ∧ d.depth ≤ 10 ∧ Q (.int (ds.countP (fun e => PyData.eqv e d) : Nat)) H
theorem mt_dcount {X : Cx} (hu : X.A.units + 64 < cLine) : MtR X "list.count" (rCntD X.K) := by
  intro pins s σ H x xs v us Q I rx rxs h
  obtain ⟨p, ys, ds, y, d, rfl, rfl, hs, hd, hy, p1, p2, dl, q⟩ := h
  cases rx
  obtain ⟨u, rfl, ru⟩ := rxs.one
  obtain ⟨its, rv, hl, hlen⟩ := I.list hs
  obtain ⟨as, r1⟩ := Dp.readsAll I ds _ its hd rv
  obtain ⟨bs, r2⟩ := Dp.reads I d y u hy ru
  refine SeqAt.count_list_data hl.isList r1 r2 p1 p2 (by omega) ?_
  exact ⟨.int _, H, I.tok _, ⟨s.toks, rfl⟩, q⟩
theorem call_tupK {X : Cx} {K : PySem.W.Frag} (h : X.K = K) : CallR X (.type "tuple") (fun xs H Q => ∃ p ys, xs = [V.ref p] ∧ ((SqL K H p ys ∧ ∀ l : Addr, H l = none → Q (.ref l) (upd H l (.tup ys))) ∨ SqT K H p ys ∧ Q (.ref p) H)) := h ▸ call_tuple_of
/-! ### outages as data (small chains) -/
def cV : Option Int → V
  | none => .non
  | some c => .int c
abbrev Out := Int × Option Int
def OtAt (H : Hp) (x : V) (o : Out) : Prop := ∃ a, x = .ref a ∧ H a = some (.tup [.int o.1, cV o.2])
abbrev Ots (H : Hp) (xs : List V) (os : List Out) : Prop := Paired (OtAt H) xs os
theorem OtAt.same {H H' : Hp} (s : Same H H') {x : V} {d : Out} (h : OtAt H x d) : OtAt H' x d := by
  obtain ⟨a, e, h⟩ := h
  exact ⟨a, e, s _ _ h⟩
theorem OtAt.nl {H H' : Hp} (s : NL H H') {x : V} {d : Out} (h : OtAt H x d) : OtAt H' x d := by
  obtain ⟨a, e, h⟩ := h
  exact ⟨a, e, s _ _ h fun _ z => nomatch z⟩
theorem Ots.same {H H' : Hp} (s : Same H H') {xs : List V} {os : List Out} (h : Ots H xs os) : Ots H' xs os := L2.Paired.mapP h fun _ _ z => z.same s
theorem Ots.nl {H H' : Hp} (s : NL H H') {xs : List V} {os : List Out} (h : Ots H xs os) : Ots H' xs os := L2.Paired.mapP h fun _ _ z => z.nl s
def VOut : Int → List (Int × Int) → Prop
  | _, [] => True
  | m, o :: r => m ≤ o.1 ∧ o.1 < o.2 ∧ o.2 ≤ 1000000000000000000000000000000 ∧ VOut (o.2 + 1) r
def outs (os : List (Int × Int)) : List Out := os.map fun o => (o.1, some o.2)
theorem outs_len (os : List (Int × Int)) : (outs os).length = os.length := by unfold outs; rw [List.length_map]
theorem vout_mem : ∀ {os : List (Int × Int)} {m : Int}, VOut m os → ∀ o ∈ os, m ≤ o.1 ∧ o.1 < o.2 ∧ o.2 ≤ 1000000000000000000000000000000
  | [], m, _, o, ho => by cases ho
  | z :: r, m, h, o, ho => by
    obtain ⟨h1, h2, h3, h4⟩ := h
    rcases List.mem_cons.mp ho with rfl | ho
    · exact ⟨h1, h2, h3⟩
    · have := vout_mem h4 o ho
      omega
def NI (H H' : Hp) : Prop := ∀ b o, H b = some o → (∀ C dx fs, o ≠ .ins C dx fs) → H' b = some o
theorem NI.of {p C dx : Addr} {fs : List (Str × V)} {H H' : Hp} (k : Kp p H H') (h : H p = some (.ins C dx fs)) : NI H H' := fun b o e n => k b o (fun z => by
  subst z
  rw [h] at e
  cases e
  exact n _ _ _ rfl) e
theorem NI.trans {H H1 H2 : Hp} (a : NI H H1) (b : NI H1 H2) : NI H H2 := fun c o h n => b c o (a c o h n) n
theorem NI.same {H H' : Hp} (s : Same H H') : NI H H' := fun b o e _ => s b o e
theorem Ots.ni {H H' : Hp} (k : NI H H') {xs : List V} {ts : List Out} (h : Ots H xs ts) : Ots H' xs ts := L2.Paired.mapP h fun _ _ ⟨a, e, h⟩ => ⟨a, e, k _ _ h fun _ _ _ z => nomatch z⟩
def dn (os : List (Int × Int)) (x : Int) : Prop := ∃ o ∈ os, o.1 ≤ x ∧ x < o.2
theorem dn_app {a : List (Int × Int)} {o : Int × Int} {x : Int} : dn (a ++ [o]) x ↔ dn a x ∨ (o.1 ≤ x ∧ x < o.2) := by
  constructor
  · rintro ⟨u, hu, h⟩
    rcases List.mem_append.mp hu with hu | hu
    · exact .inl ⟨u, hu, h⟩
    · rw [List.mem_singleton.mp hu] at h
      exact .inr h
  · rintro (⟨u, hu, h⟩ | h)
    · exact ⟨u, List.mem_append_left _ hu, h⟩
    · exact ⟨o, List.mem_append_right _ (List.mem_cons_self ..), h⟩

def spIsOut : Sp := fun vs H Q _ => ∃ x, ∃ o : Int × Int, vs = [x] ∧ OtAt H x (o.1, some o.2) ∧ 0 ≤ o.1 ∧ o.1 < o.2 ∧ o.2 ≤ 1000000000000000000000000000000 ∧ Q (.bl true) H
def spChkO : Sp := fun vs H Q _ => ∃ a xs, ∃ os : List (Int × Int), vs = [.ref a] ∧ H a = some (.lst xs) ∧ Ots H xs (outs os) ∧ VOut 0 os ∧ os.length ≤ 50 ∧ ∀ H', Same H H' → Q .non H'
section
variable {P : Program} {w : World} {K : PySem.W.Frag} {mg : Str → Option Value} {base : Heap} {L : LA}
abbrev N_isoutage : List Str := ["value", "begin", "end"]
theorem sc_isoutage : FnScope N_isoutage ["value"] (defScope st_is_outage) := ⟨rfl, rfl, rfl, by decide +kernel, rfl, by decide +kernel, by decide +kernel⟩
theorem fn_isoutage (T : LX K mg L) {fd : FuncData} (F : Fun K "is_outage" "is_outage" st_is_outage L.f_is_outage fd) : FnOk P w K mg base CX0 3 L.f_is_outage fd ["value"] (spIsOut) := by
  have G_isatleast := ok_isatleast (P := P) (w := w) (base := base) T
  have G_iswithin := ok_iswithin (P := P) (w := w) (base := base) T
  obtain ⟨tk_MOST_TIME, c_MOST_TIME⟩ := T.n_MOST_TIME
  have nd := sc_isoutage.nd
  refine F.ok sc_isoutage (fun vs H Q E h => ?_) (fun cdv A outer S H vs Q E hr h => ?_)
  · obtain ⟨x, o, rfl, _⟩ := h
    rfl
  · obtain ⟨x, o, rfl, ⟨a, rfl, ha⟩, h1, h2, h3, k⟩ := h
    refine ⟨_, (pss_cons (ps_if (PW.pt (pw_or (pt_not (pt_val (pe_callB call_isi (by rfl) T.b_isinstance (by decide +kernel) (pa_cons (pv 0) (pa_cons (pe_bltn (by rfl) T.b_tuple (by decide +kernel : bootBuiltins "tuple" = some (.type "tuple")) (v := .ty "tuple") rfl) pa_nil))))) (pw_or1 (pt_cmpR op_ne (pe_callB call_len_seq (by rfl) T.b_len PySem.boot_len (pa_cons (pv 0) pa_nil)) pe_int (nomark _))))) (pss_one (ps_ret pe_bl)) pss_nil)
       (pss_cons (ps_asg (pv 0) (pg_tup rfl (pgs_cons (pg_name (i := 1) nd rfl (Or.inl rfl)) (pgs_cons (pg_name (i := 2) nd rfl (Or.inl rfl)) pgs_nil))))
       (pss_one (ps_ret (pe_and (pe_c G_isatleast (hr.mono (by decide)) rfl (pa_cons (pv 1) (pa_cons pe_int pa_nil))) (pe_one (pe_c G_iswithin (hr.mono (by decide)) rfl (pa_cons (pv 2) (pa_cons (pe_op op_add (pv 1) pe_int) (pa_cons (pe_gI c_MOST_TIME) pa_nil)))))))))), ?_⟩
    refine ⟨_, rfl, _, .ty "tuple", _, _, _, rfl, .ty "tuple", (Kd.tup ha).ty, (Kd.tup ha).kit "tuple" _ (.inr ⟨by decide, by decide, rfl⟩), _, rfl, iteF ?_⟩
    refine ⟨_, rfl, a, _, rfl, .inr (SqT.of ha), rfl, _, rfl, iteF ?_⟩
    refine ⟨_, rfl, a, _, rfl, SqT.of ha, rfl, _, _, rfl, _, _, rfl, rfl, ?_⟩
    refine ⟨_, rfl, _, _, _, rfl, .int _, _, rfl, ?_⟩
    show if (decide ((0 : Int) ≤ o.1)) = true then _ else _
    rw [decide_eq_true h1]
    refine iteT ⟨_, rfl, _, rfl, _, _, rfl, rfl, _, _, _, _, rfl, .int _, ?_⟩
    show Q (.bl (decide (o.1 + 1 ≤ o.2) && decide (o.2 ≤ 1000000000000000000000000000000))) H
    rw [k6_pos (show o.1 + 1 ≤ o.2 by omega) h3]
    exact k
theorem ok_isoutage (T : LX K mg L) : Cal P w K mg base "is_outage" 3 L.f_is_outage ["value"] (spIsOut) := T.d_is_outage.cal fun fd F => fn_isoutage T F
abbrev N_checkoutages : List Str := ["outages", "least", "at", "outage"]
theorem sc_checkoutages : FnScope N_checkoutages ["outages"] (defScope st_check_outages) := ⟨rfl, rfl, rfl, by decide +kernel, rfl, by decide +kernel, by decide +kernel⟩
theorem fn_checkoutages (T : LX K mg L) {fd : FuncData} (F : Fun K "check_outages" "check_outages" st_check_outages L.f_check_outages fd) : FnOk P w K mg base CX0 4 L.f_check_outages fd ["outages"] (spChkO) := by
  obtain ⟨tk_MOST_OUTAGES, c_MOST_OUTAGES⟩ := T.n_MOST_OUTAGES
  have G_isoutage := ok_isoutage (P := P) (w := w) (base := base) T
  have nd := sc_checkoutages.nd
  refine F.ok sc_checkoutages (fun vs H Q E h => ?_) (fun cdv A outer S H vs Q E hr h => ?_)
  · obtain ⟨a, xs, os, rfl, _⟩ := h
    rfl
  · obtain ⟨a, xs, os, rfl, ha, hx, hv, hl, k⟩ := h
    refine ⟨_, (pss_cons (ps_if (PW.pt (pw_or (pt_not (pt_val (pe_callB call_isi (by rfl) T.b_isinstance (by decide +kernel) (pa_cons (pv 0) (pa_cons (pe_bltn (by rfl) T.b_list (by decide +kernel : bootBuiltins "list" = some (.type "list")) (v := .ty "list") rfl) pa_nil))))) (pw_or1 (pt_cmpR op_gt (pe_callB call_len_seq (by rfl) T.b_len PySem.boot_len (pa_cons (pv 0) pa_nil)) (pe_gI c_MOST_OUTAGES) (nomark _))))) (pss_one (ps_never)) pss_nil)
       (pss_cons (ps_set (i := 1) nd rfl (Or.inl rfl) pe_int)
       (pss_one (ps_for PassesOwn.never rfl (pi_enum (by rfl) T.b_enumerate (pa_cons (pv 0) pa_nil)) (pg_tup rfl (pgs_cons (pg_name (i := 2) nd rfl (Or.inl rfl)) (pgs_cons (pg_name (i := 3) nd rfl (Or.inl rfl)) pgs_nil))) (pss_cons (ps_if (PW.pt (pw_or (pt_not (pt_val (pe_c G_isoutage (hr.mono (by decide)) rfl (pa_cons (pv 3) pa_nil)))) (pw_or1 (pt_cmpR op_lt (pe_ix (r := rIxT K) ix_tup (pv 3) pe_int (fun _ _ => rfl)) (pv 1) (nomark _))))) (pss_one (ps_never)) pss_nil)
       (pss_one (ps_set (i := 1) nd rfl (Or.inl rfl) (pe_op op_add (pe_ix (r := rIxT K) ix_tup (pv 3) pe_int (fun _ _ => rfl)) pe_int)))))))), ?_⟩
    have xl := paired_len hx
    have ol : (outs os).length = os.length := by unfold outs; rw [List.length_map]
    refine ⟨_, rfl, _, .ty "list", _, _, _, rfl, .ty "list", (Kd.lst ha).ty, (Kd.lst ha).kit "list" _ (.inr ⟨by decide, by decide, rfl⟩), _, rfl, iteF ?_⟩
    refine ⟨_, rfl, a, _, rfl, .inl (SqL.of ha), _, _, rfl, rfl, _, rfl, ?_⟩
    have hn : ¬ ((50 : Int) < (xs.length : Nat)) := by omega
    rw [decide_eq_false hn]
    refine iteF ?_
    refine ⟨_, rfl, a, xs, rfl, SqL.of ha, for_enum (K := K) (a := a) (xs := xs) (fun i σ H2 => ∃ m, ∃ u v : Option V, σ = [some (.ref a), some (.int m), u, v] ∧ Same H H2 ∧ VOut m (os.drop i) ∧ 0 ≤ m) ⟨0, none, none, rfl, Same.refl H, hv, Int.le_refl _⟩ (fun i σ H2 _ ⟨_, _, _, _, s2, _⟩ => SqL.of (s2 _ _ ha)) ?_ ?_⟩
    · rintro i x T' σ H2 hxi ⟨m, u, v, rfl, s2, vo, mm⟩ hT
      obtain ⟨o', ho', hox⟩ := paired_get hx hxi
      obtain ⟨o, ho, rfl⟩ : ∃ o, os[i]? = some o ∧ o' = (o.1, some o.2) := by
        unfold outs at ho'
        rw [List.getElem?_map] at ho'
        cases q : os[i]? with
        | none => rw [q] at ho'; cases ho'
        | some o => rw [q] at ho'; cases ho'; exact ⟨o, rfl, rfl⟩
      have hi := (List.getElem?_eq_some_iff.mp ho).1
      have dr : os.drop i = o :: os.drop (i + 1) := by
        rw [List.drop_eq_getElem_cons hi]
        congr 1
        exact (List.getElem?_eq_some_iff.mp ho).2
      rw [dr] at vo
      obtain ⟨v1, v2, v3, v4⟩ := vo
      have m0 : 0 ≤ o.1 := by omega
      have s3 : Same H (upd H2 T' (.tup [.int (i : Nat), x])) := s2.trans (Same.upd hT)
      have hox3 := hox.same s3
      refine ⟨T', _, rfl, SqT.of upd_same, rfl, _, _, rfl, _, _, rfl, rfl, ?_⟩
      refine ⟨_, rfl, x, o, rfl, hox3, m0, v2, v3, _, rfl, iteF ?_⟩
      obtain ⟨c, rfl, hc⟩ := hox3
      refine ⟨_, rfl, c, _, 0, .int o.1, rfl, rfl, SqT.of hc, rfl, _, rfl, _, _, rfl, rfl, _, rfl, ?_⟩
      rw [decide_eq_false (show ¬ o.1 < m by omega)]
      refine iteF ⟨_, rfl, c, _, 1, .int o.2, rfl, rfl, SqT.of hc, rfl, _, _, rfl, rfl, ?_⟩
      exact ⟨_, _, _, rfl, s3, v4, by omega⟩
    · rintro σ H2 ⟨m, u, v, rfl, s2, _⟩
      exact k H2 s2
theorem ok_checkoutages (T : LX K mg L) : Cal P w K mg base "check_outages" 4 L.f_check_outages ["outages"] (spChkO) := T.d_check_outages.cal fun fd F => fn_checkoutages T F
end
def upB (os : List (Int × Int)) (t : Int) : Bool := !(os.any fun o => decide (o.1 ≤ t) && decide (t < o.2))
theorem upB_iff {os : List (Int × Int)} {t : Int} : upB os t = true ↔ ¬ dn os t := by
  unfold upB dn
  simp
/-! ### zip of a tuple and a list -/
section
open PySem.Builtin.SmallTypes
/-- what next() walks: an iterator over a sequence -/
structure Wk (prog : Program) (w : World) where
  it : Heap → Addr → Addr → Nat → Prop
  sq : Heap → Addr → Array Value → Prop
  itx : ∀ {g g' : Heap} {a b l : Addr} {n : Nat}, it g a l n → Heap.ExtBut b g g' → a ≠ b → it g' a l n
  sqx : ∀ {g g' : Heap} {a b : Addr} {xs : Array Value}, sq g a xs → Heap.ExtBut b g g' → a ≠ b → sq g' a xs
  ita : ∀ {g g' : Heap} {a l : Addr} {n : Nat}, it g a l n → (∀ o, g.get? a = some o → g'.get? a = some o) → it g' a l n
  ito : ∀ {g : Heap} {a l : Addr} {n : Nat}, it g a l n → ∃ o, g.get? a = some o ∧ ∃ f, o.data = .fields f
  nxt : ∀ {A : Around} {E : Value → Shared → Prop} {s : Shared} {a l : Addr} {n : Nat} {xs : Array Value} {x : Value} {Q : Value → Shared → Prop}, it s.heap a l n → sq s.heap l xs → xs[n]? = some x →
    (∀ g, it g a l (n + 1) → Heap.SameBut a s.heap g → Q x { s with heap := g }) → wpAny (model prog w) A (nextOf (.ref a)) Q E s
  fin : ∀ {A : Around} {E : Value → Shared → Prop} {s : Shared} {a l : Addr} {n : Nat} {xs : Array Value} {Q : Value → Shared → Prop}, A.handled = none → it s.heap a l n → sq s.heap l xs → xs[n]? = none →
    (∀ g e, Heap.ExtBut a s.heap g → (∃ o, g.get? e = some o ∧ o.cls = .type "StopIteration") → E (.ref e) { s with heap := g }) → wpAny (model prog w) A (nextOf (.ref a)) Q E s
def wkL (prog : Program) (w : World) : Wk prog w where
  it := Heap.IsListIter
  sq := Heap.IsList
  itx := fun x h n => x.extBut h n
  sqx := fun x h n => x.extBut h n
  ita := fun x e => x.at e
  ito := fun x => by obtain ⟨o, e, _, d⟩ := x; exact ⟨o, e, _, d⟩
  nxt := fun a b c d => wpAny_nextOf_list_item a b c d
  fin := fun a b c d e => wpAny_nextOf_list_end a b c d e
def wkT (prog : Program) (w : World) : Wk prog w where
  it := Heap.IsTupleIter
  sq := Heap.IsTuple
  itx := fun x h n => x.extBut h n
  sqx := fun x h n => x.extBut h n
  ita := fun x e => x.at e
  ito := fun x => by obtain ⟨o, e, _, d⟩ := x; exact ⟨o, e, _, d⟩
  nxt := fun a b c d => RZ.nextOf_tuple_item a b c d
  fin := fun a b c d e => RZ.nextOf_tuple_end a b c d e
section
variable {prog : Program} {w : World} {A : Around} {E : Value → Shared → Prop} {s : Shared} (U V : Wk prog w)
/-- the kept of a step -/
def Kz (z T i j : Addr) (g g' : Heap) : Prop := ∀ c o, c ≠ z → c ≠ T → c ≠ i → c ≠ j → g.get? c = some o → g'.get? c = some o
theorem zw_item {z T R i j a b : Addr} {m n : Nat} {xs ys : Array Value} {x y p q : Value} {Q : Value → Shared → Prop} (D : ZipApart z T R i j a b) (hz : IsZip s.heap z T R .none) (hT : IsPair s.heap T (.ref i) (.ref j)) (hR : IsPair s.heap R p q)
    (hi : U.it s.heap i a m) (hj : V.it s.heap j b n) (ha : U.sq s.heap a xs) (hb : V.sq s.heap b ys) (ex : xs[m]? = some x) (ey : ys[n]? = some y)
    (k : ∀ g, IsZip g z T R (rawInt s.heap.objs.size) → IsPair g R x y → U.it g i a (m + 1) → V.it g j b (n + 1) → IsPair g s.heap.objs.size x y → g.objs.size = s.heap.objs.size + 1 → Kz z R i j s.heap g → Q (.ref s.heap.objs.size) { s with heap := g }) :
    wpAny (model prog w) A (Builtin.«zip.__next__» ⟨[.ref z], []⟩) (fun r s' => ∃ v, r = .done (.ret v) ∧ Q v s') E s := by
  show wpAny _ _ (field (.ref z) 2 >>= fun _ => _) _ _ _
  refine wpAny_bind (wpAny_field hz rfl (x := .bool false) rfl (show wpAny _ _ (field (.ref z) 3 >>= fun _ => _) _ _ _ from ?_))
  refine wpAny_bind (wpAny_field hz rfl (x := .ref T) rfl (wpAny_bind (wpAny_seqItems hT rfl (show wpAny _ _ (ownedTupleIsFree (.ref z) >>= fun _ => _) _ _ _ from wpAny_bind ?_))))
  unfold Builtin.SmallTypes.ownedTupleIsFree
  refine wpAny_bind (wpAny_field hz rfl (x := .none) rfl (wpAny_pure ?_)); simp only [if_true]
  refine wpAny_bind (wpAny_rule (wpAny_bind (wpAny_field hz rfl (x := .ref R) rfl (wpAny_bind (wpAny_setField_rec hz (by simp) fun g1 z1 s1 => ?_)))))
  replace z1 : IsZip g1 z T R .ellipsis := z1
  refine wpAny_bind ?_; simp only [List.zipIdx_cons, List.zipIdx_nil, List.forIn_cons, List.forIn_nil]
  refine wpAny_bind (wpAny_bind (wpAny_onRaise (show wpAny _ _ (nextOf (.ref i) >>= fun _ => _) _ _ _ from ?_)))
  refine wpAny_bind (U.nxt (U.itx hi s1.extBut D.i1z) (U.sqx ha s1.extBut D.l1z) ex fun g2 i2 s2 => wpAny_pure ?_)
  have R2 : IsPair g2 R p q := s2.extBut _ _ D.TOi1 (s1.extBut _ _ D.TOz hR)
  refine wpAny_bind (wpAny_seqItems R2 rfl (wpAny_bind (wpAny_updateSeq_pair R2 fun g3 R3 s3 => wpAny_bind (wpAny_letGo (wpAny_pure ?_)))))
  replace R3 : IsPair g3 R x q := R3
  refine wpAny_bind (wpAny_bind (wpAny_onRaise (show wpAny _ _ (nextOf (.ref j) >>= fun _ => _) _ _ _ from ?_)))
  refine wpAny_bind (V.nxt (V.itx (V.itx (V.itx hj s1.extBut D.i2z) s2.extBut D.i12.symm) s3.extBut D.TOi2.symm) (V.sqx (V.sqx (V.sqx hb s1.extBut D.l2z) s2.extBut D.l2i1) s3.extBut D.l2TO) ey fun g4 j4 s4 => wpAny_pure ?_)
  have R4 : IsPair g4 R x q := s4.extBut _ _ D.TOi2 R3
  refine wpAny_bind (wpAny_seqItems R4 rfl (wpAny_bind (wpAny_updateSeq_pair R4 fun g5 R5 s5 => wpAny_bind (wpAny_letGo (wpAny_pure (wpAny_pure ?_))))))
  replace R5 : IsPair g5 R x y := R5
  refine wpAny_bind (wpAny_seqItems R5 rfl (wpAny_bind (wpAny_newTuple ?_)))
  have e5 : g5.objs.size = s.heap.objs.size := by rw [s5.1, s4.1, s3.1, s2.1, s1.1]
  have z5 : IsZip g5 z T R .ellipsis := s5.extBut _ _ D.TOz.symm (s4.extBut _ _ D.i2z.symm (s3.extBut _ _ D.TOz.symm (s2.extBut _ _ D.i1z.symm z1)))
  have k5 : Kz z R i j s.heap g5 := fun c o c1 c2 c3 c4 e => s5.extBut _ _ c2 (s4.extBut _ _ c4 (s3.extBut _ _ c2 (s2.extBut _ _ c3 (s1.extBut _ _ c1 e))))
  have i5 : U.it g5 i a (m + 1) := U.itx (U.itx (U.itx i2 s3.extBut D.TOi1.symm) s4.extBut D.i12) s5.extBut D.TOi1.symm
  have j5 : V.it g5 j b (n + 1) := V.itx j4 s5.extBut D.TOi2.symm
  show wpAny _ _ (ownedTupleHandOut (.ref z) (.ref g5.objs.size) >>= fun _ => _) _ _ _
  refine wpAny_bind ?_; unfold Builtin.SmallTypes.ownedTupleHandOut
  have z6 : IsZip (g5.push { cls := .type "tuple", data := .seq #[x, y] }) z T R .ellipsis := Heap.get?_push_of_some _ z5
  refine wpAny_bind (wpAny_setField_rec z6 (by simp) fun g7 z7 s7 => ?_)
  replace z7 : IsZip g7 z T R (rawInt g5.objs.size) := z7
  refine wpAny_setField_rec z7 (by simp) fun g8 z8 s8 => ?_
  replace z8 : IsZip g8 z T R (rawInt g5.objs.size) := z8
  have up : ∀ c o, c ≠ z → g5.get? c = some o → g8.get? c = some o := fun c o c1 e => s8.extBut _ _ c1 (s7.extBut _ _ c1 (Heap.get?_push_of_some _ e))
  have T8 : IsPair g8 g5.objs.size x y := s8.extBut _ _ (Nat.ne_of_gt (Heap.lt_size z5)) (s7.extBut _ _ (Nat.ne_of_gt (Heap.lt_size z5)) (Heap.get?_push_size _ rfl))
  have e8 : g8.objs.size = g5.objs.size + 1 := by rw [s8.1, s7.1, Heap.size_push]
  rw [e5] at z8 T8 e8
  refine wpAny_pure ⟨_, rfl, (show Q (.ref g5.objs.size) _ from ?_)⟩
  rw [e5]
  exact k g8 z8 (up _ _ D.TOz R5) (U.ita i5 fun o e => up _ o D.i1z e) (V.ita j5 fun o e => up _ o D.i2z e) T8 e8 fun c o c1 c2 c3 c4 e => up c o c1 (k5 c o c1 c2 c3 c4 e)
theorem zw_fin {z T R i j a b : Addr} {m n : Nat} {xs ys : Array Value} {p q : Value} {Q : Fin → Shared → Prop} (hh : A.handled = none) (D : ZipApart z T R i j a b) (hz : IsZip s.heap z T R .none) (hT : IsPair s.heap T (.ref i) (.ref j)) (hR : IsPair s.heap R p q)
    (hi : U.it s.heap i a m) (hj : V.it s.heap j b n) (ha : U.sq s.heap a xs) (hb : V.sq s.heap b ys) (en : xs[m]? = none ∨ ys[n]? = none)
    (k : ∀ g e, Kz z R i j s.heap g → (∃ o, g.get? e = some o ∧ o.cls = .type "StopIteration") → E (.ref e) { s with heap := g }) :
    wpAny (model prog w) A (Builtin.«zip.__next__» ⟨[.ref z], []⟩) Q E s := by
  show wpAny _ _ (field (.ref z) 2 >>= fun _ => _) _ _ _
  refine wpAny_bind (wpAny_field hz rfl (x := .bool false) rfl (show wpAny _ _ (field (.ref z) 3 >>= fun _ => _) _ _ _ from ?_))
  refine wpAny_bind (wpAny_field hz rfl (x := .ref T) rfl (wpAny_bind (wpAny_seqItems hT rfl (show wpAny _ _ (ownedTupleIsFree (.ref z) >>= fun _ => _) _ _ _ from wpAny_bind ?_))))
  unfold Builtin.SmallTypes.ownedTupleIsFree
  refine wpAny_bind (wpAny_field hz rfl (x := .none) rfl (wpAny_pure ?_)); simp only [if_true]
  refine wpAny_bind (wpAny_rule (wpAny_bind (wpAny_field hz rfl (x := .ref R) rfl (wpAny_bind (wpAny_setField_rec hz (by simp) fun g1 z1 s1 => ?_)))))
  replace z1 : IsZip g1 z T R .ellipsis := z1
  refine wpAny_bind ?_; simp only [List.zipIdx_cons, List.zipIdx_nil, List.forIn_cons, List.forIn_nil]
  refine wpAny_bind (wpAny_bind (wpAny_onRaise (show wpAny _ _ (nextOf (.ref i) >>= fun _ => _) _ _ _ from ?_)))
  cases ex : xs[m]? with
  | none =>
    refine wpAny_bind (U.fin hh (U.itx hi s1.extBut D.i1z) (U.sqx ha s1.extBut D.l1z) ex fun g2 e s2 he => ?_)
    obtain ⟨oe, h1, h2⟩ := he
    have z2 : IsZip g2 z T R .ellipsis := s2 _ _ D.i1z.symm z1
    have ne : e ≠ z := fun c => by subst c; rw [z2] at h1; cases h1; simp at h2
    exact wpAny_setField_rec z2 (by simp) fun g3 _ s3 => k g3 e (fun c o c1 _ c3 _ r => s3.extBut _ _ c1 (s2 _ _ c3 (s1.extBut _ _ c1 r))) ⟨oe, s3.extBut _ _ ne h1, h2⟩
  | some x =>
    have ey : ys[n]? = none := by rcases en with h | h; (rw [ex] at h; cases h); exact h
    refine wpAny_bind (U.nxt (U.itx hi s1.extBut D.i1z) (U.sqx ha s1.extBut D.l1z) ex fun g2 i2 s2 => wpAny_pure ?_)
    have R2 : IsPair g2 R p q := s2.extBut _ _ D.TOi1 (s1.extBut _ _ D.TOz hR)
    refine wpAny_bind (wpAny_seqItems R2 rfl (wpAny_bind (wpAny_updateSeq_pair R2 fun g3 R3 s3 => wpAny_bind (wpAny_letGo (wpAny_pure ?_)))))
    refine wpAny_bind (wpAny_bind (wpAny_onRaise (show wpAny _ _ (nextOf (.ref j) >>= fun _ => _) _ _ _ from ?_)))
    refine wpAny_bind (V.fin hh (V.itx (V.itx (V.itx hj s1.extBut D.i2z) s2.extBut D.i12.symm) s3.extBut D.TOi2.symm) (V.sqx (V.sqx (V.sqx hb s1.extBut D.l2z) s2.extBut D.l2i1) s3.extBut D.l2TO) ey fun g4 e s4 he => ?_)
    obtain ⟨oe, h1, h2⟩ := he
    have z4 : IsZip g4 z T R .ellipsis := s4 _ _ D.i2z.symm (s3.extBut _ _ D.TOz.symm (s2.extBut _ _ D.i1z.symm z1))
    have ne : e ≠ z := fun c => by subst c; rw [z4] at h1; cases h1; simp at h2
    exact wpAny_setField_rec z4 (by simp) fun g5 _ s5 => k g5 e (fun c o c1 c2 c3 c4 r => s5.extBut _ _ c1 (s4 _ _ c4 (s3.extBut _ _ c2 (s2.extBut _ _ c3 (s1.extBut _ _ c1 r))))) ⟨oe, s5.extBut _ _ ne h1, h2⟩
theorem zw_next {z T R i j a b : Addr} {m n : Nat} {xs ys : Array Value} {x y p q : Value} {Q : Option Value → Shared → Prop} (D : ZipApart z T R i j a b) (hz : IsZip s.heap z T R .none) (hT : IsPair s.heap T (.ref i) (.ref j)) (hR : IsPair s.heap R p q)
    (hi : U.it s.heap i a m) (hj : V.it s.heap j b n) (ha : U.sq s.heap a xs) (hb : V.sq s.heap b ys) (ex : xs[m]? = some x) (ey : ys[n]? = some y)
    (k : ∀ g, IsZip g z T R (rawInt s.heap.objs.size) → IsPair g R x y → U.it g i a (m + 1) → V.it g j b (n + 1) → IsPair g s.heap.objs.size x y → g.objs.size = s.heap.objs.size + 1 → Kz z R i j s.heap g → Q (some (.ref s.heap.objs.size)) { s with heap := g }) :
    wpAny (model prog w) A (pyNext (.ref z)) Q E s := by
  have hT' : s.TypeIs (.ref z) "zip" := ⟨_, hz, rfl⟩
  unfold pyNext
  exact wpAny_bind (wpAny_attempt (wpAny_callSpecial?_slot (name := Str.ofString "__next__") hT' F.slot_zip_next (wpAny_call_entry F.slot_zip_next hT' F.entry_zip_next
    (zw_item U V D hz hT hR hi hj ha hb ex ey fun g a1 a2 a3 a4 a5 a6 a7 => wpAny_pure (k g a1 a2 a3 a4 a5 a6 a7)) (F.args_zip_next_1 _))))
theorem zw_done {z T R i j a b : Addr} {m n : Nat} {xs ys : Array Value} {p q : Value} {Q : Option Value → Shared → Prop} (hh : A.handled = none) (D : ZipApart z T R i j a b) (hz : IsZip s.heap z T R .none) (hT : IsPair s.heap T (.ref i) (.ref j)) (hR : IsPair s.heap R p q)
    (hi : U.it s.heap i a m) (hj : V.it s.heap j b n) (ha : U.sq s.heap a xs) (hb : V.sq s.heap b ys) (en : xs[m]? = none ∨ ys[n]? = none) (k : ∀ g, Kz z R i j s.heap g → Q none { s with heap := g }) : wpAny (model prog w) A (pyNext (.ref z)) Q E s := by
  have hT' : s.TypeIs (.ref z) "zip" := ⟨_, hz, rfl⟩
  unfold pyNext
  refine wpAny_bind (wpAny_attempt (wpAny_callSpecial?_slot (name := Str.ofString "__next__") hT' F.slot_zip_next (wpAny_call_entry F.slot_zip_next hT' F.entry_zip_next (zw_fin U V hh D hz hT hR hi hj ha hb en fun g e hk he => ?_) (F.args_zip_next_1 _))))
  obtain ⟨o, ho, hc⟩ := he
  exact wpAny_bind (wpAny_isInstance (T := "StopIteration") (b := true) ⟨o, ho, hc⟩ isSubtype_stop (wpAny_pure (k _ hk)))
end
abbrev zmA (h : Heap) (a : Addr) : Heap := h.push { cls := .type "tuple_iterator", data := .fields #[.ref a, .int 0 0] }
abbrev zmB (h : Heap) (a b : Addr) : Heap := (zmA h a).push { cls := .type "list_iterator", data := .fields #[.ref b, .int 0 0] }
abbrev zmC (h : Heap) (a b : Addr) : Heap := (zmB h a b).push { cls := .type "tuple", data := .seq #[.ref h.objs.size, .ref (zmA h a).objs.size] }
abbrev zmD (h : Heap) (a b : Addr) : Heap := (zmC h a b).push { cls := .type "tuple", data := .seq #[.none, .none] }
abbrev zmE (h : Heap) (a b : Addr) : Heap := (zmD h a b).push { cls := .type "zip", data := .fields #[.none, .bool false, .bool false, .ref (zmB h a b).objs.size, .ref (zmC h a b).objs.size] }
theorem zm_new (a b : Addr) (xs ys : Array Value) :
    Meets (Builtin.«zip.__new__» ⟨[.type "zip", .ref a, .ref b], []⟩) (fun _ R s => s.heap.IsTuple a xs ∧ s.heap.IsList b ys ∧ R (.ok (.ret (.ref (zmD s.heap a b).objs.size))) { s with heap := zmE s.heap a b }) :=
  .of_wp fun prog w A R s h => by
    obtain ⟨hp, g, d, tk, os⟩ := s; obtain ⟨h1, h2, h⟩ := h
    have hsub := sub_zip
    have h3 : Heap.IsTuple (Shared.heap ⟨hp, g, d, tk, os⟩) a xs := h1
    have h4 : Heap.IsList (Shared.heap ⟨hp.push { cls := .type "tuple_iterator", data := .fields #[.ref a, .int 0 0] }, g, d, tk, os⟩) b ys := Heap.IsList.push h2 _
    wp_walk using wpAny_pyIter_tuple h3, wpAny_pyIter_list h4
    exact ⟨_, rfl, h⟩
theorem call_zipM {prog : Program} {w : World} {A : Around} {E : Value → Shared → Prop} {s : Shared} {a b : Addr} {xs ys : Array Value} {Q : Value → Shared → Prop} (h1 : s.heap.IsTuple a xs) (h2 : s.heap.IsList b ys)
    (k : ∀ g, IsZip g (s.heap.objs.size + 4) (s.heap.objs.size + 2) (s.heap.objs.size + 3) .none → IsPair g (s.heap.objs.size + 2) (.ref s.heap.objs.size) (.ref (s.heap.objs.size + 1)) → IsPair g (s.heap.objs.size + 3) .none .none →
      g.IsTupleIter s.heap.objs.size a 0 → g.IsListIter (s.heap.objs.size + 1) b 0 → (∀ c o, s.heap.get? c = some o → g.get? c = some o) → Q (.ref (s.heap.objs.size + 4)) { s with heap := g }) :
    wpAny (model prog w) A (call (.type "zip") [.ref a, .ref b]) Q E s := by
  refine callType_new F.called_zip (by decide) (F.typeCall_zip_2 _ _) (F.newCall_zip_2 _ _) (fun o => F.args_object_init_3 o _ _) F.entry_zip_new (zm_new a b xs ys) ⟨h1, h2, ?_⟩
  have z1 : (zmA s.heap a).objs.size = s.heap.objs.size + 1 := Heap.size_push ..
  have z2 : (zmB s.heap a b).objs.size = s.heap.objs.size + 2 := by rw [Heap.size_push, z1]
  have z3 : (zmC s.heap a b).objs.size = s.heap.objs.size + 3 := by rw [Heap.size_push, z2]
  have z4 : (zmD s.heap a b).objs.size = s.heap.objs.size + 4 := by rw [Heap.size_push, z3]
  have g5 : (zmE s.heap a b).get? (zmD s.heap a b).objs.size = some _ := Heap.get?_push_size _ rfl
  have g4 : (zmE s.heap a b).get? (zmC s.heap a b).objs.size = some _ := Heap.get?_push_of_some _ (Heap.get?_push_size _ rfl)
  have g3 : (zmE s.heap a b).get? (zmB s.heap a b).objs.size = some _ := Heap.get?_push_of_some _ (Heap.get?_push_of_some _ (Heap.get?_push_size _ rfl))
  have g2 : (zmE s.heap a b).get? (zmA s.heap a).objs.size = some _ := Heap.get?_push_of_some _ (Heap.get?_push_of_some _ (Heap.get?_push_of_some _ (Heap.get?_push_size _ rfl)))
  have g1 : (zmE s.heap a b).get? s.heap.objs.size = some _ := Heap.get?_push_of_some _ (Heap.get?_push_of_some _ (Heap.get?_push_of_some _ (Heap.get?_push_of_some _ (Heap.get?_push_size _ rfl))))
  show _ ∧ _
  rw [z2, z3, z4] at g5
  rw [z1, z2] at g3
  rw [z3] at g4
  rw [z1] at g2
  rw [z4]
  exact ⟨⟨_, g5, rfl⟩, k _ g5 g3 g4 ⟨_, g1, rfl, rfl⟩ ⟨_, g2, rfl, rfl⟩ fun c o x => Heap.get?_push_of_some _ (Heap.get?_push_of_some _ (Heap.get?_push_of_some _ (Heap.get?_push_of_some _ (Heap.get?_push_of_some _ x))))⟩
end
section
open PyProof.Rows
/-- the tuple at a and the list at b, item by item in new pairs -/
def ItzM (K : PySem.W.Frag) (a b : Addr) : It :=
  ⟨fun i H => ∃ (xs ys : List V) (x y : V), SqT K H a xs ∧ SqL K H b ys ∧ xs[i]? = some x ∧ ys[i]? = some y,
    fun i H v H' => ∃ T x y, v = .ref T ∧ H T = none ∧ H' = upd H T (.tup [x, y]) ∧ (∀ xs, SqT K H a xs → xs[i]? = some x) ∧ ∀ ys, SqL K H b ys → ys[i]? = some y,
    fun i H => ∃ xs ys : List V, SqT K H a xs ∧ SqL K H b ys ∧ (xs.length ≤ i ∨ ys.length ≤ i)⟩
theorem turn_zipM {P : Program} {w : World} {K : PySem.W.Frag} {elts : List Expr} {kk : Nat} {tpos : Pos} {a b z T R i j : Addr} (D : ZipApart z T R i j a b) :
    Turn P w K (.Tuple elts kk tpos) (ItzM K a b) [z, T, R, i, j] z (fun n h => IsZip h z T R .none ∧ IsPair h T (.ref i) (.ref j) ∧ (∃ x y, IsPair h R x y) ∧ h.IsTupleIter i a n ∧ h.IsListIter j b n) where
  mem := List.mem_cons_self ..
  obj := fun n h st c hc => by
    obtain ⟨hz, hT, ⟨x, y, hR⟩, ⟨o1, e1, _, d1⟩, ⟨o2, e2, _, d2⟩⟩ := st
    simp only [List.mem_cons, List.mem_nil_iff, or_false] at hc
    rcases hc with rfl | rfl | rfl | rfl | rfl
    · exact ⟨_, hz, fun v q => nomatch q⟩
    · exact ⟨_, hT, fun v q => nomatch q⟩
    · exact ⟨_, hR, fun v q => nomatch q⟩
    · exact ⟨o1, e1, fun v q => by rw [d1] at q; cases q⟩
    · exact ⟨o2, e2, fun v q => by rw [d2] at q; cases q⟩
  keep := fun n h h' st k => by
    obtain ⟨hz, hT, ⟨x, y, hR⟩, h1, h2⟩ := st
    exact ⟨k z (by simp) _ hz, k T (by simp) _ hT, ⟨x, y, k R (by simp) _ hR⟩, h1.at fun o q => k i (by simp) o q, h2.at fun o q => k j (by simp) o q⟩
  item := by
    intro X eP ew eK hc n pins s σ H E I hf st hg
    subst eP ew eK
    obtain ⟨hz, hT, ⟨x0, y0, hR⟩, h1, h2⟩ := st
    obtain ⟨xs, ys, x, y, qx, qy, hx, hy⟩ := hg
    obtain ⟨its, rv, p, _⟩ := I.tuple qx
    obtain ⟨its2, rv2, p2, _⟩ := I.list qy
    obtain ⟨u, hu, ru⟩ := rv.get hx
    obtain ⟨u2, hu2, ru2⟩ := rv2.get hy
    have lz : z < s.heap.objs.size := Heap.lt_size hz
    refine zw_next (wkT X.prog X.w) (wkL X.prog X.w) D hz hT hR h1 h2 p p2.isList (x := u) (y := u2) (by simpa using hu) (by simpa using hu2) fun h' z' R' h1' h2' hN hsz hk => ?_
    refine ⟨_, rfl, wpAny_letOwnedTupleGo_zip (s := { s with heap := h' }) z' fun h'' z'' sb => ?_⟩
    have hN2 : h''.get? s.heap.objs.size = some { cls := .type "tuple", data := .seq #[u, u2] } := (sb.2 _ (Nat.ne_of_gt lz)).trans hN
    have new : ObjOk X.prog X.w (upd H s.heap.objs.size (.tup [x, y])) h'' s.heap.objs.size (.tup [x, y]) := ⟨by show 2 ≤ sizeLine; decide, [u, u2], .cons ru (.cons ru2 .nil), ⟨_, hN2, rfl, _, rfl⟩⟩
    have I1 : Inv X pins σ (upd H s.heap.objs.size (.tup [x, y])) { s with heap := h'' } := I.turnedNew (t' := s.toks) (ch := [z, T, R, i, j])
      (fun c o hb q => (sb.2 c (fun r => hb (by simp [r]))).trans (hk c o (fun r => hb (by simp [r])) (fun r => hb (by simp [r])) (fun r => hb (by simp [r])) (fun r => hb (by simp [r])) q)) hf (Nat.le_refl _) new
    refine ⟨.ref s.heap.objs.size, _, I1, rfl, ⟨_, x, y, rfl, I.hok.fresh (Nat.le_refl _), rfl, fun l hl => by rw [I.tuple_inj hl qx]; exact hx, fun l hl => by rw [I.list_inj hl qy]; exact hy⟩, ⟨z'', ?_, ⟨u, u2, ?_⟩, ?_, ?_⟩, fun c hcm => ?_⟩
    · exact (sb.2 _ D.TIz).trans (hk _ _ D.TIz D.TITO D.TIi1 D.TIi2 hT)
    · exact (sb.2 _ D.TOz).trans R'
    · exact (wkT X.prog X.w).ita h1' fun o q => (sb.2 _ D.i1z).trans q
    · exact (wkL X.prog X.w).ita h2' fun o q => (sb.2 _ D.i2z).trans q
    · have lt : c < s.heap.objs.size := by
        have hc2 := hcm
        simp only [List.mem_cons, List.mem_nil_iff, or_false] at hc2
        rcases hc2 with rfl | rfl | rfl | rfl | rfl
        · exact lz
        · exact Heap.lt_size hT
        · exact Heap.lt_size hR
        · obtain ⟨_, e1, _⟩ := h1; exact Heap.lt_size e1
        · obtain ⟨_, e2, _⟩ := h2; exact Heap.lt_size e2
      rw [upd_ne (Nat.ne_of_lt lt)]
      exact (hf c hcm).1
  done := by
    intro X eP ew eK hc n pins s σ H E I hf st hg
    subst eP ew eK
    obtain ⟨hz, hT, ⟨x0, y0, hR⟩, h1, h2⟩ := st
    obtain ⟨xs, ys, qx, qy, hend⟩ := hg
    obtain ⟨its, rv, p, _⟩ := I.tuple qx
    obtain ⟨its2, rv2, p2, _⟩ := I.list qy
    have l1 := rv.length
    have l2 := rv2.length
    have he : its.toArray[n]? = none ∨ its2.toArray[n]? = none := by
      rcases hend with q | q
      · left; simp; omega
      · right; simp; omega
    exact zw_done (wkT X.prog X.w) (wkL X.prog X.w) (I.ok.hd hc) D hz hT hR h1 h2 p p2.isList he fun h' hk => ⟨rfl, I.turnedL (t' := s.toks) (ch := [z, T, R, i, j])
      (fun c o hb q => hk c o (fun r => hb (by simp [r])) (fun r => hb (by simp [r])) (fun r => hb (by simp [r])) (fun r => hb (by simp [r])) q) hf⟩
  self := fun A n s Q E st h => wpAny_pyIter_zip st.1 h
def iZipM (K : PySem.W.Frag) (ta : TA) : TI := fun σ H R => ta σ H fun vs H1 => ∃ a b xs ys, vs = [.ref a, .ref b] ∧ SqT K H1 a xs ∧ SqL K H1 b ys ∧ R (ItzM K a b) H1
theorem pi_zipM {X : Cx} {e e2 : Expr} {ta : TA} {p pos tpos : Pos} {elts : List Expr} {kk : Nat} (hg : Gl X "zip") (hm : X.mg "zip" = none) (ha : PA X [e, e2] ta)
    (hs : starEach [e, e2] X.env = (false, eval e X.env) :: starEach [e2] X.env := by rfl) (hpl : (backTo pos (starEach [e2] X.env)).any (·.1) = false := by rfl) : PI X (.Tuple elts kk tpos) (.Call (.Name "zip" p) [e, e2] [] pos) (iZipM X.K ta) := by
  refine ⟨fun pins s σ H R I w0 => ?_⟩
  refine Call_ (ld_blt I hg hm PyProof.Rows.boot_zip (PyProof.Rows.callWith_type1 (thn (ha.run pos pins s σ H _ I w0) fun us s1 ⟨vs, H1, I1, r1, q1⟩ => ?_) hs hpl))
  obtain ⟨a, b, xs, ys, ex, qx, qy, q⟩ := q1
  subst ex
  cases r1 with
  | cons r rr =>
    cases rr with
    | cons r' rr =>
      cases rr; cases r; cases r'
      obtain ⟨its, rv, p1, _⟩ := I1.tuple qx
      obtain ⟨its2, rv2, p2, _⟩ := I1.list qy
      obtain ⟨o1, ho1, _⟩ := id p1
      have fr : ∀ c, c ∈ [s1.heap.objs.size + 4, s1.heap.objs.size + 2, s1.heap.objs.size + 3, s1.heap.objs.size, s1.heap.objs.size + 1] → FpOk X pins H1 c := fun c hcm => by
        have e' : c = s1.heap.objs.size + 4 ∨ c = s1.heap.objs.size + 2 ∨ c = s1.heap.objs.size + 3 ∨ c = s1.heap.objs.size ∨ c = s1.heap.objs.size + 1 := by simpa using hcm
        have le : s1.heap.objs.size ≤ c := by
          rcases e' with c | c | c | c | c
          · rw [c]; exact Nat.le_add_right _ _
          · rw [c]; exact Nat.le_add_right _ _
          · rw [c]; exact Nat.le_add_right _ _
          · rw [c]; exact Nat.le_refl _
          · rw [c]; exact Nat.le_add_right _ _
        exact I1.fpOk le (I1.hok.fresh le)
      refine call_zipM (show s1.heap.IsTuple a its.toArray from p1) p2.isList fun h' hz hT hR h1 h2 hk => wpAny_pyIter_zip hz ?_
      have I2 : Inv X pins σ H1 { s1 with heap := h' } := I1.kept (t' := s1.toks) hk
      exact ⟨s1.heap.objs.size + 4, [s1.heap.objs.size + 4, s1.heap.objs.size + 2, s1.heap.objs.size + 3, s1.heap.objs.size, s1.heap.objs.size + 1], _, _, H1, rfl, I2, turn_zipM (PySem.W.ktu_apart s1.heap.objs.size a b (Heap.lt_size ho1) p2.lt), ⟨hz, hT, ⟨_, _, hR⟩, h1, h2⟩, fr, q⟩
/-- a comprehension over zip of a tuple and a list -/
theorem lc_zipM {K : PySem.W.Frag} {a b : Addr} {xs ys : List V} {g : TG} {tt : TT} {te : TE} {vs : List Nat} {σ : L2.St} {H1 : Hp} {D : Addr} {Qd : Hp → Prop} (hlen : xs.length ≤ ys.length) (Pv : Nat → Hp → Prop) (h0 : Pv 0 (upd H1 D (.lst []))) (hl : ∀ i H, Pv i H → SqT K H a xs ∧ SqL K H b ys)
    (hs : ∀ (i : Nat) (x y : V) (T : Addr) (H : Hp), xs[i]? = some x → ys[i]? = some y → Pv i H → H T = none → g (.ref T) (wipe σ vs) (upd H T (.tup [x, y])) fun σ2 H2 => wipe σ2 vs = wipe σ vs ∧ tt σ2 H2 fun b H3 =>
      if b = true then te σ2 H3 fun y H4 => ∃ acc, H4 D = some (.lst acc) ∧ acc.length < sizeLine ∧ Pv (i + 1) (upd H4 D (.lst (acc ++ [y]))) else Pv (i + 1) H3) (hd : ∀ H, Pv xs.length H → Qd H) :
    ∃ W : Nat → Nat → Hp → Prop, (∃ m, W 0 m (upd H1 D (.lst []))) ∧ ∀ i m H, W i m H → ((ItzM K a b).stop i H ∧ Qd H) ∨ ((ItzM K a b).go i H ∧ ∃ Nx : Hp → Prop, (∀ H', Nx H' → ∃ m', m' < m ∧ W (i + 1) m' H') ∧ ∀ x H', (ItzM K a b).yld i H x H' → g x (wipe σ vs) H' fun σ2 H2 => wipe σ2 vs = wipe σ vs ∧ tt σ2 H2 fun b H3 =>
        if b = true then te σ2 H3 fun y H4 => ∃ acc, H4 D = some (.lst acc) ∧ acc.length < sizeLine ∧ Nx (upd H4 D (.lst (acc ++ [y]))) else Nx H3) := by
  refine ⟨fun i m H => m = xs.length - i ∧ i ≤ xs.length ∧ Pv i H, ⟨xs.length, by omega, Nat.zero_le _, h0⟩, ?_⟩
  rintro i m H ⟨rfl, hi, p⟩
  obtain ⟨qx, qy⟩ := hl i H p
  by_cases c : i < xs.length
  · have hx : xs[i]? = some xs[i] := List.getElem?_eq_getElem c
    have hy : ys[i]? = some ys[i] := List.getElem?_eq_getElem (by omega)
    refine .inr ⟨⟨xs, ys, _, _, qx, qy, hx, hy⟩, Pv (i + 1), fun H' p' => ⟨xs.length - (i + 1), by omega, rfl, c, p'⟩, fun v H' yl => ?_⟩
    obtain ⟨T, x', y', rfl, hT, rfl, f1, f2⟩ := yl
    exact hs i x' y' T H (f1 xs qx) (f2 ys qy) p hT
  · have e : i = xs.length := by omega
    subst e
    exact .inl ⟨⟨xs, ys, qx, qy, .inl (Nat.le_refl _)⟩, hd H p⟩
end
/-! ### one request, by the law -/
def mixE (bs : List Tri) (ss : List StD) (t : Int) (f : Bool) (j k i : Nat) : StD := match bs[i]?, ss[i]? with
  | some b, some s => if i < j then (if f = true then okS b s else badS b s t) else if i < k then hfS s else s
  | _, _ => ("closed", 0)
def mixS (bs : List Tri) (ss : List StD) (t : Int) (f : Bool) (j k : Nat) : List StD := (List.range bs.length).map (mixE bs ss t f j k)
theorem mixE_is {bs : List Tri} {ss : List StD} {t : Int} {f : Bool} {j k i : Nat} {b : Tri} {s : StD} (hb : bs[i]? = some b) (hs : ss[i]? = some s) : mixE bs ss t f j k i = if i < j then (if f = true then okS b s else badS b s t) else if i < k then hfS s else s := by
  unfold mixE
  rw [hb, hs]
theorem mixS_get {bs : List Tri} {ss : List StD} {t : Int} {f : Bool} {j k i : Nat} (h : i < bs.length) : (mixS bs ss t f j k)[i]? = some (mixE bs ss t f j k i) := by
  unfold mixS
  rw [List.getElem?_map, List.getElem?_range h]
  rfl
theorem mixS_len {bs : List Tri} {ss : List StD} {t : Int} {f : Bool} {j k : Nat} : (mixS bs ss t f j k).length = bs.length := by
  unfold mixS
  rw [List.length_map, List.length_range]
theorem map_set {α : Type} {n : Nat} {f g : Nat → α} {i : Nat} {v : α} (hi : i < n) (h1 : v = g i) (h2 : ∀ j, j ≠ i → j < n → f j = g j) : ((List.range n).map f).set i v = (List.range n).map g := by
  refine List.ext_getElem? fun j => ?_
  rw [List.getElem?_set, List.length_map, List.length_range, List.getElem?_map, List.getElem?_map]
  by_cases c : i = j
  · subst c
    rw [if_pos rfl, if_pos hi, List.getElem?_range hi, h1]
    rfl
  · rw [if_neg c]
    by_cases d : j < n
    · rw [List.getElem?_range d]
      exact congrArg some (h2 j (fun e => c e.symm) d)
    · rw [List.getElem?_eq_none (by rw [List.length_range]; omega)]
      rfl
theorem mixS_0 {bs : List Tri} {ss : List StD} {t : Int} {f : Bool} (h : ss.length = bs.length) : mixS bs ss t f 0 0 = ss := by
  refine List.ext_getElem? fun j => ?_
  by_cases c : j < bs.length
  · have hb : bs[j]? = some bs[j] := List.getElem?_eq_getElem c
    have hs : ss[j]? = some (ss[j]'(by omega)) := List.getElem?_eq_getElem (by omega)
    rw [mixS_get c, mixE_is hb hs, hs, if_neg (Nat.not_lt_zero j), if_neg (Nat.not_lt_zero j)]
  · rw [List.getElem?_eq_none (by rw [mixS_len]; omega), List.getElem?_eq_none (by omega)]
theorem mixS_half {bs : List Tri} {ss : List StD} {t : Int} {f : Bool} {i : Nat} {b : Tri} {s : StD} (hb : bs[i]? = some b) (hs : ss[i]? = some s) : (mixS bs ss t f 0 i).set i (hfS s) = mixS bs ss t f 0 (i + 1) := by
  refine map_set (List.getElem?_eq_some_iff.mp hb).1 ?_ fun j ne hj => ?_
  · rw [mixE_is hb hs, if_neg (Nat.not_lt_zero i), if_pos (Nat.lt_succ_self i)]
  · unfold mixE
    cases bs[j]? with
    | none => rfl
    | some b' =>
      cases ss[j]? with
      | none => rfl
      | some s' =>
        show (if j < 0 then _ else if j < i then _ else _) = (if j < 0 then _ else if j < i + 1 then _ else _)
        rw [if_neg (Nat.not_lt_zero j), if_neg (Nat.not_lt_zero j)]
        by_cases c : j < i
        · rw [if_pos c, if_pos (show j < i + 1 by omega)]
        · rw [if_neg c, if_neg (show ¬ j < i + 1 by omega)]
theorem mixS_fin {bs : List Tri} {ss : List StD} {t : Int} {f : Bool} {j k : Nat} {b : Tri} {s : StD} (hb : bs[j]? = some b) (hs : ss[j]? = some s) : (mixS bs ss t f j k).set j (if f = true then okS b s else badS b s t) = mixS bs ss t f (j + 1) k := by
  refine map_set (List.getElem?_eq_some_iff.mp hb).1 ?_ fun i ne hi => ?_
  · rw [mixE_is hb hs, if_pos (Nat.lt_succ_self j)]
  · unfold mixE
    cases bs[i]? with
    | none => rfl
    | some b' =>
      cases ss[i]? with
      | none => rfl
      | some s' =>
        show (if i < j then _ else _) = (if i < j + 1 then _ else _)
        by_cases c : i < j
        · rw [if_pos c, if_pos (show i < j + 1 by omega)]
        · rw [if_neg c, if_neg (show ¬ i < j + 1 by omega)]
theorem mixS_same {bs : List Tri} {ss : List StD} {t : Int} {f g : Bool} {k : Nat} : mixS bs ss t f 0 k = mixS bs ss t g 0 k := by
  refine List.map_congr_left fun i _ => ?_
  unfold mixE
  cases bs[i]? with
  | none => rfl
  | some b' =>
    cases ss[i]? with
    | none => rfl
    | some s' => rfl
theorem mixS_keep {bs : List Tri} {ss : List StD} {t : Int} {f : Bool} {i : Nat} {b : Tri} {s : StD} (hb : bs[i]? = some b) (hs : ss[i]? = some s) (h : hfS s = s) : mixS bs ss t f 0 i = mixS bs ss t f 0 (i + 1) := by
  have hi := (List.getElem?_eq_some_iff.mp hb).1
  rw [← mixS_half hb hs, h]
  refine (List.ext_getElem? fun j => ?_)
  rw [List.getElem?_set, mixS_len]
  by_cases c : i = j
  · subst c
    rw [if_pos rfl, if_pos hi, mixS_get hi, mixE_is hb hs, if_neg (Nat.not_lt_zero i), if_neg (Nat.lt_irrefl i)]
  · rw [if_neg c]
theorem paired_set {α β : Type} {F : α → β → Prop} : ∀ {xs : List α} {ys : List β} (i : Nat) {x : α} {y : β}, Paired F xs ys → F x y → Paired F (xs.set i x) (ys.set i y)
  | _, _, _, _, _, .nil, _ => .nil
  | _, _, 0, _, _, .cons _ t, h => .cons h t
  | _, _, i + 1, _, _, .cons r t, h => .cons r (paired_set i t h)
theorem sts_kp {H H' : Hp} (k : ∀ b xs, H b = some (.tup xs) → H' b = some (.tup xs)) {xs : List V} {ss : List StD} (h : Sts H xs ss) : Sts H' xs ss := L2.Paired.mapP h fun _ _ ⟨a, e, h⟩ => ⟨a, e, k _ _ h⟩
theorem ixN_of {n j : Nat} (h : j < n) : ixN n (j : Int) = some j := by
  unfold ixN
  rw [if_pos (show (0 : Int) ≤ j by omega), if_pos (show (j : Int) < n by omega)]
  congr 1
theorem outV_n (n : Nat) (b : Bool) : outV n n b = if b = true then [.str "failed"] else [.str "served"] := by
  unfold outV
  rw [if_neg (Nat.lt_irrefl n)]
theorem outV_k {n k : Nat} (h : k < n) (b : Bool) : outV n k b = [.str "rejected", .int k] := if_pos h
def outD (n k : Nat) (inS : Bool) : PyData := if k < n then .tuple [.str "rejected", .int k] else if inS then .tuple [.str "failed"] else .tuple [.str "served"]
theorem outV_dp {K : PySem.W.Frag} {H : Hp} {p : Addr} {n k : Nat} {b : Bool} (h : H p = some (.tup (outV n k b))) : Dp K H (.ref p) (outD n k b) := by
  unfold outV at h
  unfold outD
  split
  · rename_i c
    rw [if_pos c] at h
    exact .tup (SqT.of h) (.cons (.str _) (.cons (.int _) .nil))
  · rename_i c
    rw [if_neg c] at h
    cases b with
    | true => exact .tup (SqT.of h) (.cons (.str _) .nil)
    | false => exact .tup (SqT.of h) (.cons (.str _) .nil)
theorem tup_sh {ds : List PyData} (h1 : PyData.canLayAll0 ds = true) (h2 : PyData.depthAll ds ≤ 10) : SeqAt.shaped (.tuple ds) = true := by
  refine Bool.and_eq_true_iff.mpr ⟨?_, decide_eq_true ?_⟩
  · rw [PyData.canLay0]
    exact h1
  · rw [PyData.depth]
    omega
theorem sok_R : PyData.strOk "rejected" = true := by decide +kernel
theorem sok_S : PyData.strOk "served" = true := by decide +kernel
theorem sok_F : PyData.strOk "failed" = true := by decide +kernel
theorem outD_sh (n k : Nat) (b : Bool) : SeqAt.shaped (outD n k b) = true := by
  unfold outD
  split
  · exact tup_sh (by simp [PyData.canLayAll0, PyData.canLay0, sok_R]) (by simp [PyData.depthAll, PyData.depth])
  · cases b <;> exact tup_sh (by simp [PyData.canLayAll0, PyData.canLay0, sok_S, sok_F]) (by simp [PyData.depthAll, PyData.depth])
theorem served_sh : SeqAt.shaped (.tuple [.str "served"]) = true := tup_sh (by simp [PyData.canLayAll0, PyData.canLay0, sok_S]) (by simp [PyData.depthAll, PyData.depth])
theorem outD_served (n k : Nat) (b : Bool) (h : k ≤ n) : PyData.eqv (outD n k b) (.tuple [.str "served"]) = (decide (k = n) && !b) := by
  unfold outD
  split
  · rename_i c
    rw [decide_eq_false (show ¬ k = n by omega)]
    rfl
  · rw [decide_eq_true (show k = n by omega)]
    cases b <;> rfl
theorem outD_eq (n k : Nat) (b : Bool) : PyData.eqv (outD n k b) (outD n k b) = true := by
  unfold outD
  split
  · simp [PyData.eqv, PyData.eqvAll]
  · cases b <;> simp [PyData.eqv, PyData.eqvAll]
def spOne1 : Sp := fun vs H Q _ => ∃ a l xs ys bs ss t good, vs = [.ref a, .ref l, .int t, .bl good] ∧ H a = some (.lst xs) ∧ Brs H xs bs ∧ H l = some (.lst ys) ∧ Sts H ys ss ∧ a ≠ l ∧ ss.length = bs.length ∧ bs.length ≤ 12 ∧ ∀ (k : Nat) td H' ys', k ≤ bs.length → (∀ (i : Nat) (b : Tri) (s : StD), i < k → bs[i]? = some b → ss[i]? = some s → psB b s t) → (∀ (b : Tri) (s : StD), bs[k]? = some b → ss[k]? = some s → ¬ psB b s t) →
  H' td = some (.tup (outV bs.length k (!good))) → H' l = some (.lst ys') → Sts H' ys' (mixS bs ss t (decide (k = bs.length) && good) k k) → Kp l H H' → H td = none → Q (.ref td) H'
/-! ### defs that may raise -/
/-- a def that may raise, called by its name -/
structure CalX (P : Program) (w : World) (K : PySem.W.Frag) (mg : Str → Option Value) (base : Heap) (x : Str) (k : Nat) (f : Addr) (ps : List Str) (sp : Sp) : Prop where
  ex : ∃ fd, FnOk P w K mg base (L2.CX P w) k f fd ps sp ∧ Binds K fd ps []
  g : mg x = some (.ref f)
  kp : PySem.W.keepIn K (.ref f) = true
theorem Dfn.calX {P : Program} {w : World} {K : PySem.W.Frag} {mg : Str → Option Value} {base : Heap} {x : Str} {st : Stmt} {f : Addr} {ps : List Str} {k : Nat} {sp : Sp} (D : Dfn K mg x st f ps) (h : ∀ fd, Fun K x x st f fd → FnOk P w K mg base (L2.CX P w) k f fd ps sp) : CalX P w K mg base x k f ps sp := by
  obtain ⟨fd, F, b⟩ := D.ex
  exact ⟨⟨fd, h fd F, b⟩, D.g, F.kp⟩
theorem pe_cX {X : Cx} {x : Str} {k : Nat} {f : Addr} {ps : List Str} {sp : Sp} {t : TA} {e : Expr} {es : List Expr} {p pos : Pos} {E : L2.St → XK} (c : CalX X.prog X.w X.K X.mg X.base x k f ps sp) (hr : Room k X.A) (hg : Gl X x) (hx : ∀ σ, L2.PassesAt (L2.CX X.prog X.w) X σ (E σ))
    (ha : PA X (e :: es) t) (hdb : (x == ("__debug__" : Str)) = false := by decide) (he : starEach (e :: es) X.env = (false, eval e X.env) :: starEach es X.env := by rfl) (hpl : (backTo pos (starEach es X.env)).any (·.1) = false := by rfl) :
    PE X (.Call (.Name x p) (e :: es) [] pos) (L2.tCallS sp E t) := by
  obtain ⟨fd, F, b⟩ := c.ex
  exact L2.pe_callS F hr hg c.g c.kp b hx ha hdb he hpl
/-- the making of an error with one field -/
def spEI1 (C : Addr) (f : Str) : Sp := fun vs H Q _ => ∃ a v, vs = [.ref a, v] ∧ H a = some (L2.exo a C none) ∧ ∀ dx, H dx = none → dx ≠ a → Q .non (upd (upd H dx (L2.exd dx [(f, v)])) a (L2.exo a C (some dx)))
theorem raise1 {C : Addr} {f : Str} {v : V} {H : Hp} {Q E : XK} (k : ∀ d H', H' d = some (.xd [(f, v)]) → Same H H' → Q (.ref C) (some d) H') : ∀ a, H a = none → spEI1 C f [.ref a, v] (upd H a (L2.exo a C none))
    (fun u H2 => u = .non ∧ ∃ (d : Addr) (fs : List (Str × V)), H2 a = some (L2.exo a C (some d)) ∧ H2 d = some (L2.exd d fs) ∧ H d = none ∧ Q (.ref C) (some d) (upd (L2.del H2 a) d (.xd fs))) E := fun a na => by
  refine ⟨a, v, rfl, upd_same, fun dx nx ne => ⟨rfl, dx, [(f, v)], upd_same, by rw [upd_ne ne, upd_same], by rwa [upd_ne ne] at nx, k dx _ upd_same fun b o e => ?_⟩⟩
  rw [upd_ne ne] at nx
  have ba : b ≠ a := ne_of_none e na
  have bd : b ≠ dx := ne_of_none e nx
  rw [upd_ne bd, L2.del_ne ba, upd_ne ba, upd_ne bd, upd_ne ba]
  exact e
/-- in a suite the term may not speak of the suite's own context -/
theorem ix_listK {X : Cx} {K : PySem.W.Frag} (hK : X.K = K) : IxR X (rIxL K) := by
  subst hK
  exact ix_list
theorem mt_dcountK {X : Cx} {K : PySem.W.Frag} (hK : X.K = K) (hu : X.A.units + 64 < cLine) : MtR X "list.count" (rCntD K) := by
  subst hK
  exact mt_dcount hu
/-! ### a suite that is told of any error of the text -/
def rIsZ (K : PySem.W.Frag) (a : Addr) (cls : Value) (d : Option Addr) : List V → Hp → VK → Prop := fun xs H Q => ∃ D dd : Addr, cls = .ref D ∧ d = some dd ∧ IsC K D ∧ rIsX K D a dd xs H Q
theorem call_isZ {X : Cx} {K : PySem.W.Frag} {a : Addr} {cls : Value} {d : Option Addr} {oe : Obj} {pn : List (Addr × Obj)} (hK : X.K = K) (hz : L2.Zc cls d oe) (hf : ∃ vs, oe.data = .fields vs) : CallR (X.suite a ((a, oe) :: pn)) (.builtin "isinstance") (rIsZ K a cls d) := by
  subst hK
  rintro pins s σ H xs us Q I r ⟨D, dd, rfl, rfl, T, h⟩
  exact call_isX T hz hf pins s σ H xs us Q I r h
def rIsTZ (K : PySem.W.Frag) (a : Addr) (cls : Value) (d : Option Addr) : List V → Hp → VK → Prop := fun xs H Q => ∃ D : Addr, IsC K D ∧ rIsT K D a cls d xs H Q
theorem call_isTZ {X : Cx} {K : PySem.W.Frag} {a : Addr} {cls : Value} {d : Option Addr} {oe : Obj} {pn : List (Addr × Obj)} (hK : X.K = K) (hz : L2.Zc cls d oe) (hf : ∃ vs, oe.data = .fields vs) : CallR (X.suite a ((a, oe) :: pn)) (.builtin "isinstance") (rIsTZ K a cls d) := by
  subst hK
  rintro pins s σ H xs us Q I r ⟨D, T, h⟩
  exact call_isT T hz hf pins s σ H xs us Q I r h
def tXfZ (K : PySem.W.Frag) (a : Addr) (cls : Value) (d : Option Addr) (f : Str) (te : TE) : TE := fun σ H Q => ∃ C : Addr, L2.XfC K C ∧ PySem.W.findIn K (.ref C) f = some none ∧ L2.tXf a cls d C f te σ H Q
theorem pe_xfZ {X : Cx} {K : PySem.W.Frag} {a : Addr} {oe : Obj} {cls : Value} {d : Option Addr} {pn : List (Addr × Obj)} {e : Expr} {te : TE} {pos : Pos} {n : Str} (hK : X.K = K) (hz : L2.Zc cls d oe) (hf : ∃ vs, oe.data = .fields vs) (he : PE (X.suite a ((a, oe) :: pn)) e te) (hb : attributeBase e n X.env (eval e X.env) = eval e X.env := by rfl) :
    PE (X.suite a ((a, oe) :: pn)) (.Attribute e n pos) (tXfZ K a cls d n te) := by
  subst hK
  refine ⟨fun pins s σ H Q I ⟨C, T, no, h⟩ => ?_⟩
  exact (L2.pe_xf T no hz hf he hb).run pins s σ H Q I h
/-- a method of a builtin, the term over a K of its own -/
theorem pe_bmK {X : Cx} {K : PySem.W.Frag} {o e : Expr} {es : List Expr} {to : TE} {t : TA} {name : Str} {apos cpos : Pos} {T id : String} {r : V → List V → Hp → VK → Prop} (hK : X.K = K) (pa : PlainAttrs T) (slot : Slot T name id) (hty : typeOf (.builtin id) = pure (.type "method_descriptor")) (hm : L2.MtR X id r) (ho : PE X o to) (ha : PA X (e :: es) t)
    (hbase : attributeBase o name X.env (eval o X.env) = eval o X.env := by rfl)
    (hfew : ((backTo cpos (starEach (e :: es) X.env)).all (fun x => !x.1) && (backToKw cpos (keywordEach [] X.env)).all (fun x => x.1.isSome) && decide ((e :: es).length + ([] : List Keyword).length + (if ([] : List Keyword).isEmpty then 0 else 1) < 30)) = true := by rfl)
    (hline : (apos.endLine == cpos.line) = true := by rfl) (hs : starEach (e :: es) X.env = (false, eval e X.env) :: starEach es X.env := by rfl) (hplain : (backTo cpos (starEach es X.env)).any (·.1) = false := by rfl) :
    PE X (.Call (.Attribute o name apos) (e :: es) [] cpos) (L2.tBM K T r to t) := by
  subst hK
  exact pe_bm pa slot hty hm ho ha hbase hfew hline hs hplain
theorem clsIn_of {K : PySem.W.Frag} {B : Addr} (h : PySem.W.hasDictIn K B = true) : (PySem.W.clsIn K B).isSome = true := by
  obtain ⟨cd, hc, _⟩ := PySem.W.any_some h
  rw [hc] <;> rfl
/-- whether the error D is a B -/
theorem kit_of {K : PySem.W.Frag} {D B : Addr} {b : Bool} (xB : L2.XfC K B) (tB : PySem.W.typeIn K (.ref B) = some (.type "type")) (sd : PySem.W.subIn K (.ref D) (.ref D) = some true) (s : PySem.W.subIn K (.ref D) (.ref B) = some b) : PySem.W.kitOne K (.ref D) (.ref B) = some b := by
  unfold PySem.W.kitOne
  by_cases e : D = B
  · subst e
    rw [sd] at s
    rw [if_pos (beq_self_eq_true _)]
    exact s
  · rw [if_neg (by simpa using e)]
    have e2 : ((PySem.W.clsIn K B).isSome && PySem.W.typeIn K (.ref B) == some (.type "type")) = true := by rw [clsIn_of xB.hdC, tB] <;> rfl
    show (if ((PySem.W.clsIn K B).isSome && PySem.W.typeIn K (.ref B) == some (.type "type")) = true then PySem.W.subIn K (.ref D) (.ref B) else none) = some b
    rw [if_pos e2]
    exact s
theorem kit_ar {K : PySem.W.Frag} {D : Addr} {b : Bool} {x : String} (hm : PySem.W.kitMeta x = true) (s : PySem.W.subIn K (.ref D) (.type x) = some b) : PySem.W.kitOne K (.ref D) (.type x) = some b := by
  unfold PySem.W.kitOne
  rw [if_neg (by intro z; exact absurd (beq_iff_eq.mp z) (by intro q; cases q))]
  show (if PySem.W.kitMeta x = true then PySem.W.subIn K (.ref D) (.type x) else none) = some b
  rw [if_pos hm]
  exact s
/-- the text of repr, of what has a plain one -/
inductive ReprV : V → Str → Prop
  | int (i : Int) (h : i.natAbs.log2 < 1920) : ReprV (.int i) (toString i : String)
  | non : ReprV .non "None"
  | bl (b : Bool) : ReprV (.bl b) (if b then "True" else "False")
  | str (x : Str) (h : (reprText x).length ≤ sizeLine) : ReprV (.str x) (reprText x)
theorem call_reprP {X : Cx} : CallR X (.builtin "repr") (fun xs H Q => ∃ v s, xs = [v] ∧ ReprV v s ∧ Q (.str s) H) := by
  rintro pins s σ H xs us Q I r ⟨v, x, rfl, h, q⟩
  match us, r with
  | [_], .cons rx .nil =>
    cases h with
    | int i h =>
      obtain ⟨t, rfl⟩ := rx
      exact PySem.P.repr_of_int h ⟨.str _, H, I.tok _, ⟨_, rfl⟩, q⟩
    | non =>
      cases rx
      exact PySem.P.repr_of_none ⟨.str _, H, I.tok _, ⟨_, rfl⟩, q⟩
    | bl b =>
      cases rx
      cases b <;> exact PySem.P.repr_of_bool ⟨.str _, H, I.tok _, ⟨_, rfl⟩, q⟩
    | str x h =>
      obtain ⟨t, rfl⟩ := rx
      exact PySem.P.repr_of_str ⟨.str _, H, I.tok _, ⟨_, rfl⟩, q⟩ h
theorem exm_of {K : PySem.W.Frag} {D B : Addr} {b : Bool} (xB : L2.XfC K B) (tB : PySem.W.typeIn K (.ref B) = some (.type "type")) (s : PySem.W.subIn K (.ref D) (.ref B) = some b) : PySem.W.exmOne K (.ref D) (.ref B) = some b := by
  unfold PySem.W.exmOne
  rw [if_pos (by rw [xB.exC] <;> rfl)]
  have e2 : ((PySem.W.clsIn K B).isSome && PySem.W.typeIn K (.ref B) == some (.type "type")) = true := by rw [clsIn_of xB.hdC, tB] <;> rfl
  show (if ((PySem.W.clsIn K B).isSome && PySem.W.typeIn K (.ref B) == some (.type "type")) = true then PySem.W.subIn K (.ref D) (.ref B) else none) = some b
  rw [if_pos e2]
  exact s
/-! ### defs in which lambdas are made -/
theorem DfnT.cal {P : Program} {w : World} {K : PySem.W.Frag} {mg : Str → Option Value} {base : Heap} {x : Str} {st : Stmt} {f c : Addr} {ps : List Str} {k : Nat} {sp : Sp} (D : DfnT K mg x st f c ps) (h : ∀ fd, FunT K x x st f c fd → FnOk P w K mg base CX0 k f fd ps sp) : Cal P w K mg base x k f ps sp := by
  obtain ⟨fd, F, b⟩ := D.ex
  exact ⟨⟨fd, h fd F, b⟩, D.g, F.kp⟩
/-- x(lambda: body), x a def of the text -/
theorem pe_lamc {X : Cx} {T : List (Addr × Str)} {TT : (XK → Hp → VK → Prop) → Hp → VK → Prop} {x a : Str} {g c P : Addr} {k : Nat} {st : Stmt} {Ng : List Str} {params : Arguments} {body : Expr} {scope : Scope} {t : XK → TE} {p lpos pos : Pos} (D : Dfn X.K X.mg x st g [a]) (Sg : FnScope Ng [a] (defScope st)) (hNg : Ng[0]? = some a) (hva : L2.Vis (defScope st) a)
    (hG : ∀ cdv : Value, LamX.GivesTo X Ng x (defScope st) g cdv (defBody st) a (X.env.qual ++ "<lambda>") TT) (TB : LamX.TabB X.base X.mg c P) (hcode : X.env.code = .ref c) (hmT : (P, X.env.qual ++ "<lambda>") ∈ T) (hu : ∀ p ∈ T, p.1 = P → p.2 = X.env.qual ++ "<lambda>") (hr : Room (k + 2) X.A) (Ls : LamX.LamS X.env.scope scope) (hdef : defaultsOf params X.env = ([], []))
    (hbind : ∀ (q : Str) (cl : List (Str × Addr)) (pm cv ctv : Value), bindArgs (PySem.W.kla_fn "<lambda>" q params body scope cl pm cv ctv) ⟨[], []⟩ = pure [])
    (hbody : ∀ (A : Around) (outer : List Env) (s : Shared) (H : Hp) (E : XK) (f c' : Addr), Room k (A.deeper (LamX.lamEnv X scope s.heap.objs.size f c')) → PE (LamX.lamCx X A outer s H E scope f c') body (t E))
    (hg : Gl X x := by rfl) (hdb : (x == ("__debug__" : Str)) = false := by decide) (hd : (a == ("__debug__" : Str)) = false := by decide) (hcd : (a == ("__classdict__" : Str)) = false := by decide) :
    PE X (.Call (.Name x p) [.Lambda params body scope lpos] [] pos) (LamX.tLam T TT t) := by
  obtain ⟨fd, F, b⟩ := D.ex
  obtain ⟨oc, od, kV, doc, pm, an, cdv, ct, osl, rfl, lk, hc⟩ := F.ex
  exact LamX.pe_lamcall hg D.g F.kp lk hc b Sg hNg hva (hG cdv) TB hcode hmT hu hr Ls hdef hbind hbody hdb hd hcd
/-- what stays of a heap over calls that make lambdas -/
theorem ExtN.lst {H H' : Hp} (e : LamX.ExtN H H') {a : Addr} {xs : List V} (h : H a = some (.lst xs)) : H' a = some (.lst xs) := e _ _ h fun _ z => nomatch z
theorem mk_dfnT {K : PySem.W.Frag} {h : Heap} {mg : Str → Option Value} {x : Str} {st : Stmt} {f c : Addr} {oc : Value} {od an : Option Addr} {osl : Array (Option Value)} {kV doc pm ct : Value} {ps : List Str} (X : K.In h) (G : h.Ns mainGlobals mg) (g : PySem.W.nsIn K mainGlobals x = some (some (.ref f)))
    (l : K.lookup f = some ⟨oc, od, .func (PySem.W.fnOf x x (defArgs st) (defBody st) (defScope st) .none kV doc pm an (.ref c) ct), osl⟩) (cd : PySem.W.codeIn K (.ref c) x = true) (k : PySem.W.keepIn K (.ref f) = true)
    (hb : ∀ (kV doc pm : Value) (an : Option Addr) (cdv ct : Value) (us : List Value), us.length = ps.length → bindArgs (PySem.W.fnOf x x (defArgs st) (defBody st) (defScope st) .none kV doc pm an cdv ct) ⟨us, []⟩ = pure (ps.zip us)) : DfnT K mg x st f c ps :=
  ⟨⟨_, ⟨⟨oc, od, kV, doc, pm, an, ct, osl, rfl, l, cd⟩, k⟩, .all (hb kV doc pm an (.ref c) ct)⟩, PySem.W.mg_of X G g⟩
/-- what the end knows of a table and its code object -/
def TabE (K : PySem.W.Frag) (h : Heap) (c P : Addr) : Prop := h.get? P = some { cls := .none, data := .fields #[] } ∧ PySem.W.codeHdIn K c P = true ∧ K.lookup P = none
theorem tabE_of {K : PySem.W.Frag} {h : Heap} {c P : Addr} (h1 : h.get? P = some (PySem.W.tabObj #[])) (h2 : PySem.W.codeHdIn K c P = true) (h3 : K.lookup P = none) : TabE K h c P := ⟨h1, h2, h3⟩
/-! ### the making of errors -/
def spEI2 (C : Addr) (f g : Str) : Sp := fun vs H Q _ => ∃ a v u, vs = [.ref a, v, u] ∧ H a = some (L2.exo a C none) ∧ ∀ dx, H dx = none → dx ≠ a → Q .non (upd (upd (upd H dx (L2.exd dx [(f, v)])) a (L2.exo a C (some dx))) dx (L2.exd dx [(g, u), (f, v)]))
section
variable {P : Program} {w : World} {K : PySem.W.Frag} {mg : Str → Option Value} {base : Heap} {L : LA}
abbrev N_InvalidRowinit : List Str := ["self", "part", "at"]
theorem sc_InvalidRowinit : FnScope N_InvalidRowinit ["self", "part", "at"] (defScope st_InvalidRow_init) := ⟨rfl, rfl, rfl, by decide +kernel, rfl, by decide +kernel, by decide +kernel⟩
theorem fn_InvalidRowinit (T : LX K mg L) {fd : FuncData} (F : Fun K "__init__" "InvalidRow.__init__" st_InvalidRow_init L.i_InvalidRow fd) : FnOk P w K mg base CX0 1 L.i_InvalidRow fd ["self", "part", "at"] (spEI2 L.e_InvalidRow "part" "at") := by
  have nd := sc_InvalidRowinit.nd
  refine F.ok sc_InvalidRowinit (fun vs H Q E h => ?_) (fun cdv A outer S H vs Q E hr h => ?_)
  · obtain ⟨a, v, v2, rfl, _⟩ := h
    rfl
  · obtain ⟨a, v, v2, rfl, ha, k⟩ := h
    refine ⟨_, (pss_cons (ps_ae (pv 0) (pv 1))
       (pss_one (ps_ae (pv 0) (pv 2)))), ?_⟩
    exact ⟨_, rfl, _, rfl, a, L.e_InvalidRow, rfl, T.ae_InvalidRow, T.ne_InvalidRow_part, .inl ⟨ha, fun dx nx ne => ⟨_, rfl, _, rfl, a, L.e_InvalidRow, rfl, T.ae_InvalidRow, T.ne_InvalidRow_at, .inr ⟨dx, _, upd_same, by rw [upd_ne ne, upd_same], (by show 1 ≤ 900; decide), k dx nx ne⟩⟩⟩⟩
end
theorem mk_InvalidRow {X : Cx} {L : LA} (T : LX X.K X.mg L) (hr : Room 2 X.A) {e e2 : Expr} {ta : TA} {p pos : Pos} (hg : Gl X "InvalidRow") (ha : PA X [e, e2] ta)
    (he : starEach (e :: [e2]) X.env = (false, eval e X.env) :: starEach [e2] X.env := by rfl) (hpl : (backTo pos (starEach [e2] X.env)).any (·.1) = false := by rfl) :
    L2.PMk X (.Call (.Name "InvalidRow" p) [e, e2] [] pos) (L2.tMkO L.e_InvalidRow (spEI2 L.e_InvalidRow "part" "at") [] ta) := by
  obtain ⟨fd, F, b⟩ := T.in_InvalidRow
  exact pmk_ae T.ae_InvalidRow T.hi_InvalidRow T.ti_InvalidRow (fn_InvalidRowinit T F) hr b .nil pass0 hg T.ge_InvalidRow ha (by decide) he hpl
section
variable {P : Program} {w : World} {K : PySem.W.Frag} {mg : Str → Option Value} {base : Heap} {L : LA}
abbrev N_InvalidOutagesinit : List Str := ["self", "at"]
theorem sc_InvalidOutagesinit : FnScope N_InvalidOutagesinit ["self", "at"] (defScope st_InvalidOutages_init) := ⟨rfl, rfl, rfl, by decide +kernel, rfl, by decide +kernel, by decide +kernel⟩
theorem fn_InvalidOutagesinit (T : LX K mg L) {fd : FuncData} (F : Fun K "__init__" "InvalidOutages.__init__" st_InvalidOutages_init L.i_InvalidOutages fd) : FnOk P w K mg base CX0 1 L.i_InvalidOutages fd ["self", "at"] (spEI1 L.e_InvalidOutages "at") := by
  have nd := sc_InvalidOutagesinit.nd
  refine F.ok sc_InvalidOutagesinit (fun vs H Q E h => ?_) (fun cdv A outer S H vs Q E hr h => ?_)
  · obtain ⟨a, v, rfl, _⟩ := h
    rfl
  · obtain ⟨a, v, rfl, ha, k⟩ := h
    refine ⟨_, (pss_one (ps_ae (pv 0) (pv 1))), ?_⟩
    exact ⟨_, rfl, _, rfl, a, L.e_InvalidOutages, rfl, T.ae_InvalidOutages, T.ne_InvalidOutages_at, .inl ⟨ha, fun dx nx ne => k dx nx ne⟩⟩
end
theorem mk_InvalidOutages {X : Cx} {L : LA} (T : LX X.K X.mg L) (hr : Room 2 X.A) {e : Expr} {ta : TA} {p pos : Pos} (hg : Gl X "InvalidOutages") (ha : PA X [e] ta)
    (he : starEach (e :: []) X.env = (false, eval e X.env) :: starEach [] X.env := by rfl) (hpl : (backTo pos (starEach [] X.env)).any (·.1) = false := by rfl) :
    L2.PMk X (.Call (.Name "InvalidOutages" p) [e] [] pos) (L2.tMkO L.e_InvalidOutages (spEI1 L.e_InvalidOutages "at") [] ta) := by
  obtain ⟨fd, F, b⟩ := T.in_InvalidOutages
  exact pmk_ae T.ae_InvalidOutages T.hi_InvalidOutages T.ti_InvalidOutages (fn_InvalidOutagesinit T F) hr b .nil pass0 hg T.ge_InvalidOutages ha (by decide) he hpl
section
variable {P : Program} {w : World} {K : PySem.W.Frag} {mg : Str → Option Value} {base : Heap} {L : LA}
abbrev N_InvalidBoundinit : List Str := ["self", "part"]
theorem sc_InvalidBoundinit : FnScope N_InvalidBoundinit ["self", "part"] (defScope st_InvalidBound_init) := ⟨rfl, rfl, rfl, by decide +kernel, rfl, by decide +kernel, by decide +kernel⟩
theorem fn_InvalidBoundinit (T : LX K mg L) {fd : FuncData} (F : Fun K "__init__" "InvalidBound.__init__" st_InvalidBound_init L.i_InvalidBound fd) : FnOk P w K mg base CX0 1 L.i_InvalidBound fd ["self", "part"] (spEI1 L.e_InvalidBound "part") := by
  have nd := sc_InvalidBoundinit.nd
  refine F.ok sc_InvalidBoundinit (fun vs H Q E h => ?_) (fun cdv A outer S H vs Q E hr h => ?_)
  · obtain ⟨a, v, rfl, _⟩ := h
    rfl
  · obtain ⟨a, v, rfl, ha, k⟩ := h
    refine ⟨_, (pss_one (ps_ae (pv 0) (pv 1))), ?_⟩
    exact ⟨_, rfl, _, rfl, a, L.e_InvalidBound, rfl, T.ae_InvalidBound, T.ne_InvalidBound_part, .inl ⟨ha, fun dx nx ne => k dx nx ne⟩⟩
end
theorem mk_InvalidBound {X : Cx} {L : LA} (T : LX X.K X.mg L) (hr : Room 2 X.A) {e : Expr} {ta : TA} {p pos : Pos} (hg : Gl X "InvalidBound") (ha : PA X [e] ta)
    (he : starEach (e :: []) X.env = (false, eval e X.env) :: starEach [] X.env := by rfl) (hpl : (backTo pos (starEach [] X.env)).any (·.1) = false := by rfl) :
    L2.PMk X (.Call (.Name "InvalidBound" p) [e] [] pos) (L2.tMkO L.e_InvalidBound (spEI1 L.e_InvalidBound "part") [] ta) := by
  obtain ⟨fd, F, b⟩ := T.in_InvalidBound
  exact pmk_ae T.ae_InvalidBound T.hi_InvalidBound T.ti_InvalidBound (fn_InvalidBoundinit T F) hr b .nil pass0 hg T.ge_InvalidBound ha (by decide) he hpl

/-! ### repr of plain lists, tuples and of the empty dict, whatever the guards are -/
theorem codeAny_guards {M : Model} {A : Around} {c : Code} {R : Result → Shared → Prop} {s : Shared} (h : ∀ g, codeAny M { A with guards := some g } c R s) : codeAny M A c R s := fun Γ p hc hb =>
  h (guardsOf Γ.below) Γ p hc ⟨hb.1, hb.2.1, hb.2.2.1, fun g' e => by cases e; rfl, hb.2.2.2.2⟩
def listGF (self : Value) : Code × Pos → Bool := fun
  | (.builtin "list.__repr__.loop" ⟨v :: _, _⟩, _) => Builtin.List.listSameRef v self
  | _ => false
theorem listGF_cons (self : Value) (id : String) (v : Value) (rest : List Value) (kw : List (Str × Value)) (p : Pos) : listGF self (.builtin id ⟨v :: rest, kw⟩, p) = (decide (id = "list.__repr__.loop") && Builtin.List.listSameRef v self) := by
  by_cases h : id = "list.__repr__.loop"
  · subst h
    simp [listGF]
  · unfold listGF
    split
    · simp_all
    · simp [h]
theorem listGF_nil (self : Value) (id : String) (kw : List (Str × Value)) (p : Pos) : listGF self (.builtin id ⟨[], kw⟩, p) = false := by
  unfold listGF
  split <;> simp_all
theorem listGF_pos (self : Value) (c : Code) (p : Pos) : listGF self (c, p) = listGF self (c, default) := by
  cases c with
  | builtin id args =>
    obtain ⟨pos, kw⟩ := args
    cases pos with
    | nil => rw [listGF_nil, listGF_nil]
    | cons v rest => rw [listGF_cons, listGF_cons]
  | _ => rfl
theorem listGF_off (self : Value) (c : Code) (p : Pos) (hc : c.isGuard = false) : listGF self (c, p) = false := by
  cases c with
  | builtin id args =>
    obtain ⟨pos, kw⟩ := args
    cases pos with
    | nil => exact listGF_nil _ _ _ _
    | cons v rest =>
      simp [Code.isGuard, guardIds] at hc
      rw [listGF_cons]
      simp [hc]
  | _ => rfl
def listHit (g : List Code) (a : Addr) : Bool := g.any fun c => listGF (.ref a) (c, default)
def tupHit (g : List Code) (a : Addr) : Bool := g.any fun c => tupGuardF (.ref a) (c, default)
def dictHit (g : List Code) (a : Addr) : Bool := g.any fun c => dictGuardF (.ref a) (c, default)
section
variable {prog : Program} {w : World} {A : Around} {E : Value → Shared → Prop} {s : Shared} {a : Addr} {g : List Code}
theorem own_list_repr {Q : Fin → Shared → Prop} {o : Obj} {x : Value} {l : List Value} {n : Nat} {c : Code} {b : Nat} (hg : A.guards = some g) (hget : s.heap.get? a = some o) (hd : o.data = .seq (x :: l).toArray n)
    (h1 : listHit g a = true → Q (.done (.ret (.str "[...]" s.toks))) { s with toks := s.toks + 1 })
    (h2 : listHit g a = false → wpAny (model prog w) (A.under c) (do again (.builtin "list.__repr__.loop" ⟨[.ref a, rawInt 0, ← newList [], rawInt b], []⟩)) Q E s) :
    wpOwn (model prog w) A c (Builtin.listReprAt b ⟨[.ref a], []⟩) Q E s := by
  intro Γ p hc hb
  have e : Γ.below.any (listGF (.ref a)) = listHit g a := by
    rw [any_eq_guards (listGF_off _) (listGF_pos _), hb.2.2.2.1 g hg]
    rfl
  unfold Builtin.listReprAt
  simp [slotArgs, Builtin.List.listItems, seqItems?, Sem.wp_load_of (h := hget), hd, stack]
  show Sem.wp (model prog w) Γ (if (Γ.below.any (listGF (.ref a))) = true then _ else _) _ _ p s
  rw [e]
  cases q : listHit g a with
  | true =>
    rw [if_pos rfl]
    simp [rule, retStr, ret]
    exact h1 q
  | false =>
    rw [if_neg Bool.false_ne_true]
    exact h2 q Γ p (hc ▸ hb.in)
theorem call_list_flat {Q : Value → Shared → Prop} {oa : Obj} {x : Value} {l : List Value} {na : Nat} {ts : List Str} (hTy : s.TypeIs (.ref a) "list") (hg : A.guards = some g)
    (ha : s.heap.get? a = some oa) (hda : oa.data = .seq (x :: l).toArray na) (hlen : ts.length = (x :: l).toArray.size)
    (hT : ∀ (i : Nat) (y : Value), (x :: l).toArray[i]? = some y → ∃ t, ts[i]? = some t ∧ ReprIs prog w y t)
    (hQ : ∀ h' u tk, (∀ b o, s.heap.get? b = some o → h'.get? b = some o) → Q (.str (if listHit g a then "[...]" else listText ts) u) { s with heap := h', toks := tk })
    (hsz : (listText ts).length ≤ sizeLine) : wpAny (model prog w) A (call (.builtin "list.__repr__") [.ref a]) Q E s := by
  refine wpAny_call (codeAny_call_builtin_own (Code.quiet_builtin _ (by decide +kernel)) F.entry_list_repr (F.slot_list_repr.check _ _ _ _ _ _ _ _ hTy (F.args_list_repr_1 _) (own_list_repr (b := 0) hg ha hda (fun q => ?_) fun q => ?_)))
  · have := hQ s.heap s.toks (s.toks + 1) fun _ _ z => z
    rw [q, if_pos rfl] at this
    exact this
  · have hQ : ∀ h' u tk, (∀ b o, s.heap.get? b = some o → h'.get? b = some o) → Q (.str (listText ts) u) { s with heap := h', toks := tk } := fun h' u tk k => by
      have := hQ h' u tk k
      rw [q, if_neg Bool.false_ne_true] at this
      exact this
    refine wpAny_bind (m := newList []) (wpAny_newObj_type ?_)
    refine wpAny_pure ⟨F.quiet_list_repr_loop _, ?_⟩
    exact codeAny_list_repr_start (P := s.heap.objs.size) (Nat.ne_of_lt (Heap.lt_size ha)) hlen hT (Heap.get?_push_of_some _ ha) hda (Heap.get?_push_size _ rfl) (fun h' u tk k => hQ h' u tk fun b o z => k b o (Nat.ne_of_lt (Heap.lt_size z)) (Heap.get?_push_of_some _ z)) (by omega)
theorem call_tup_flat {Q : Value → Shared → Prop} {o : Obj} {items : Array Value} {n : Nat} {ts : List Str} (hTy : s.TypeIs (.ref a) "tuple") (hg : A.guards = some g) (ha : s.heap.get? a = some o) (hd : o.data = .seq items n) (hT : ReprAll prog w items.toList ts)
    (hQ : ∀ u tk, Q (.str (if tupHit g a then "(...)" else tupleText ts) u) { s with toks := tk }) (hsz : (tupleText ts).length ≤ sizeLine) : wpAny (model prog w) A (call (.builtin "tuple.__repr__") [.ref a]) Q E s := by
  refine wpAny_call (codeAny_call_builtin_own (Code.quiet_builtin _ (by decide +kernel)) F.entry_tuple_repr (F.slot_tuple_repr.check _ _ _ _ _ _ _ _ hTy (F.args_tuple_repr_1 _) ?_))
  show wpOwn _ _ _ (Builtin.tupleReprAt 0 ⟨[.ref a], []⟩) _ _ _
  rw [tuple_repr_tree, tupleReprUnderWay_eq]
  refine wpOwn_bind (wpOwn_stackTailAny hg (tupGuardF_off _) (tupGuardF_pos _) ?_)
  cases q : (g.any fun c => tupGuardF (.ref a) (c, default)) with
  | true =>
    have q : tupHit g a = true := q
    rw [if_pos rfl]
    refine wpOwn_of_wpAny ?_
    have := hQ s.toks (s.toks + 1)
    rw [q, if_pos rfl] at this
    intro Γ p hΓ
    simp [rule, retStr, ret]
    exact this
  | false =>
    have q : tupHit g a = false := q
    rw [if_neg Bool.false_ne_true]
    refine wpOwn_of_wpAny (wpAny_tupleReprRest ha hd hT (fun u tk => ?_) (by omega))
    have := hQ u tk
    rw [q, if_neg Bool.false_ne_true] at this
    exact this
end
theorem call_dict_flat {prog : Program} {w : World} {A : Around} {E : Value → Shared → Prop} {s : Shared} {a : Addr} {g : List Code} {Q : Value → Shared → Prop} {o : Obj} {n : Nat} (hTy : s.TypeIs (.ref a) "dict") (hg : A.guards = some g) (ha : s.heap.get? a = some o) (hd : o.data = .dict #[] n) (hsys : (a == sysModules) = false)
    (hQ : ∀ u tk, Q (.str (if dictHit g a then "{...}" else "{}") u) { s with toks := tk }) : wpAny (model prog w) A (call (.builtin "dict.__repr__") [.ref a]) Q E s := by
  refine wpAny_call (codeAny_call_builtin_own (Code.quiet_builtin _ (by decide +kernel)) F.entry_dict_repr (F.slot_dict_repr.check _ _ _ _ _ _ _ _ hTy (F.args_dict_repr_1 _) ?_))
  show wpOwn _ _ _ (Builtin.dictReprAt 0 ⟨[.ref a], []⟩) _ _ _
  unfold Builtin.dictReprAt
  refine wpOwn_bind (wpOwn_of_wpAny ?_)
  unfold Builtin.Dict.dictSlotNone
  refine wpAny_bind (wpAny_notOrdered_dict hTy ?_)
  show wpAny _ _ (pure (Value.ref a)) _ _ s
  refine wpAny_pure ?_
  rw [dictReprRunning_eq]
  refine wpOwn_bind (wpOwn_stackTailAny hg (dictGuardF_off _) (dictGuardF_pos _) ?_)
  cases q : (g.any fun c => dictGuardF (.ref a) (c, default)) with
  | true =>
    have q : dictHit g a = true := q
    rw [if_pos rfl]
    refine wpOwn_of_wpAny ?_
    have := hQ s.toks (s.toks + 1)
    rw [q, if_pos rfl] at this
    intro Γ p hΓ
    simp [rule, retStr, ret]
    exact this
  | false =>
    have q : dictHit g a = false := q
    rw [if_neg Bool.false_ne_true]
    refine wpOwn_of_wpAny ?_
    show wpAny _ _ (Builtin.Dict.addrOf (.ref a) >>= _) _ _ s
    refine wpAny_bind (wpAny_pure ?_)
    show wpAny _ _ (Builtin.Dict.showsAll a >>= _) _ _ s
    unfold Builtin.Dict.showsAll
    rw [if_neg (by rw [hsys]; exact Bool.false_ne_true)]
    refine wpAny_bind (wpAny_pure ?_)
    refine wpAny_bind (wpAny_dictEpoch ha hd ?_)
    refine wpAny_bind (wpAny_dictEntries ha hd ?_)
    have := hQ s.toks (s.toks + 1)
    rw [q, if_neg Bool.false_ne_true] at this
    intro Γ p hΓ
    simp [rule, retStr, ret]
    exact this
/-! ### repr as a rule of the hand layer -/
inductive ReprG (g : List Code) (H : Hp) : V → Str → Prop
  | plain {v : V} {s : Str} (h : ReprV v s) : ReprG g H v s
  | lst {a : Addr} {x : V} {xs : List V} {ts : List Str} (e : H a = some (.lst (x :: xs))) (h : Paired ReprV (x :: xs) ts) (z : (listText ts).length ≤ sizeLine) : ReprG g H (.ref a) (if listHit g a then "[...]" else listText ts)
  | tup {a : Addr} {xs : List V} {ts : List Str} (e : H a = some (.tup xs)) (h : Paired ReprV xs ts) (z : (tupleText ts).length ≤ sizeLine) : ReprG g H (.ref a) (if tupHit g a then "(...)" else tupleText ts)
  | dic {a : Addr} (e : H a = some (.dK [])) : ReprG g H (.ref a) (if dictHit g a then "{...}" else "{}")
theorem ReprV.one {v : V} {s s' : Str} (h : ReprV v s) (h' : ReprV v s') : s = s' := by
  cases h <;> cases h' <;> rfl
theorem reprs_one {xs : List V} {ts us : List Str} (h : Paired ReprV xs ts) : Paired ReprV xs us → ts = us := by
  induction h generalizing us with
  | nil => intro h'; cases h'; rfl
  | cons a _ ih => intro h'; cases h' with | cons b t => rw [a.one b, ih t]
theorem ReprG.one {g : List Code} {H : Hp} {v : V} {s s' : Str} (h : ReprG g H v s) (h' : ReprG g H v s') : s = s' := by
  cases h with
  | plain h =>
    cases h' with
    | plain h' => exact h.one h'
    | _ => cases h
  | lst e h z =>
    cases h' with
    | plain h' => cases h'
    | lst e' h' z' =>
      rw [e] at e'
      cases e'
      rw [reprs_one h h']
    | tup e' => rw [e] at e'; cases e'
    | dic e' => rw [e] at e'; cases e'
  | tup e h z =>
    cases h' with
    | plain h' => cases h'
    | lst e' => rw [e] at e'; cases e'
    | tup e' h' z' =>
      rw [e] at e'
      cases e'
      rw [reprs_one h h']
    | dic e' => rw [e] at e'; cases e'
  | dic e =>
    cases h' with
    | plain h' => cases h'
    | lst e' => rw [e] at e'; cases e'
    | tup e' => rw [e] at e'; cases e'
    | dic e' => rfl
theorem ReprG.mv {g : List Code} {H H' : Hp} {v : V} {s : Str} (h : ReprG g H v s) (k : ∀ a o, v = .ref a → H a = some o → (∀ ps, o ≠ .tbl ps) → H' a = some o) : ReprG g H' v s := by
  cases h with
  | plain h => exact .plain h
  | lst e h z => exact .lst (k _ _ rfl e fun _ q => nomatch q) h z
  | tup e h z => exact .tup (k _ _ rfl e fun _ q => nomatch q) h z
  | dic e => exact .dic (k _ _ rfl e fun _ q => nomatch q)
theorem ReprV.is {prog : Program} {w : World} {v : V} {s : Str} {u : Value} (h : ReprV v s) (r : RelV v u) : ReprIs prog w u s := by
  cases h with
  | int i h =>
    obtain ⟨t, rfl⟩ := r
    exact ReprIs.int t h
  | non =>
    cases r
    exact ReprIs.none
  | bl b =>
    cases r
    cases b
    · exact ReprIs.bool false
    · exact ReprIs.bool true
  | str x h =>
    obtain ⟨t, rfl⟩ := r
    exact ReprIs.str x t h
theorem reprs_is {prog : Program} {w : World} : ∀ {xs : List V} {ts : List Str} {us : List Value}, Paired ReprV xs ts → Vals xs us → ReprAll prog w us ts
  | _, _, _, .nil, .nil => .nil
  | _, _, _, .cons h t, .cons r rs => .cons (h.is r) (reprs_is t rs)
theorem reprs_len {xs : List V} {ts : List Str} (h : Paired ReprV xs ts) : xs.length = ts.length := by
  induction h with
  | nil => rfl
  | cons _ _ ih => rw [List.length_cons, List.length_cons, ih]
theorem reprs_at {prog : Program} {w : World} : ∀ {us : List Value} {ts : List Str}, ReprAll prog w us ts → ∀ (i : Nat) (y : Value), us[i]? = some y → ∃ t, ts[i]? = some t ∧ ReprIs prog w y t
  | _, _, .nil, i, y, h => by simp at h
  | _, _, .cons h _, 0, y, e => by
    cases e
    exact ⟨_, rfl, h⟩
  | _, _, .cons _ t, i + 1, y, e => reprs_at t i y e
theorem call_reprG {X : Cx} {g : List Code} (hg : X.A.guards = some g) (hu : X.A.units + 64 < cLine) : CallR X (.builtin "repr") (fun xs H Q => ∃ v s, xs = [v] ∧ ReprG g H v s ∧ Q (.str s) H) := by
  rintro pins s σ H xs us Q I r ⟨v, x, rfl, h, q⟩
  cases h with
  | plain h => exact call_reprP pins s σ H [v] us Q I r ⟨v, x, rfl, h, q⟩
  | @lst a y ys ts e h z =>
    match us, r with
    | [_], .cons rx .nil =>
      cases rx
      obtain ⟨_, its, n, rv, ho⟩ := I.hok a _ e
      have hTy : s.TypeIs (.ref a) "list" := ⟨_, ho, rfl⟩
      cases rv with
      | cons r1 rs =>
        have ra := reprs_is (prog := X.prog) (w := X.w) h (.cons r1 rs)
        refine PySem.call_repr_slot (by omega) hTy F.slot_list_repr.toG (call_list_flat hTy hg ho rfl (by rw [← reprs_len h]; simp [rs.length]) (fun i y' hy => reprs_at ra i y' (by simpa using hy)) (fun h' u tk k => ⟨_, _, rfl, ⟨.str _, H, I.kept k, ⟨_, rfl⟩, q⟩⟩) z)
  | @tup a ys ts e h z =>
    match us, r with
    | [_], .cons rx .nil =>
      cases rx
      obtain ⟨_, its, rv, p⟩ := I.hok a _ e
      obtain ⟨⟨tc, tdd, tda, tsl⟩, hto, htc, n, htd⟩ := p
      dsimp only at htc htd
      subst htc htd
      have hTy : s.TypeIs (.ref a) "tuple" := ⟨_, hto, rfl⟩
      exact PySem.call_repr_slot (by omega) hTy F.slot_tuple_repr (call_tup_flat hTy hg hto rfl (by simpa using reprs_is h rv) (fun u tk => ⟨_, _, rfl, ⟨.str _, H, I.kept (t' := tk) fun _ _ z => z, ⟨_, rfl⟩, q⟩⟩) z)
  | @dic a e =>
    match us, r with
    | [_], .cons rx .nil =>
      cases rx
      obtain ⟨_, hsys, kvs, kv, o, es, ep, ho, ex, hd, kk, pr, _⟩ := I.hok a _ e
      cases kv
      have e0 : es = #[] := by
        have : es.toList = [] := by cases hh : es.toList with
          | nil => rfl
          | cons _ _ => rw [hh] at pr; cases pr
        exact Array.toList_eq_nil_iff.mp this
      subst e0
      have hTy : s.TypeIs (.ref a) "dict" := ⟨o, ho, ex.1⟩
      exact PySem.call_repr_slot (by omega) hTy F.slot_dict_repr (call_dict_flat hTy hg ho hd hsys fun u tk => ⟨_, _, rfl, ⟨.str _, H, I.kept (t' := tk) fun _ _ z => z, ⟨_, rfl⟩, q⟩⟩)
/-! ### try with several clauses, some of them naming their error -/
/-- a clause: what it names (a class), the slot of its name if it has one, its suite's reading -/
abbrev ClauseT := Value × Option Nat × (Addr → Value → Option Addr → TS)
def endsX (i : Nat) (D : Ends) : Ends := { nx := fun σ H => D.nx (σ.set i none) H, rt := D.rt, bk := fun σ H => D.bk (σ.set i none) H, ct := fun σ H => D.ct (σ.set i none) H }
/-- what the clauses, one behind another, ask of an error of the body -/
def wMix (K : PySem.W.Frag) (Wout : L2.WX) (D : Ends) : List ClauseT → L2.WX
  | [] => Wout
  | (c, none, ts) :: r => fun cls d σ H => ∃ b, PySem.W.exmOne K cls c = some b ∧ (b = true → ∀ a, H a = none → ts a cls d D σ H) ∧ (b = false → wMix K Wout D r cls d σ H)
  | (c, some i, ts) :: r => fun cls d σ H => ∃ b, PySem.W.exmOne K cls c = some b ∧ (b = true → ∀ a, H a = none → ts a cls d (endsX i D) (σ.set i (some (.ref a))) H) ∧ (b = false → wMix K Wout D r cls d σ H)
inductive ClsOk (X : Cx) : List ExceptHandler → List ClauseT → Prop
  | nil : ClsOk X [] []
  | plain {x : Str} {c : Value} {ts : Addr → Value → Option Addr → TS} {b₀ : Stmt} {suite : List Stmt} {np p2 : Pos} {hds : List ExceptHandler} {l : List ClauseT} (hc : L2.Names X x c)
      (hsu : ∀ (a : Addr) (oe : Obj) (cls : Value) (d : Option Addr) (pn : List (Addr × Obj)), L2.Zc cls d oe → (∃ vs, oe.data = .fields vs) → PSs (X.suite a ((a, oe) :: pn)) (b₀ :: suite) (ts a cls d)) (r : ClsOk X hds l) : ClsOk X (.ExceptHandler (some (.Name x np)) none (b₀ :: suite) p2 :: hds) ((c, none, ts) :: l)
  | named {x n : Str} {c : Value} {i : Nat} {ts : Addr → Value → Option Addr → TS} {b₀ : Stmt} {suite : List Stmt} {np p2 : Pos} {hds : List ExceptHandler} {l : List ClauseT} (hc : L2.Names X x c) (hi : X.N[i]? = some n) (hln : X.env.kindOf n = some .local)
      (hsu : ∀ (a : Addr) (oe : Obj) (cls : Value) (d : Option Addr) (pn : List (Addr × Obj)), L2.Zc cls d oe → (∃ vs, oe.data = .fields vs) → PSs (X.suite a ((a, oe) :: pn)) (b₀ :: suite) (ts a cls d)) (r : ClsOk X hds l) : ClsOk X (.ExceptHandler (some (.Name x np)) (some n) (b₀ :: suite) p2 :: hds) ((c, some i, ts) :: l)
section
variable {X : Cx} {body : List Stmt} {h₀ : ExceptHandler} {hds : List ExceptHandler} {l : List ClauseT} {pos : Pos} {tb : L2.WX → TS} {Wout : L2.WX}
theorem ps_try_mix (stk : X.stack = X.env :: X.outer) (frm : X.env.frame = some X.env.locals) (nd : X.N.Nodup) (tk : L2.Takes X Wout)
    (hbody : ∀ (W : L2.WX) (pn : List (Addr × Obj)) (xe : Value → Shared → Prop), L2.Takes (X.tr pn xe) W → PassesOwn (model X.prog X.w) X.A X.env xe → PSs (X.tr pn xe) body (tb W)) (hcl : ClsOk X (h₀ :: hds) l) :
    PS X (.Try body (h₀ :: hds) [] [] pos) (fun D σ H => tb (wMix X.K Wout D l) D σ H) := by
  refine ⟨fun pins s σ H D I start => ?_⟩
  have good := I.ok
  have frames : X.A.frames = some (X.env :: X.outer) := by rw [good.frames, stk]
  refine wpAny_Try_except ?_
  refine wpAny_mono ((hbody (wMix X.K Wout D l) (X.pn ++ pins) (fun er sA => wpAny (model X.prog X.w) X.A (noteFrame er X.env) (fun _ sB => wpAny (model X.prog X.w) X.A (setFlight er none) (fun _ sC => wpAny (model X.prog X.w) X.A (handleBy er X.env (h₀ :: hds)) (SP X pins D) X.xe sC) X.xe sB) X.xe sA) (fun u sX flying => ?_) PassesOwn.looking).run [] s σ H D (I.toTry _) start) (fun fl sN ended => ?_) (fun er sE out => out)
  rotate_left
  · match fl, ended with
    | .next, ⟨_, _, JN, q⟩ => exact wpAny_execs_nil ⟨_, _, JN.ofTry good, q⟩
    | .brk, ⟨_, _, JN, q⟩ => exact ⟨_, _, JN.ofTry good, q⟩
    | .cont, ⟨_, _, JN, q⟩ => exact ⟨_, _, JN.ofTry good, q⟩
    | .ret _, ⟨_, _, _, JN, r, q⟩ => exact ⟨_, _, _, JN.ofTry good, r, q⟩
  obtain ⟨ea, Bs, sI, pinsI, σI, HI, cls, d, rfl, JI, nbase, upS, skyS, fresh, osE, bareE, wished⟩ := flying
  have J := JI.ofTry good
  have skyX : L2.Sky Bs (X.env :: X.outer) ea (L2.Zc cls d) X.env.locals sX.heap := stk ▸ skyS
  show wpAny (model X.prog X.w) X.A (noteFrame (.ref ea) X.env) _ _ _
  refine L2.Sky.land L2.Zc.steady frames frm skyX fun hL flL upL => ?_
  have JL : Inv X pins σI HI { sX with heap := hL } := J.landed nbase flL.1 (upS.trans upL) osE bareE
  obtain ⟨oL, vL, getL, zL, dataL⟩ := flL.there
  have noFrame : ea ∉ frs (X.env :: X.outer) := fun mem => by
    obtain ⟨_, oM, getM, notFields⟩ := flL.2.2.1.mem mem
    rw [getL] at getM
    exact notFields _ (by cases getM; exact dataL)
  have notLocals : ea ≠ X.env.locals := fun eq => noFrame (List.mem_filterMap.mpr ⟨X.env, List.mem_cons_self, by rw [frm, eq]⟩)
  have notOuter : ea ∉ X.fs := fun mem => let ⟨en, inO, fr⟩ := List.mem_filterMap.mp mem; noFrame (List.mem_filterMap.mpr ⟨en, List.mem_cons_of_mem _ inO, fr⟩)
  have SL := JL.suite getL dataL fresh notLocals notOuter
  have named : ∀ {x : Str} {c : Value} {np : Pos} {Q E : Value → Shared → Prop}, L2.Names X x c → Q c { sX with heap := hL } → wpAny (model X.prog X.w) (X.A.mark (some (.ref ea))) (eval (.Name x np) X.env) Q E { sX with heap := hL } := by
    rintro x c np Q E ⟨glob, dbg, own | ⟨free, boot, notNone⟩⟩ goal
    · exact L2.ld_glob (X := X.suite ea ((ea, oL) :: (X.pn ++ pins))) SL glob own goal dbg
    · exact L2.ld_blt (X := X.suite ea ((ea, oL) :: (X.pn ++ pins))) SL glob free boot goal notNone dbg
  have typed : PySem.W.Looks (model X.prog X.w) hL (typeOf (.ref ea)) cls := fun _ _ _ _ more res => wpAny_typeOf_ref (more _ _ getL) (by rw [zL.1]; exact res)
  have walk : ∀ {hs2 : List ExceptHandler} {l2 : List ClauseT}, ClsOk X hs2 l2 → wMix X.K Wout D l2 cls d σI HI → wpAny (model X.prog X.w) X.A (handleBy (.ref ea) X.env hs2) (SP X pins D) X.xe { sX with heap := hL } := by
    intro hs2 l2 ok2
    induction ok2 with
    | nil =>
      intro wish
      refine wpAny_handleBy_nil ?_
      have flown := flL
      obtain ⟨_, _, _, oF, vF, TF, oT, _, getF, zF, dataF, tbF, _⟩ := flown
      unfold PySem.passOn
      refine wpAny_bind (wpAny_field getF dataF tbF ?_)
      rw [if_neg (by simp : ¬ ((Value.ref TF == Value.none) = true))]
      have up : wpAny (model X.prog X.w) X.A (setFlight (.ref ea) X.env.frame) (fun _ sU => wpAny (model X.prog X.w) X.A (throw (.ref ea) : Sem Flow) (SP X pins D) X.xe sU) X.xe { sX with heap := hL } := by
        rw [frm]
        exact HandSPX.setFlight_upZ flL fun hU heldU upU => wpAny_throw (tk _ _ ⟨ea, Bs, sI, pins, σI, HI, cls, d, rfl, J, nbase, (upS.trans upL).trans upU, .inr (.inr (stk ▸ heldU)), fresh, osE, bareE, wish⟩)
      first
        | exact wpAny_bind up
        | exact wpAny_bind (wpAny_pure (wpAny_bind up))
    | @plain x c ts b₀ suite np p2 hds3 l3 hc hsu r ih =>
      rintro ⟨b, look, yes, no⟩
      refine wpAny_handleBy_cons (codeAny_handlers_test ?_) (fun q => nomatch q)
      refine named hc ((PySem.W.exm_one (M := model X.prog X.w) JL.kIn typed look).here ?_)
      cases b with
      | false => exact ih (no rfl)
      | true =>
        refine codeAny_handlers_suite (HandSPX.lands_againZ flL fun hM flM upM => ?_)
        obtain ⟨oM, vM, getM, zM, dataM⟩ := flM.there
        have JM : Inv X pins σI HI { sX with heap := hM } := J.landed nbase flM.1 ((upS.trans upL).trans upM) osE bareE
        have SM := JM.suite getM dataM fresh notLocals notOuter
        refine wpAny_mono ((hsu ea oM cls d (X.pn ++ pins) zM ⟨_, dataM⟩).run [] _ _ HI _ SM (yes rfl ea fresh)) (fun fl sE done_ => ?_) (fun _ _ z => z.elim)
        match fl, done_ with
        | .next, ⟨_, _, SE, q⟩ => exact ⟨_, _, SE.unsuite good, q⟩
        | .brk, ⟨_, _, SE, q⟩ => exact ⟨_, _, SE.unsuite good, q⟩
        | .cont, ⟨_, _, SE, q⟩ => exact ⟨_, _, SE.unsuite good, q⟩
        | .ret _, ⟨_, _, _, SE, rv, q⟩ => exact ⟨_, _, _, SE.unsuite good, rv, q⟩
    | @named x n c i ts b₀ suite np p2 hds3 l3 hc hi hln hsu r ih =>
      rintro ⟨b, look, yes, no⟩
      refine wpAny_handleBy_cons (codeAny_handlers_test ?_) (fun q => nomatch q)
      refine named hc ((PySem.W.exm_one (M := model X.prog X.w) JL.kIn typed look).here ?_)
      cases b with
      | false => exact ih (no rfl)
      | true =>
        refine codeAny_handlers_suite_as (HandSPX.lands_againZ flL fun hM flM upM => ?_)
        obtain ⟨oM, vM, getM, zM, dataM⟩ := flM.there
        have JM : Inv X pins σI HI { sX with heap := hM } := J.landed nbase flM.1 ((upS.trans upL).trans upM) osE bareE
        have SM := JM.suite getM dataM fresh notLocals notOuter
        refine L2.store_ok (X := X.suite ea ((ea, oM) :: (X.pn ++ pins))) (v := .ref ea) SM nd hi (.inl hln) rfl (fun sB SB => ?_) (.inr hln)
        refine wpAny_mono ((hsu ea oM cls d (X.pn ++ pins) zM ⟨_, dataM⟩).run [] sB _ HI _ SB (yes rfl ea fresh)) (fun fl sE done_ => ?_) (fun _ _ z => z.elim)
        have gone : ∀ {σ6 : L2.St} {H6 : Hp} {Q : Shared → Prop}, Inv (X.suite ea ((ea, oM) :: (X.pn ++ pins))) [] σ6 H6 sE → (∀ sG, Inv X pins (σ6.set i none) H6 sG → Q sG) → wpAny (model X.prog X.w) X.A (do bindName X.env n .none; unbindBehindTheSuite X.env n p2) (fun _ sG => Q sG) X.xe sE :=
          fun SE more => L2.gone_ok (SE.unsuite good) nd hi hln more
        match fl, done_ with
        | .next, ⟨_, _, SE, q⟩ => exact gone SE fun _ JG => ⟨_, _, JG, q⟩
        | .brk, ⟨_, _, SE, q⟩ => exact gone SE fun _ JG => ⟨_, _, JG, q⟩
        | .cont, ⟨_, _, SE, q⟩ => exact gone SE fun _ JG => ⟨_, _, JG, q⟩
        | .ret _, ⟨_, _, _, SE, rv, q⟩ => exact gone SE fun _ JG => ⟨_, _, _, JG, rv, q⟩
  exact walk hcl wished
end
/-! ### defs whose bodies know of the guards around them -/
theorem FunT.okG {P : Program} {w : World} {K : PySem.W.Frag} {mg : Str → Option Value} {base : Heap} {x q : Str} {st : Stmt} {f c : Addr} {fd : FuncData} {N ps : List Str} {k : Nat} {sp : Sp} (F : FunT K x q st f c fd) (S : FnScope N ps (defScope st)) (len : ∀ vs H Q E, sp vs H Q E → vs.length = ps.length)
    (hbody : ∀ (g : List Code) (A : Around) (outer : List Env) (s : Shared) (H : Hp) (vs : List V) (Q : VK) (E : XK), A.guards = some g → Room k (A.deeper (PyProof.Rows.envOfC q (defScope st) s.heap.objs.size f (.ref c))) → sp vs H Q E →
      ∃ t, PSs (cxOf CX0 P w K mg base N q (defScope st) f (.ref c) A outer s H E).nox (defBody st) t ∧ t { nx := fun _ H' => Q .non H', rt := Q } (start N vs) H) : FnOk P w K mg base CX0 (k + 1) f fd ps sp := by
  obtain ⟨oc, od, kV, doc, pm, an, ct, osl, rfl, lk, hcd⟩ := F.ex
  refine ⟨len, fun A outer s H args us vs Q E hr e0 hb r hsp => codeAny_guards fun g => ?_⟩
  refine LamX.run_ofS (A := { A with guards := some g }) lk hcd S (N := N) ⟨hr.hd, hr.dp, hr.un⟩ ⟨e0.frames, e0.mod, e0.bs, e0.bsz, e0.funs, e0.frf, e0.hok, e0.bare⟩ hb r (len _ _ _ _ hsp) fun hr2 => ?_
  obtain ⟨t, h, z⟩ := hbody g { A with guards := some g } outer s H vs Q E rfl hr2 hsp
  exact ⟨t, h.nox, z⟩
theorem Fun.okG {P : Program} {w : World} {K : PySem.W.Frag} {mg : Str → Option Value} {base : Heap} {x q : Str} {st : Stmt} {f : Addr} {fd : FuncData} {N ps : List Str} {k : Nat} {sp : Sp} (F : Fun K x q st f fd) (S : FnScope N ps (defScope st)) (len : ∀ vs H Q E, sp vs H Q E → vs.length = ps.length)
    (hbody : ∀ (cdv : Value) (g : List Code) (A : Around) (outer : List Env) (s : Shared) (H : Hp) (vs : List V) (Q : VK) (E : XK), A.guards = some g → Room k (A.deeper (PyProof.Rows.envOfC q (defScope st) s.heap.objs.size f cdv)) → sp vs H Q E →
      ∃ t, PSs (cxOf CX0 P w K mg base N q (defScope st) f cdv A outer s H E).nox (defBody st) t ∧ t { nx := fun _ H' => Q .non H', rt := Q } (start N vs) H) : FnOk P w K mg base CX0 (k + 1) f fd ps sp := by
  obtain ⟨oc, od, kV, doc, pm, an, cdv, ct, osl, rfl, lk, hcd⟩ := F.ex
  refine ⟨len, fun A outer s H args us vs Q E hr e0 hb r hsp => codeAny_guards fun g => ?_⟩
  refine LamX.run_ofS (A := { A with guards := some g }) lk hcd S (N := N) ⟨hr.hd, hr.dp, hr.un⟩ ⟨e0.frames, e0.mod, e0.bs, e0.bsz, e0.funs, e0.frf, e0.hok, e0.bare⟩ hb r (len _ _ _ _ hsp) fun hr2 => ?_
  obtain ⟨t, h, z⟩ := hbody cdv g { A with guards := some g } outer s H vs Q E rfl hr2 hsp
  exact ⟨t, h.nox, z⟩
theorem deeper_guards {A : Around} {env : Env} {g : List Code} (h : A.guards = some g) : (A.deeper env).guards = some g := h
/-! ### methods and makings that may raise -/
structure MetX (P : Program) (w : World) (K : PySem.W.Frag) (mg : Str → Option Value) (base : Heap) (C : Addr) (m : Str) (k : Nat) (f : Addr) (ps : List Str) (sp : Sp) : Prop where
  ex : ∃ fd, FnOk P w K mg base (L2.CX P w) k f fd ps sp ∧ Binds K fd ps []
  me : Meth K C m f
theorem Mth.metX {P : Program} {w : World} {K : PySem.W.Frag} {mg : Str → Option Value} {base : Heap} {C : Addr} {m q : Str} {st : Stmt} {f : Addr} {ps : List Str} {k : Nat} {sp : Sp} (D : Mth K C m q st f ps) (h : ∀ fd, Fun K m q st f fd → FnOk P w K mg base (L2.CX P w) k f fd ps sp) : MetX P w K mg base C m k f ps sp := by
  obtain ⟨fd, F, b⟩ := D.ex
  exact ⟨⟨fd, h fd F, b⟩, ⟨D.at_, D.fn, F.kp⟩⟩
theorem pass1 {X : Cx} {E : XK} (tk : L2.Takes X fun cls d _ H => E cls d H) : Passes (L2.CX X.prog X.w) X E := fun pins σ H s e s' I c => L2.passAt tk σ pins H s e s' I c
theorem MetX.p_m1 {X : Cx} {C : Addr} {k : Nat} {f : Addr} {ps : List Str} {sp : Sp} {E : XK} {m : Str} {o e : Expr} {es : List Expr} {ta : TE} {t : TA} {apos pos : Pos} {pl : Sem Bool} (c : MetX X.prog X.w X.K X.mg X.base C m k f ps sp) (tk : L2.Takes X fun cls d _ H => E cls d H) (cl : Cls X.K C) (hr : Room k X.A) (he : PE X o ta) (ha : PA X (e :: es) t)
    (hst : starEach (e :: es) X.env = (false, eval e X.env) :: starEach es X.env := by rfl) (hpl : (backTo pos (starEach es X.env)).any (·.1) = false := by rfl)
    (ht : eval (.Call (.Attribute o m apos) (e :: es) [] pos) X.env = (do let ov ← eval o X.env; standAt apos.atName; let (f, first) ← holding [ov] (getMethod ov m pl); callWith pos f first (backTo pos (starEach (e :: es) X.env)) (backToKw pos (keywordEach [] X.env))) := by rfl) :
    PE X (.Call (.Attribute o m apos) (e :: es) [] pos) (tMeth C m sp [] E ta t) := by
  obtain ⟨fd, F, b⟩ := c.ex
  exact pe_meth he cl c.me F hr b .nil (pass1 tk) ha hst hpl ht
theorem raise2 {C : Addr} {f g : Str} {v u : V} {H : Hp} {Q E : XK} (k : ∀ d H', H' d = some (.xd [(g, u), (f, v)]) → Same H H' → Q (.ref C) (some d) H') : ∀ a, H a = none → spEI2 C f g [.ref a, v, u] (upd H a (L2.exo a C none))
    (fun x H2 => x = .non ∧ ∃ (d : Addr) (fs : List (Str × V)), H2 a = some (L2.exo a C (some d)) ∧ H2 d = some (L2.exd d fs) ∧ H d = none ∧ Q (.ref C) (some d) (upd (L2.del H2 a) d (.xd fs))) E := fun a na => by
  refine ⟨a, v, u, rfl, upd_same, fun dx nx ne => ⟨rfl, dx, [(g, u), (f, v)], ?_, upd_same, by rwa [upd_ne ne] at nx, k dx _ upd_same fun b o e => ?_⟩⟩
  · rw [upd_ne (Ne.symm ne), upd_same]
  · rw [upd_ne ne] at nx
    have ba : b ≠ a := ne_of_none e na
    have bd : b ≠ dx := ne_of_none e nx
    rw [upd_ne bd, L2.del_ne ba, upd_ne bd, upd_ne ba, upd_ne bd, upd_ne ba]
    exact e
/-! ### lambdas that are kept, with a default or none -/
namespace LamY
open PySem PySem.Spec PyProof.Rows L2 LamX
abbrev lamOb (X : Cx) (params : Arguments) (body : Expr) (scope : Scope) (dV doc pm : Value) (c' : Addr) (ctv : Value) : Obj := PySem.W.kdv_obj "<lambda>" (X.env.qual ++ "<lambda>") params (.expr body) scope (cloFrom X.env.cells scope.names []) dV doc pm c' ctv
/-- the function object of a lambda stands at f -/
def FunO (o : Obj) : HO := .frz o (.ext fun _ => True)
theorem funO_ne {o : Obj} (ps : Array Value) : FunO o ≠ .tbl ps := fun z => by
  unfold FunO at z
  cases z
/-- a table that tells one code object more -/
def grow (H : Hp) (P c : Addr) (ps : Array Value) (pos : Pos) (q : Str) : Hp := upd (upd H P (.tbl (ps ++ #[rawInt pos.line, rawInt pos.col, .ref c]))) c (CodeO c q)
theorem grow_ext {H : Hp} {P c : Addr} {ps : Array Value} {pos : Pos} {q : Str} (hP : H P = some (.tbl ps)) (nc : H c = none) : ExtN H (grow H P c ps pos q) := by
  intro b o e no
  have bc : b ≠ c := ne_of_none e nc
  have bP : b ≠ P := by
    intro z
    rw [z, hP] at e
    exact no ps (Option.some.inj e).symm
  unfold grow
  rw [upd_ne bc, upd_ne bP, e]
theorem grow_tabs {T : List (Addr × Str)} {H : Hp} {P c : Addr} {ps : Array Value} {pos : Pos} {q : Str} (tabs : Tabs T H) (hP : H P = some (.tbl ps)) (nc : H c = none) (one : ∀ p ∈ T, p.1 = P → p.2 = q) : Tabs T (grow H P c ps pos q) := by
  have Pc : P ≠ c := ne_of_none hP nc
  have ext := grow_ext (pos := pos) (q := q) hP nc
  rintro ⟨P', q'⟩ hp
  obtain ⟨qs, h1, h2, h3⟩ := tabs _ hp
  by_cases eq : P' = P
  · subst eq
    obtain rfl : q' = q := one _ hp rfl
    obtain rfl : ps = qs := by
      have h1 : H P' = some (.tbl qs) := h1
      rw [hP] at h1
      injection h1 with h1
      injection h1
    have two : (ps ++ #[rawInt pos.line, rawInt pos.col, Value.ref c]).toList = ps.toList ++ [rawInt pos.line, rawInt pos.col, .ref c] := by simp
    refine ⟨ps ++ #[rawInt pos.line, rawInt pos.col, .ref c], ?_, ?_, fun at_ cv told => ?_⟩
    · show grow H P' c ps pos q' P' = _
      unfold grow
      rw [upd_ne Pc, upd_same]
    · rw [two]
      exact PySem.TriplesOk_snoc _ _ _ _ h2
    · rw [two] at told
      rcases among_app _ h2 told with old | fresh
      · obtain ⟨d, e1, e2⟩ := h3 at_ cv old
        exact ⟨d, e1, ext _ _ e2 codeO_ne⟩
      · exact ⟨c, fresh, upd_same⟩
  · refine ⟨qs, ?_, h2, fun at_ cv told => ?_⟩
    · show grow H P c ps pos q P' = _
      have h1 : H P' = some (.tbl qs) := h1
      unfold grow
      rw [upd_ne (ne_of_none h1 nc), upd_ne eq, h1]
    · obtain ⟨d, e1, e2⟩ := h3 at_ cv told
      exact ⟨d, e1, ext _ _ e2 codeO_ne⟩
section
variable {X : Cx} {pins : List (Addr × Obj)} {σ : L2.St} {H HZ : Hp} {s s1 : Shared}
/-- an object that is made and known from now on -/
theorem inv_fun {o : Obj} {tk : Nat} (I : Inv X pins σ H s) (nf : o.isFreed = false) : Inv X pins σ (upd H s.heap.objs.size (FunO o)) { s with heap := s.heap.push o, toks := tk } :=
  I.laid (fun _ _ e => Heap.get?_push_of_some _ e) (Nat.le_refl _) ⟨Heap.get?_push_size _ nf, True.intro, ⟨o, Heap.get?_push_size _ nf⟩, fun _ _ _ _ => True.intro⟩
/-- the function object of a written lambda is made -/
theorem lam_keep {T : List (Addr × Str)} {c P : Addr} {params : Arguments} {body : Expr} {scope : Scope} {pos : Pos} {E : Value → Shared → Prop} {Q : Value → Shared → Prop} {dV : Value} (I : Inv X pins σ H s) (TB : TabB X.base X.mg c P) (hcode : X.env.code = .ref c)
    (hm : (P, X.env.qual ++ "<lambda>") ∈ T) (hu : ∀ p ∈ T, p.1 = P → p.2 = X.env.qual ++ "<lambda>") (hT : Tabs T H) (hfree : ∀ y ∈ scope.names, y.2 = .free → ∃ c, X.env.cells.lookup y.1 = some c)
    (h : ∀ (f c' : Addr) (doc pm ctv : Value) (H1 : Hp) (s' : Shared), Inv X pins σ (upd H1 f (FunO (lamOb X params body scope dV doc pm c' ctv))) s' → ExtN H H1 → Tabs T H1 → H1 f = none → H1 c' = some (CodeO c' (X.env.qual ++ "<lambda>")) → Q (.ref f) s') :
    wpAny (model X.prog X.w) X.A (makeTail "<lambda>" (X.env.qual ++ "<lambda>") params (.expr body) scope X.env dV .none .none pos pos.line) Q E s := by
  obtain ⟨ps, hP, triples, told⟩ := hT _ hm
  have builtins := TB.bm.keeps I.bk
  have code := TB.code.keeps I.bk
  have globals := I.mod.glob.keeps I.bk
  have table : s.heap.get? P = some { cls := .none, data := .fields ps } := I.hok P _ hP
  rcases among : codeAmong pos ps.toList with _ | cv
  · refine PySem.W.kdv_makeTail (mg := X.mg) (c := c) (P := P) (ps := ps) (closure_ok hfree) I.ok.glob globals hcode code table triples among TB.gP builtins fun c' ctv doc h' tk keeps above below record told' => ?_
    obtain ⟨_, oc, vs, t, same, isC, fs, nm⟩ := record
    cases same
    have fresh : H c' = none := I.hok.fresh above
    have J := inv_table (t' := tk) (more := #[rawInt pos.line, rawInt pos.col, .ref c']) I hP (fun b o n e => keeps b o n e) told' above ⟨oc, vs, t, isC, fs, nm⟩
    exact h _ c' doc _ ctv (grow H P c' ps pos (X.env.qual ++ "<lambda>")) _ (inv_fun J rfl) (grow_ext hP fresh) (grow_tabs hT hP fresh hu) (J.hok.fresh (Nat.le_refl _)) upd_same
  · obtain ⟨c', rfl, isC⟩ := told pos cv among
    refine PySem.W.kdv_makeTailHit (mg := X.mg) (c := c) (P := P) (ps := ps) (closure_ok hfree) I.ok.glob globals hcode code table triples among builtins fun ctv doc h' tk keeps _ => ?_
    have J : Inv X pins σ H { s with heap := h', toks := tk } := I.kept keeps
    exact h _ c' doc _ ctv H _ (inv_fun J rfl) (ExtN.refl H) hT (J.hok.fresh (Nat.le_refl _)) isC
end
/-- what a written lambda is as a value: no default -/
def tFn0 (X : Cx) (T : List (Addr × Str)) (params : Arguments) (body : Expr) (scope : Scope) : TE := fun _ H Q => Tabs T H ∧ ∀ (f c' : Addr) (doc pm ctv : Value) (H1 : Hp), ExtN H H1 → Tabs T H1 → H1 f = none → H1 c' = some (CodeO c' (X.env.qual ++ "<lambda>")) → Q (.ref f) (upd H1 f (FunO (lamOb X params body scope .none doc pm c' ctv)))
/-- .. one default, a whole number -/
def tFn1 (X : Cx) (T : List (Addr × Str)) (params : Arguments) (body : Expr) (scope : Scope) (i : Int) : TE := fun _ H Q => Tabs T H ∧ ∀ t, H t = none → ∀ (f c' : Addr) (doc pm ctv : Value) (H1 : Hp), ExtN (upd H t (.tup [.int i])) H1 → Tabs T H1 → H1 f = none → H1 c' = some (CodeO c' (X.env.qual ++ "<lambda>")) → Q (.ref f) (upd H1 f (FunO (lamOb X params body scope (.ref t) doc pm c' ctv)))
/-- the lambda's names: captured ones, globals, and own ones that the def has not -/
structure LamS (N : List Str) (sc scope : Scope) : Prop where
  kind : scope.kind = .function
  co : scope.isCoroutine = false
  gen : scope.isGenerator = false
  own : ∀ y ∈ scope.names, y.2 ≠ .cell ∧ (y.2 = .local → y.1 ∉ N)
  free : ∀ y ∈ scope.names, y.2 = .free → sc.names.lookup y.1 = some .cell ∨ sc.names.lookup y.1 = some .free
def lamSB (N : List Str) (sc scope : Scope) : Bool :=
  decide (scope.kind = .function) && !scope.isCoroutine && !scope.isGenerator && scope.names.all fun y => !decide (y.2 = .cell) && (!decide (y.2 = .local) || !N.contains y.1) && (!decide (y.2 = .free) || decide (sc.names.lookup y.1 = some .cell) || decide (sc.names.lookup y.1 = some .free))
theorem lamS_by {N : List Str} {sc scope : Scope} (h : lamSB N sc scope = true) : LamS N sc scope := by
  unfold lamSB at h
  simp only [Bool.and_eq_true, Bool.or_eq_true, Bool.not_eq_true', decide_eq_true_eq, decide_eq_false_iff_not, List.all_eq_true] at h
  obtain ⟨⟨⟨h1, h2⟩, h3⟩, h4⟩ := h
  refine ⟨h1, h2, h3, fun y hy => ⟨(h4 y hy).1.1, fun e m => ?_⟩, fun y hy e => ?_⟩
  · rcases (h4 y hy).1.2 with z | z
    · exact z e
    · rw [List.contains_iff_mem.mpr m] at z
      cases z
  · rcases (h4 y hy).2 with (z | z) | z
    · exact absurd e z
    · exact .inl z
    · exact .inr z
theorem LamS.has {X : Cx} {N : List Str} {scope : Scope} (L : LamS N X.env.scope scope) (ok : X.Ok) : ∀ y ∈ scope.names, y.2 = .free → ∃ c, X.env.cells.lookup y.1 = some c := fun y hy e => by
  rcases L.free y hy e with k | k
  · exact ok.has _ (.inl k)
  · exact ok.has _ (.inr k)
section
variable {X : Cx} {T : List (Addr × Str)} {c P : Addr} {params : Arguments} {body : Expr} {scope : Scope} {pos : Pos}
theorem pe_lam0 (TB : TabB X.base X.mg c P) (hcode : X.env.code = .ref c) (hm : (P, X.env.qual ++ "<lambda>") ∈ T) (hu : ∀ p ∈ T, p.1 = P → p.2 = X.env.qual ++ "<lambda>") (Ls : LamS X.N X.env.scope scope) (hdef : defaultsOf params X.env = ([], [])) : PE X (.Lambda params body scope pos) (tFn0 X T params body scope) := by
  refine ⟨fun pins s σ H Q I h => ?_⟩
  obtain ⟨hT, h⟩ := h
  refine PySem.W.kla_eval hdef ?_
  rw [makeFunction_eq]
  simp only [List.zip_nil_right, List.filterMap_nil, List.isEmpty_nil, if_true, pure_bind]
  exact lam_keep I TB hcode hm hu hT (Ls.has I.ok) fun f c' doc pm ctv H1 s' I1 e1 t1 nf hc => ⟨.ref f, _, I1, rfl, h f c' doc pm ctv H1 e1 t1 nf hc⟩
theorem pe_lam1 {i : Int} {e : Expr} (TB : TabB X.base X.mg c P) (hcode : X.env.code = .ref c) (hm : (P, X.env.qual ++ "<lambda>") ∈ T) (hu : ∀ p ∈ T, p.1 = P → p.2 = X.env.qual ++ "<lambda>") (Ls : LamS X.N X.env.scope scope) (hd : params.defaults = [e]) (hk : params.kw_defaults = []) (he : PE X e (tC (.int i))) : PE X (.Lambda params body scope pos) (tFn1 X T params body scope i) := by
  refine ⟨fun pins s σ H Q I h => ?_⟩
  obtain ⟨hT, h⟩ := h
  refine PySem.W.kdv_lam (by rw [hd]; rfl) hk ?_
  rw [hd]
  refine PySem.W.kdv_all1 (thn (he.run pins s σ H (fun v H1 => v = .int i ∧ H1 = H) I ⟨rfl, rfl⟩) fun u s1 ⟨v, H1, I1, r1, q1⟩ => PySem.W.kdv_all0 ?_)
  obtain ⟨ev, eH⟩ := q1
  subst ev
  rw [eH] at I1
  rw [makeFunction_eq]
  simp only [List.zip_nil_right, List.filterMap_nil, List.isEmpty_nil, List.isEmpty_cons, Bool.false_eq_true, if_false, if_true, pure_bind]
  refine wpAny_bind (wpAny_newTextTuple ?_)
  have hf : H s1.heap.objs.size = none := I1.hok.fresh (Nat.le_refl _)
  have I2 := I1.laid (a := s1.heap.objs.size) (o := .tup [.int i]) (t' := s1.toks) (h' := s1.heap.push { cls := .type "tuple", data := .seq [u].toArray }) (fun b u e => Heap.get?_push_of_some _ e) (Nat.le_refl _) ⟨(by show 1 ≤ sizeLine; decide), [u], .cons r1 .nil, ⟨_, Heap.get?_push_size _ rfl, rfl, _, rfl⟩⟩
  exact lam_keep I2 TB hcode hm hu (hT.ext fun b o e => by rw [upd_ne (ne_of_none e hf)]; exact e) (Ls.has I2.ok) fun f c' doc pm ctv H1 s' I3 e1 t1 nf hc => ⟨.ref f, _, I3, rfl, h _ hf f c' doc pm ctv H1 e1 t1 nf hc⟩
end
/-- what a closure's cells are -/
theorem clo_cells {cells : List (Str × Addr)} {names : List (Str × NameKind)} (fr : ∀ y ∈ names, y.2 = .free → ∃ c, cells.lookup y.1 = some c) {y : Str} {c : Addr} (e : (cloFrom cells names []).lookup y = some c) : cells.lookup y = some c := by
  rcases cloFrom_mem (PySem.mem_of_lookup e) with none_ | ⟨isFree, val⟩
  · cases none_
  · obtain ⟨d, hd⟩ := fr _ isFree rfl
    have hd : cells.lookup y = some d := hd
    rw [hd] at val
    rw [hd, val]
    rfl
theorem clo_has {cells : List (Str × Addr)} {names : List (Str × NameKind)} {y : Str} (h : names.lookup y = some .free) : ∃ c, (cloFrom cells names []).lookup y = some c := mem_lookup (cloFrom_has (cells := cells) (acc := []) (PySem.mem_of_lookup h))
/-- what a lambda captured, at the state of a call -/
structure CapAt (X : Cx) (scope : Scope) (σ : L2.St) (H : Hp) (s : Shared) : Prop where
  inj : ∀ x y c, X.env.cells.lookup x = some c → X.env.cells.lookup y = some c → x = y
  out : ∀ {y c}, (cloFrom X.env.cells scope.names []).lookup y = some c → X.env.cells.lookup y = some c
  cell : ∀ y c, (cloFrom X.env.cells scope.names []).lookup y = some c → H c = none ∧ ∃ v, s.heap.IsCell c v
  loc : ∀ (i : Nat) (y : Str) (v : V), X.N[i]? = some y → σ[i]? = some (some v) → scope.names.lookup y = some .free → ∃ (u : Value) (c : Addr), RelV v u ∧ (cloFrom X.env.cells scope.names []).lookup y = some c ∧ s.heap.IsCell c (some u)
  len : σ.length = X.N.length
theorem CapAt.of {X : Cx} {pins : List (Addr × Obj)} {σ : L2.St} {H : Hp} {s : Shared} {scope : Scope} (I : Inv X pins σ H s) (L : LamS X.N X.env.scope scope) : CapAt X scope σ H s where
  inj := I.ok.inj
  out := fun e => clo_cells (L.has I.ok) e
  cell := fun y c e => by
    have up := clo_cells (L.has I.ok) e
    exact ⟨I.freeC y c up, I.cell y c up⟩
  loc := fun i y v e1 e2 k => by
    have vis : Vis X.env.scope y := (L.free _ (PySem.mem_of_lookup k) rfl).elim (fun k => .inr (.inl k)) (fun k => .inr (.inr k))
    obtain ⟨m, _, look⟩ := I.loc
    obtain ⟨u, r, where_⟩ := look i y v e1 e2 vis
    obtain ⟨d, hd'⟩ := clo_has (cells := X.env.cells) k
    refine ⟨u, d, r, hd', ?_⟩
    have up := clo_cells (L.has I.ok) hd'
    rcases where_ with ⟨isLocal, _⟩ | ⟨_, d', hd2, isCell⟩
    · have isLocal : X.env.scope.names.lookup y = some .local := isLocal
      rcases L.free _ (PySem.mem_of_lookup k) rfl with q | q
      · rw [show X.env.scope.names.lookup y = _ from q] at isLocal
        cases isLocal
      · rw [show X.env.scope.names.lookup y = _ from q] at isLocal
        cases isLocal
    · rw [up] at hd2
      cases hd2
      exact isCell
  len := I.len
section
variable {X : Cx} {pins : List (Addr × Obj)} {σ : L2.St} {H HZ : Hp} {s s1 : Shared}
/-- the lambda's body is entered, its own names bound -/
theorem lam_in {A : Around} {outer stack : List Env} {E : XK} {scope : Scope} {f c' : Addr} {h₁ : Heap} {tk : Nat} {m₁ : Str → Option Value} (C : CapAt X scope σ H s) (L : LamS X.N X.env.scope scope) (e0 : Env0 X.prog X.w X.K X.mg X.base A outer s1 HZ) (hd : A.handled = none)
    (un : Un (frs stack) [] H HZ s.heap s1.heap) (hns : h₁.Ns s1.heap.objs.size m₁) (kp : ∀ b o, s1.heap.get? b = some o → h₁.get? b = some o) :
    Inv (lamCx X A outer s1 HZ E scope f c') [] σ HZ { s1 with heap := h₁, toks := tk } := by
  have noEx : ∀ {b : Addr} {p : Prop}, b ∈ (lamCx X A outer s1 HZ E scope f c').ex → p := fun z => nomatch (show _ ∈ ([] : List Addr) from z)
  have moved : ∀ {c : Addr} {v : Option Value}, H c = none → s.heap.IsCell c v → h₁.IsCell c v := by
    rintro c v free ⟨o, there, isCell⟩
    obtain ⟨sl, there'⟩ := un.any there free (by simp)
    exact ⟨{ o with slots := sl }, kp _ _ there', isCell⟩
  exact {
    ok := {
      mod := e0.mod, kind := L.kind, glob := rfl, blt := rfl, above := Nat.le_refl _
      inj := fun y z c e1 e2 => C.inj y z c (C.out e1) (C.out e2)
      has := fun y hy => by
        have hy : scope.names.lookup y = some .cell ∨ scope.names.lookup y = some .free := hy
        rcases hy with k | k
        · exact absurd rfl (L.own _ (PySem.mem_of_lookup k)).1
        · exact clo_has k
      cab := fun y c z _ => nomatch (show false = true from z)
      hd := fun _ => hd
      frames := Around.frames_deeper e0.frames
      stk := .inr ⟨rfl, rfl⟩
      exf := fun b z => noEx z
      bs := e0.bs, bsz := e0.bsz
      noex := fun b _ _ z => noEx z
      exfs := fun b z => noEx z
      funs := e0.funs, frf := e0.frf }
    os := rfl
    bare := e0.bare
    base := Un.kept kp
    loc := ⟨m₁, hns, fun i y v e1 e2 e3 => by
      have e3 : Vis scope y := e3
      rcases e3 with k | k | k
      · exact absurd (List.mem_of_getElem? e1) ((L.own _ (PySem.mem_of_lookup k)).2 rfl)
      · exact absurd rfl (L.own _ (PySem.mem_of_lookup k)).1
      · obtain ⟨u, d, r, hd', isCell⟩ := C.loc i y v e1 e2 k
        exact ⟨u, r, .inr ⟨.inr k, d, hd', moved (C.cell y d hd').1 isCell⟩⟩⟩
    cell := fun y c e => by
      obtain ⟨free, v, isCell⟩ := C.cell y c e
      exact ⟨v, moved free isCell⟩
    free := e0.hok.fresh (Nat.le_refl _)
    freeC := fun y c e => by
      obtain ⟨free, v, o, there, _⟩ := C.cell y c e
      exact un.free c o there free (by simp)
    pin := fun q hq => nomatch (show q ∈ ([] : List (Addr × Obj)) from hq)
    hok := e0.hok.kept kp
    len := C.len }
end
/-- a lambda of the text: its default, what it asks -/
structure LamK where
  params : Arguments
  body : Expr
  scope : Scope
  dflt : Option Int
  t : XK → TE
def Dfl (o : Option Int) (dV : Value) (H : Hp) : Prop := match o with
  | none => dV = .none
  | some i => ∃ t, dV = .ref t ∧ H t = some (.tup [.int i])
def DflS (o : Option Int) (dV : Value) (h : Heap) : Prop := match o with
  | none => dV = .none
  | some _ => ∃ (t : Addr) (ob : Obj) (n : Nat) (u : Value), dV = .ref t ∧ h.get? t = some ob ∧ ob.data = .seq [u].toArray n
theorem Dfl.ext {o : Option Int} {dV : Value} {H H' : Hp} (h : Dfl o dV H) (k : ExtN H H') : Dfl o dV H' := by
  cases o with
  | none => exact h
  | some i =>
    obtain ⟨t, e1, e2⟩ := h
    exact ⟨t, e1, k _ _ e2 fun _ z => nomatch z⟩
theorem Dfl.tup {o : Option Int} {dV : Value} {H H' : Hp} (h : Dfl o dV H) (k : ∀ b xs, H b = some (.tup xs) → H' b = some (.tup xs)) : Dfl o dV H' := by
  cases o with
  | none => exact h
  | some i =>
    obtain ⟨t, e1, e2⟩ := h
    exact ⟨t, e1, k _ _ e2⟩
theorem vals_one {v : V} {its : List Value} (h : Vals [v] its) : ∃ u, its = [u] := by
  cases h with
  | cons r t =>
    cases t
    exact ⟨_, rfl⟩
/-- its function object stands at f -/
def KeepAt (X : Cx) (L : LamK) (H : Hp) (f c' : Addr) : Prop := ∃ dV doc pm ctv : Value, H f = some (FunO (lamOb X L.params L.body L.scope dV doc pm c' ctv)) ∧ H c' = some (CodeO c' (X.env.qual ++ "<lambda>")) ∧ Dfl L.dflt dV H
theorem KeepAt.ext {X : Cx} {L : LamK} {H H' : Hp} {f c' : Addr} (h : KeepAt X L H f c') (k : ExtN H H') : KeepAt X L H' f c' := by
  obtain ⟨dV, doc, pm, ctv, h1, h2, h3⟩ := h
  exact ⟨dV, doc, pm, ctv, k _ _ h1 funO_ne, k _ _ h2 codeO_ne, h3.ext k⟩
structure LamOk (X : Cx) (k : Nat) (L : LamK) : Prop where
  ls : LamS X.N X.env.scope L.scope
  bind : ∀ (q : Str) (cl : List (Str × Addr)) (dV doc pm cdv ctv : Value) (s : Shared), DflS L.dflt dV s.heap → ∃ binds : List (Str × Value), (∀ y ∈ binds, L.scope.names.lookup y.1 = some .local) ∧ BindsTo s (PySem.W.kdv_fn "<lambda>" q L.params (.expr L.body) L.scope cl dV doc pm cdv ctv) ⟨[], []⟩ binds
  body : ∀ (A : Around) (outer : List Env) (s : Shared) (H : Hp) (E : XK) (f c' : Addr), Room k (A.deeper (lamEnv X L.scope s.heap.objs.size f c')) → PE (lamCx X A outer s H E L.scope f c') L.body (L.t E)
theorem dfl_tup {P : Program} {w : World} {i : Int} {t : Addr} {H : Hp} {h : Heap} (ht : H t = some (.tup [.int i])) (ok : HOk P w H h) : ∃ (ob : Obj) (n : Nat) (u : Value), h.get? t = some ob ∧ ob.data = .seq [u].toArray n := by
  have z : ObjOk P w H h t (.tup [.int i]) := ok t _ ht
  obtain ⟨_, its, vals, isTup⟩ := z
  obtain ⟨u, rfl⟩ := vals_one vals
  obtain ⟨ob, there, _, n, data⟩ := isTup
  exact ⟨ob, n, u, there, data⟩
theorem dfl_s {P : Program} {w : World} {o : Option Int} {dV : Value} {H : Hp} {h : Heap} (d : Dfl o dV H) (ok : HOk P w H h) : DflS o dV h := by
  cases o with
  | none => exact d
  | some i =>
    obtain ⟨t, e, ht⟩ := d
    obtain ⟨ob, n, u, there, data⟩ := dfl_tup ht ok
    exact ⟨t, ob, n, u, e, there, data⟩
section
variable {X : Cx} {pins : List (Addr × Obj)} {σ : L2.St} {H : Hp} {s : Shared}
/-- the kept lambda is called in the def that got it -/
theorem act_keep {CXg : CXT} {Eg : XK} {Ng : List Str} {qg : Str} {sg : Scope} {g f c' : Addr} {cdg : Value} {k i : Nat} {a : Str} {pn : List (Addr × Obj)} {xe : Value → Shared → Prop} {W : WX} {E : XK} {p1 p2 : Pos} {L : LamK}
    (I : Inv X pins σ H s) (ok : LamOk X k L) (at_ : KeepAt X L H f c')
    (tk : Takes ((cxOf CXg X.prog X.w X.K X.mg X.base Ng qg sg g cdg X.A X.stack s H Eg).tr pn xe) W) (hW : ∀ cls d σ' H', E cls d H' → W cls d σ' H') (hr : Room (k + 1) (X.A.deeper (envOfC qg sg s.heap.objs.size g cdg)))
    (hN : Ng[i]? = some a) (hv : Vis sg a) (hd : (a == ("__debug__" : Str)) = false := by decide) (hcd : (a == ("__classdict__" : Str)) = false := by decide) :
    PE ((cxOf CXg X.prog X.w X.K X.mg X.base Ng qg sg g cdg X.A X.stack s H Eg).tr pn xe) (.Call (.Name a p1) [] [] p2)
      (fun σZ HZ Q => σZ[i]? = some (some (.ref f)) ∧ HZ c' = some (CodeO c' (X.env.qual ++ "<lambda>")) ∧ L.t E σ HZ Q) := by
  obtain ⟨dV, doc, pm, ctv, hfun, _, hdf⟩ := at_
  refine ⟨fun pinsZ sZ σZ HZ Q IZ => ?_⟩
  rintro ⟨slot, isCode, asks⟩
  refine wpAny_Call_Name_kw (thn ((pe_var (pos := p1) (i := i) hN hv hd hcd).run pinsZ sZ σZ HZ (fun v H1 => v = .ref f ∧ H1 = HZ) IZ ⟨.ref f, slot, rfl, rfl⟩) fun u s1 got => ?_)
  obtain ⟨_, H1, I1, isRef, rfl, eH⟩ := got
  rw [eH] at I1
  obtain rfl : u = Value.ref f := isRef
  have un : Un (frs X.stack) [] H HZ s.heap s1.heap := I1.base
  have fun1 := un.frzs _ _ _ hfun
  have of1 := (I1.hok f _ fun1).1
  refine PySem.W.callWith_F0 ⟨_, _, _, _, of1⟩ ?_
  have dfl1 : DflS L.dflt dV s1.heap := dfl_s (hdf.tup un.tups) I1.hok
  obtain ⟨⟨oc, vs, t, hoc, hdc, hvc⟩, _, _⟩ := I1.hok c' _ isCode
  have ran : codeAny (model X.prog X.w) (X.A.deeper (envOfC qg sg s.heap.objs.size g cdg)) (.call (.ref f) ⟨[], []⟩) (CR (L2.CX X.prog X.w) (envOfC qg sg s.heap.objs.size g cdg :: X.stack) X.prog X.w HZ s1 Q E) s1 := by
    obtain ⟨binds, locals, bound⟩ := ok.bind (X.env.qual ++ "<lambda>") (cloFrom X.env.cells L.scope.names []) dV doc pm (.ref c') ctv s1 dfl1
    refine PySem.W.kla_callFunE hr.depth of1 rfl ok.ls.co ok.ls.gen rfl ⟨c', oc, vs, t, rfl, hoc, hdc, hvc⟩ (bound _ _ _ _ ?_)
    refine wpAny_newFunctionEnv (fun y hy => (ok.ls.own y hy).1) locals (fun h₁ hns hsb => ⟨I1.nolimit.fresh _ hsb, ?_⟩) ok.ls.kind
    have kp : ∀ b o, s1.heap.get? b = some o → h₁.get? b = some o := fun b o e => hsb.extBut b o (Nat.ne_of_lt (Heap.lt_size e)) (Heap.get?_push_of_some _ e)
    have J := lam_in (A := X.A.deeper (envOfC qg sg s.heap.objs.size g cdg)) (outer := envOfC qg sg s.heap.objs.size g cdg :: X.stack) (E := E) (f := f) (c' := c') (tk := s1.toks + binds.length) (CapAt.of I ok.ls) ok.ls I1.env0 hr.hd un hns kp
    refine PySem.W.kla_codeExpr (wpAny_mono ((ok.body _ _ s1 HZ E f c' (hr.deeper _)).run [] _ _ HZ Q J asks) (fun v s' done_ => ?_) fun e s' out => out)
    obtain ⟨v', H', J', rv, q⟩ := done_
    exact ⟨v', H', J'.os, J'.bare, J'.base, J'.hok, rv, q⟩
  have up : Passes (L2.CX X.prog X.w) ((cxOf CXg X.prog X.w X.K X.mg X.base Ng qg sg g cdg X.A X.stack s H Eg).tr pn xe) E := passes_call tk hW
  refine wpAny_call (codeAny_mono ran fun r s' hq => ?_)
  cases r with
  | error e => exact up pinsZ σZ HZ s1 e s' I1 hq
  | ok fl =>
    cases fl with
    | ret u => exact I1.after hq
    | next => exact False.elim hq
    | brk => exact False.elim hq
    | cont => exact False.elim hq
end
/-- x(e), x a def of the text, e what a kept lambda is -/
def tFnc (X : Cx) (Ok : LamK → Prop) (TT : (XK → Hp → VK → Prop) → Hp → VK → Prop) (t : TA) : TE := fun σ H Q => t σ H fun vs H1 => ∃ (L : LamK) (f c' : Addr), vs = [.ref f] ∧ Ok L ∧ KeepAt X L H1 f c' ∧ TT (fun E H' Q' => L.t E σ H' Q') H1 Q
theorem pe_fnc {X : Cx} {k : Nat} {Ok : LamK → Prop} {TT : (XK → Hp → VK → Prop) → Hp → VK → Prop} {x a : Str} {g : Addr} {st : Stmt} {Ng : List Str} {e : Expr} {t : TA} {p pos : Pos} (D : Dfn X.K X.mg x st g [a]) (Sg : FnScope Ng [a] (defScope st)) (hNg : Ng[0]? = some a) (hva : Vis (defScope st) a)
    (hG : ∀ cdv : Value, GivesTo X Ng x (defScope st) g cdv (defBody st) a (X.env.qual ++ "<lambda>") TT) (hr : Room (k + 2) X.A) (hok : ∀ L, Ok L → LamOk X k L) (ha : PA X [e] t)
    (hst : starEach (e :: []) X.env = (false, eval e X.env) :: starEach [] X.env := by rfl) (hpl : (backTo pos (starEach [] X.env)).any (·.1) = false := by rfl)
    (hg : Gl X x := by rfl) (hdb : (x == ("__debug__" : Str)) = false := by decide) (hd : (a == ("__debug__" : Str)) = false := by decide) (hcd : (a == ("__classdict__" : Str)) = false := by decide) :
    PE X (.Call (.Name x p) [e] [] pos) (tFnc X Ok TT t) := by
  obtain ⟨fd, F, b⟩ := D.ex
  obtain ⟨oc, od, kV, doc, pm, an, cdv, ct, osl, rfl, lk, hc⟩ := F.ex
  refine ⟨fun pins s σ H Q I h => ?_⟩
  refine wpAny_Call_Name_kw (ld_glob I hg D.g ?_ hdb)
  refine PySem.W.callWith_K (h₀ := X.base) I.ok.mod.kin F.kp (thn (ha.run pos pins s σ H _ I h) fun us s1 got => ?_) hst hpl
  obtain ⟨vs, H1, I1, r, L, f, c', rfl, ok, at_, asks⟩ := got
  refine ⟨I1.kIn, ?_⟩
  obtain rfl : us = [Value.ref f] := by
    match us, r with
    | [_], .cons r .nil => rw [show _ = Value.ref f from r]
  have isCode : H1 c' = some (CodeO c' (X.env.qual ++ "<lambda>")) := by
    obtain ⟨_, _, _, _, _, z, _⟩ := at_
    exact z
  have ran : codeAny (model X.prog X.w) X.A (.call (.ref g) ⟨[.ref f], []⟩) (CR C8.CX0 X.stack X.prog X.w H1 s1 Q C8.E0) s1 := by
    refine run_ofS (N := Ng) (ps := [a]) (us := [.ref f]) (vs := [.ref f]) lk hc Sg hr I1.env0 (b s1 [.ref f] I1.kIn rfl) (.cons rfl .nil) rfl fun hr' => ?_
    obtain ⟨t', ht', hq'⟩ := hG cdv f c' s1 H1 Q (fun E H' Q' => L.t E σ H' Q') (fun W pn xe E p1 p2 tk hW => act_keep (i := 0) I1 (hok L ok) at_ tk hW hr' hNg hva hd hcd) isCode asks
    exact ⟨t', ht'.nox, hq'⟩
  refine wpAny_call (codeAny_mono ran fun r s' hq => ?_)
  cases r with
  | error e => exact (show False from hq).elim
  | ok fl =>
    cases fl with
    | ret u => exact I1.after hq
    | next => exact False.elim hq
    | brk => exact False.elim hq
    | cont => exact False.elim hq
/-- a written lambda as a value: what it asks when it is called -/
def tFnL (X : Cx) (k : Nat) (T : List (Addr × Str)) (t : XK → TE) : TE := fun _ H Q => Tabs T H ∧ ∀ (L : LamK) (f c' : Addr) (H2 : Hp), LamOk X k L → L.t = t → ExtN H H2 → Tabs T H2 → KeepAt X L H2 f c' → Q (.ref f) H2
section
variable {X : Cx} {T : List (Addr × Str)} {c P : Addr} {params : Arguments} {body : Expr} {scope : Scope} {pos : Pos} {k : Nat} {t : XK → TE}
theorem pe_lamL0 (TB : TabB X.base X.mg c P) (hcode : X.env.code = .ref c) (hm : (P, X.env.qual ++ "<lambda>") ∈ T) (hu : ∀ p ∈ T, p.1 = P → p.2 = X.env.qual ++ "<lambda>") (Ls : LamS X.N X.env.scope scope) (hdef : defaultsOf params X.env = ([], []))
    (hbind : ∀ (q : Str) (cl : List (Str × Addr)) (doc pm cdv ctv : Value), bindArgs (PySem.W.kdv_fn "<lambda>" q params (.expr body) scope cl .none doc pm cdv ctv) ⟨[], []⟩ = pure [])
    (hbody : ∀ (A : Around) (outer : List Env) (s : Shared) (H : Hp) (E : XK) (f c' : Addr), Room k (A.deeper (lamEnv X scope s.heap.objs.size f c')) → PE (lamCx X A outer s H E scope f c') body (t E)) : PE X (.Lambda params body scope pos) (tFnL X k T t) := by
  refine ⟨fun pins s σ H Q I h => (pe_lam0 TB hcode hm hu Ls hdef).run pins s σ H Q I ?_⟩
  obtain ⟨tabs, h⟩ := h
  refine ⟨tabs, fun f c' doc pm ctv H1 e1 t1 nf isCode => ?_⟩
  have new : ∀ b o, H1 b = some o → upd H1 f (FunO (lamOb X params body scope .none doc pm c' ctv)) b = some o := fun b o e => by
    rw [upd_ne (ne_of_none e nf)]
    exact e
  refine h ⟨params, body, scope, none, t⟩ f c' _ ⟨Ls, fun q cl dV doc pm cdv ctv s d => ?_, hbody⟩ rfl (e1.trans (.of new)) (t1.ext new) ⟨.none, doc, pm, ctv, upd_same, new _ _ isCode, rfl⟩
  have d : dV = .none := d
  subst d
  exact ⟨[], fun y hy => (nomatch hy), .of_eq (hbind q cl doc pm cdv ctv)⟩
theorem pe_lamL1 {i : Int} {e : Expr} {a : Str} (TB : TabB X.base X.mg c P) (hcode : X.env.code = .ref c) (hm : (P, X.env.qual ++ "<lambda>") ∈ T) (hu : ∀ p ∈ T, p.1 = P → p.2 = X.env.qual ++ "<lambda>") (Ls : LamS X.N X.env.scope scope) (hd : params.defaults = [e]) (hk : params.kw_defaults = []) (he : PE X e (tC (.int i)))
    (hloc : scope.names.lookup a = some .local)
    (hbind : ∀ (q : Str) (cl : List (Str × Addr)) (tt : Addr) (ob : Obj) (n : Nat) (u doc pm cdv ctv : Value) (s : Shared), s.heap.get? tt = some ob → ob.data = .seq [u].toArray n → BindsTo s (PySem.W.kdv_fn "<lambda>" q params (.expr body) scope cl (.ref tt) doc pm cdv ctv) ⟨[], []⟩ [(a, u)])
    (hbody : ∀ (A : Around) (outer : List Env) (s : Shared) (H : Hp) (E : XK) (f c' : Addr), Room k (A.deeper (lamEnv X scope s.heap.objs.size f c')) → PE (lamCx X A outer s H E scope f c') body (t E)) : PE X (.Lambda params body scope pos) (tFnL X k T t) := by
  refine ⟨fun pins s σ H Q I h => (pe_lam1 TB hcode hm hu Ls hd hk he).run pins s σ H Q I ?_⟩
  obtain ⟨tabs, h⟩ := h
  refine ⟨tabs, fun tt nt f c' doc pm ctv H1 e1 t1 nf isCode => ?_⟩
  have new : ∀ b o, H1 b = some o → upd H1 f (FunO (lamOb X params body scope (.ref tt) doc pm c' ctv)) b = some o := fun b o e => by
    rw [upd_ne (ne_of_none e nf)]
    exact e
  have e0 : ExtN H (upd H tt (.tup [.int i])) := .of fun b o e => by
    rw [upd_ne (ne_of_none e nt)]
    exact e
  refine h ⟨params, body, scope, some i, t⟩ f c' _ ⟨Ls, fun q cl dV doc pm cdv ctv s d => ?_, hbody⟩ rfl ((e0.trans e1).trans (.of new)) (t1.ext new) ⟨.ref tt, doc, pm, ctv, upd_same, new _ _ isCode, tt, rfl, new _ _ (e1 _ _ upd_same fun _ z => nomatch z)⟩
  obtain ⟨t2, ob, n, u, e, there, data⟩ := d
  subst e
  refine ⟨[(a, u)], fun y hy => ?_, hbind q cl t2 ob n u doc pm cdv ctv s there data⟩
  obtain rfl : y = (a, u) := List.mem_singleton.mp hy
  exact hloc
end
end LamY
/-! ### a comprehension whose element knows the def's state at the block's entry -/
namespace LcK
open PySem PySem.Spec PyProof.Rows L2
/-- the element's promise in the block that is entered at s, H -/
abbrev ElK (X : Cx) (pins : List (Addr × Obj)) (σ : L2.St) (scope : Scope) (elt : Expr) (te : TE) : Prop := ∀ (s : Shared) (H : Hp) (C : Addr) (cl : List (Str × Addr)) (fp : List Addr), Inv X pins σ H s → (∀ b ∈ fp, FpOk X pins H b) → PE (X.blk s H scope (compEnvC scope cl C X.env) fp) elt te
variable {X : Cx}
theorem lc_coreK {pins : List (Addr × Obj)} {sh : Shared} {σ : L2.St} {H : Hp} {Q : VK} {elt tg src : Expr} {tests : List Expr} {scope : Scope} {own : List (Str × Nat)} {pos pos' : Pos} {wi : TI} {g : TG} {tt : TT} {te : TE} {use : Option (Value → Sem Unit)} {Qf : Value → Shared → Prop}
    (calm : X.calm = true) (nd : X.N.Nodup) (I : Inv X pins σ H sh) (hi : PI X tg src wi) (blk : BlkOk X.N X.env.scope scope own)
    (hg : ∀ (s : Shared) (H : Hp) (C : Addr) (cl : List (Str × Addr)) (fp : List Addr), PG (X.blk s H scope (compEnvC scope cl C X.env) fp) tg g)
    (ht : ∀ (s : Shared) (H : Hp) (C : Addr) (cl : List (Str × Addr)) (fp : List Addr), PTs (X.blk s H scope (compEnvC scope cl C X.env) fp) tests tt)
    (he : ElK X pins σ scope elt te) (plain : ∀ x, foldedSetIterable src X.env x = pure x) (ask : tLc wi g tt te (own.map (·.2)) σ H Q)
    (back : ∀ D C s' m H', Inv X pins σ H' s' → Q (.ref D) H' → s'.heap.Ns C m → FpOk X pins H' C → compPost (model X.prog X.w) X.A X.xe use Qf (.ref D) C (.ok .next) s') :
    wpAny (model X.prog X.w) X.A (comprehension (.ListComp elt [⟨tg, src, tests, 0⟩] scope pos) scope X.env pos' (newList []) false (eval src X.env) use) Qf X.xe sh := by
  have closed : ∀ y ∈ scope.names, y.2 = .free → ∃ c, X.env.cells.lookup y.1 = some c := fun y m k => I.ok.has _ (blk.free y m k)
  refine wpAny_comprehension_free (use := use) rfl plain (closure_ok closed) blk.kind (fun y m k => by rw [blk.uniq y m, k]) (thn (hi.run pins sh σ H _ I ask) fun v1 s1 h1 => thn h1 fun v2 s2 h2 => ?_)
  obtain ⟨it, fp, tn, J, Hi, rfl, Ii, T, at0, fpo, q⟩ := h2
  refine wpAny_newObj_type (newEnv_comp ?_) (by show 0 ≤ sizeLine; decide)
  -- the list that grows
  obtain ⟨D, hD⟩ : ∃ D, D = s2.heap.objs.size := ⟨_, rfl⟩
  rw [← hD]
  have fresh : Hi D = none := Ii.hok.fresh (Nat.le_of_eq hD.symm)
  obtain ⟨W, ⟨m0, w0⟩, turn⟩ := q D fresh
  obtain ⟨sl, hsl⟩ : ∃ sl : Shared, sl = { s2 with heap := s2.heap.push { cls := .type "list", data := .seq ([] : List Value).toArray } } := ⟨_, rfl⟩
  have heapl : sl.heap = s2.heap.push { cls := .type "list", data := .seq ([] : List Value).toArray } := by rw [hsl]
  obtain ⟨Hl, hHl⟩ : ∃ Hl, Hl = upd Hi D (.lst []) := ⟨_, rfl⟩
  have Il : Inv X pins σ Hl sl := by
    rw [hsl, hHl]
    exact Ii.laid (t' := s2.toks) (fun b o e => Heap.get?_push_of_some _ e) (Nat.le_of_eq hD.symm) ⟨Nat.zero_le _, [], 0, .nil, by rw [hD]; exact Heap.get?_push_size _ rfl⟩
  have below : ∀ b ∈ fp, b < s2.heap.objs.size := fun b m => by
    obtain ⟨o, e, _⟩ := T.obj _ _ at0 b m
    exact Heap.lt_size e
  have fpl : ∀ b ∈ fp, FpOk X pins Hl b ∧ b < sl.heap.objs.size := fun b m => by
    have lt := below b m
    refine ⟨⟨?_, (fpo b m).2⟩, by rw [heapl, Heap.size_push]; exact Nat.lt_succ_of_lt lt⟩
    rw [hHl, upd_ne (by rw [hD]; exact Nat.ne_of_lt lt)]
    exact (fpo b m).1
  have atl : tn 0 sl.heap := T.keep _ _ _ at0 fun b _ o e => by rw [heapl]; exact Heap.get?_push_of_some _ e
  have Ib := block_start Il blk nd fpl
  have pe := he sl Hl sl.heap.objs.size (cellsFrom (sl.heap.objs.size + 1) scope.names (cloFrom X.env.cells scope.names [])) fp Il fun b m => (fpl b m).1
  have pg := hg sl Hl sl.heap.objs.size (cellsFrom (sl.heap.objs.size + 1) scope.names (cloFrom X.env.cells scope.names [])) fp
  have pt := ht sl Hl sl.heap.objs.size (cellsFrom (sl.heap.objs.size + 1) scope.names (cloFrom X.env.cells scope.names [])) fp
  rw [← hsl]
  show codeAny _ _ (.compStart (.ListComp elt [⟨tg, src, tests, 0⟩] scope pos) 0 (.ref it) (.ref D) (compEnvC scope (cellsFrom (sl.heap.objs.size + 1) scope.names (cloFrom X.env.cells scope.names [])) sl.heap.objs.size X.env)) (compPost (model X.prog X.w) X.A X.xe use Qf (.ref D) sl.heap.objs.size) { sl with heap := pushCells (sl.heap.push { cls := .type "dict", data := .dict #[] }) scope.names }
  have nfp : ∀ b ∈ fp, Hl b = none := fun b m => (fpl b m).1.1
  rw [← hHl] at w0
  obtain ⟨ce, hce⟩ : ∃ ce, ce = compEnvC scope (cellsFrom (sl.heap.objs.size + 1) scope.names (cloFrom X.env.cells scope.names [])) sl.heap.objs.size X.env := ⟨_, rfl⟩
  rw [← hce] at Ib pe pg pt ⊢
  have cel : ce.locals = sl.heap.objs.size := by rw [hce]; rfl
  obtain ⟨sb, hsb⟩ : ∃ sb : Shared, sb = { sl with heap := pushCells (sl.heap.push { cls := .type "dict", data := .dict #[] }) scope.names } := ⟨_, rfl⟩
  rw [← hsb] at Ib ⊢
  have atb : tn 0 sb.heap := T.keep _ _ _ atl fun b _ o e => by rw [hsb]; exact pushCells_keeps _ _ _ _ (Heap.get?_push_of_some _ e)
  have calmB : ∀ {σ' : L2.St} {H' : Hp} {s' : Shared}, Inv (X.blk sl Hl scope ce fp) [] σ' H' s' → (∀ b ∈ fp, H' b = none) → ∀ b ∈ fp, FpOk (X.blk sl Hl scope ce fp) [] H' b := fun {σ' H' s'} J' hn b m =>
    ⟨hn b m, (J'.ok.exf b m).1, J'.ok.exfs b m, .inl m, fun x c e => (J'.ok.exf b m).2 x c e, fun p hp => absurd (show p ∈ ([] : List (Addr × Obj)) ++ [] from hp) (by simp)⟩
  refine codeAny_compStart_list (?_ : codeAny (model X.prog X.w) X.A (.compLoop (.ListComp elt [⟨tg, src, tests, 0⟩] scope pos) 0 (.ref it) (.ref D) ce) (compPost (model X.prog X.w) X.A X.xe use Qf (.ref D) sl.heap.objs.size) sb) (T.self X.A 0 _ _ _ atb ?_)
  all_goals
    refine compLoop_any (fun n s' => ∃ i H', Inv (X.blk sl Hl scope ce fp) [] (wipe σ (own.map (·.2))) H' s' ∧ tn i s'.heap ∧ (∀ b ∈ fp, H' b = none) ∧ W i n H') ?_ m0 ⟨0, Hl, Ib, atb, nfp, w0⟩
    rintro n s5 ⟨i, H5, I5, at5, n5, w5⟩
    rcases turn i n H5 w5 with ⟨stop, qq⟩ | ⟨go, Nx, nxt, step⟩
    · refine thnF (T.done (X.blk sl Hl scope ce fp) rfl rfl rfl calm i [] s5 _ H5 (fun _ _ => False) I5 (calmB I5 n5) at5 stop) fun r s6 ⟨er, I6⟩ => ?_
      subst er
      have I7 : Inv X pins σ H5 s6 := Il.call' (ch := fp) I6.os I6.base I6.hok I6.bare fun b m => ⟨(fpl b m).1.2.2.2.1, (fpl b m).1.2.1, (fpl b m).1.2.2.2.2.1, (fpl b m).1.2.2.2.2.2⟩
      have nC : H5 sl.heap.objs.size = none := cel ▸ I6.free
      obtain ⟨m, hn, _⟩ := I6.loc
      have hn : s6.heap.Ns ce.locals m := hn
      rw [cel] at hn
      exact back D sl.heap.objs.size s6 m H5 I7 qq hn (Il.fpOk (Nat.le_refl _) nC)
    · refine thnF (T.item (X.blk sl Hl scope ce fp) rfl rfl rfl calm i [] s5 _ H5 (fun _ _ => False) I5 (calmB I5 n5) at5 go) fun r s6 ⟨u, er, h6⟩ => ?_
      subst er
      refine thnF h6 fun _ s7 ⟨x, H7, I7, r7, y7, at7, n7⟩ => ?_
      refine thnF (pg.run _ s7 _ H7 x u _ (I7.pinned (calmB I7 n7) (T.obj _ _ at7)) r7 (step x H7 y7)) fun _ s8 ⟨σ8, H8, I8, ew, q8⟩ => ?_
      refine thnF (pt.run _ s8 σ8 H8 _ I8 q8) fun b s9 ⟨H9, I9, q9⟩ => ?_
      have turned : ∀ {s' : Shared} {H' : Hp}, Inv (X.blk sl Hl scope ce fp) ([] ++ pinsAt fp s7.heap) σ8 H' s' → Nx H' → ∃ m, m < n ∧ ∃ i H', Inv (X.blk sl Hl scope ce fp) [] (wipe σ (own.map (·.2))) H' s' ∧ tn i s'.heap ∧ (∀ b ∈ fp, H' b = none) ∧ W i m H' := fun {s' H'} J' nx => by
        obtain ⟨m', lt, w'⟩ := nxt H' nx
        have kept : ∀ b ∈ fp, ∀ o, s7.heap.get? b = some o → s'.heap.get? b = some o ∧ H' b = none := fun b m o e =>
          let z := J'.pin (b, o) (List.mem_append_right _ (List.mem_append_right _ (mem_pinsAt m e)))
          ⟨z.1, z.2.1⟩
        refine ⟨m', lt, i + 1, H', (J'.unpinned (pins := [])).weak (by rw [← ew, wipe_length]) (fun j v e => ?_), T.keep _ _ _ at7 fun b m o e => (kept b m o e).1, fun b m => ?_, w'⟩
        · rw [← ew] at e
          exact (wipe_some e).1
        · obtain ⟨o, e, _⟩ := T.obj _ _ at7 b m
          exact (kept b m o e).2
      cases b with
      | false =>
        simp only [Bool.false_eq_true, if_false] at q9 ⊢
        exact turned I9 q9
      | true =>
        simp only [if_true] at q9 ⊢
        refine thnF (pe.run _ s9 σ8 H9 _ I9 q9) fun z s10 ⟨yv, H10, I10, r10, ac, hD10, hz10, nx⟩ => ?_
        exact app_ok (X := X.blk sl Hl scope ce fp) I10 hD10 hz10 r10 fun s11 I11 => turned I11 nx
/-- .. as a value; what the element asks may go by the def's variables at the entry -/
def tLcK (wi : TI) (g : TG) (tt : TT) (te : L2.St → TE) (vs : List Nat) : TE := fun σ H Q => tLc wi g tt (te σ) vs σ H Q
theorem pe_lcK {elt tg src : Expr} {tests : List Expr} {scope : Scope} {own : List (Str × Nat)} {pos : Pos} {wi : TI} {g : TG} {tt : TT} {te : L2.St → TE} (calm : X.calm = true) (nd : X.N.Nodup) (hi : PI X tg src wi) (blk : BlkOk X.N X.env.scope scope own)
    (hg : ∀ (s : Shared) (H : Hp) (C : Addr) (cl : List (Str × Addr)) (fp : List Addr), PG (X.blk s H scope (compEnvC scope cl C X.env) fp) tg g)
    (ht : ∀ (s : Shared) (H : Hp) (C : Addr) (cl : List (Str × Addr)) (fp : List Addr), PTs (X.blk s H scope (compEnvC scope cl C X.env) fp) tests tt)
    (he : ∀ (pins : List (Addr × Obj)) (σ : L2.St), ElK X pins σ scope elt (te σ)) (plain : ∀ x, foldedSetIterable src X.env x = pure x := by intro _; rfl) : PE X (.ListComp elt [⟨tg, src, tests, 0⟩] scope pos) (tLcK wi g tt te (own.map (·.2))) := by
  refine ⟨fun pins s σ H Q I ask => ?_⟩
  rw [eval_ListComp]
  refine lc_coreK calm nd I hi blk hg ht (he pins σ) plain ask fun D C s' m H' I' q hn f => ⟨m, hn, fun h2 keep => ?_⟩
  obtain ⟨f0, f1, f2, f3, f4, f5⟩ := f
  exact ⟨.ref D, H', I'.turned (t' := s'.toks) (fun b o nb e => (keep.2 b nb).trans e) f0 f1 f3 f4 f5, rfl, q⟩
end LcK
/-! ### kept lambdas called in a comprehension's block -/
namespace LamY
open PySem PySem.Spec PyProof.Rows L2 LamX
/-- what a lambda captured, within a block of its def -/
theorem CapAt.blk {X : Cx} {pins pinsB : List (Addr × Obj)} {σ σB : L2.St} {H H1 : Hp} {s s1 : Shared} {scope bsc : Scope} {ce : Env} {fp : List Addr} (I : Inv X pins σ H s) (hf : ∀ b ∈ fp, FpOk X pins H b) (L : LamS X.N X.env.scope scope) (J : Inv (X.blk s H bsc ce fp) pinsB σB H1 s1) : CapAt X scope σ H1 s1 := by
  have C := CapAt.of I L
  have un : Un (frs X.stack) fp H H1 s.heap s1.heap := J.base
  have off : ∀ {y : Str} {c : Addr}, (cloFrom X.env.cells scope.names []).lookup y = some c → c ∉ fp := fun {y c} e m => (hf c m).2.2.2.2.1 y c (C.out e) rfl
  have moved : ∀ {c : Addr} {v : Option Value}, c ∉ fp → H c = none → s.heap.IsCell c v → s1.heap.IsCell c v := by
    rintro c v nf free ⟨o, there, isCell⟩
    obtain ⟨sl, there'⟩ := un.any there free nf
    exact ⟨{ o with slots := sl }, there', isCell⟩
  exact {
    inj := C.inj, out := C.out, len := C.len
    cell := fun y c e => by
      obtain ⟨free, v, isCell⟩ := C.cell y c e
      obtain ⟨o, there, _⟩ := id isCell
      exact ⟨un.free c o there free (off e), v, moved (off e) free isCell⟩
    loc := fun i y v e1 e2 k => by
      obtain ⟨u, c, r, e, isCell⟩ := C.loc i y v e1 e2 k
      exact ⟨u, c, r, e, moved (off e) (C.cell y c e).1 isCell⟩ }
section
variable {X : Cx} {pinsB : List (Addr × Obj)} {σ σB : L2.St} {H H0 : Hp} {s s0 : Shared} {bsc : Scope} {ce : Env} {fp : List Addr}
/-- the kept lambda is called in the def that got it from the block -/
theorem act_keepB {CXg : CXT} {Eg : XK} {Ng : List Str} {qg : Str} {sg : Scope} {g f c' : Addr} {cdg : Value} {k i : Nat} {a : Str} {pn : List (Addr × Obj)} {xe : Value → Shared → Prop} {W : WX} {E : XK} {p1 p2 : Pos} {L : LamK}
    (I : Inv (X.blk s0 H0 bsc ce fp) pinsB σB H s) (Cp : CapAt X L.scope σ H s) (ok : LamOk X k L) (at_ : KeepAt X L H f c')
    (tk : Takes ((cxOf CXg X.prog X.w X.K X.mg X.base Ng qg sg g cdg X.A (X.blk s0 H0 bsc ce fp).stack s H Eg).tr pn xe) W) (hW : ∀ cls d σ' H', E cls d H' → W cls d σ' H') (hr : Room (k + 1) (X.A.deeper (envOfC qg sg s.heap.objs.size g cdg)))
    (hN : Ng[i]? = some a) (hv : Vis sg a) (hd : (a == ("__debug__" : Str)) = false := by decide) (hcd : (a == ("__classdict__" : Str)) = false := by decide) :
    PE ((cxOf CXg X.prog X.w X.K X.mg X.base Ng qg sg g cdg X.A (X.blk s0 H0 bsc ce fp).stack s H Eg).tr pn xe) (.Call (.Name a p1) [] [] p2)
      (fun σZ HZ Q => σZ[i]? = some (some (.ref f)) ∧ HZ c' = some (CodeO c' (X.env.qual ++ "<lambda>")) ∧ L.t E σ HZ Q) := by
  obtain ⟨dV, doc, pm, ctv, hfun, _, hdf⟩ := at_
  refine ⟨fun pinsZ sZ σZ HZ Q IZ => ?_⟩
  rintro ⟨slot, isCode, asks⟩
  refine wpAny_Call_Name_kw (thn ((pe_var (pos := p1) (i := i) hN hv hd hcd).run pinsZ sZ σZ HZ (fun v H1 => v = .ref f ∧ H1 = HZ) IZ ⟨.ref f, slot, rfl, rfl⟩) fun u s1 got => ?_)
  obtain ⟨_, H1, I1, isRef, rfl, eH⟩ := got
  rw [eH] at I1
  obtain rfl : u = Value.ref f := isRef
  have un : Un (frs (X.blk s0 H0 bsc ce fp).stack) [] H HZ s.heap s1.heap := I1.base
  have fun1 := un.frzs _ _ _ hfun
  have of1 := (I1.hok f _ fun1).1
  refine PySem.W.callWith_F0 ⟨_, _, _, _, of1⟩ ?_
  have dfl1 : DflS L.dflt dV s1.heap := dfl_s (hdf.tup un.tups) I1.hok
  obtain ⟨⟨oc, vs, t, hoc, hdc, hvc⟩, _, _⟩ := I1.hok c' _ isCode
  have ran : codeAny (model X.prog X.w) (X.A.deeper (envOfC qg sg s.heap.objs.size g cdg)) (.call (.ref f) ⟨[], []⟩) (CR (L2.CX X.prog X.w) (envOfC qg sg s.heap.objs.size g cdg :: (X.blk s0 H0 bsc ce fp).stack) X.prog X.w HZ s1 Q E) s1 := by
    obtain ⟨binds, locals, bound⟩ := ok.bind (X.env.qual ++ "<lambda>") (cloFrom X.env.cells L.scope.names []) dV doc pm (.ref c') ctv s1 dfl1
    refine PySem.W.kla_callFunE hr.depth of1 rfl ok.ls.co ok.ls.gen rfl ⟨c', oc, vs, t, rfl, hoc, hdc, hvc⟩ (bound _ _ _ _ ?_)
    refine wpAny_newFunctionEnv (fun y hy => (ok.ls.own y hy).1) locals (fun h₁ hns hsb => ⟨I1.nolimit.fresh _ hsb, ?_⟩) ok.ls.kind
    have kp : ∀ b o, s1.heap.get? b = some o → h₁.get? b = some o := fun b o e => hsb.extBut b o (Nat.ne_of_lt (Heap.lt_size e)) (Heap.get?_push_of_some _ e)
    have J := lam_in (A := X.A.deeper (envOfC qg sg s.heap.objs.size g cdg)) (outer := envOfC qg sg s.heap.objs.size g cdg :: (X.blk s0 H0 bsc ce fp).stack) (E := E) (f := f) (c' := c') (tk := s1.toks + binds.length) Cp ok.ls I1.env0 hr.hd un hns kp
    refine PySem.W.kla_codeExpr (wpAny_mono ((ok.body _ _ s1 HZ E f c' (hr.deeper _)).run [] _ _ HZ Q J asks) (fun v s' done_ => ?_) fun e s' out => out)
    obtain ⟨v', H', J', rv, q⟩ := done_
    exact ⟨v', H', J'.os, J'.bare, J'.base, J'.hok, rv, q⟩
  have up : Passes (L2.CX X.prog X.w) ((cxOf CXg X.prog X.w X.K X.mg X.base Ng qg sg g cdg X.A (X.blk s0 H0 bsc ce fp).stack s H Eg).tr pn xe) E := passes_call tk hW
  refine wpAny_call (codeAny_mono ran fun r s' hq => ?_)
  cases r with
  | error e => exact up pinsZ σZ HZ s1 e s' I1 hq
  | ok fl =>
    cases fl with
    | ret u => exact I1.after hq
    | next => exact False.elim hq
    | brk => exact False.elim hq
    | cont => exact False.elim hq
end
/-- x(e) in a block of X, σ the variables of X at its entry -/
def tFncB (X : Cx) (σ : L2.St) (Ok : LamK → Prop) (TT : (XK → Hp → VK → Prop) → Hp → VK → Prop) (t : TA) : TE := fun σB H Q => t σB H fun vs H1 => ∃ (L : LamK) (f c' : Addr), vs = [.ref f] ∧ Ok L ∧ KeepAt X L H1 f c' ∧ TT (fun E H' Q' => L.t E σ H' Q') H1 Q
theorem pe_fncB {X : Cx} {pins : List (Addr × Obj)} {σ : L2.St} {H0 : Hp} {s0 : Shared} {bsc : Scope} {ce : Env} {fp : List Addr} {k : Nat} {Ok : LamK → Prop} {TT : (XK → Hp → VK → Prop) → Hp → VK → Prop} {x a : Str} {g : Addr} {st : Stmt} {Ng : List Str} {e : Expr} {t : TA} {p pos : Pos}
    (I0 : Inv X pins σ H0 s0) (hf : ∀ b ∈ fp, FpOk X pins H0 b) (D : Dfn X.K X.mg x st g [a]) (Sg : FnScope Ng [a] (defScope st)) (hNg : Ng[0]? = some a) (hva : Vis (defScope st) a)
    (hG : ∀ cdv : Value, GivesTo (X.blk s0 H0 bsc ce fp) Ng x (defScope st) g cdv (defBody st) a (X.env.qual ++ "<lambda>") TT) (hr : Room (k + 2) X.A) (hok : ∀ L, Ok L → LamOk X k L) (ha : PA (X.blk s0 H0 bsc ce fp) [e] t)
    (hg : Gl (X.blk s0 H0 bsc ce fp) x) (hst : starEach (e :: []) (X.blk s0 H0 bsc ce fp).env = (false, eval e (X.blk s0 H0 bsc ce fp).env) :: starEach [] (X.blk s0 H0 bsc ce fp).env := by rfl) (hpl : (backTo pos (starEach [] (X.blk s0 H0 bsc ce fp).env)).any (·.1) = false := by rfl)
    (hdb : (x == ("__debug__" : Str)) = false := by decide) (hd : (a == ("__debug__" : Str)) = false := by decide) (hcd : (a == ("__classdict__" : Str)) = false := by decide) :
    PE (X.blk s0 H0 bsc ce fp) (.Call (.Name x p) [e] [] pos) (tFncB X σ Ok TT t) := by
  obtain ⟨fd, F, b⟩ := D.ex
  obtain ⟨oc, od, kV, doc, pm, an, cdv, ct, osl, rfl, lk, hc⟩ := F.ex
  refine ⟨fun pinsB s σB H Q I h => ?_⟩
  refine wpAny_Call_Name_kw (ld_glob I hg D.g ?_ hdb)
  refine PySem.W.callWith_K (h₀ := X.base) I.ok.mod.kin F.kp (thn (ha.run pos pinsB s σB H _ I h) fun us s1 got => ?_) hst hpl
  obtain ⟨vs, H1, I1, r, L, f, c', rfl, ok, at_, asks⟩ := got
  refine ⟨I1.kIn, ?_⟩
  obtain rfl : us = [Value.ref f] := by
    match us, r with
    | [_], .cons r .nil => rw [show _ = Value.ref f from r]
  have isCode : H1 c' = some (CodeO c' (X.env.qual ++ "<lambda>")) := by
    obtain ⟨_, _, _, _, _, z, _⟩ := at_
    exact z
  have ran : codeAny (model X.prog X.w) X.A (.call (.ref g) ⟨[.ref f], []⟩) (CR C8.CX0 (X.blk s0 H0 bsc ce fp).stack X.prog X.w H1 s1 Q C8.E0) s1 := by
    refine run_ofS (N := Ng) (ps := [a]) (us := [.ref f]) (vs := [.ref f]) lk hc Sg hr I1.env0 (b s1 [.ref f] I1.kIn rfl) (.cons rfl .nil) rfl fun hr' => ?_
    obtain ⟨t', ht', hq'⟩ := hG cdv f c' s1 H1 Q (fun E H' Q' => L.t E σ H' Q') (fun W pn xe E p1 p2 tk hW => act_keepB (i := 0) I1 (CapAt.blk I0 hf (hok L ok).ls I1) (hok L ok) at_ tk hW hr' hNg hva hd hcd) isCode asks
    exact ⟨t', ht'.nox, hq'⟩
  refine wpAny_call (codeAny_mono ran fun r s' hq => ?_)
  cases r with
  | error e => exact (show False from hq).elim
  | ok fl =>
    cases fl with
    | ret u => exact I1.after hq
    | next => exact False.elim hq
    | brk => exact False.elim hq
    | cont => exact False.elim hq
end LamY
/-! ### a request at one breaker -/
instance psDec (b : Tri) (s : StD) (t : Int) : Decidable (psB b s t) := by
  unfold psB
  infer_instance
def stpS (b : Tri) (s : StD) (t : Int) (g : Bool) : StD := if g = true then okS b s else badS b s t
theorem okS_closed {b : Tri} {s : StD} (h : s.1 = "closed") : okS b s = (("closed", 0) : StD) := by
  have e : hfS s = s := if_neg (by rw [h]; exact sC_O)
  unfold okS
  rw [e]
  exact if_neg fun q => sC_H (h.symm.trans q.1)
theorem okS_half {b : Tri} {s : StD} (h : s.1 = "half") : okS b s = if s.2 + 1 < b.2.2 then (("half", s.2 + 1) : StD) else ("closed", 0) := by
  have e : hfS s = s := if_neg (by rw [h]; exact sH_O)
  unfold okS
  rw [e]
  by_cases c : s.2 + 1 < b.2.2
  · rw [if_pos c, if_pos ⟨h, c⟩]
  · rw [if_neg c, if_neg fun q => c q.2]
theorem okS_open {b : Tri} {s : StD} (h : s.1 = "open") : okS b s = if 1 < b.2.2 then (("half", 1) : StD) else ("closed", 0) := by
  have e : hfS s = (("half", 0) : StD) := if_pos h
  unfold okS
  rw [e]
  by_cases c : (1 : Int) < b.2.2
  · rw [if_pos c, if_pos ⟨rfl, by show (0 : Int) + 1 < b.2.2; omega⟩]
    rfl
  · rw [if_neg c, if_neg fun q => c (by have q2 : (0 : Int) + 1 < b.2.2 := q.2; omega)]
theorem badS_closed {b : Tri} {s : StD} {t : Int} (h : s.1 = "closed") : badS b s t = if s.2 + 1 < b.1 then (("closed", s.2 + 1) : StD) else ("open", t) := by
  have e : hfS s = s := if_neg (by rw [h]; exact sC_O)
  unfold badS
  rw [e]
  by_cases c : s.2 + 1 < b.1
  · rw [if_pos c, if_pos ⟨h, c⟩]
  · rw [if_neg c, if_neg fun q => c q.2]
theorem badS_other {b : Tri} {s : StD} {t : Int} (h : ¬ s.1 = "closed") : badS b s t = (("open", t) : StD) := by
  unfold badS
  refine if_neg fun q => ?_
  have q1 := q.1
  unfold hfS at q1
  split at q1
  · exact sH_C q1
  · exact h q1
def spPasses : Sp := fun vs H Q _ => ∃ x y b s t, vs = [x, y, .int t] ∧ BrAt H x b ∧ StAt H y s ∧ Q (.bl (decide (psB b s t))) H
def spBehind : Sp := fun vs H Q _ => ∃ x y b s t g, vs = [x, y, .int t, .bl g] ∧ BrAt H x b ∧ StAt H y s ∧ okW s ∧ ∀ c H', H' c = some (.tup [.str (stpS b s t g).1, .int (stpS b s t g).2]) → Same H H' → H c = none → Q (.ref c) H'
section
variable {P : Program} {w : World} {K : PySem.W.Frag} {mg : Str → Option Value} {base : Heap} {L : LA}
abbrev N_passes : List Str := ["breaker", "state", "time"]
theorem sc_passes : FnScope N_passes ["breaker", "state", "time"] (defScope st_passes) := ⟨rfl, rfl, rfl, by decide +kernel, rfl, by decide +kernel, by decide +kernel⟩
theorem fn_passes (T : LX K mg L) {fd : FuncData} (F : Fun K "passes" "passes" st_passes L.f_passes fd) : FnOk P w K mg base CX0 1 L.f_passes fd ["breaker", "state", "time"] (spPasses) := by
  have nd := sc_passes.nd
  refine F.ok sc_passes (fun vs H Q E h => ?_) (fun cdv A outer S H vs Q E hr h => ?_)
  · obtain ⟨x, y, b, s, t, rfl, _⟩ := h
    rfl
  · obtain ⟨x, y, b, s, t, rfl, ⟨ab, rfl, hb⟩, ⟨as, rfl, hs⟩, k⟩ := h
    refine ⟨_, (pss_one (ps_ret (pe_or (pe_cmpR op_ne (pe_ix (r := rIxT K) ix_tup (pv 1) pe_int (fun _ _ => rfl)) pe_str (nomark _)) (pe_one (pe_cmpR op_ge (pe_op op_sub (pv 2) (pe_ix (r := rIxT K) ix_tup (pv 1) pe_int (fun _ _ => rfl))) (pe_ix (r := rIxT K) ix_tup (pv 0) pe_int (fun _ _ => rfl)) (nomark _)))))), ?_⟩
    refine ⟨_, rfl, as, _, 0, .str s.1, rfl, rfl, SqT.of hs, rfl, rfl, _, rfl, ite2 (fun c => ?_) (fun c => ?_)⟩
    · have c' : ¬ s.1 = "open" := fun e => by simp [e] at c
      rw [decide_eq_true (show psB b s t from fun e => absurd e c')] at k
      exact k
    · have c' : s.1 = "open" := by simpa using c
      have e : decide (psB b s t) = decide (b.2.1 ≤ t - s.2) := by
        rw [Bool.eq_iff_iff, decide_eq_true_iff, decide_eq_true_iff]
        exact ⟨fun h => h c', fun h _ => h⟩
      rw [e] at k
      exact ⟨_, rfl, _, rfl, as, _, 1, .int s.2, rfl, rfl, SqT.of hs, rfl, _, _, rfl, rfl, _, rfl, ab, _, 1, .int b.2.1, rfl, rfl, SqT.of hb, rfl, _, _, rfl, rfl, k⟩
theorem ok_passes (T : LX K mg L) : Cal P w K mg base "passes" 1 L.f_passes ["breaker", "state", "time"] (spPasses) := T.d_passes.cal fun fd F => fn_passes T F
abbrev N_statebehind : List Str := ["breaker", "state", "time", "succeeded", "failures", "wait", "successes", "kind", "number", "reached"]
theorem sc_statebehind : FnScope N_statebehind ["breaker", "state", "time", "succeeded"] (defScope st_state_behind) := ⟨rfl, rfl, rfl, by decide +kernel, rfl, by decide +kernel, by decide +kernel⟩
theorem fn_statebehind (T : LX K mg L) {fd : FuncData} (F : Fun K "state_behind" "state_behind" st_state_behind L.f_state_behind fd) : FnOk P w K mg base CX0 1 L.f_state_behind fd ["breaker", "state", "time", "succeeded"] (spBehind) := by
  have nd := sc_statebehind.nd
  refine F.ok sc_statebehind (fun vs H Q E h => ?_) (fun cdv A outer S H vs Q E hr h => ?_)
  · obtain ⟨x, y, b, s, t, g, rfl, _⟩ := h
    rfl
  · obtain ⟨x, y, b, s, t, g, rfl, ⟨ab, rfl, hb⟩, ⟨as, rfl, hs⟩, ok, k⟩ := h
    refine ⟨_, (pss_cons (ps_asg (pv 0) (pg_tup rfl (pgs_cons (pg_name (i := 4) nd rfl (Or.inl rfl)) (pgs_cons (pg_name (i := 5) nd rfl (Or.inl rfl)) (pgs_cons (pg_name (i := 6) nd rfl (Or.inl rfl)) pgs_nil)))))
       (pss_cons (ps_asg (pv 1) (pg_tup rfl (pgs_cons (pg_name (i := 7) nd rfl (Or.inl rfl)) (pgs_cons (pg_name (i := 8) nd rfl (Or.inl rfl)) pgs_nil))))
       (pss_cons (ps_if (PW.pt (pw_and (pt_val (pv 3)) (pw_and1 (pt_cmpR op_ne (pv 7) pe_str (nomark _))))) (pss_cons (ps_set (i := 9) nd rfl (Or.inl rfl) (pe_ifExp (pt_cmpR op_eq (pv 7) pe_str (nomark _)) (pe_op op_add (pv 8) pe_int) pe_int))
       (pss_one (ps_ret (pe_ifExp (pt_cmpR op_lt (pv 9) (pv 6) (nomark _)) (pe_tup (pa_cons pe_str (pa_cons (pv 9) pa_nil))) (pe_tup (pa_cons pe_str (pa_cons pe_int pa_nil))))))) pss_nil)
       (pss_cons (ps_if (pt_val (pv 3)) (pss_one (ps_ret (pe_tup (pa_cons pe_str (pa_cons pe_int pa_nil))))) pss_nil)
       (pss_cons (ps_if (PW.pt (pw_and (pt_cmpR op_eq (pv 7) pe_str (nomark _)) (pw_and1 (pt_cmpR op_lt (pe_op op_add (pv 8) pe_int) (pv 4) (nomark _))))) (pss_one (ps_ret (pe_tup (pa_cons pe_str (pa_cons (pe_op op_add (pv 8) pe_int) pa_nil))))) pss_nil)
       (pss_one (ps_ret (pe_tup (pa_cons pe_str (pa_cons (pv 2) pa_nil)))))))))), ?_⟩
    refine ⟨_, rfl, ab, _, rfl, SqT.of hb, rfl, _, _, rfl, _, _, rfl, _, _, rfl, rfl, ?_⟩
    refine ⟨_, rfl, as, _, rfl, SqT.of hs, rfl, _, _, rfl, _, _, rfl, rfl, ?_⟩
    have fin : ∀ (d : StD), stpS b s t g = d → ∀ p, H p = none → Q (.ref p) (upd H p (.tup [.str d.1, .int d.2])) := fun d e p hp => by
      subst e
      exact k p _ upd_same (Same.upd hp) hp
    clear k
    cases g with
    | true =>
      refine ⟨_, rfl, _, rfl, iteT ⟨_, rfl, rfl, _, rfl, ite2 (fun c => ?_) (fun c => ?_)⟩⟩
      · have c' : ¬ s.1 = "closed" := fun e => by simp [e] at c
        refine ⟨_, rfl, rfl, _, rfl, ite2 (fun h => ?_) (fun h => ?_)⟩
        · have h' : s.1 = "half" := V.str.inj (of_decide_eq_true h)
          refine ⟨_, rfl, _, _, rfl, rfl, _, rfl, _, rfl, _, _, rfl, rfl, _, rfl, ite2 (fun l => ?_) (fun l => ?_)⟩
          · exact ⟨_, rfl, (by show 2 ≤ sizeLine; decide), fin ("half", s.2 + 1) ((okS_half h').trans (if_pos (of_decide_eq_true l)))⟩
          · exact ⟨(by show 2 ≤ sizeLine; decide), fin ("closed", 0) ((okS_half h').trans (if_neg fun q => l (decide_eq_true q)))⟩
        · have h' : ¬ s.1 = "half" := fun e => h (decide_eq_true (congrArg V.str e))
          have o : s.1 = "open" := by
            rcases ok with e | e | e
            · exact absurd e c'
            · exact e
            · exact absurd e h'
          refine ⟨_, rfl, _, rfl, _, _, rfl, rfl, _, rfl, ite2 (fun l => ?_) (fun l => ?_)⟩
          · exact ⟨_, rfl, (by show 2 ≤ sizeLine; decide), fin ("half", 1) ((okS_open o).trans (if_pos (of_decide_eq_true l)))⟩
          · exact ⟨(by show 2 ≤ sizeLine; decide), fin ("closed", 0) ((okS_open o).trans (if_neg fun q => l (decide_eq_true q)))⟩
      · have c' : s.1 = "closed" := by simpa using c
        exact ⟨_, rfl, _, rfl, iteT ⟨(by show 2 ≤ sizeLine; decide), fin ("closed", 0) (okS_closed c')⟩⟩
    | false =>
      refine ⟨_, rfl, _, rfl, iteF ⟨_, rfl, _, rfl, iteF ⟨_, rfl, rfl, _, rfl, ite2 (fun c => ?_) (fun c => ?_)⟩⟩⟩
      · have c' : s.1 = "closed" := V.str.inj (of_decide_eq_true c)
        refine ⟨_, rfl, _, _, rfl, rfl, _, rfl, _, _, rfl, rfl, _, rfl, ite2 (fun l => ?_) (fun l => ?_)⟩
        · exact ⟨_, rfl, _, _, rfl, rfl, (by show 2 ≤ sizeLine; decide), fin ("closed", s.2 + 1) ((badS_closed c').trans (if_pos (of_decide_eq_true l)))⟩
        · exact ⟨_, rfl, (by show 2 ≤ sizeLine; decide), fin ("open", t) ((badS_closed c').trans (if_neg fun q => l (decide_eq_true q)))⟩
      · have c' : ¬ s.1 = "closed" := fun e => c (decide_eq_true (congrArg V.str e))
        refine iteF ⟨_, rfl, (by show 2 ≤ sizeLine; decide), fin ("open", t) (badS_other c')⟩
theorem ok_statebehind (T : LX K mg L) : Cal P w K mg base "state_behind" 1 L.f_state_behind ["breaker", "state", "time", "succeeded"] (spBehind) := T.d_state_behind.cal fun fd F => fn_statebehind T F
end
/-! ### one request sent by the program -/
/-- how many breakers a request reaches and is passed by -/
def kOf : List Tri → List StD → Int → Nat
  | b :: bs, s :: ss, t => if psB b s t then kOf bs ss t + 1 else 0
  | [], _, _ => 0
  | _ :: _, [], _ => 0
theorem kOf_le : ∀ (bs : List Tri) (ss : List StD) (t : Int), kOf bs ss t ≤ bs.length
  | [], _, _ => Nat.le_refl _
  | _ :: _, [], _ => Nat.zero_le _
  | b :: bs, s :: ss, t => by
    unfold kOf
    split
    · exact Nat.succ_le_succ (kOf_le bs ss t)
    · exact Nat.zero_le _
theorem kOf_ps : ∀ {bs : List Tri} {ss : List StD} {t : Int} {i : Nat} {b : Tri} {s : StD}, i < kOf bs ss t → bs[i]? = some b → ss[i]? = some s → psB b s t
  | [], _, _, _, _, _, h, _, _ => absurd h (Nat.not_lt_zero _)
  | _ :: _, [], _, _, _, _, h, _, _ => absurd h (Nat.not_lt_zero _)
  | b :: bs, s :: ss, t, i, b', s', h, e1, e2 => by
    unfold kOf at h
    split at h
    · rename_i c
      cases i with
      | zero => cases e1; cases e2; exact c
      | succ i => exact kOf_ps (i := i) (Nat.lt_of_succ_lt_succ h) e1 e2
    · exact absurd h (Nat.not_lt_zero _)
theorem kOf_rj : ∀ {bs : List Tri} {ss : List StD} {t : Int} {b : Tri} {s : StD}, bs[kOf bs ss t]? = some b → ss[kOf bs ss t]? = some s → ¬ psB b s t
  | [], _, _, _, _, e1, _ => by cases e1
  | _ :: _, [], _, _, _, _, e2 => by cases e2
  | b :: bs, s :: ss, t, b', s', e1, e2 => by
    unfold kOf at e1 e2
    by_cases c : psB b s t
    · rw [if_pos c] at e1 e2
      exact kOf_rj (bs := bs) (ss := ss) e1 e2
    · rw [if_neg c] at e1 e2
      cases e1
      cases e2
      exact c
theorem kOf_is {bs : List Tri} {ss : List StD} {t : Int} (sl : ss.length = bs.length) {k : Nat} (hk : k ≤ bs.length) (h1 : ∀ (i : Nat) (b : Tri) (s : StD), i < k → bs[i]? = some b → ss[i]? = some s → psB b s t) (h2 : ∀ (b : Tri) (s : StD), bs[k]? = some b → ss[k]? = some s → ¬ psB b s t) : k = kOf bs ss t := by
  have kl := kOf_le bs ss t
  have get : ∀ {j : Nat}, j < bs.length → ∃ b s, bs[j]? = some b ∧ ss[j]? = some s := fun {j} l => ⟨_, _, List.getElem?_eq_getElem l, List.getElem?_eq_getElem (by omega)⟩
  rcases Nat.lt_trichotomy k (kOf bs ss t) with c | c | c
  · obtain ⟨b, s, e1, e2⟩ := get (j := k) (by omega)
    exact absurd (kOf_ps c e1 e2) (h2 b s e1 e2)
  · exact c
  · obtain ⟨b, s, e1, e2⟩ := get (j := kOf bs ss t) (by omega)
    exact absurd (h1 _ b s c e1 e2) (kOf_rj e1 e2)
/-- the states behind a request -/
def sntS (bs : List Tri) (ss : List StD) (t : Int) (up : Bool) : List StD := mixS bs ss t (decide (kOf bs ss t = bs.length) && up) (kOf bs ss t) (kOf bs ss t)
theorem okS_W (b : Tri) (s : StD) : okW (okS b s) := by
  unfold okS
  split
  · exact .inr (.inr rfl)
  · exact .inl rfl
theorem badS_W (b : Tri) (s : StD) (t : Int) : okW (badS b s t) := by
  unfold badS
  split
  · exact .inl rfl
  · exact .inr (.inl rfl)
theorem stpS_W (b : Tri) (s : StD) (t : Int) (g : Bool) : okW (stpS b s t g) := by
  unfold stpS
  split
  · exact okS_W b s
  · exact badS_W b s t
theorem sntS_len {bs : List Tri} {ss : List StD} {t : Int} {up : Bool} : (sntS bs ss t up).length = bs.length := mixS_len
theorem sntS_get {bs : List Tri} {ss : List StD} {t : Int} {up : Bool} {i : Nat} {b : Tri} {s : StD} (hb : bs[i]? = some b) (hs : ss[i]? = some s) :
    (sntS bs ss t up)[i]? = some (if i < kOf bs ss t then stpS b s t (decide (kOf bs ss t = bs.length) && up) else s) := by
  have hi := (List.getElem?_eq_some_iff.mp hb).1
  unfold sntS
  rw [mixS_get hi, mixE_is hb hs]
  congr 1
  by_cases c : i < kOf bs ss t
  · rw [if_pos c, if_pos c]
    rfl
  · rw [if_neg c, if_neg c, if_neg c]
theorem sntS_W {bs : List Tri} {ss : List StD} {t : Int} {up : Bool} (sl : ss.length = bs.length) (h : ∀ s ∈ ss, okW s) : ∀ s ∈ sntS bs ss t up, okW s := by
  intro s hs
  obtain ⟨i, hi⟩ := List.mem_iff_getElem?.mp hs
  have l := (List.getElem?_eq_some_iff.mp hi).1
  rw [sntS_len] at l
  have e1 : bs[i]? = some bs[i] := List.getElem?_eq_getElem l
  have e2 : ss[i]? = some ss[i] := List.getElem?_eq_getElem (by omega)
  rw [sntS_get e1 e2] at hi
  cases hi
  split
  · exact stpS_W _ _ _ _
  · exact h _ (List.getElem_mem _)
theorem sntS_cut {bs : List Tri} {ss : List StD} {t : Int} {up : Bool} (sl : ss.length = bs.length) : sntS bs ss t up = (List.zipWith (fun b s => stpS b s t (decide (kOf bs ss t = bs.length) && up)) (bs.take (kOf bs ss t)) ss) ++ ss.drop (kOf bs ss t) := by
  have kl := kOf_le bs ss t
  apply List.ext_getElem?
  intro i
  by_cases c : i < bs.length
  · have e1 : bs[i]? = some bs[i] := List.getElem?_eq_getElem c
    have e2 : ss[i]? = some ss[i] := List.getElem?_eq_getElem (by omega)
    rw [sntS_get e1 e2]
    by_cases q : i < kOf bs ss t
    · rw [if_pos q, List.getElem?_append_left (by rw [List.length_zipWith, List.length_take]; omega), List.getElem?_zipWith, List.getElem?_take, if_pos q, e1, e2]
    · rw [if_neg q, List.getElem?_append_right (by rw [List.length_zipWith, List.length_take]; omega), List.length_zipWith, List.length_take, List.getElem?_drop, show kOf bs ss t + (i - min (min (kOf bs ss t) bs.length) ss.length) = i by omega, e2]
  · rw [List.getElem?_eq_none (by rw [sntS_len]; omega), List.getElem?_eq_none (by rw [List.length_append, List.length_zipWith, List.length_take, List.length_drop]; omega)]
/-- what is told of a request -/
def TldAt (K : PySem.W.Frag) (H : Hp) (x : V) (n k : Nat) (up : Bool) : Prop := ∃ a, x = .ref a ∧ SqT K H a (outV n k (!up))
theorem TldAt.same {K : PySem.W.Frag} {H H' : Hp} {x : V} {n k : Nat} {up : Bool} (h : TldAt K H x n k up) (s : Same H H') : TldAt K H' x n k up := by
  obtain ⟨a, e, q⟩ := h
  exact ⟨a, e, q.ext fun b o e => s b o e⟩
theorem TldAt.dp {K : PySem.W.Frag} {H : Hp} {x : V} {n k : Nat} {up : Bool} (h : TldAt K H x n k up) : Dp K H x (outD n k (!up)) := by
  obtain ⟨a, rfl, h⟩ := h
  unfold outV at h
  unfold outD
  split
  · rename_i c
    rw [if_pos c] at h
    exact .tup h (.cons (.str _) (.cons (.int _) .nil))
  · rename_i c
    rw [if_neg c] at h
    cases up with
    | true => exact .tup h (.cons (.str _) .nil)
    | false => exact .tup h (.cons (.str _) .nil)
theorem cut_take0 (xs : List V) (k : Nat) (h : k ≤ xs.length) : cutV xs none (some (k : Int)) = xs.take k := by
  unfold cutV
  rw [HT.sIx_nat, HT.sIx_none, List.drop_zero, Nat.sub_zero, Nat.min_eq_left h]
theorem cut_drop0 (xs : List V) (k : Nat) (h : k ≤ xs.length) : cutV xs (some (k : Int)) none = xs.drop k := by
  unfold cutV
  rw [HT.sIx_nat, HT.sIx_none, Nat.min_eq_left h, List.take_of_length_le (by rw [List.length_drop]; exact Nat.le_refl _)]
theorem slA_by {K : PySem.W.Frag} {a : Addr} {xs : List V} {lo hi : Option Int} {H : Hp} {Q : VK} (h : SqT K H a xs) (k : ∀ p H', SqT K H' p (cutV xs lo hi) → Same H H' → Q (.ref p) H') : rSlA K (.ref a) lo hi H Q := by
  refine ⟨a, xs, rfl, h, fun c => k a H ?_ (Same.refl H), fun _ p np => k p _ (SqT.of upd_same) (Same.upd np)⟩
  have e : cutV xs lo hi = xs := by
    unfold cutV
    rw [c.1, c.2, List.drop_zero, Nat.sub_zero, List.take_length]
  rw [e]
  exact h
theorem paired_drop {α β : Type} {F : α → β → Prop} : ∀ {xs : List α} {ys : List β} (n : Nat), Paired F xs ys → Paired F (xs.drop n) (ys.drop n)
  | _, _, 0, h => h
  | _, _, n + 1, .nil => .nil
  | _, _, n + 1, .cons _ p => paired_drop n p
def spSent (K : PySem.W.Frag) : Sp := fun vs H Q _ => ∃ B l xs ys bs ss t up, vs = [.ref B, .ref l, .int t, .bl up] ∧ SqT K H B xs ∧ Brs H xs bs ∧ H l = some (.lst ys) ∧ Sts H ys ss ∧ ss.length = bs.length ∧ bs.length ≤ 100 ∧ (∀ s ∈ ss, okW s) ∧
  ∀ q x l2 ys2 H', H' q = some (.tup [x, .ref l2]) → TldAt K H' x bs.length (kOf bs ss t) up → H' l2 = some (.lst ys2) → Sts H' ys2 (sntS bs ss t up) → Same H H' → H q = none → H l2 = none → Q (.ref q) H'
section
variable {P : Program} {w : World} {K : PySem.W.Frag} {mg : Str → Option Value} {base : Heap} {L : LA}
abbrev N_sent : List Str := ["breakers", "states", "time", "up", "reached", "told", "behind", "breaker", "state"]
theorem sc_sent : FnScope N_sent ["breakers", "states", "time", "up"] (defScope st_sent) := ⟨rfl, rfl, rfl, by decide +kernel, rfl, by decide +kernel, by decide +kernel⟩
theorem fn_sent (T : LX K mg L) {fd : FuncData} (F : Fun K "sent" "sent" st_sent L.f_sent fd) : FnOk P w K mg base CX0 3 L.f_sent fd ["breakers", "states", "time", "up"] (spSent K) := by
  obtain ⟨a_SERVED, c_SERVED, t_SERVED⟩ := T.n_SERVED
  obtain ⟨a_FAILED, c_FAILED, t_FAILED⟩ := T.n_FAILED
  have G_passes := ok_passes (P := P) (w := w) (base := base) T
  have G_statebehind := ok_statebehind (P := P) (w := w) (base := base) T
  have nd := sc_sent.nd
  refine F.ok sc_sent (fun vs H Q E h => ?_) (fun cdv A outer S H vs Q E hr h => ?_)
  · obtain ⟨B, l, xs, ys, bs, ss, t, up, rfl, _⟩ := h
    rfl
  · obtain ⟨B, l, xs, ys, bs, ss, t, up, rfl, hB, hb, hl, hs, sl, bl, ok, k⟩ := h
    refine ⟨_, (pss_cons (ps_set (i := 4) nd rfl (Or.inl rfl) pe_int)
       (C8.pss_cut (ps_while PassesOwn.never (PW.pt (pw_and (pt_cmpR op_lt (pv 4) (pe_callB call_len_seq (by rfl) T.b_len PySem.boot_len (pa_cons (pv 0) pa_nil)) (nomark _)) (pw_and1 (pt_val (pe_c G_passes (hr.mono (by decide)) rfl (pa_cons (pe_ix (r := rIxT K) ix_tup (pv 0) (pv 4) (fun _ _ => rfl)) (pa_cons (pe_ix (r := rIxL K) ix_list (pv 1) (pv 4) (fun _ _ => rfl)) (pa_cons (pv 2) pa_nil)))))))) (pss_one (ps_aug (i := 4) nd rfl (Or.inl rfl) pe_int ip_add)))
       (C8.pss_cut (ps_set (i := 5) nd rfl (Or.inr rfl) (pe_ifExp (pt_val (pv 3)) (pe_glob (by rfl) c_SERVED rr) (pe_glob (by rfl) c_FAILED rr)))
       (C8.pss_cut (ps_if (pt_cmpR op_lt (pv 4) (pe_callB call_len_seq (by rfl) T.b_len PySem.boot_len (pa_cons (pv 0) pa_nil)) (nomark _)) (pss_one (ps_set (i := 5) nd rfl (Or.inr rfl) (pe_tup (pa_cons pe_str (pa_cons (pv 4) pa_nil))))) pss_nil)
       (pss_cons (ps_setLc (i := 6) (own := [("breaker", 7), ("state", 8)]) (g := gTup K 2 (gCons (gName 7) (gCons (gName 8) (gNil)))) (tt := tYes) rfl nd rfl rfl (sw_true rfl rfl rfl (by decide +kernel)) (pi_zipM (by rfl) T.b_zip (pa_cons (pe_slice (r := rSlA K) sl_tupA (pv 0) po_none (po_some (pv 4))) (pa_cons (pv 1) pa_nil))) (blkOk_by (own := [("breaker", 7), ("state", 8)]) (N := N_sent) (sc := defScope st_sent) (by decide +kernel)) (fun _ _ _ _ _ => pg_tup rfl (pgs_cons (pg_name (i := 7) nd rfl (Or.inl rfl)) (pgs_cons (pg_name (i := 8) nd rfl (Or.inl rfl)) pgs_nil))) (fun _ _ _ _ _ => pts_nil) (fun _ _ _ _ _ => (pe_c G_statebehind (hr.mono (by decide)) rfl (pa_cons (pv 7) (pa_cons (pv 8) (pa_cons (pv 2) (pa_cons (pe_cmpR (op_eqDK (K := K) rfl hr.units) (pv 5) (pe_glob (by rfl) c_SERVED rr) (nomark _)) pa_nil)))))))
       (pss_one (ps_ret (pe_tup (pa_cons (pv 5) (pa_cons (pe_op op_cat (pv 6) (pe_slice (r := rSlL K) sl_list (pv 1) (po_some (pv 4)) po_none)) pa_nil)))))))))), ?_⟩
    have xl := hb.len
    have yl := paired_len hs
    refine ⟨fun σ' H' => σ' = [some (.ref B), some (.ref l), some (.int t), some (.bl up), some (.int (kOf bs ss t : Nat)), none, none, none, none] ∧ H' = H, ?_, ?_⟩
    · refine while_by (fun σ H2 => ∃ j : Nat, σ = [some (.ref B), some (.ref l), some (.int t), some (.bl up), some (.int (j : Nat)), none, none, none, none] ∧ j ≤ bs.length ∧ (∀ (i : Nat) (b : Tri) (s : StD), i < j → bs[i]? = some b → ss[i]? = some s → psB b s t) ∧ H2 = H)
        (fun σ _ => match σ with | [_, _, _, _, some (.int r), _, _, _, _] => ((bs.length : Int) - r).toNat | _ => 0)
        ⟨0, rfl, Nat.zero_le _, fun i b s h => absurd h (Nat.not_lt_zero _), rfl⟩ ?_ ?_
      · rintro σ H2 ⟨j, rfl, jl, hj, rfl⟩
        refine ⟨_, rfl, _, rfl, B, _, rfl, .inr hB, _, _, rfl, rfl, _, rfl, ite2 (fun c => ?_) (fun c => ?_)⟩
        · have c' : (j : Int) < xs.length := of_decide_eq_true c
          have jb : j < bs.length := by omega
          obtain ⟨x, hx⟩ : ∃ x, xs[j]? = some x := ⟨_, List.getElem?_eq_getElem (by omega)⟩
          obtain ⟨y, hy⟩ : ∃ y, ys[j]? = some y := ⟨_, List.getElem?_eq_getElem (by omega)⟩
          obtain ⟨b, eb, hbx⟩ := hb.get hx
          obtain ⟨s, es, hsy⟩ := paired_get hs hy
          refine ⟨_, rfl, _, rfl, B, xs, (j : Int), x, rfl, rfl, hB, atI_nat hx, _, rfl, _, rfl, l, ys, (j : Int), y, rfl, rfl, SqL.of hl, atI_nat hy, _, rfl, x, y, b, s, t, rfl, hbx, hsy, _, rfl, ite2 (fun p => ?_) (fun p => ?_)⟩
          · have p' : psB b s t := of_decide_eq_true p
            refine ⟨_, rfl, _, _, rfl, rfl, ⟨j + 1, rfl, jb, fun i b' s' hi e1 e2 => ?_, rfl⟩, ?_⟩
            · by_cases q : i < j
              · exact hj i b' s' q e1 e2
              · have : i = j := by omega
                subst this
                rw [eb] at e1
                rw [es] at e2
                cases e1
                cases e2
                exact p'
            · show ((bs.length : Int) - ((j : Int) + 1)).toNat < ((bs.length : Int) - (j : Int)).toNat
              omega
          · have e := kOf_is sl jl hj fun b' s' e1 e2 => by
              rw [eb] at e1
              rw [es] at e2
              cases e1
              cases e2
              exact fun h => p (decide_eq_true h)
            rw [← e]
            exact ⟨rfl, rfl⟩
        · have c' : ¬ (j : Int) < xs.length := fun h => c (decide_eq_true h)
          have e := kOf_is sl jl hj fun b' s' e1 e2 => absurd (List.getElem?_eq_some_iff.mp e1).1 (by omega)
          rw [← e]
          exact ⟨rfl, rfl⟩
      · rintro σ H Q Q' m ⟨a1, a2, a3, a4, a5, a6, a7, a8, a9, a10, a11, a12, bb, a13, q⟩
        refine ⟨a1, a2, a3, a4, a5, a6, a7, a8, a9, a10, a11, a12, bb, a13, ?_⟩
        cases bb with
        | false => exact iteF (m _ _ (by rwa [if_neg Bool.false_ne_true] at q))
        | true =>
          rw [if_pos rfl] at q
          obtain ⟨b1, b2, b3, b4, b5, b6, b7, b8, b9, b10, b11, b12, b13, b14, b15, b16, b17, b18, b19, b20, b21, b22, b23, b24, b25, b26, b27, b28, b29, b30, b31, b32, b33, b34, b35, b36, q⟩ := q
          exact iteT ⟨b1, b2, b3, b4, b5, b6, b7, b8, b9, b10, b11, b12, b13, b14, b15, b16, b17, b18, b19, b20, b21, b22, b23, b24, b25, b26, b27, b28, b29, b30, b31, b32, b33, b34, b35, b36, m _ _ q⟩
    rintro σ' H' ⟨rfl, rfl⟩
    have kl := kOf_le bs ss t
    obtain ⟨n, hn⟩ : ∃ n, n = kOf bs ss t := ⟨_, rfl⟩
    refine ⟨fun σ2 H2 => ∃ a, σ2 = [some (.ref B), some (.ref l), some (.int t), some (.bl up), some (.int (kOf bs ss t : Nat)), some (.ref a), none, none, none] ∧ SqT K H2 a (outV bs.length bs.length (!up)) ∧ H2 = H', ?_, ?_⟩
    · rw [outV_n]
      cases up with
      | true => exact ⟨_, rfl, _, rfl, iteT ⟨a_SERVED, rfl, t_SERVED _, rfl⟩⟩
      | false => exact ⟨_, rfl, _, rfl, iteF ⟨a_FAILED, rfl, t_FAILED _, rfl⟩⟩
    rintro σ2 H2 ⟨a, rfl, ha, rfl⟩
    refine ⟨fun σ3 H3 => ∃ a, σ3 = [some (.ref B), some (.ref l), some (.int t), some (.bl up), some (.int (kOf bs ss t : Nat)), some (.ref a), none, none, none] ∧ SqT K H3 a (outV bs.length (kOf bs ss t) (!up)) ∧ Same H2 H3, ?_, ?_⟩
    · refine ⟨_, rfl, _, rfl, B, _, rfl, .inr hB, _, _, rfl, rfl, _, rfl, ite2 (fun c => ?_) (fun c => ?_)⟩
      · have c' : (kOf bs ss t : Int) < xs.length := of_decide_eq_true c
        refine ⟨_, rfl, (by show 2 ≤ sizeLine; decide), fun p np => ⟨p, rfl, ?_, Same.upd np⟩⟩
        rw [outV_k (show kOf bs ss t < bs.length by omega)]
        exact SqT.of upd_same
      · have c' : ¬ (kOf bs ss t : Int) < xs.length := fun h => c (decide_eq_true h)
        have e : kOf bs ss t = bs.length := by omega
        rw [e]
        exact ⟨a, rfl, ha, Same.refl _⟩
    rintro σ3 H3 ⟨a, rfl, ha, s3⟩
    -- the comprehension
    refine ⟨_, rfl, _, rfl, (kOf bs ss t : Int), rfl, slA_by (hB.ext fun b o e => s3 b o e) fun Bq H4 hBq s4 => ?_⟩
    rw [cut_take0 xs (kOf bs ss t) (by omega)] at hBq
    have s34 := s3.trans s4
    refine ⟨_, rfl, Bq, l, xs.take (kOf bs ss t), ys, rfl, hBq, SqL.of (s34 _ _ hl), fun D nD => ?_⟩
    have hxn : (xs.take (kOf bs ss t)).length = kOf bs ss t := by rw [List.length_take]; omega
    refine lc_zipM (K := K) (a := Bq) (b := l) (xs := xs.take (kOf bs ss t)) (ys := ys) (by omega) (fun j Hy => ∃ ws, Hy D = some (.lst ws) ∧ Sts Hy ws ((List.zipWith (fun b s => stpS b s t (decide (kOf bs ss t = bs.length) && up)) (bs.take (kOf bs ss t)) ss).take j) ∧ Same H4 Hy)
      ⟨[], upd_same, .nil, Same.upd nD⟩ (fun j Hy ⟨_, _, _, sy⟩ => ⟨hBq.ext fun b o e => sy b o e, SqL.of (sy _ _ (s34 _ _ hl))⟩) ?_ ?_
    · rintro j x y T' Hy hxj hyj ⟨ws, hws, hz, sy⟩ hT
      have jn : j < kOf bs ss t := by have := (List.getElem?_eq_some_iff.mp hxj).1; omega
      rw [List.getElem?_take, if_pos jn] at hxj
      obtain ⟨b, eb, hbx⟩ := hb.get hxj
      obtain ⟨s, es, hsy⟩ := paired_get hs hyj
      have wl := paired_len hz
      rw [List.length_take, List.length_zipWith, List.length_take] at wl
      have sT := Same.upd (o := .tup [x, y]) hT
      have s5 := (s34.trans sy).trans sT
      refine ⟨T', _, rfl, SqT.of upd_same, rfl, _, _, rfl, _, _, rfl, rfl, rfl, tYes_of ?_⟩
      have hd : Dp K (upd Hy T' (.tup [x, y])) (.ref a) (outD bs.length (kOf bs ss t) (!up)) := TldAt.dp ⟨a, rfl, ha.ext fun b o e => ((s4.trans sy).trans sT) b o e⟩
      refine ⟨_, rfl, _, rfl, _, rfl, _, rfl, _, _, hd, .tup (t_SERVED _) (.cons (.str _) .nil), outD_sh _ _ _, served_sh, ?_⟩
      rw [outD_served _ _ _ kl, Bool.not_not]
      refine ⟨x, y, b, s, t, _, rfl, hbx.nl (NL.of s5), hsy.same s5, ok s (List.mem_of_getElem? es), fun c H6 hc s6 nc => ?_⟩
      have hw6 := s6 _ _ (sT _ _ hws)
      have n7 := NL.upd (o := .lst (ws ++ [.ref c])) hw6
      refine ⟨ws, hw6, small1 (by omega), ws ++ [.ref c], upd_same, ?_, fun u o e => ?_⟩
      · have ez : (List.zipWith (fun b s => stpS b s t (decide (kOf bs ss t = bs.length) && up)) (bs.take (kOf bs ss t)) ss)[j]? = some (stpS b s t (decide (kOf bs ss t = bs.length) && up)) := by
          rw [List.getElem?_zipWith, List.getElem?_take, if_pos jn, eb, es]
        rw [List.take_add_one, ez]
        exact paired_app (((hz.same sT).same s6).nl n7) (.cons ⟨c, rfl, n7 _ _ hc fun _ z => nomatch z⟩ .nil)
      · rw [upd_ne (ne_of_none e nD)]
        exact s6 _ _ (sT _ _ (sy _ _ e))
    rintro Hy ⟨ws, hws, hz, sy⟩
    rw [List.take_of_length_le (by rw [List.length_zipWith, List.length_take]; omega)] at hz
    have s4y := s34.trans sy
    refine ⟨_, rfl, _, rfl, _, rfl, _, rfl, (kOf bs ss t : Int), rfl, l, ys, rfl, SqL.of (s4y _ _ hl), fun lt nlt => ?_⟩
    rw [cut_drop0 ys (kOf bs ss t) (by omega)]
    have s6 := Same.upd (o := .lst (ys.drop (kOf bs ss t))) nlt
    have wl := paired_len hz
    rw [List.length_zipWith, List.length_take] at wl
    refine ⟨D, lt, ws, ys.drop (kOf bs ss t), rfl, rfl, s6 _ _ hws, upd_same, small2 (by rw [List.length_drop]; omega), fun l2 nl2 => ?_⟩
    have s7 := Same.upd (o := .lst (ws ++ ys.drop (kOf bs ss t))) nl2
    refine ⟨(by show 2 ≤ sizeLine; decide), fun q nq => ?_⟩
    have s8 := Same.upd (o := .tup [.ref a, .ref l2]) nq
    have s48 := (((s4y.trans s6).trans s7).trans s8)
    have sA : Same H3 _ := (((s4.trans sy).trans s6).trans s7).trans s8
    refine k q (.ref a) l2 (ws ++ ys.drop (kOf bs ss t)) _ upd_same ⟨a, rfl, ha.ext fun b o e => sA b o e⟩ (s8 _ _ upd_same) ?_ s48 (none_of ((s4y.trans s6).trans s7) nq) (none_of (s4y.trans s6) nl2)
    rw [sntS_cut sl]
    exact paired_app ((((hz.same s6).same s7).same s8)) (paired_drop _ (hs.same s48))
theorem ok_sent (T : LX K mg L) : Cal P w K mg base "sent" 3 L.f_sent ["breakers", "states", "time", "up"] (spSent K) := T.d_sent.cal fun fd F => fn_sent T F
end
/-! ### the law's own draws -/
/-- a source of draws at a: at most n were drawn -/
def Src (H : Hp) (a : Addr) (n : Nat) : Prop := ∃ x y z : Int, H a = some (.lst [.int x, .int y, .int z]) ∧ 0 ≤ x ∧ 0 ≤ y ∧ y < 2147483647 ∧ 0 ≤ z ∧ z ≤ n
theorem Src.mono {H : Hp} {a : Addr} {n m : Nat} (h : Src H a n) (l : n ≤ m) : Src H a m := by
  obtain ⟨x, y, z, e, h1, h2, h3, h4, h5⟩ := h
  exact ⟨x, y, z, e, h1, h2, h3, h4, by omega⟩
theorem Src.same {H H' : Hp} {a : Addr} {n : Nat} (h : Src H a n) (s : Same H H') : Src H' a n := by
  obtain ⟨x, y, z, e, r⟩ := h
  exact ⟨x, y, z, s _ _ e, r⟩
theorem Src.has {H : Hp} {a : Addr} {n : Nat} (h : Src H a n) : ∃ xs, H a = some (.lst xs) := by
  obtain ⟨x, y, z, e, r⟩ := h
  exact ⟨_, e⟩
def spSrcOf : Sp := fun vs H Q _ => ∃ c, vs = [.int c] ∧ ∀ a H', H a = none → Same H H' → Src H' a 0 → Q (.ref a) H'
def spNext : Sp := fun vs H Q _ => ∃ (a : Addr) (m : Int) (n : Nat), vs = [.ref a, .int m] ∧ 0 < m ∧ m.natAbs < 2 ^ 1100 ∧ Src H a n ∧ n ≤ 900000 ∧ ∀ (r : Int) H', 0 ≤ r → r < m → Src H' a (n + 1101) → Kp a H H' → Q (.int r) H'
def spOne : Sp := fun vs H Q _ => ∃ (a l : Addr) (xs : List V) (n : Nat), vs = [.ref a, .ref l] ∧ a ≠ l ∧ H l = some (.lst xs) ∧ 0 < xs.length ∧ xs.length ≤ 100000 ∧ Src H a n ∧ n ≤ 900000 ∧ ∀ v H', v ∈ xs → Src H' a (n + 1101) → Kp a H H' → Q v H'
def spCell (K : PySem.W.Frag) : Sp := fun vs H Q _ => ∃ (a : Addr) (ns : List Int) (k : Int), vs = [.ref a, .int k] ∧ SqL K H a (ns.map V.int) ∧ 0 ≤ k ∧ ∀ z, Q (.int z) H
def primes : List V := [.int 2147483647, .int 2147483629, .int 2147483587, .int 2147483579, .int 2147483563, .int 2147483549, .int 2147483543]
theorem prime_at (i : Int) (h0 : 0 ≤ i) (h7 : i < 7) : ∃ p : Int, atI primes i = some (.int p) ∧ 0 < p ∧ p ≤ 2147483647 := by
  have : i = 0 ∨ i = 1 ∨ i = 2 ∨ i = 3 ∨ i = 4 ∨ i = 5 ∨ i = 6 := by omega
  rcases this with rfl | rfl | rfl | rfl | rfl | rfl | rfl <;> exact ⟨_, rfl, by decide, by decide⟩
theorem atI_of {α : Type} {xs : List α} {i : Int} (h0 : 0 ≤ i) (h1 : i < xs.length) : ∃ v, atI xs i = some v ∧ v ∈ xs := by
  have hj : i.toNat < xs.length := by omega
  refine ⟨xs[i.toNat], ?_, List.getElem_mem _⟩
  have e : ((i.toNat : Nat) : Int) = i := by omega
  have := atI_nat (xs := xs) (j := i.toNat) (v := xs[i.toNat]) (List.getElem?_eq_getElem hj)
  rwa [e] at this
section
variable {P : Program} {w : World} {K : PySem.W.Frag} {mg : Str → Option Value} {base : Heap} {L : LA}
theorem sc_srcof : FnScope ["_law_cell"] ["_law_cell"] (defScope st__law_source_of) := ⟨rfl, rfl, rfl, by decide +kernel, rfl, by decide +kernel, by decide +kernel⟩
theorem ok_wsourceof (T : LX K mg L) : Cal P w K mg base "_law_source_of" 1 L.f__law_source_of ["_law_cell"] spSrcOf := T.d__law_source_of.cal fun fd F => by
  refine F.ok sc_srcof (fun vs H Q E h => ?_) (fun cdv A outer s H vs Q E hr h => ?_)
  · obtain ⟨c, rfl, _⟩ := h
    rfl
  · obtain ⟨c, rfl, k⟩ := h
    refine ⟨_, pss_one (ps_ret (pe_lst (pa_cons (pe_op op_mul (pv 0) (pe_callTy call_int1 (by rfl) T.b_int (by decide +kernel) (pa_cons (pe_cmpR op_ge (pv 0) (pe_op op_pow pe_int pe_int) (nomark _)) pa_nil)))
      (pa_cons (pe_op op_mod (pe_callTy call_int1 (by rfl) T.b_int (by decide +kernel) (pa_cons (pv 0) pa_nil)) pe_int) (pa_cons pe_int pa_nil))))), ?_⟩
    refine ⟨_, rfl, _, rfl, _, _, rfl, rfl, ⟨by decide, by decide, by decide⟩, _, _, rfl, rfl, .inr ⟨_, rfl, _, _, rfl, rfl, ?_, ?_⟩⟩
    · refine .inr ?_
      split <;> decide
    · refine ⟨_, rfl, .inl ⟨_, rfl, _, _, rfl, rfl, (by show (0 : Int) < 2147483647; decide), ?_⟩⟩
      refine ⟨(by show 3 ≤ sizeLine; decide), fun l hl => ?_⟩
      refine k l _ hl (Same.upd hl) ⟨_, _, _, upd_same, ?_, Int.emod_nonneg _ (by decide), Int.emod_lt_of_pos _ (by decide), Int.le_refl _, Int.le_refl _⟩
      by_cases hc : (10 : Int) ^ (18 : Int).toNat ≤ c
      · rw [decide_eq_true hc, if_pos rfl, Int.mul_one]
        exact Int.le_trans (by decide) hc
      · rw [decide_eq_false hc, if_neg Bool.false_ne_true, Int.mul_zero]
        exact Int.le_refl _
abbrev N_wnext : List Str := ["_law_source", "_law_many", "_law_found", "_law_prime", "_law_figure"]
theorem sc_wnext : FnScope N_wnext ["_law_source", "_law_many"] (defScope st__law_next) := ⟨rfl, rfl, rfl, by decide +kernel, rfl, by decide +kernel, by decide +kernel⟩
theorem fn_wnext (T : LX K mg L) {fd : FuncData} (F : Fun K "_law_next" "_law_next" st__law_next L.f__law_next fd) : FnOk P w K mg base CX0 1 L.f__law_next fd ["_law_source", "_law_many"] (spNext) := by
  have nd := sc_wnext.nd
  refine F.ok sc_wnext (fun vs H Q E h => ?_) (fun cdv A outer S H vs Q E hr h => ?_)
  · obtain ⟨a, m, n, rfl, _⟩ := h
    rfl
  · obtain ⟨a, m, n, rfl, m0, m1, ⟨x, y, z, ha, x0, y0, y1, z0, z1⟩, hn, k⟩ := h
    refine ⟨_, (pss_cons (ps_if (pt_cmpR op_gt (pe_ix (r := rIxL K) ix_list (pv 0) pe_int (fun _ _ => rfl)) pe_int (nomark _)) (pss_cons (ps_set (i := 2) nd rfl (Or.inl rfl) (pe_op op_mod (pe_callTy call_int1 (by rfl) T.b_int (by decide +kernel) (pa_cons (pe_ix (r := rIxL K) ix_list (pv 0) pe_int (fun _ _ => rfl)) pa_nil)) (pv 1)))
       (pss_cons (ps_asg (pe_op op_fdivW (pe_ix (r := rIxL K) ix_list (pv 0) pe_int (fun _ _ => rfl)) (pv 1)) (pg_sub (pv 0) pe_int set_list))
       (pss_one (ps_ret (pv 2))))) pss_nil)
       (pss_cons (ps_asg (pe_op op_add (pe_ix (r := rIxL K) ix_list (pv 0) pe_int (fun _ _ => rfl)) pe_int) (pg_sub (pv 0) pe_int set_list))
       (pss_cons (ps_set (i := 3) nd rfl (Or.inl rfl) (pe_ix (r := rIxL K) ix_list (pe_lst (pa_cons pe_int (pa_cons pe_int (pa_cons pe_int (pa_cons pe_int (pa_cons pe_int (pa_cons pe_int (pa_cons pe_int pa_nil)))))))) (pe_op op_mod (pe_callTy call_int1 (by rfl) T.b_int (by decide +kernel) (pa_cons (pe_ix (r := rIxL K) ix_list (pv 0) pe_int (fun _ _ => rfl)) pa_nil)) pe_int) (fun _ _ => rfl)))
       (pss_cons (ps_set (i := 4) nd rfl (Or.inl rfl) (pe_op op_mod (pe_callTy call_int1 (by rfl) T.b_int (by decide +kernel) (pa_cons (pe_op op_pow (pe_op op_add (pe_op op_add (pe_ix (r := rIxL K) ix_list (pv 0) pe_int (fun _ _ => rfl)) (pe_op op_mulW pe_int (pe_ix (r := rIxL K) ix_list (pv 0) pe_int (fun _ _ => rfl)))) pe_int) pe_int) pa_nil)) (pv 3)))
       (pss_cons (ps_set (i := 4) nd rfl (Or.inl rfl) (pe_op op_mod (pe_callTy call_int1 (by rfl) T.b_int (by decide +kernel) (pa_cons (pe_op op_mulW (pe_op op_add (pv 4) (pe_ix (r := rIxL K) ix_list (pv 0) pe_int (fun _ _ => rfl))) (pe_op op_add (pe_op op_fdivW (pv 4) pe_int) pe_int)) pa_nil)) (pv 3)))
       (pss_one (ps_ret (pe_op op_mod (pe_callTy call_int1 (by rfl) T.b_int (by decide +kernel) (pa_cons (pe_op op_fdivW (pv 4) pe_int) pa_nil)) (pv 1))))))))), ?_⟩
    refine ⟨_, rfl, _, _, _, _, rfl, rfl, SqL.of ha, rfl, _, _, rfl, rfl, _, rfl, ?_⟩
    refine ite2 (fun c => ?_) (fun c => ?_)
    · refine ⟨_, rfl, _, _, _, _, rfl, rfl, SqL.of ha, rfl, .inl ⟨_, rfl, _, rfl, _, _, rfl, rfl, m0, ?_⟩⟩
      refine ⟨_, rfl, _, _, _, _, rfl, rfl, SqL.of ha, rfl, _, rfl, _, _, rfl, rfl, wide_div m0 m1 (by decide) (by decide), ?_⟩
      refine ⟨_, rfl, _, _, _, 0, rfl, rfl, ha, rfl, ?_⟩
      refine ⟨_, rfl, ?_⟩
      refine k _ _ (Int.emod_nonneg _ (by omega)) (Int.emod_lt_of_pos _ m0) ⟨_, _, _, upd_same, Int.ediv_nonneg x0 (by omega), y0, y1, z0, by omega⟩ Kp.upd
    · have zb1 : z ≤ 902000 := by omega
      refine ⟨_, rfl, _, _, _, _, rfl, rfl, SqL.of ha, rfl, _, _, rfl, rfl, ?_⟩
      refine ⟨_, rfl, _, _, _, 2, rfl, rfl, ha, rfl, ?_⟩
      have ha3 : ∀ b o, b ≠ a → (upd (upd H a (.lst [.int x, .int y, .int (z + 1)])) b o) a = some (.lst [.int x, .int y, .int (z + 1)]) := fun b o n => by rw [upd_ne n.symm, upd_same]
      refine ⟨(by show 7 ≤ sizeLine; decide), fun l hl => ?_⟩
      have hla : l ≠ a := fun e => by
        subst e
        have : (upd H l (.lst [.int x, .int y, .int (z + 1)])) l = none := hl
        rw [upd_same] at this
        cases this
      have hA := ha3 l (.lst primes) hla
      refine ⟨_, rfl, _, _, _, _, rfl, rfl, SqL.of hA, rfl, .inl ⟨_, rfl, _, _, rfl, rfl, (by show (0 : Int) < 7; decide), ?_⟩⟩
      obtain ⟨p, hp, p0, p1⟩ := prime_at ((z + 1) % 7) (Int.emod_nonneg _ (by decide)) (Int.emod_lt_of_pos _ (by decide))
      refine ⟨l, primes, _, _, rfl, rfl, SqL.of upd_same, hp, ?_⟩
      have wz : CMulW 7919 (z + 1) := wide_mul (a := 20) (b := 30) (by decide) (Nat.lt_of_le_of_lt (show (z + 1).natAbs ≤ 902001 by omega) (by decide)) (by decide) (by decide) (by decide)
      refine ⟨_, rfl, _, _, _, _, rfl, rfl, SqL.of hA, rfl, _, rfl, _, _, _, _, rfl, rfl, SqL.of hA, rfl, _, _, rfl, rfl, wz, _, _, rfl, rfl, _, _, rfl, rfl, _, _, rfl, rfl, ⟨by decide, by decide, ?_⟩, .inl ⟨_, rfl, _, rfl, _, _, rfl, rfl, p0, ?_⟩⟩
      · omega
      have f0 : 0 ≤ (y + 7919 * (z + 1) + 1) ^ (5 : Int).toNat % p := Int.emod_nonneg _ (by omega)
      have f1 : (y + 7919 * (z + 1) + 1) ^ (5 : Int).toNat % p < p := Int.emod_lt_of_pos _ p0
      have wf : CMulW ((y + 7919 * (z + 1) + 1) ^ (5 : Int).toNat % p + (z + 1)) ((y + 7919 * (z + 1) + 1) ^ (5 : Int).toNat % p / 1009 + 69621) := by
        generalize (y + 7919 * (z + 1) + 1) ^ (5 : Int).toNat % p = fg at f0 f1 ⊢
        have d0 : 0 ≤ fg / 1009 := Int.ediv_nonneg f0 (by decide)
        have d1 : fg / 1009 ≤ fg := Int.ediv_le_self _ f0
        exact wide_mul (a := 40) (b := 40) (Nat.lt_of_le_of_lt (show (fg + (z + 1)).natAbs ≤ 3000000000 by omega) (by decide)) (Nat.lt_of_le_of_lt (show (fg / 1009 + 69621).natAbs ≤ 3000000000 by omega) (by decide)) (by decide) (by decide) (by decide)
      refine ⟨_, rfl, _, rfl, _, _, _, _, rfl, rfl, SqL.of hA, rfl, _, _, rfl, rfl, _, rfl, _, _, rfl, rfl, wide_div (b := 20) (by decide) (by decide) (by decide) (by decide), _, _, rfl, rfl, _, _, rfl, rfl, wf, .inl ⟨_, rfl, _, rfl, _, _, rfl, rfl, p0, ?_⟩⟩
      refine ⟨_, rfl, _, _, rfl, rfl, wide_div (b := 20) (by decide) (by decide) (by decide) (by decide), .inl ⟨_, rfl, _, rfl, _, _, rfl, rfl, m0, ?_⟩⟩
      exact k _ _ (Int.emod_nonneg _ (by omega)) (Int.emod_lt_of_pos _ m0) ⟨_, _, _, hA, x0, y0, y1, by omega, by omega⟩ (Kp.upd.trans (Kp.of (Same.upd hl)))
theorem ok_wnext (T : LX K mg L) : Cal P w K mg base "_law_next" 1 L.f__law_next ["_law_source", "_law_many"] (spNext) := T.d__law_next.cal fun fd F => fn_wnext T F
abbrev N_wone : List Str := ["_law_source", "_law_options"]
theorem sc_wone : FnScope N_wone ["_law_source", "_law_options"] (defScope st__law_one) := ⟨rfl, rfl, rfl, by decide +kernel, rfl, by decide +kernel, by decide +kernel⟩
theorem fn_wone (T : LX K mg L) {fd : FuncData} (F : Fun K "_law_one" "_law_one" st__law_one L.f__law_one fd) : FnOk P w K mg base CX0 2 L.f__law_one fd ["_law_source", "_law_options"] (spOne) := by
  have G_wnext := ok_wnext (P := P) (w := w) (base := base) T
  have nd := sc_wone.nd
  refine F.ok sc_wone (fun vs H Q E h => ?_) (fun cdv A outer S H vs Q E hr h => ?_)
  · obtain ⟨a, l, xs, n, rfl, _⟩ := h
    rfl
  · obtain ⟨a, l, xs, n, rfl, hal, hl, x0, x1, hs, hn, k⟩ := h
    refine ⟨_, (pss_one (ps_ret (pe_ix (r := rIxL K) ix_list (pv 1) (pe_c G_wnext (hr.mono (by decide)) rfl (pa_cons (pv 0) (pa_cons (pe_callB call_len_seq (by rfl) T.b_len PySem.boot_len (pa_cons (pv 1) pa_nil)) pa_nil))) (fun _ _ => rfl)))), ?_⟩
    refine ⟨_, rfl, _, rfl, _, rfl, l, xs, rfl, .inl (SqL.of hl), a, _, n, rfl, by omega, ?_, hs, hn, fun r H' r0 r1 hs' hk => ?_⟩
    · exact Nat.lt_of_le_of_lt (show ((xs.length : Int)).natAbs ≤ 100000 by omega) (by decide)
    · obtain ⟨v, hv, hm⟩ := atI_of (xs := xs) r0 r1
      exact ⟨l, xs, r, v, rfl, rfl, SqL.of (hk _ _ hal.symm hl), hv, k v H' hm hs' hk⟩
theorem ok_wone (T : LX K mg L) : Cal P w K mg base "_law_one" 2 L.f__law_one ["_law_source", "_law_options"] (spOne) := T.d__law_one.cal fun fd F => fn_wone T F
abbrev N_wcellat : List Str := ["_law_script", "_law_k"]
theorem sc_wcellat : FnScope N_wcellat ["_law_script", "_law_k"] (defScope st__law_cell_at) := ⟨rfl, rfl, rfl, by decide +kernel, rfl, by decide +kernel, by decide +kernel⟩
theorem fn_wcellat (T : LX K mg L) {fd : FuncData} (F : Fun K "_law_cell_at" "_law_cell_at" st__law_cell_at L.f__law_cell_at fd) : FnOk P w K mg base CX0 1 L.f__law_cell_at fd ["_law_script", "_law_k"] (spCell K) := by
  have nd := sc_wcellat.nd
  refine F.ok sc_wcellat (fun vs H Q E h => ?_) (fun cdv A outer S H vs Q E hr h => ?_)
  · obtain ⟨a, ns, i, rfl, _⟩ := h
    rfl
  · obtain ⟨a, ns, i, rfl, hS, i0, k⟩ := h
    refine ⟨_, (pss_cons (ps_if (pt_cmpR op_lt (pv 1) (pe_callB call_len_seq (by rfl) T.b_len PySem.boot_len (pa_cons (pv 0) pa_nil)) (nomark _)) (pss_one (ps_ret (pe_ix (r := rIxL K) ix_list (pv 0) (pv 1) (fun _ _ => rfl)))) pss_nil)
       (pss_one (ps_ret pe_int))), ?_⟩
    refine ⟨_, rfl, _, rfl, a, _, rfl, .inl hS, _, _, rfl, rfl, _, rfl, ?_⟩
    refine ite2 (fun c => ?_) (fun c => ?_)
    · have c' : i < ((ns.map V.int).length : Nat) := of_decide_eq_true c
      obtain ⟨v, hv, hm⟩ := atI_of (xs := ns.map V.int) i0 c'
      obtain ⟨z, _, rfl⟩ := List.mem_map.mp hm
      exact ⟨_, rfl, _, rfl, a, _, _, _, rfl, rfl, hS, hv, k z⟩
    · exact k 0
theorem ok_wcellat (T : LX K mg L) : Cal P w K mg base "_law_cell_at" 1 L.f__law_cell_at ["_law_script", "_law_k"] (spCell K) := T.d__law_cell_at.cal fun fd F => fn_wcellat T F
end
theorem draw_gen {P : Program} {w : World} {mg : Str → Option Value} {t : TA} {σ : L2.St} {H : Hp} {Q : VK} {a : Addr} {n : Nat} {ns : List Int} {hi : Int} {j : Nat} (σ0 : σ[j]? = some (some (.ref a))) (hs : Src H a n) (hn : n ≤ 898000) (ht : ∀ R : List V → Hp → Prop, R (ns.map V.int) H → t σ H R)
    (h0 : 0 < ns.length) (h1 : ns.length ≤ 1000) (hb : ∀ m ∈ ns, 0 < m ∧ m ≤ hi) (hh : hi.natAbs < 2 ^ 1100) (k : ∀ (r : Int) H', 0 ≤ r → r < hi → (∃ m ∈ ns, r < m) → Src H' a (n + 2202) → Kp a H H' → Q (.int r) H') :
    tCall spNext [] E0 (tCons (tVar j) (tCons (tCall spOne [] E0 (tCons (tVar j) (tCons (tLst t) tNil))) tNil)) σ H Q := by
  obtain ⟨ys, hy⟩ := hs.has
  refine ⟨_, σ0, _, σ0, ht _ ⟨(by rw [List.length_map]; exact Nat.le_trans h1 (by decide)), fun l hl => ?_⟩⟩
  have hal : a ≠ l := ne_of_none hy hl
  refine ⟨a, l, ns.map V.int, n, rfl, hal, upd_same, (by rw [List.length_map]; exact h0), (by rw [List.length_map]; omega), hs.same (Same.upd hl), by omega, fun v H1 hv hs1 k1 => ?_⟩
  obtain ⟨m, hm, rfl⟩ := List.mem_map.mp hv
  obtain ⟨m0, m1⟩ := hb m hm
  refine ⟨a, m, n + 1101, rfl, m0, Nat.lt_of_le_of_lt (show m.natAbs ≤ hi.natAbs by omega) hh, hs1, by omega, fun r H2 r0 r1 hs2 k2 => ?_⟩
  exact k r H2 r0 (by omega) ⟨m, hm, r1⟩ hs2 ((Kp.of (Same.upd hl)).trans (k1.trans k2))
theorem choice_gen {P : Program} {w : World} {mg : Str → Option Value} {t : TA} {σ : L2.St} {H : Hp} {Q : VK} {a : Addr} {n : Nat} {ns : List Int} {j : Nat} (σ0 : σ[j]? = some (some (.ref a))) (hs : Src H a n) (hn : n ≤ 898000) (ht : ∀ R : List V → Hp → Prop, R (ns.map V.int) H → t σ H R)
    (h0 : 0 < ns.length) (h1 : ns.length ≤ 1000) (k : ∀ (m : Int) H', m ∈ ns → Src H' a (n + 1101) → Kp a H H' → Q (.int m) H') :
    tCall spOne [] E0 (tCons (tVar j) (tCons (tLst t) tNil)) σ H Q := by
  obtain ⟨ys, hy⟩ := hs.has
  refine ⟨_, σ0, ht _ ⟨(by rw [List.length_map]; exact Nat.le_trans h1 (by decide)), fun l hl => ?_⟩⟩
  have hal : a ≠ l := ne_of_none hy hl
  refine ⟨a, l, ns.map V.int, n, rfl, hal, upd_same, (by rw [List.length_map]; exact h0), (by rw [List.length_map]; omega), hs.same (Same.upd hl), by omega, fun v H1 hv hs1 k1 => ?_⟩
  obtain ⟨m, hm, rfl⟩ := List.mem_map.mp hv
  exact k m H1 hm hs1 ((Kp.of (Same.upd hl)).trans k1)

/-! ### sources kept -/
theorem src_kp {H H' : Hp} {s l : Addr} {n : Nat} (k : Kp l H H') (h : s ≠ l) (S : Src H s n) : Src H' s n := by
  obtain ⟨x, y, z, e, r⟩ := S
  exact ⟨x, y, z, k _ _ h e, r⟩
/-! ### try: a body that raises nothing -/
theorem ps_try_none {X : Cx} {body : List Stmt} {tb : TS} {h₀ : ExceptHandler} {hs : List ExceptHandler} {pos : Pos} (hb : ∀ pn : List (Addr × Obj), PSs (X.tr pn fun _ _ => False) body tb) :
    PS X (.Try body (h₀ :: hs) [] [] pos) tb := by
  refine ⟨fun pins s σ H D I h => ?_⟩
  have ok := I.ok
  refine wpAny_Try_except ?_
  refine wpAny_mono ((hb (X.pn ++ pins)).run [] s σ H D (I.toTry _) h) (fun f s1 hsp => ?_) (fun e s1 he => he.elim)
  cases f with
  | next =>
    obtain ⟨σ', H', J', q⟩ := hsp
    exact wpAny_execs_nil ⟨σ', H', J'.ofTry ok, q⟩
  | brk =>
    obtain ⟨σ', H', J', q⟩ := hsp
    exact ⟨σ', H', J'.ofTry ok, q⟩
  | cont =>
    obtain ⟨σ', H', J', q⟩ := hsp
    exact ⟨σ', H', J'.ofTry ok, q⟩
  | ret u =>
    obtain ⟨v, σ', H', J', r, q⟩ := hsp
    exact ⟨v, σ', H', J'.ofTry ok, r, q⟩
/-! ### routes as data -/
abbrev Svc := List Tri × List (Int × Int)
theorem rq1 : ¬ (("step" : Str) = "pattern") := by decide +kernel
theorem rq2 : ¬ (("step" : Str) = "services") := by decide +kernel
theorem rq3 : ¬ (("step" : Str) = "common") := by decide +kernel
theorem rq4 : ¬ (("pattern" : Str) = "services") := by decide +kernel
theorem rq5 : ¬ (("pattern" : Str) = "common") := by decide +kernel
theorem rq6 : ¬ (("services" : Str) = "common") := by decide +kernel
def rtF (aC aS aP : Addr) (st : Int) : List (Str × V) := putF "step" (.int st) (putF "pattern" (.ref aP) (putF "services" (.ref aS) (putF "common" (.ref aC) [])))
theorem rtF_c (aC aS aP : Addr) (st : Int) : (rtF aC aS aP st).lookup ("common" : Str) = some (.ref aC) := by
  unfold rtF
  rw [lookup_putF, if_neg (fun e => rq3 e.symm), lookup_putF, if_neg (fun e => rq5 e.symm), lookup_putF, if_neg (fun e => rq6 e.symm), lookup_putF, if_pos rfl]
theorem rtF_s (aC aS aP : Addr) (st : Int) : (rtF aC aS aP st).lookup ("services" : Str) = some (.ref aS) := by
  unfold rtF
  rw [lookup_putF, if_neg (fun e => rq2 e.symm), lookup_putF, if_neg (fun e => rq4 e.symm), lookup_putF, if_pos rfl]
theorem rtF_p (aC aS aP : Addr) (st : Int) : (rtF aC aS aP st).lookup ("pattern" : Str) = some (.ref aP) := by
  unfold rtF
  rw [lookup_putF, if_neg (fun e => rq1 e.symm), lookup_putF, if_pos rfl]
theorem rtF_st (aC aS aP : Addr) (st : Int) : (rtF aC aS aP st).lookup ("step" : Str) = some (.int st) := by
  unfold rtF
  rw [lookup_putF, if_pos rfl]
theorem rtF_no (aC aS aP : Addr) (st : Int) {m : Str} (h1 : ¬ m = "step") (h2 : ¬ m = "pattern") (h3 : ¬ m = "services") (h4 : ¬ m = "common") : (rtF aC aS aP st).lookup m = none := by
  unfold rtF
  rw [lookup_putF, if_neg h1, lookup_putF, if_neg h2, lookup_putF, if_neg h3, lookup_putF, if_neg h4]
  all_goals rfl
/-- a service as it is held -/
def SvAt (H : Hp) (v : V) (sv : Svc) : Prop := ∃ a ab ao xb xo, v = .ref a ∧ H a = some (.tup [.ref ab, .ref ao]) ∧ H ab = some (.tup xb) ∧ Brs H xb sv.1 ∧ H ao = some (.tup xo) ∧ Ots H xo (outs sv.2)
/-- .. as it is given -/
def SlAt (H : Hp) (v : V) (sv : Svc) : Prop := ∃ a ab ao xb xo, v = .ref a ∧ H a = some (.tup [.ref ab, .ref ao]) ∧ H ab = some (.lst xb) ∧ Brs H xb sv.1 ∧ H ao = some (.lst xo) ∧ Ots H xo (outs sv.2)
def OkSv (sv : Svc) : Prop := (∀ t ∈ sv.1, OkT t) ∧ sv.1.length ≤ 12 ∧ VOut 0 sv.2 ∧ sv.2.length ≤ 50
theorem SvAt.nl {H H' : Hp} (k : NL H H') {v : V} {sv : Svc} (h : SvAt H v sv) : SvAt H' v sv := by
  obtain ⟨a, ab, ao, xb, xo, e, h1, h2, h3, h4, h5⟩ := h
  exact ⟨a, ab, ao, xb, xo, e, k _ _ h1 (fun _ z => nomatch z), k _ _ h2 (fun _ z => nomatch z), h3.nl k, k _ _ h4 (fun _ z => nomatch z), h5.nl k⟩
theorem SlAt.same {H H' : Hp} (k : Same H H') {v : V} {sv : Svc} (h : SlAt H v sv) : SlAt H' v sv := by
  obtain ⟨a, ab, ao, xb, xo, e, h1, h2, h3, h4, h5⟩ := h
  exact ⟨a, ab, ao, xb, xo, e, k _ _ h1, k _ _ h2, h3.nl (NL.of k), k _ _ h4, h5.same k⟩
theorem Brs.ni' {H H' : Hp} (k : NI H H') {xs : List V} {ts : List Tri} (h : Brs H xs ts) : Brs H' xs ts := L2.Paired.mapP h fun _ _ ⟨b, e, h⟩ => ⟨b, e, k _ _ h fun _ _ _ z => nomatch z⟩
theorem SvAt.ni {H H' : Hp} (k : NI H H') {v : V} {sv : Svc} (h : SvAt H v sv) : SvAt H' v sv := by
  obtain ⟨a, ab, ao, xb, xo, e, h1, h2, h3, h4, h5⟩ := h
  exact ⟨a, ab, ao, xb, xo, e, k _ _ h1 (fun _ _ _ z => nomatch z), k _ _ h2 (fun _ _ _ z => nomatch z), h3.ni' k, k _ _ h4 (fun _ _ _ z => nomatch z), h5.ni k⟩
theorem SlAt.ni {H H' : Hp} (k : NI H H') {v : V} {sv : Svc} (h : SlAt H v sv) : SlAt H' v sv := by
  obtain ⟨a, ab, ao, xb, xo, e, h1, h2, h3, h4, h5⟩ := h
  exact ⟨a, ab, ao, xb, xo, e, k _ _ h1 (fun _ _ _ z => nomatch z), k _ _ h2 (fun _ _ _ z => nomatch z), h3.ni' k, k _ _ h4 (fun _ _ _ z => nomatch z), h5.ni k⟩
def pnV (n : Nat) : V := .int (n : Int)
/-- routes stand at p -/
structure RtAt (C : Addr) (H : Hp) (p aC aS aP : Addr) (xC xS : List V) (fr : List Tri) (svs : List Svc) (pat : List Nat) (st : Int) : Prop where
  ob : ∃ dx, H p = some (.ins C dx (rtF aC aS aP st))
  hC : H aC = some (.tup xC)
  bC : Brs H xC fr
  hS : H aS = some (.tup xS)
  sv : Paired (SvAt H) xS svs
  hP : H aP = some (.tup (pat.map pnV))
  okC : ∀ t ∈ fr, OkT t
  lnC : fr.length ≤ 12
  okS : ∀ s ∈ svs, OkSv s
  s0 : 1 ≤ svs.length
  s1 : svs.length ≤ 10
  p0 : 1 ≤ pat.length
  p1 : pat.length ≤ 20
  pb : ∀ n ∈ pat, n < svs.length
  st0 : 1 ≤ st
  st1 : st ≤ 1000000000000000000000000000000
theorem RtAt.nl {C : Addr} {H H' : Hp} {p aC aS aP : Addr} {xC xS : List V} {fr : List Tri} {svs : List Svc} {pat : List Nat} {st : Int} (R : RtAt C H p aC aS aP xC xS fr svs pat st) (k : NL H H') : RtAt C H' p aC aS aP xC xS fr svs pat st := by
  obtain ⟨dx, h⟩ := R.ob
  exact ⟨⟨dx, k _ _ h fun _ z => nomatch z⟩, k _ _ R.hC fun _ z => (nomatch z), R.bC.nl k, k _ _ R.hS fun _ z => (nomatch z), L2.Paired.mapP R.sv fun _ _ z => z.nl k, k _ _ R.hP fun _ z => (nomatch z), R.okC, R.lnC, R.okS, R.s0, R.s1, R.p0, R.p1, R.pb, R.st0, R.st1⟩
def RtV (C : Addr) (H : Hp) (p : Addr) (fr : List Tri) (svs : List Svc) (pat : List Nat) (st : Int) : Prop := ∃ aC aS aP xC xS, RtAt C H p aC aS aP xC xS fr svs pat st
theorem RtV.nl {C : Addr} {H H' : Hp} {p : Addr} {fr : List Tri} {svs : List Svc} {pat : List Nat} {st : Int} (R : RtV C H p fr svs pat st) (k : NL H H') : RtV C H' p fr svs pat st := by
  obtain ⟨aC, aS, aP, xC, xS, R⟩ := R
  exact ⟨aC, aS, aP, xC, xS, R.nl k⟩
/-- what is given for routes is good -/
structure RtOk (fr : List Tri) (svs : List Svc) (pat : List Nat) (st : Int) : Prop where
  okC : ∀ t ∈ fr, OkT t
  lnC : fr.length ≤ 12
  okS : ∀ s ∈ svs, OkSv s
  s0 : 1 ≤ svs.length
  s1 : svs.length ≤ 10
  p0 : 1 ≤ pat.length
  p1 : pat.length ≤ 20
  pb : ∀ n ∈ pat, n < svs.length
  st0 : 1 ≤ st
  st1 : st ≤ 1000000000000000000000000000000
def spIsSv : Sp := fun vs H Q _ => ∃ v sv, vs = [v] ∧ SlAt H v sv ∧ OkSv sv ∧ ∀ H', Same H H' → Q (.bl true) H'
def spCkSv : Sp := fun vs H Q _ => ∃ l xs svs, vs = [.ref l] ∧ H l = some (.lst xs) ∧ Paired (SlAt H) xs svs ∧ (∀ s ∈ svs, OkSv s) ∧ 1 ≤ svs.length ∧ svs.length ≤ 10 ∧ ∀ H', Same H H' → Q .non H'
def spCkPat : Sp := fun vs H Q _ => ∃ (l : Addr) (pat : List Nat) (n : Nat), vs = [.ref l, .int (n : Int)] ∧ H l = some (.lst (pat.map pnV)) ∧ 1 ≤ pat.length ∧ pat.length ≤ 20 ∧ (∀ k ∈ pat, k < n) ∧ ∀ H', Same H H' → Q .non H'
def spRtInit (C : Addr) : Sp := fun vs H Q _ => ∃ p lc ls lp st xc xs fr svs pat dx, vs = [.ref p, .ref lc, .ref ls, .ref lp, .int st] ∧ H p = some (.ins C dx []) ∧ H lc = some (.lst xc) ∧ Brs H xc fr ∧ H ls = some (.lst xs) ∧ Paired (SlAt H) xs svs ∧ H lp = some (.lst (pat.map pnV)) ∧ RtOk fr svs pat st ∧
  ∀ H', RtV C H' p fr svs pat st → Kp p H H' → Q .non H'
def spIsUp : Sp := fun vs H Q _ => ∃ (a : Addr) (xo : List V) (os : List (Int × Int)) (t : Int), vs = [.ref a, .int t] ∧ H a = some (.tup xo) ∧ Ots H xo (outs os) ∧ Q (.bl (upB os t)) H
section
variable {P : Program} {w : World} {K : PySem.W.Frag} {mg : Str → Option Value} {base : Heap} {L : LA}
abbrev N_isservice : List Str := ["value", "breakers", "outages"]
theorem sc_isservice : FnScope N_isservice ["value"] (defScope st_is_service) := ⟨rfl, rfl, rfl, by decide +kernel, rfl, by decide +kernel, by decide +kernel⟩
theorem fn_isservice (T : LX K mg L) {fd : FuncData} (F : Fun K "is_service" "is_service" st_is_service L.f_is_service fd) : FnOk P w K mg base CX0 5 L.f_is_service fd ["value"] (spIsSv) := by
  have G_checkbreakers := ok_checkbreakers (P := P) (w := w) (base := base) T
  have G_checkoutages := ok_checkoutages (P := P) (w := w) (base := base) T
  have nd := sc_isservice.nd
  refine F.ok sc_isservice (fun vs H Q E h => ?_) (fun cdv A outer S H vs Q E hr h => ?_)
  · obtain ⟨v, sv, rfl, _⟩ := h
    rfl
  · obtain ⟨v, sv, rfl, ⟨a, ab, ao, xb, xo, rfl, ha, hab, hb, hao, ho⟩, ⟨o1, o2, o3, o4⟩, k⟩ := h
    refine ⟨_, (pss_cons (ps_if (PW.pt (pw_or (pt_not (pt_val (pe_callB call_isi (by rfl) T.b_isinstance (by decide +kernel) (pa_cons (pv 0) (pa_cons (pe_bltn (by rfl) T.b_tuple (by decide +kernel : bootBuiltins "tuple" = some (.type "tuple")) (v := .ty "tuple") rfl) pa_nil))))) (pw_or1 (pt_cmpR op_ne (pe_callB call_len_seq (by rfl) T.b_len PySem.boot_len (pa_cons (pv 0) pa_nil)) pe_int (nomark _))))) (pss_one (ps_ret pe_bl)) pss_nil)
       (pss_cons (ps_asg (pv 0) (pg_tup rfl (pgs_cons (pg_name (i := 1) nd rfl (Or.inl rfl)) (pgs_cons (pg_name (i := 2) nd rfl (Or.inl rfl)) pgs_nil))))
       (pss_cons (ps_try_none (fun pn => (pss_cons (ps_expr (pe_c G_checkbreakers (hr.mono (by decide)) rfl (pa_cons (pv 1) (pa_cons pe_str pa_nil))))
       (pss_one (ps_expr (pe_c G_checkoutages (hr.mono (by decide)) rfl (pa_cons (pv 2) pa_nil)))))))
       (pss_one (ps_ret pe_bl))))), ?_⟩
    refine ⟨_, rfl, _, .ty "tuple", _, _, _, rfl, .ty "tuple", (Kd.tup ha).ty, (Kd.tup ha).kit "tuple" _ (.inr ⟨by decide, by decide, rfl⟩), _, rfl, iteF ?_⟩
    refine ⟨_, rfl, a, _, rfl, .inr (SqT.of ha), rfl, _, rfl, iteF ?_⟩
    refine ⟨_, rfl, a, _, rfl, SqT.of ha, rfl, _, _, rfl, _, _, rfl, rfl, ?_⟩
    refine ⟨_, rfl, ab, xb, sv.1, _, rfl, hab, hb, o1, o2, fun H1 s1 => ?_⟩
    refine ⟨_, rfl, ao, xo, sv.2, rfl, s1 _ _ hao, ho.same s1, o3, o4, fun H2 s2 => ?_⟩
    exact k H2 (s1.trans s2)
theorem ok_isservice (T : LX K mg L) : Cal P w K mg base "is_service" 5 L.f_is_service ["value"] (spIsSv) := T.d_is_service.cal fun fd F => fn_isservice T F
abbrev N_checkservices : List Str := ["services", "at", "service"]
theorem sc_checkservices : FnScope N_checkservices ["services"] (defScope st_check_services) := ⟨rfl, rfl, rfl, by decide +kernel, rfl, by decide +kernel, by decide +kernel⟩
theorem fn_checkservices (T : LX K mg L) {fd : FuncData} (F : Fun K "check_services" "check_services" st_check_services L.f_check_services fd) : FnOk P w K mg base CX0 6 L.f_check_services fd ["services"] (spCkSv) := by
  obtain ⟨tk_MOST_SERVICES, c_MOST_SERVICES⟩ := T.n_MOST_SERVICES
  have G_isservice := ok_isservice (P := P) (w := w) (base := base) T
  have nd := sc_checkservices.nd
  refine F.ok sc_checkservices (fun vs H Q E h => ?_) (fun cdv A outer S H vs Q E hr h => ?_)
  · obtain ⟨l, xs, svs, rfl, _⟩ := h
    rfl
  · obtain ⟨l, xs, svs, rfl, hl, hp, ok, l0, l1, k⟩ := h
    refine ⟨_, (pss_cons (ps_if (PW.pt (pw_or (pt_not (pt_val (pe_callB call_isi (by rfl) T.b_isinstance (by decide +kernel) (pa_cons (pv 0) (pa_cons (pe_bltn (by rfl) T.b_list (by decide +kernel : bootBuiltins "list" = some (.type "list")) (v := .ty "list") rfl) pa_nil))))) (pw_or1 (pt_not (pt_chain op_le op_le pe_int (pe_callB call_len_seq (by rfl) T.b_len PySem.boot_len (pa_cons (pv 0) pa_nil)) (pe_gI c_MOST_SERVICES)))))) (pss_one (ps_never)) pss_nil)
       (pss_one (ps_for PassesOwn.never rfl (pi_enum (by rfl) T.b_enumerate (pa_cons (pv 0) pa_nil)) (pg_tup rfl (pgs_cons (pg_name (i := 1) nd rfl (Or.inl rfl)) (pgs_cons (pg_name (i := 2) nd rfl (Or.inl rfl)) pgs_nil))) (pss_one (ps_if (pt_not (pt_val (pe_c G_isservice (hr.mono (by decide)) rfl (pa_cons (pv 2) pa_nil)))) (pss_one (ps_never)) pss_nil))))), ?_⟩
    have xl := paired_len hp
    refine ⟨_, rfl, _, .ty "list", _, _, _, rfl, .ty "list", (Kd.lst hl).ty, (Kd.lst hl).kit "list" _ (.inr ⟨by decide, by decide, rfl⟩), _, rfl, iteF ?_⟩
    refine ⟨_, rfl, l, _, rfl, .inl (SqL.of hl), _, _, rfl, rfl, ?_⟩
    refine ⟨_, rfl, ?_⟩
    rw [decide_eq_true (show (1 : Int) ≤ (xs.length : Nat) by omega)]
    refine iteT ⟨_, _, rfl, rfl, _, rfl, ?_⟩
    show if (!(decide (((xs.length : Nat) : Int) ≤ 10))) = true then _ else _
    rw [decide_eq_true (show ((xs.length : Nat) : Int) ≤ 10 by omega)]
    refine iteF ⟨_, rfl, l, xs, rfl, SqL.of hl, for_enum (K := K) (a := l) (xs := xs) (fun i σ H2 => ∃ u v : Option V, σ = [some (.ref l), u, v] ∧ Same H H2) ⟨none, none, rfl, Same.refl H⟩ (fun i σ H2 _ ⟨_, _, _, s2⟩ => SqL.of (s2 _ _ hl)) ?_ ?_⟩
    · rintro i x T' σ H2 hx ⟨u, v, rfl, s2⟩ hT
      obtain ⟨sv, hsv, hat⟩ := paired_get hp hx
      have s3 : Same H (upd H2 T' (.tup [.int (i : Nat), x])) := s2.trans (Same.upd hT)
      refine ⟨T', _, rfl, SqT.of upd_same, rfl, _, _, rfl, _, _, rfl, rfl, ?_⟩
      exact ⟨_, rfl, x, sv, rfl, hat.same s3, ok sv (List.mem_of_getElem? hsv), fun H4 s4 => ⟨_, rfl, iteF ⟨_, _, rfl, s3.trans s4⟩⟩⟩
    · rintro σ H2 ⟨u, v, rfl, s2⟩
      exact k H2 s2
theorem ok_checkservices (T : LX K mg L) : Cal P w K mg base "check_services" 6 L.f_check_services ["services"] (spCkSv) := T.d_check_services.cal fun fd F => fn_checkservices T F
abbrev N_checkpattern : List Str := ["pattern", "number", "at", "service"]
theorem sc_checkpattern : FnScope N_checkpattern ["pattern", "number"] (defScope st_check_pattern) := ⟨rfl, rfl, rfl, by decide +kernel, rfl, by decide +kernel, by decide +kernel⟩
theorem fn_checkpattern (T : LX K mg L) {fd : FuncData} (F : Fun K "check_pattern" "check_pattern" st_check_pattern L.f_check_pattern fd) : FnOk P w K mg base CX0 3 L.f_check_pattern fd ["pattern", "number"] (spCkPat) := by
  obtain ⟨tk_MOST_PLACES, c_MOST_PLACES⟩ := T.n_MOST_PLACES
  have G_iswithin := ok_iswithin (P := P) (w := w) (base := base) T
  have nd := sc_checkpattern.nd
  refine F.ok sc_checkpattern (fun vs H Q E h => ?_) (fun cdv A outer S H vs Q E hr h => ?_)
  · obtain ⟨l, pat, n, rfl, _⟩ := h
    rfl
  · obtain ⟨l, pat, n, rfl, hl, p0, p1, pb, k⟩ := h
    refine ⟨_, (pss_cons (ps_if (PW.pt (pw_or (pt_not (pt_val (pe_callB call_isi (by rfl) T.b_isinstance (by decide +kernel) (pa_cons (pv 0) (pa_cons (pe_bltn (by rfl) T.b_list (by decide +kernel : bootBuiltins "list" = some (.type "list")) (v := .ty "list") rfl) pa_nil))))) (pw_or1 (pt_not (pt_chain op_le op_le pe_int (pe_callB call_len_seq (by rfl) T.b_len PySem.boot_len (pa_cons (pv 0) pa_nil)) (pe_gI c_MOST_PLACES)))))) (pss_one (ps_never)) pss_nil)
       (pss_one (ps_for PassesOwn.never rfl (pi_enum (by rfl) T.b_enumerate (pa_cons (pv 0) pa_nil)) (pg_tup rfl (pgs_cons (pg_name (i := 2) nd rfl (Or.inl rfl)) (pgs_cons (pg_name (i := 3) nd rfl (Or.inl rfl)) pgs_nil))) (pss_one (ps_if (pt_not (pt_val (pe_c G_iswithin (hr.mono (by decide)) rfl (pa_cons (pv 3) (pa_cons pe_int (pa_cons (pe_op op_sub (pv 1) pe_int) pa_nil)))))) (pss_one (ps_never)) pss_nil))))), ?_⟩
    refine ⟨_, rfl, _, .ty "list", _, _, _, rfl, .ty "list", (Kd.lst hl).ty, (Kd.lst hl).kit "list" _ (.inr ⟨by decide, by decide, rfl⟩), _, rfl, iteF ?_⟩
    refine ⟨_, rfl, l, _, rfl, .inl (SqL.of hl), _, _, rfl, rfl, ?_⟩
    have xl : (pat.map pnV).length = pat.length := List.length_map ..
    refine ⟨_, rfl, ?_⟩
    rw [decide_eq_true (show (1 : Int) ≤ ((pat.map pnV).length : Nat) by omega)]
    refine iteT ⟨_, _, rfl, rfl, _, rfl, ?_⟩
    show if (!(decide ((((pat.map pnV).length : Nat) : Int) ≤ 20))) = true then _ else _
    rw [decide_eq_true (show (((pat.map pnV).length : Nat) : Int) ≤ 20 by omega)]
    refine iteF ⟨_, rfl, l, _, rfl, SqL.of hl, for_enum (K := K) (a := l) (xs := pat.map pnV) (fun i σ H2 => ∃ u v : Option V, σ = [some (.ref l), some (.int (n : Int)), u, v] ∧ Same H H2) ⟨none, none, rfl, Same.refl H⟩ (fun i σ H2 _ ⟨_, _, _, s2⟩ => SqL.of (s2 _ _ hl)) ?_ ?_⟩
    · rintro i x T' σ H2 hx ⟨u, v, rfl, s2⟩ hT
      obtain ⟨m, hm, rfl⟩ : ∃ m, pat[i]? = some m ∧ x = pnV m := by
        rw [List.getElem?_map] at hx
        obtain ⟨m, hm, e⟩ := Option.map_eq_some_iff.mp hx
        exact ⟨m, hm, e.symm⟩
      have mb := pb m (List.mem_of_getElem? hm)
      have s3 : Same H (upd H2 T' (.tup [.int (i : Nat), pnV m])) := s2.trans (Same.upd hT)
      refine ⟨T', _, rfl, SqT.of upd_same, rfl, _, _, rfl, _, _, rfl, rfl, ?_⟩
      refine ⟨_, rfl, _, rfl, _, _, rfl, rfl, _, _, _, _, rfl, .int _, _, rfl, ?_⟩
      show if (!(isI (V.int (m : Int)) && (decide ((0 : Int) ≤ (m : Int)) && decide ((m : Int) ≤ (n : Int) - 1)))) = true then _ else _
      rw [k6_pos (show (0 : Int) ≤ (m : Int) by omega) (show (m : Int) ≤ (n : Int) - 1 by omega)]
      exact iteF ⟨_, _, rfl, s3⟩
    · rintro σ H2 ⟨u, v, rfl, s2⟩
      exact k H2 s2
theorem ok_checkpattern (T : LX K mg L) : Cal P w K mg base "check_pattern" 3 L.f_check_pattern ["pattern", "number"] (spCkPat) := T.d_check_pattern.cal fun fd F => fn_checkpattern T F
abbrev N_isup : List Str := ["outages", "time", "begin", "end"]
theorem sc_isup : FnScope N_isup ["outages", "time"] (defScope st_is_up) := ⟨rfl, rfl, rfl, by decide +kernel, rfl, by decide +kernel, by decide +kernel⟩
theorem fn_isup (T : LX K mg L) {fd : FuncData} (F : Fun K "is_up" "is_up" st_is_up L.f_is_up fd) : FnOk P w K mg base CX0 1 L.f_is_up fd ["outages", "time"] (spIsUp) := by
  have nd := sc_isup.nd
  refine F.ok sc_isup (fun vs H Q E h => ?_) (fun cdv A outer S H vs Q E hr h => ?_)
  · obtain ⟨a, xo, os, t, rfl, _⟩ := h
    rfl
  · obtain ⟨a, xo, os, t, rfl, ha, ho, k⟩ := h
    refine ⟨_, (pss_cons (ps_for PassesOwn.never rfl (pi_tup (pv 0)) (pg_tup rfl (pgs_cons (pg_name (i := 2) nd rfl (Or.inl rfl)) (pgs_cons (pg_name (i := 3) nd rfl (Or.inl rfl)) pgs_nil))) (pss_one (ps_if (pt_chain op_le op_lt (pv 2) (pv 1) (pv 3)) (pss_one (ps_ret pe_bl)) pss_nil)))
       (pss_one (ps_ret pe_bl))), ?_⟩
    have xl := paired_len ho
    rw [outs_len] at xl
    refine ⟨_, rfl, a, rfl, ⟨_, SqT.of ha⟩, ?_⟩
    refine for_tup (K := K) (a := a) (xs := xo) (fun i σ Hc => ∃ u v : Option V, σ = [some (.ref a), some (.int t), u, v] ∧ ¬ dn (os.take i) t ∧ Hc = H) ⟨none, none, rfl, fun ⟨o, ho, _⟩ => (nomatch ho), rfl⟩ (fun i σ Hc _ ⟨_, _, _, _, e⟩ => by rw [e]; exact SqT.of ha) ?_ ?_
    · rintro i x σ Hc hxi ⟨u, v, rfl, nd', rfl⟩
      obtain ⟨o', ho', hox⟩ := paired_get ho hxi
      obtain ⟨o, hoi, rfl⟩ : ∃ o, os[i]? = some o ∧ o' = (o.1, some o.2) := by
        unfold outs at ho'
        rw [List.getElem?_map] at ho'
        cases q : os[i]? with
        | none => rw [q] at ho'; cases ho'
        | some o => rw [q] at ho'; cases ho'; exact ⟨o, rfl, rfl⟩
      obtain ⟨c0, rfl, hc0⟩ := hox
      have etk : os.take (i + 1) = os.take i ++ [o] := by rw [List.take_add_one, hoi]; rfl
      have om := List.mem_of_getElem? hoi
      refine ⟨c0, _, rfl, SqT.of hc0, rfl, _, _, rfl, _, _, rfl, rfl, ?_⟩
      have go : ¬ (o.1 ≤ t ∧ t < o.2) → ∃ u v : Option V, [some (V.ref a), some (.int t), some (.int o.1), some (.int o.2)] = [some (.ref a), some (.int t), u, v] ∧ ¬ dn (os.take (i + 1)) t ∧ Hc = Hc := fun q => ⟨_, _, rfl, by rw [etk, dn_app]; exact fun z => z.elim nd' q, rfl⟩
      refine ⟨_, rfl, _, rfl, _, _, rfl, rfl, _, rfl, ite2 (fun c1 => ⟨_, rfl, _, _, rfl, rfl, _, rfl, ite2 (fun c2 => ?_) (fun c2 => go fun z => c2 (decide_eq_true z.2))⟩) (fun c1 => ⟨_, rfl, iteF (go fun z => c1 (decide_eq_true z.1))⟩)⟩
      have : upB os t = false := by
        cases q : upB os t with
        | false => rfl
        | true => exact absurd ⟨o, om, of_decide_eq_true c1, of_decide_eq_true c2⟩ (upB_iff.mp q)
      rw [this] at k
      exact k
    · rintro σ Hc ⟨u, v, rfl, nd', rfl⟩
      rw [xl, List.take_length] at nd'
      rw [upB_iff.mpr nd'] at k
      exact k
theorem ok_isup (T : LX K mg L) : Cal P w K mg base "is_up" 1 L.f_is_up ["outages", "time"] (spIsUp) := T.d_is_up.cal fun fd F => fn_isup T F
abbrev N_Routesinit : List Str := ["self", "common", "services", "pattern", "step", "breakers", "outages"]
theorem sc_Routesinit : FnScope N_Routesinit ["self", "common", "services", "pattern", "step"] (defScope st_Routes_init) := ⟨rfl, rfl, rfl, by decide +kernel, rfl, by decide +kernel, by decide +kernel⟩
theorem fn_Routesinit (T : LX K mg L) {fd : FuncData} (F : Fun K "__init__" "Routes.__init__" st_Routes_init L.i_Routes fd) : FnOk P w K mg base CX0 8 L.i_Routes fd ["self", "common", "services", "pattern", "step"] (spRtInit L.c_Routes) := by
  have G_checkbreakers := ok_checkbreakers (P := P) (w := w) (base := base) T
  have G_checkservices := ok_checkservices (P := P) (w := w) (base := base) T
  have G_checkpattern := ok_checkpattern (P := P) (w := w) (base := base) T
  have G_checkstep := ok_checkstep (P := P) (w := w) (base := base) T
  have nd := sc_Routesinit.nd
  refine F.ok sc_Routesinit (fun vs H Q E h => ?_) (fun cdv A outer S H vs Q E hr h => ?_)
  · obtain ⟨p, lc, ls, lp, st, xc, xs, fr, svs, pat, dx, rfl, _⟩ := h
    rfl
  · obtain ⟨p, lc, ls, lp, st, xc, xs, fr, svs, pat, dx, rfl, hp, hlc, hc, hls, hs, hlp, W, k⟩ := h
    refine ⟨_, (pss_cons (ps_expr (pe_c G_checkbreakers (hr.mono (by decide)) rfl (pa_cons (pv 1) (pa_cons pe_str pa_nil))))
       (pss_cons (ps_expr (pe_c G_checkservices (hr.mono (by decide)) rfl (pa_cons (pv 2) pa_nil)))
       (pss_cons (ps_expr (pe_c G_checkpattern (hr.mono (by decide)) rfl (pa_cons (pv 3) (pa_cons (pe_callB call_len_seq (by rfl) T.b_len PySem.boot_len (pa_cons (pv 2) pa_nil)) pa_nil))))
       (pss_cons (ps_expr (pe_c G_checkstep (hr.mono (by decide)) rfl (pa_cons (pv 4) pa_nil)))
       (pss_cons (ps_fld (pv 0) (pe_callTy call_tuple_of (by rfl) T.b_tuple (by decide +kernel) (pa_cons (pv 1) pa_nil)) rfl)
       (pss_cons (ps_fld (pv 0) (pe_callTy call_tuple_of (by rfl) T.b_tuple (by decide +kernel) (pa_cons (pe_lc (own := [("breakers", 5), ("outages", 6)]) (g := gTup K 2 (gCons (gName 5) (gCons (gName 6) (gNil)))) (tt := tYes) rfl nd (pi_list (pv 2)) (blkOk_by (own := [("breakers", 5), ("outages", 6)]) (N := N_Routesinit) (sc := defScope st_Routes_init) (by decide +kernel)) (fun _ _ _ _ _ => pg_tup rfl (pgs_cons (pg_name (i := 5) nd rfl (Or.inl rfl)) (pgs_cons (pg_name (i := 6) nd rfl (Or.inl rfl)) pgs_nil))) (fun _ _ _ _ _ => pts_nil) (fun _ _ _ _ _ => (pe_tup (pa_cons (pe_callTy (call_tupK (K := K) rfl) (by rfl) T.b_tuple (by decide +kernel) (pa_cons (pv 5) pa_nil)) (pa_cons (pe_callTy (call_tupK (K := K) rfl) (by rfl) T.b_tuple (by decide +kernel) (pa_cons (pv 6) pa_nil)) pa_nil))))) pa_nil)) rfl)
       (pss_cons (ps_fld (pv 0) (pe_callTy call_tuple_of (by rfl) T.b_tuple (by decide +kernel) (pa_cons (pv 3) pa_nil)) rfl)
       (pss_one (ps_fld (pv 0) (pv 4) rfl))))))))), ?_⟩
    have xl := paired_len hs
    refine ⟨_, rfl, lc, xc, fr, _, rfl, hlc, hc, W.okC, W.lnC, fun H1 s1 => ?_⟩
    refine ⟨_, rfl, ls, xs, svs, rfl, s1 _ _ hls, L2.Paired.mapP hs (fun _ _ z => z.same s1), W.okS, W.s0, W.s1, fun H2 s2 => ?_⟩
    have s12 := s1.trans s2
    refine ⟨_, rfl, _, rfl, ls, _, rfl, .inl (SqL.of (s12 _ _ hls)), lp, pat, xs.length, rfl, s12 _ _ hlp, W.p0, W.p1, fun n hn => by rw [xl]; exact W.pb n hn, fun H3 s3 => ?_⟩
    have s13 := s12.trans s3
    refine ⟨_, rfl, _, rfl, W.st0, W.st1, ?_⟩
    have hp3 := s13 _ _ hp
    -- self.common
    refine ⟨_, rfl, lc, xc, rfl, .inl ⟨SqL.of (s13 _ _ hlc), fun aC hC => ?_⟩⟩
    have npC : p ≠ aC := ne_of_none hp3 hC
    have sC := Same.upd (o := .tup xc) hC
    have z1 := putF_len "common" (.ref aC) [] (Nat.le_refl 0)
    refine ⟨_, rfl, p, L.c_Routes, dx, [], rfl, sC _ _ hp3, T.cf_Routes.cl, T.nf_Routes_common, (by show 0 < 1000; decide), ?_⟩
    obtain ⟨H4, hH4⟩ : ∃ H4 : Hp, H4 = upd (upd H3 aC (.tup xc)) p (.ins L.c_Routes dx (putF "common" (.ref aC) [])) := ⟨_, rfl⟩
    rw [← hH4]
    have k4 : Kp p H3 H4 := by rw [hH4]; exact (Kp.of sC).trans Kp.upd
    have hp4 : H4 p = some (.ins L.c_Routes dx (putF "common" (.ref aC) [])) := by rw [hH4]; exact upd_same
    have hC4 : H4 aC = some (.tup xc) := by rw [hH4, upd_ne npC.symm]; exact upd_same
    have kH4 : Kp p H H4 := (Kp.of s13).trans k4
    have n4 : NI H H4 := fun b o e n => kH4 _ _ (fun z => by rw [z, hp] at e; cases e; exact n _ _ _ rfl) e
    have hls4 := n4 _ _ hls fun _ _ _ z => nomatch z
    have hlp4 := n4 _ _ hlp fun _ _ _ z => nomatch z
    have hs4 : Paired (SlAt H4) xs svs := L2.Paired.mapP hs fun _ _ z => z.ni n4
    -- self.services
    refine ⟨_, rfl, ls, rfl, ⟨_, SqL.of hls4⟩, fun D hD => ?_⟩
    refine lc_list (K := K) (a := ls) (xs := xs) (fun j Hx => ∃ ys, Hx D = some (.lst ys) ∧ Paired (SvAt Hx) ys (svs.take j) ∧ ys.length = j ∧ Same H4 Hx) ⟨[], upd_same, .nil, rfl, Same.upd hD⟩ (fun j Hx _ ⟨_, _, _, _, s⟩ => SqL.of (s _ _ hls4)) ?_ ?_
    · rintro j x Hx hxj ⟨ys, hDx, py, yl, sx⟩
      obtain ⟨sv, hsv, hat⟩ := paired_get hs4 hxj
      obtain ⟨a, ab, ao, xb, xo, rfl, h1, h2, h3, h4, h5⟩ := hat.same sx
      have jl := (List.getElem?_eq_some_iff.mp hsv).1
      have l10 := W.s1
      refine ⟨a, _, rfl, SqT.of h1, rfl, _, _, rfl, _, _, rfl, rfl, rfl, tYes_of ⟨_, rfl, ab, xb, rfl, .inl ⟨SqL.of h2, fun t1 ht1 => ⟨_, rfl, ao, xo, rfl, .inl ⟨SqL.of ((Same.upd ht1) _ _ h4), fun t2 ht2 => ⟨(by show 2 ≤ sizeLine; decide), fun tq htq => ?_⟩⟩⟩⟩⟩⟩
      have e1 := Same.upd (o := .tup xb) ht1
      have e2 := Same.upd (o := .tup xo) ht2
      have e3 := Same.upd (o := .tup [.ref t1, .ref t2]) htq
      have e13 := (e1.trans e2).trans e3
      have g1 := e3 _ _ (e2 _ _ (upd_same (H := Hx) (a := t1) (o := .tup xb)))
      have g2 := e3 _ _ (upd_same (H := upd Hx t1 (.tup xb)) (a := t2) (o := .tup xo))
      have g3 : (upd (upd (upd Hx t1 (.tup xb)) t2 (.tup xo)) tq (.tup [.ref t1, .ref t2])) tq = some (.tup [.ref t1, .ref t2]) := upd_same
      have hDq := e13 _ _ hDx
      generalize upd (upd (upd Hx t1 (.tup xb)) t2 (.tup xo)) tq (.tup [.ref t1, .ref t2]) = Hq at e13 g1 g2 g3 hDq ⊢
      refine ⟨ys, hDq, small1 (by omega), ys ++ [.ref tq], upd_same, ?_, by rw [List.length_append, yl]; rfl, fun b u e => by rw [upd_ne (ne_of_none e hD)]; exact e13 _ _ (sx _ _ e)⟩
      have nD := NL.upd (o := .lst (ys ++ [.ref tq])) hDq
      rw [List.take_add_one, hsv]
      refine paired_app (L2.Paired.mapP py fun _ _ z => (z.nl (NL.of e13)).nl nD) (.cons ⟨tq, t1, t2, xb, xo, rfl, nD _ _ g3 (fun _ z => nomatch z), nD _ _ g1 (fun _ z => nomatch z), (h3.nl (NL.of e13)).nl nD, nD _ _ g2 (fun _ z => nomatch z), (h5.nl (NL.of e13)).nl nD⟩ .nil)
    rintro H5 ⟨ys, hD5, py, yl, s45⟩
    rw [xl, List.take_length] at py
    have hp5 := s45 _ _ hp4
    refine ⟨D, ys, rfl, .inl ⟨SqL.of hD5, fun aS hS => ?_⟩⟩
    have npS : p ≠ aS := ne_of_none hp5 hS
    have sS := Same.upd (o := .tup ys) hS
    have z2 := putF_len "services" (.ref aS) _ z1
    refine ⟨_, rfl, p, L.c_Routes, dx, _, rfl, sS _ _ hp5, T.cf_Routes.cl, T.nf_Routes_services, Nat.lt_of_le_of_lt z1 (by decide), ?_⟩
    obtain ⟨H6, hH6⟩ : ∃ H6 : Hp, H6 = upd (upd H5 aS (.tup ys)) p (.ins L.c_Routes dx (putF "services" (.ref aS) (putF "common" (.ref aC) []))) := ⟨_, rfl⟩
    rw [← hH6]
    have k6 : Kp p H5 H6 := by rw [hH6]; exact (Kp.of sS).trans Kp.upd
    have hp6 : H6 p = some (.ins L.c_Routes dx (putF "services" (.ref aS) (putF "common" (.ref aC) []))) := by rw [hH6]; exact upd_same
    have hS6 : H6 aS = some (.tup ys) := by rw [hH6, upd_ne npS.symm]; exact upd_same
    have n6 : NI H5 H6 := fun b o e n => k6 _ _ (fun z => by rw [z, hp5] at e; cases e; exact n _ _ _ rfl) e
    have hlp6 := n6 _ _ (s45 _ _ hlp4) fun _ _ _ z => nomatch z
    -- self.pattern
    refine ⟨_, rfl, lp, _, rfl, .inl ⟨SqL.of hlp6, fun aP hP => ?_⟩⟩
    have npP : p ≠ aP := ne_of_none hp6 hP
    have sP := Same.upd (o := .tup (pat.map pnV)) hP
    have z3 := putF_len "pattern" (.ref aP) _ z2
    refine ⟨_, rfl, p, L.c_Routes, dx, _, rfl, sP _ _ hp6, T.cf_Routes.cl, T.nf_Routes_pattern, Nat.lt_of_le_of_lt z2 (by decide), ?_⟩
    -- self.step
    refine ⟨_, rfl, _, rfl, p, L.c_Routes, dx, _, rfl, upd_same, T.cf_Routes.cl, T.nf_Routes_step, Nat.lt_of_le_of_lt z3 (by decide), ?_⟩
    obtain ⟨H8, hH8⟩ : ∃ H8 : Hp, H8 = upd (upd (upd H6 aP (.tup (pat.map pnV))) p (.ins L.c_Routes dx (putF "pattern" (.ref aP) (putF "services" (.ref aS) (putF "common" (.ref aC) []))))) p (.ins L.c_Routes dx (putF "step" (.int st) (putF "pattern" (.ref aP) (putF "services" (.ref aS) (putF "common" (.ref aC) []))))) := ⟨_, rfl⟩
    rw [← hH8]
    have k8 : Kp p H6 H8 := by rw [hH8]; exact ((Kp.of sP).trans Kp.upd).trans Kp.upd
    have hp8 : H8 p = some (.ins L.c_Routes dx (rtF aC aS aP st)) := by rw [hH8, upd_same]; rfl
    have n8 : NI H6 H8 := fun b o e n => k8 _ _ (fun z => by rw [z, hp6] at e; cases e; exact n _ _ _ rfl) e
    have hP8 : H8 aP = some (.tup (pat.map pnV)) := by rw [hH8, upd_ne npP.symm, upd_ne npP.symm]; exact upd_same
    have n58 := n6.trans n8
    have n48 := (NI.same s45).trans n58
    refine k H8 ⟨aC, aS, aP, xc, ys, ⟨⟨dx, hp8⟩, n48 _ _ hC4 (fun _ _ _ z => nomatch z), (hc.ni' n4).ni' n48, n8 _ _ hS6 (fun _ _ _ z => nomatch z), L2.Paired.mapP py (fun _ _ z => z.ni n58), hP8, W.okC, W.lnC, W.okS, W.s0, W.s1, W.p0, W.p1, W.pb, W.st0, W.st1⟩⟩ ?_
    exact ((kH4.trans (Kp.of s45)).trans k6).trans k8
end
/-! ### rows played -/
theorem Met.p_m1 {X : Cx} {C : Addr} {k : Nat} {f : Addr} {ps : List Str} {sp : Sp} {m : Str} {o e : Expr} {es : List Expr} {ta : TE} {t : TA} {apos pos : Pos} {pl : Sem Bool} (c : Met X.prog X.w X.K X.mg X.base C m k f ps sp) (cl : Cls X.K C) (hr : Room k X.A) (he : PE X o ta) (ha : PA X (e :: es) t)
    (hst : starEach (e :: es) X.env = (false, eval e X.env) :: starEach es X.env := by rfl) (hpl : (backTo pos (starEach es X.env)).any (·.1) = false := by rfl)
    (ht : eval (.Call (.Attribute o m apos) (e :: es) [] pos) X.env = (do let ov ← eval o X.env; standAt apos.atName; let (f, first) ← holding [ov] (getMethod ov m pl); callWith pos f first (backTo pos (starEach (e :: es) X.env)) (backToKw pos (keywordEach [] X.env))) := by rfl) :
    PE X (.Call (.Attribute o m apos) (e :: es) [] pos) (tMeth C m sp [] E0 ta t) := by
  obtain ⟨fd, F, b⟩ := c.ex
  exact pe_meth he cl c.me F hr b .nil pass0 ha hst hpl ht
theorem TldAt.nl {K : PySem.W.Frag} {H H' : Hp} {x : V} {n k : Nat} {up : Bool} (h : TldAt K H x n k up) (s : NL H H') : TldAt K H' x n k up := by
  obtain ⟨a, e, hq⟩ := h
  refine ⟨a, e, ?_⟩
  rcases hq with hq | hq
  · rcases hq with hq | hq
    · exact SqT.of (s _ _ hq fun _ z => nomatch z)
    · exact .inl (.inr (by obtain ⟨u, hq⟩ := hq; exact ⟨u, s _ _ hq fun _ z => nomatch z⟩))
  · exact .inr hq
def wS (up : Bool) : Str := if up = true then "up" else "down"
def wV (up : Bool) : V := .str (wS up)
theorem wS_up : wS true = "up" := rfl
theorem wS_down : wS false = "down" := rfl
theorem up_ne : ¬ (("down" : Str) = "up") := by decide +kernel
/-- the states behind words, from so many requests on -/
def plS (ts : List Tri) (st ph : Int) : Nat → List StD → List Bool → List StD
  | _, ss, [] => ss
  | n, ss, w :: r => plS ts st ph (n + 1) (sntS ts ss (ph + (n : Int) * st) w) r
theorem plS_app (ts : List Tri) (st ph : Int) : ∀ (ws : List Bool) (n : Nat) (ss : List StD) (w : Bool), plS ts st ph n ss (ws ++ [w]) = sntS ts (plS ts st ph n ss ws) (ph + ((n + ws.length : Nat) : Int) * st) w
  | [], _, _, _ => rfl
  | v :: r, n, ss, w => by
    show plS ts st ph (n + 1) (sntS ts ss (ph + (n : Int) * st) v) (r ++ [w]) = _
    rw [plS_app ts st ph r]
    show _ = sntS ts (plS ts st ph (n + 1) (sntS ts ss (ph + (n : Int) * st) v) r) (ph + ((n + (r.length + 1) : Nat) : Int) * st) w
    rw [show n + 1 + r.length = n + (r.length + 1) by omega]
def plA (ts : List Tri) (st ph : Int) (ws : List Bool) : List StD := plS ts st ph 0 (List.replicate ts.length ("closed", 0)) ws
theorem plA_nil (ts : List Tri) (st ph : Int) : plA ts st ph [] = List.replicate ts.length (("closed", 0) : StD) := rfl
theorem plA_app (ts : List Tri) (st ph : Int) (ws : List Bool) (w : Bool) : plA ts st ph (ws ++ [w]) = sntS ts (plA ts st ph ws) (ph + (ws.length : Int) * st) w := by
  unfold plA
  rw [plS_app, Nat.zero_add]
theorem plS_ok (ts : List Tri) (st ph : Int) : ∀ (ws : List Bool) (n : Nat) (ss : List StD), ss.length = ts.length → (∀ s ∈ ss, okW s) → (plS ts st ph n ss ws).length = ts.length ∧ ∀ s ∈ plS ts st ph n ss ws, okW s
  | [], _, _, h1, h2 => ⟨h1, h2⟩
  | _ :: r, n, _, h1, h2 => plS_ok ts st ph r (n + 1) _ sntS_len (sntS_W h1 h2)
theorem plA_ok (ts : List Tri) (st ph : Int) (ws : List Bool) : (plA ts st ph ws).length = ts.length ∧ ∀ s ∈ plA ts st ph ws, okW s :=
  plS_ok ts st ph ws 0 _ List.length_replicate fun s hs => by rw [List.eq_of_mem_replicate hs]; exact .inl rfl
/-! ### requests through routes -/
def svOf (svs : List Svc) (w : Nat) : Svc := svs.getD w ([], [])
def rtW (pat : List Nat) (j : Nat) : Nat := pat.getD (j % pat.length) 0
abbrev RS := List StD × List (List StD)
section
variable (fr : List Tri) (svs : List Svc) (pat : List Nat) (st : Int)
def rtRow (j : Nat) : List Tri := fr ++ (svOf svs (rtW pat j)).1
def rtSt (s : RS) (j : Nat) : List StD := s.1 ++ s.2.getD (rtW pat j) []
def rtUp (j : Nat) : Bool := upB (svOf svs (rtW pat j)).2 ((j : Int) * st)
def rtNew (s : RS) (j : Nat) : List StD := sntS (rtRow fr svs pat j) (rtSt pat s j) ((j : Int) * st) (rtUp svs pat st j)
def rtS : Nat → RS
  | 0 => (List.replicate fr.length ("closed", 0), svs.map fun sv => List.replicate sv.1.length ("closed", 0))
  | n + 1 => ((rtNew fr svs pat st (rtS n) n).take fr.length, (rtS n).2.set (rtW pat n) ((rtNew fr svs pat st (rtS n) n).drop fr.length))
def rtK (j : Nat) : Nat := kOf (rtRow fr svs pat j) (rtSt pat (rtS fr svs pat st j) j) ((j : Int) * st)
def rtGood (j : Nat) : Bool := decide (rtK fr svs pat st j = (rtRow fr svs pat j).length) && rtUp svs pat st j
def rtOp (j : Nat) : List Nat := (List.range fr.length).filter fun k => decide ((rtS fr svs pat st (j + 1)).1[k]? = some (("open", (j : Int) * st) : StD))
end
theorem rtW_lt {pat : List Nat} {n : Nat} (p0 : 1 ≤ pat.length) (pb : ∀ k ∈ pat, k < n) (j : Nat) : pat[j % pat.length]? = some (rtW pat j) ∧ rtW pat j < n := by
  have l : j % pat.length < pat.length := Nat.mod_lt _ (by omega)
  have e : pat[j % pat.length]? = some pat[j % pat.length] := List.getElem?_eq_getElem l
  have e2 : rtW pat j = pat[j % pat.length] := by
    unfold rtW
    rw [List.getD_eq_getElem?_getD, e]
    rfl
  rw [e2]
  exact ⟨e, pb _ (List.getElem_mem _)⟩
theorem svOf_get {svs : List Svc} {w : Nat} (h : w < svs.length) : svs[w]? = some (svOf svs w) := by
  unfold svOf
  rw [List.getD_eq_getElem?_getD, List.getElem?_eq_getElem h]
  rfl
/-- the states are as many as the breakers -/
theorem rtS_ok {fr : List Tri} {svs : List Svc} {pat : List Nat} {st : Int} (p0 : 1 ≤ pat.length) (pb : ∀ k ∈ pat, k < svs.length) : ∀ n : Nat,
    (rtS fr svs pat st n).1.length = fr.length ∧ (∀ s ∈ (rtS fr svs pat st n).1, okW s) ∧ (rtS fr svs pat st n).2.length = svs.length ∧ ∀ (w : Nat) (o : List StD), (rtS fr svs pat st n).2[w]? = some o → o.length = (svOf svs w).1.length ∧ ∀ s ∈ o, okW s
  | 0 => by
    refine ⟨List.length_replicate, fun s hs => by rw [List.eq_of_mem_replicate hs]; exact .inl rfl, List.length_map .., fun w o e => ?_⟩
    have e' : (svs.map fun sv => List.replicate sv.1.length (("closed", 0) : StD))[w]? = some o := e
    rw [List.getElem?_map] at e'
    obtain ⟨sv, h1, h2⟩ := Option.map_eq_some_iff.mp e'
    rw [svOf_get (List.getElem?_eq_some_iff.mp h1).1] at h1
    cases h1
    rw [← h2]
    exact ⟨List.length_replicate, fun s hs => by rw [List.eq_of_mem_replicate hs]; exact .inl rfl⟩
  | n + 1 => by
    obtain ⟨h1, h2, h3, h4⟩ := rtS_ok (fr := fr) (st := st) p0 pb n
    obtain ⟨w1, w2⟩ := rtW_lt p0 pb n
    obtain ⟨o, ho⟩ : ∃ o, (rtS fr svs pat st n).2[rtW pat n]? = some o := ⟨_, List.getElem?_eq_getElem (by omega)⟩
    obtain ⟨o1, o2⟩ := h4 _ _ ho
    have eo : (rtS fr svs pat st n).2.getD (rtW pat n) [] = o := by rw [List.getD_eq_getElem?_getD, ho]; rfl
    have nl : (rtNew fr svs pat st (rtS fr svs pat st n) n).length = fr.length + (svOf svs (rtW pat n)).1.length := by
      unfold rtNew rtRow
      rw [sntS_len, List.length_append]
    have sl : (rtSt pat (rtS fr svs pat st n) n).length = (rtRow fr svs pat n).length := by
      unfold rtSt rtRow
      rw [List.length_append, List.length_append, h1, eo, o1]
    have nw : ∀ s ∈ rtNew fr svs pat st (rtS fr svs pat st n) n, okW s := sntS_W sl fun s hs => by
      rcases List.mem_append.mp hs with hs | hs
      · exact h2 s hs
      · rw [eo] at hs
        exact o2 s hs
    refine ⟨?_, fun s hs => nw s (List.mem_of_mem_take hs), ?_, fun w o' e => ?_⟩
    · show ((rtNew fr svs pat st (rtS fr svs pat st n) n).take fr.length).length = _
      rw [List.length_take]
      omega
    · show ((rtS fr svs pat st n).2.set _ _).length = _
      rw [List.length_set, h3]
    · have e : ((rtS fr svs pat st n).2.set (rtW pat n) ((rtNew fr svs pat st (rtS fr svs pat st n) n).drop fr.length))[w]? = some o' := e
      rw [List.getElem?_set] at e
      by_cases c : rtW pat n = w
      · rw [if_pos c] at e
        split at e
        · cases e
          rw [← c]
          exact ⟨by rw [List.length_drop]; omega, fun s hs => nw s (List.mem_of_mem_drop hs)⟩
        · cases e
      · rw [if_neg c] at e
        exact h4 w o' e
/-- what is found of a request -/
def FdAt (H : Hp) (x : V) (w : Nat) (g : Bool) (op : List Nat) : Prop := ∃ q lo, x = .ref q ∧ H q = some (.tup [.int (w : Int), .bl g, .ref lo]) ∧ H lo = some (.lst (op.map pnV))
theorem FdAt.same {H H' : Hp} (s : Same H H') {x : V} {w : Nat} {g : Bool} {op : List Nat} (h : FdAt H x w g op) : FdAt H' x w g op := by
  obtain ⟨q, lo, e, h1, h2⟩ := h
  exact ⟨q, lo, e, s _ _ h1, s _ _ h2⟩
def Fds (H : Hp) (xs : List V) (fr : List Tri) (svs : List Svc) (pat : List Nat) (st : Int) (n : Nat) : Prop := xs.length = n ∧ ∀ j x, xs[j]? = some x → FdAt H x (rtW pat j) (rtGood fr svs pat st j) (rtOp fr svs pat st j)
theorem Fds.same {H H' : Hp} (s : Same H H') {xs : List V} {fr : List Tri} {svs : List Svc} {pat : List Nat} {st : Int} {n : Nat} (h : Fds H xs fr svs pat st n) : Fds H' xs fr svs pat st n := ⟨h.1, fun j x e => (h.2 j x e).same s⟩
theorem shStD {s : StD} (h : okW s) : SeqAt.shaped (stD s) = true := tup_sh (by simp [PyData.canLayAll0, PyData.canLay0, sok_W h]) (by simp [PyData.depthAll, PyData.depth])
def spSentR (C : Addr) : Sp := fun vs H Q _ => ∃ p fr svs pat st, ∃ n : Nat, vs = [.ref p, .int (n : Int)] ∧ RtV C H p fr svs pat st ∧ n ≤ 10000 ∧ ∀ l xs H', H' l = some (.lst xs) → Fds H' xs fr svs pat st n → Same H H' → H l = none → Q (.ref l) H'
theorem catA_of {K : PySem.W.Frag} {H : Hp} {Q : VK} {a b : Addr} {xs ys : List V} (ha : SqT K H a xs) (hb : SqT K H b ys) (l : xs.length + ys.length ≤ sizeLine) (k : ∀ c H', Same H H' → SqT K H' c (xs ++ ys) → Q (.ref c) H') : rCatA K (.ref a) (.ref b) H Q := by
  refine ⟨a, b, xs, ys, rfl, rfl, ha, hb, l, fun e => ?_, fun _ e => ?_, fun _ _ p hp => k p _ (Same.upd hp) (SqT.of upd_same)⟩
  · subst e
    exact k b H (Same.refl H) hb
  · subst e
    refine k a H (Same.refl H) ?_
    rw [List.append_nil]
    exact ha
/-- lists of states at other places than two -/
def OwAt (H : Hp) (l1 l2 : Addr) (v : V) (o : List StD) : Prop := ∃ a zs, v = .ref a ∧ a ≠ l1 ∧ a ≠ l2 ∧ H a = some (.lst zs) ∧ Sts H zs o
theorem OwAt.ke {H H' : Hp} {l1 l2 : Addr} (k : ∀ b o, b ≠ l1 → b ≠ l2 → H b = some o → H' b = some o) (n1 : ∃ z, H l1 = some (.lst z)) (n2 : ∃ z, H l2 = some (.lst z)) {v : V} {o : List StD} (h : OwAt H l1 l2 v o) : OwAt H' l1 l2 v o := by
  obtain ⟨a, zs, e, a1, a2, h1, h2⟩ := h
  obtain ⟨z1, n1⟩ := n1
  obtain ⟨z2, n2⟩ := n2
  refine ⟨a, zs, e, a1, a2, k _ _ a1 a2 h1, L2.Paired.mapP h2 fun _ _ ⟨b, e, h⟩ => ⟨b, e, k _ _ (fun z => ?_) (fun z => ?_) h⟩⟩
  · rw [z, n1] at h; cases h
  · rw [z, n2] at h; cases h
theorem paired_take {α β : Type} {F : α → β → Prop} : ∀ {xs : List α} {ys : List β} (n : Nat), Paired F xs ys → Paired F (xs.take n) (ys.take n)
  | _, _, 0, _ => .nil
  | _, _, n + 1, .nil => .nil
  | _, _, n + 1, .cons r t => .cons r (paired_take n t)
theorem paired_setP {α β : Type} {F : α → β → Prop} : ∀ {xs : List α} {ys : List β} (i : Nat) {x : α} {y : β}, Paired F xs ys → F x y → Paired F (xs.set i x) (ys.set i y)
  | _, _, _, _, _, .nil, _ => .nil
  | _, _, 0, _, _, .cons _ t, h => .cons h t
  | _, _, i + 1, _, _, .cons r t, h => .cons r (paired_setP i t h)
section
variable {P : Program} {w : World} {K : PySem.W.Frag} {mg : Str → Option Value} {base : Heap} {L : LA}
abbrev N_sentrequests : List Str := ["routes", "count", "border", "common", "breakers", "outages", "own", "found", "number", "service", "time", "told", "states", "opened", "breaker", "state"]
theorem sc_sentrequests : FnScope N_sentrequests ["routes", "count"] (defScope st_sent_requests) := ⟨rfl, rfl, rfl, by decide +kernel, rfl, by decide +kernel, by decide +kernel⟩
theorem fn_sentrequests (T : LX K mg L) {fd : FuncData} (F : Fun K "sent_requests" "sent_requests" st_sent_requests L.f_sent_requests fd) : FnOk P w K mg base CX0 6 L.f_sent_requests fd ["routes", "count"] (spSentR L.c_Routes) := by
  have G_closedstates := ok_closedstates (P := P) (w := w) (base := base) T
  have G_iswithin := ok_iswithin (P := P) (w := w) (base := base) T
  obtain ⟨tk_MOST_REQUESTS, c_MOST_REQUESTS⟩ := T.n_MOST_REQUESTS
  have G_sent := ok_sent (P := P) (w := w) (base := base) T
  have G_isup := ok_isup (P := P) (w := w) (base := base) T
  obtain ⟨a_SERVED, c_SERVED, t_SERVED⟩ := T.n_SERVED
  have nd := sc_sentrequests.nd
  refine F.ok sc_sentrequests (fun vs H Q E h => ?_) (fun cdv A outer S H vs Q E hr h => ?_)
  · obtain ⟨p, fr, svs, pat, st, n, rfl, _⟩ := h
    rfl
  · obtain ⟨p, fr, svs, pat, st, n, rfl, RV, hn, k⟩ := h
    refine ⟨_, (pss_cons (ps_if (pt_not (pt_val (pe_c G_iswithin (hr.mono (by decide)) rfl (pa_cons (pv 1) (pa_cons pe_int (pa_cons (pe_gI c_MOST_REQUESTS) pa_nil)))))) (pss_one (ps_never)) pss_nil)
       (pss_cons (ps_set (i := 2) nd rfl (Or.inl rfl) (pe_callB call_len_seq (by rfl) T.b_len PySem.boot_len (pa_cons (pe_fld (pv 0) rfl) pa_nil)))
       (pss_cons (ps_set (i := 3) nd rfl (Or.inl rfl) (pe_c G_closedstates (hr.mono (by decide)) rfl (pa_cons (pv 2) pa_nil)))
       (pss_cons (ps_setLc (i := 6) (own := [("breakers", 4), ("outages", 5)]) (g := gTup K 2 (gCons (gName 4) (gCons (gName 5) (gNil)))) (tt := tYes) rfl nd rfl rfl (sw_true rfl rfl rfl (by decide +kernel)) (pi_tup (pe_fld (pv 0) rfl)) (blkOk_by (own := [("breakers", 4), ("outages", 5)]) (N := N_sentrequests) (sc := defScope st_sent_requests) (by decide +kernel)) (fun _ _ _ _ _ => pg_tup rfl (pgs_cons (pg_name (i := 4) nd rfl (Or.inl rfl)) (pgs_cons (pg_name (i := 5) nd rfl (Or.inl rfl)) pgs_nil))) (fun _ _ _ _ _ => pts_nil) (fun _ _ _ _ _ => (pe_c G_closedstates (hr.mono (by decide)) rfl (pa_cons (pe_callB (call_lenK (K := K) rfl) (by rfl) T.b_len PySem.boot_len (pa_cons (pv 4) pa_nil)) pa_nil))))
       (pss_cons (ps_set (i := 7) nd rfl (Or.inl rfl) (pe_lst pa_nil))
       (pss_cons (ps_for PassesOwn.never rfl (pi_range1 rfl T.b_range (pa_cons (pv 1) pa_nil)) (pg_name (i := 8) nd rfl (Or.inl rfl)) (pss_cons (ps_set (i := 9) nd rfl (Or.inl rfl) (pe_ix (r := rIxT K) ix_tup (pe_fld (pv 0) rfl) (pe_op op_mod (pv 8) (pe_callB call_len_seq (by rfl) T.b_len PySem.boot_len (pa_cons (pe_fld (pv 0) rfl) pa_nil))) (fun _ _ => rfl)))
       (pss_cons (ps_asg (pe_ix (r := rIxT K) ix_tup (pe_fld (pv 0) rfl) (pv 9) (fun _ _ => rfl)) (pg_tup rfl (pgs_cons (pg_name (i := 4) nd rfl (Or.inl rfl)) (pgs_cons (pg_name (i := 5) nd rfl (Or.inl rfl)) pgs_nil))))
       (pss_cons (ps_set (i := 10) nd rfl (Or.inr rfl) (pe_op op_mulW (pv 8) (pe_fld (pv 0) rfl)))
       (pss_cons (ps_asg (pe_c G_sent (hr.mono (by decide)) rfl (pa_cons (pe_op (r := rCatA K) op_catA (pe_fld (pv 0) rfl) (pv 4)) (pa_cons (pe_op op_cat (pv 3) (pe_ix (r := rIxL K) ix_list (pv 6) (pv 9) (fun _ _ => rfl))) (pa_cons (pv 10) (pa_cons (pe_c G_isup (hr.mono (by decide)) rfl (pa_cons (pv 5) (pa_cons (pv 10) pa_nil))) pa_nil))))) (pg_tup rfl (pgs_cons (pg_name (i := 11) nd rfl (Or.inl rfl)) (pgs_cons (pg_name (i := 12) nd rfl (Or.inl rfl)) pgs_nil))))
       (pss_cons (ps_asg (pe_tup (pa_cons (pe_slice (r := rSlL K) sl_list (pv 12) po_none (po_some (pv 2))) (pa_cons (pe_slice (r := rSlL K) sl_list (pv 12) (po_some (pv 2)) po_none) pa_nil))) (pg_tup rfl (pgs_cons (pg_name (i := 3) nd rfl (Or.inl rfl)) (pgs_cons (pg_sub (pv 6) (pv 9) set_list) pgs_nil))))
       (pss_cons (ps_setLc (i := 13) (own := [("breaker", 14), ("state", 15)]) (g := gTup K 2 (gCons (gName 14) (gCons (gName 15) (gNil)))) rfl nd rfl rfl (sw_true rfl rfl rfl (by decide +kernel)) (pi_enum (by rfl) T.b_enumerate (pa_cons (pv 3) pa_nil)) (blkOk_by (own := [("breaker", 14), ("state", 15)]) (N := N_sentrequests) (sc := defScope st_sent_requests) (by decide +kernel)) (fun _ _ _ _ _ => pg_tup rfl (pgs_cons (pg_name (i := 14) nd rfl (Or.inl rfl)) (pgs_cons (pg_name (i := 15) nd rfl (Or.inl rfl)) pgs_nil))) (fun _ _ _ _ _ => pts_one (pt_cmpR (op_eqDK (K := K) rfl hr.units) (pv 15) (pe_tup (pa_cons pe_str (pa_cons (pv 10) pa_nil))) (nomark _))) (fun _ _ _ _ _ => (pv 14)))
       (pss_one (ps_expr (pe_bm PySem.F.plainAttrs_list PySem.F.slot_list_append PySem.F.type_list_append mt_append (pv 7) (pa_cons (pe_tup (pa_cons (pv 9) (pa_cons (pe_cmpR (op_eqD hr.units) (pv 11) (pe_glob (by rfl) c_SERVED rr) (nomark _)) (pa_cons (pv 13) pa_nil)))) pa_nil)))))))))))
       (pss_one (ps_ret (pv 7))))))))), ?_⟩
    obtain ⟨aC, aS, aP, xC, xS, R⟩ := RV
    obtain ⟨dx, hp⟩ := R.ob
    have xl := R.bC.len
    have l12 := R.lnC
    have sl := paired_len R.sv
    have sl10 := R.s1
    refine ⟨_, rfl, _, _, _, _, rfl, .int _, _, rfl, ?_⟩
    show if (!(isI (V.int (n : Int)) && (decide ((0 : Int) ≤ (n : Int)) && decide ((n : Int) ≤ 10000)))) = true then _ else _
    rw [k6_pos (show (0 : Int) ≤ (n : Int) by omega) (show (n : Int) ≤ 10000 by omega)]
    refine iteF ⟨_, rfl, p, L.c_Routes, dx, _, _, rfl, hp, T.cf_Routes.cl, T.nf_Routes_common, rtF_c _ _ _ _, aC, xC, rfl, .inr (SqT.of R.hC), ?_⟩
    refine ⟨_, rfl, xC.length, rfl, by omega, fun lc yc H1 hlc hyc s1 n1 => ?_⟩
    have R1 := R.nl (NL.of s1)
    refine ⟨_, rfl, p, L.c_Routes, dx, _, _, rfl, s1 _ _ hp, T.cf_Routes.cl, T.nf_Routes_services, rtF_s _ _ _ _, aS, rfl, ⟨_, SqT.of R1.hS⟩, fun lo hlo => ?_⟩
    refine lc_tup (K := K) (a := aS) (xs := xS) (fun j Hx => ∃ ys, Hx lo = some (.lst ys) ∧ Paired (fun v o => ∃ a zs, v = .ref a ∧ a ≠ lo ∧ Hx a = some (.lst zs) ∧ Sts Hx zs o) ys ((svs.take j).map fun sv => List.replicate sv.1.length (("closed", 0) : StD)) ∧ ys.length = j ∧ Same H1 Hx) ⟨[], upd_same, .nil, rfl, Same.upd hlo⟩ (fun j Hx _ ⟨_, _, _, _, s⟩ => SqT.of (s _ _ R1.hS)) ?_ ?_
    · rintro j x Hx hxj ⟨ys, hDx, py, yl, sx⟩
      obtain ⟨sv, hsv, hat⟩ := paired_get R1.sv hxj
      obtain ⟨a, ab, ao, xb, xo, rfl, h1, h2, h3, h4, h5⟩ := hat.nl (NL.of sx)
      have jl := (List.getElem?_eq_some_iff.mp hsv).1
      have bl := h3.len
      have ok := (R.okS sv (List.mem_of_getElem? hsv)).2.1
      refine ⟨a, _, rfl, SqT.of h1, rfl, _, _, rfl, _, _, rfl, rfl, rfl, tYes_of ⟨_, rfl, ab, xb, rfl, .inr (SqT.of h2), xb.length, rfl, by omega, fun l1 ys1 H2 hl1 hy1 s2 n2 => ?_⟩⟩
      have hD2 := s2 _ _ hDx
      have nlo : l1 ≠ lo := (ne_of_none hDx n2).symm
      refine ⟨ys, hD2, small1 (by omega), ys ++ [.ref l1], upd_same, ?_, by rw [List.length_append, yl]; rfl, fun b u e => by rw [upd_ne (ne_of_none e hlo)]; exact s2 _ _ (sx _ _ e)⟩
      have kD : Kp lo H2 (upd H2 lo (.lst (ys ++ [.ref l1]))) := Kp.upd
      have nD := Kp.nl kD hD2
      rw [List.take_add_one, hsv, List.map_append]
      refine paired_app (L2.Paired.mapP py fun v o ⟨a, zs, e, na, h6, h7⟩ => ⟨a, zs, e, na, kD _ _ na (s2 _ _ h6), (h7.same s2).nl nD⟩) (.cons ⟨l1, ys1, rfl, nlo, kD _ _ nlo hl1, ?_⟩ .nil)
      rw [bl] at hy1
      exact hy1.nl nD
    rintro H2 ⟨yo, hlo2, py, yl, s12⟩
    rw [sl, List.take_length] at py
    refine ⟨(by show 0 ≤ sizeLine; decide), fun lf hlf => ?_⟩
    have sF := Same.upd (o := .lst []) hlf
    have nof : lo ≠ lf := ne_of_none hlo2 hlf
    have n1o : H1 lo = none := hlo
    have nHo : H lo = none := none_of s1 hlo
    have n2f : H2 lf = none := hlf
    have nHf : H lf = none := none_of s1 (none_of s12 hlf)
    have s0F : Same H (upd H2 lf (.lst [])) := (s1.trans s12).trans sF
    have hlcF := sF _ _ (s12 _ _ hlc)
    have nco : lc ≠ lo := ne_of_none hlc hlo
    have ncf : lc ≠ lf := ne_of_none (s12 _ _ hlc) hlf
    have hloF := sF _ _ hlo2
    have hlfF : (upd H2 lf (.lst [])) lf = some (.lst []) := upd_same
    have own0 : Paired (OwAt (upd H2 lf (.lst [])) lo lf) yo (rtS fr svs pat st 0).2 := L2.Paired.mapP py fun v o ⟨a, zs, e, na, h6, h7⟩ => ⟨a, zs, e, na, ne_of_none h6 hlf, sF _ _ h6, h7.same sF⟩
    have hyF := (hyc.same s12).same sF
    rw [xl] at hyF
    generalize upd H2 lf (.lst []) = HF at s0F hlcF hloF hlfF own0 hyF ⊢
    refine ⟨_, rfl, _, rfl, by omega, by omega, ?_⟩
    refine for_range (lo := 0) (n := ((n : Int)).toNat) (fun i σ Hc => ∃ (v4 v5 v8 v9 v10 v11 v12 v13 v14 v15 : Option V) (cc : Addr) (ys yo rows : List V), σ = [some (.ref p), some (.int (n : Int)), some (.int (xC.length : Nat)), some (.ref cc), v4, v5, some (.ref lo), some (.ref lf), v8, v9, v10, v11, v12, v13, v14, v15] ∧
        Hc cc = some (.lst ys) ∧ cc ≠ lo ∧ cc ≠ lf ∧ Sts Hc ys (rtS fr svs pat st i).1 ∧ Hc lo = some (.lst yo) ∧ Paired (OwAt Hc lo lf) yo (rtS fr svs pat st i).2 ∧ Hc lf = some (.lst rows) ∧ rows.length = i ∧ (∀ (j : Nat) (x : V), rows[j]? = some x → ∃ q l, x = .ref q ∧ l ≠ lo ∧ l ≠ lf ∧ Hc q = some (.tup [.int (rtW pat j : Int), .bl (rtGood fr svs pat st j), .ref l]) ∧ Hc l = some (.lst ((rtOp fr svs pat st j).map pnV))) ∧ Same H Hc)
      ⟨_, _, _, _, _, _, _, _, _, _, lc, yc, yo, [], rfl, hlcF, nco, ncf, hyF, hloF, own0, hlfF, rfl, fun (j : Nat) (x : V) e => (by cases e), s0F⟩ ?_ ?_
    · rintro i σ Hc hi ⟨v4, v5, v8, v9, v10, v11, v12, v13, v14, v15, cc, ys, yo, rows, rfl, hcc, cco, ccf, hys, hlo', own, hlf', rl, hrows, sc⟩
      have in' : i < n := by omega
      have Rc := R.nl (NL.of sc)
      have hpc := sc _ _ hp
      have e0 : (0 : Int) + (i : Int) = i := by omega
      rw [e0]
      obtain ⟨w1, w2⟩ := rtW_lt R.p0 R.pb i
      have pl0 := R.p0
      have emod : ((i : Int) % ((pat.map pnV).length : Nat)) = ((i % pat.length : Nat) : Int) := by rw [List.length_map]; rfl
      have hatP : atI (pat.map pnV) ((i : Int) % ((pat.map pnV).length : Nat)) = some (pnV (rtW pat i)) := by
        rw [emod]
        exact atI_nat (by rw [List.getElem?_map, w1]; rfl)
      refine ⟨_, rfl, p, L.c_Routes, dx, _, _, rfl, hpc, T.cf_Routes.cl, T.nf_Routes_pattern, rtF_p _ _ _ _, _, rfl, _, rfl, p, L.c_Routes, dx, _, _, rfl, hpc, T.cf_Routes.cl, T.nf_Routes_pattern, rtF_p _ _ _ _, aP, _, rfl, .inr (SqT.of Rc.hP), _, _, rfl, rfl, by rw [List.length_map]; omega, aP, _, _, _, rfl, rfl, SqT.of Rc.hP, hatP, ?_⟩
      obtain ⟨x, hxS, a, ab, ao, xb, xo, rfl, h1, h2, h3, h4, h5⟩ := paired_get2 Rc.sv (svOf_get w2)
      obtain ⟨sv1, sv2, sv3, sv4⟩ := R.okS _ (List.mem_of_getElem? (svOf_get w2))
      obtain ⟨wi, hwi⟩ : ∃ wi, wi = rtW pat i := ⟨_, rfl⟩
      rw [← hwi] at w1 w2 hxS h3 h5 sv1 sv2 sv3 sv4 hatP
      refine ⟨_, rfl, p, L.c_Routes, dx, _, _, rfl, hpc, T.cf_Routes.cl, T.nf_Routes_services, rtF_s _ _ _ _, _, rfl, aS, xS, _, .ref a, rfl, rfl, SqT.of Rc.hS, by rw [← hwi]; exact atI_nat hxS, a, _, rfl, SqT.of h1, rfl, _, _, rfl, _, _, rfl, rfl, ?_⟩
      have st0 := R.st0
      have st1 := R.st1
      refine ⟨_, rfl, _, rfl, p, L.c_Routes, dx, _, _, rfl, hpc, T.cf_Routes.cl, T.nf_Routes_step, rtF_st _ _ _ _, _, _, rfl, rfl, wide_mul (a := 20) (b := 120) (Nat.lt_of_le_of_lt (show (i : Int).natAbs ≤ 10000 by omega) (by decide)) (Nat.lt_of_le_of_lt (show st.natAbs ≤ 1000000000000000000000000000000 by omega) (by decide +kernel)) (by decide) (by decide) (by decide), ?_⟩
      obtain ⟨t, ht⟩ : ∃ t, t = (i : Int) * st := ⟨_, rfl⟩
      show gName 10 (.int ((i : Int) * st)) _ _ _
      rw [← ht]
      obtain ⟨q1, q2, q3, q4⟩ := rtS_ok (fr := fr) (st := st) R.p0 R.pb i
      obtain ⟨ow, how⟩ : ∃ ow, (rtS fr svs pat st i).2[wi]? = some ow := ⟨_, List.getElem?_eq_getElem (by omega)⟩
      obtain ⟨ol1, ol2⟩ := q4 _ _ how
      obtain ⟨xo', hxo, ai, zs, rfl, ai1, ai2, hai, hzs⟩ := paired_get2 own how
      have bl := h3.len
      have yl := paired_len hys
      have zl := paired_len hzs
      refine ⟨_, rfl, p, L.c_Routes, dx, _, _, rfl, hpc, T.cf_Routes.cl, T.nf_Routes_common, rtF_c _ _ _ _, _, rfl, catA_of (SqT.of Rc.hC) (SqT.of h2) (by show xC.length + xb.length ≤ sizeLine; exact Nat.le_trans (show _ ≤ 100 by omega) (by decide)) fun c H1 s1 hc => ?_⟩
      refine ⟨_, rfl, _, rfl, _, rfl, lo, yo, _, .ref ai, rfl, rfl, SqL.of (s1 _ _ hlo'), by rw [← hwi]; exact atI_nat hxo, cc, ai, ys, zs, rfl, rfl, s1 _ _ hcc, s1 _ _ hai, Nat.le_trans (show _ ≤ 100 by omega) (by decide), fun c2 hc2 => ?_⟩
      have s2 := s1.trans (Same.upd (o := .lst (ys ++ zs)) hc2)
      refine ⟨_, rfl, _, rfl, _, rfl, ao, xo, (svOf svs wi).2, t, rfl, s2 _ _ h4, h5.same s2, ?_⟩
      refine ⟨c, c2, xC ++ xb, ys ++ zs, fr ++ (svOf svs wi).1, (rtS fr svs pat st i).1 ++ ow, t, upB (svOf svs wi).2 t, rfl, hc.ext fun b o e => (Same.upd hc2) _ _ e, Brs.app (Rc.bC.nl (NL.of s2)) (h3.nl (NL.of s2)), upd_same, paired_app (hys.same s2) (hzs.same s2), by rw [List.length_append, List.length_append]; omega, by rw [List.length_append]; omega, fun s hs => (List.mem_append.mp hs).elim (fun h => q2 s h) fun h => ol2 s h, fun q x l2 ys2 H3 hq tx hl2 hs2 s3 nq nl2 => ?_⟩
      have s13 := s2.trans s3
      refine ⟨q, _, rfl, SqT.of hq, rfl, _, _, rfl, _, _, rfl, rfl, ?_⟩
      have yl2 := paired_len hs2
      rw [sntS_len, List.length_append] at yl2
      refine ⟨_, rfl, _, rfl, _, rfl, l2, ys2, rfl, SqL.of hl2, fun m1 hm1 => ?_⟩
      refine ⟨_, rfl, _, rfl, _, rfl, l2, ys2, rfl, SqL.of ((Same.upd hm1) _ _ hl2), fun m2 hm2 => ⟨(by show 2 ≤ sizeLine; decide), fun tp htp => ⟨tp, _, rfl, SqT.of upd_same, rfl, _, _, rfl, ?_⟩⟩⟩
      rw [cut_take0 ys2 xC.length (by omega)] at hm2 htp ⊢
      rw [cut_drop0 ys2 xC.length (by omega)] at htp ⊢
      have f1 := Same.upd (o := .lst (ys2.take xC.length)) hm1
      have f2 := Same.upd (o := .lst (ys2.drop xC.length)) hm2
      have f3 := Same.upd (o := .tup [.ref m1, .ref m2]) htp
      have f13 := (f1.trans f2).trans f3
      have gm1 := f3 _ _ (f2 _ _ (upd_same (H := H3) (a := m1) (o := .lst (ys2.take xC.length))))
      have gm2 := f3 _ _ (upd_same (H := upd H3 m1 (.lst (ys2.take xC.length))) (a := m2) (o := .lst (ys2.drop xC.length)))
      have sc3 := s13.trans f13
      have m1lo : m1 ≠ lo := (ne_of_none (s13 _ _ hlo') hm1).symm
      have m1lf : m1 ≠ lf := (ne_of_none (s13 _ _ hlf') hm1).symm
      have m2lo : m2 ≠ lo := (ne_of_none (f1 _ _ (s13 _ _ hlo')) hm2).symm
      have m2lf : m2 ≠ lf := (ne_of_none (f1 _ _ (s13 _ _ hlf')) hm2).symm
      have hsM := hs2.same f13
      have txM := tx.same f13
      generalize upd (upd (upd H3 m1 (.lst (ys2.take xC.length))) m2 (.lst (ys2.drop xC.length))) tp (.tup [.ref m1, .ref m2]) = HM at gm1 gm2 sc3 hsM txM ⊢
      have hloM := sc3 _ _ hlo'
      have yol := paired_len own
      refine ⟨_, _, rfl, _, rfl, _, rfl, lo, yo, _, wi, rfl, by rw [hwi]; rfl, hloM, ixN_of (by omega), ?_⟩
      have kM : Kp lo HM (upd HM lo (.lst (yo.set wi (.ref m2)))) := Kp.upd
      have nM := Kp.nl kM hloM
      have hloN : (upd HM lo (.lst (yo.set wi (.ref m2)))) lo = some (.lst (yo.set wi (.ref m2))) := upd_same
      have gm1N := kM _ _ m1lo gm1
      have gm2N := kM _ _ m2lo gm2
      have hlfN := kM _ _ nof.symm (sc3 _ _ hlf')
      have hsN := hsM.nl nM
      have txN := txM.nl nM
      have kcN : ∀ b o, b ≠ lo → b ≠ lf → Hc b = some o → (upd HM lo (.lst (yo.set wi (.ref m2)))) b = some o := fun b o n1 _ e => kM _ _ n1 (sc3 _ _ e)
      have sHN : Same H (upd HM lo (.lst (yo.set wi (.ref m2)))) := fun b o e => kM _ _ (ne_of_none e nHo) (sc3 _ _ (sc _ _ e))
      have frN : ∀ b, (upd HM lo (.lst (yo.set wi (.ref m2)))) b = none → Hc b = none := fun b e => by
        cases q : Hc b with
        | none => rfl
        | some o =>
          by_cases z : b = lo
          · rw [z, upd_same] at e; cases e
          · rw [kM _ _ z (sc3 _ _ q)] at e; cases e
      generalize upd HM lo (.lst (yo.set wi (.ref m2))) = HN at hloN gm1N gm2N hlfN hsN txN kcN sHN frN ⊢
      have eo : (rtS fr svs pat st i).2.getD wi [] = ow := by rw [List.getD_eq_getElem?_getD, how]; rfl
      have eN : rtNew fr svs pat st (rtS fr svs pat st i) i = sntS (fr ++ (svOf svs wi).1) ((rtS fr svs pat st i).1 ++ ow) t (upB (svOf svs wi).2 t) := by
        unfold rtNew rtRow rtSt rtUp
        rw [← hwi, ← ht, eo]
      have eS1 : (rtS fr svs pat st (i + 1)).1 = (sntS (fr ++ (svOf svs wi).1) ((rtS fr svs pat st i).1 ++ ow) t (upB (svOf svs wi).2 t)).take fr.length := by
        show (rtNew fr svs pat st (rtS fr svs pat st i) i).take fr.length = _
        rw [eN]
      have eS2 : (rtS fr svs pat st (i + 1)).2 = (rtS fr svs pat st i).2.set wi ((sntS (fr ++ (svOf svs wi).1) ((rtS fr svs pat st i).1 ++ ow) t (upB (svOf svs wi).2 t)).drop fr.length) := by
        show (rtS fr svs pat st i).2.set (rtW pat i) ((rtNew fr svs pat st (rtS fr svs pat st i) i).drop fr.length) = _
        rw [eN, ← hwi]
      obtain ⟨p1, p2, _, _⟩ := rtS_ok (fr := fr) (st := st) R.p0 R.pb (i + 1)
      have hsC : Sts HN (ys2.take xC.length) (rtS fr svs pat st (i + 1)).1 := by rw [eS1, ← xl]; exact paired_take _ hsN
      have ownN : Paired (OwAt HN lo lf) (yo.set wi (.ref m2)) (rtS fr svs pat st (i + 1)).2 := by
        rw [eS2]
        refine paired_setP wi (L2.Paired.mapP own fun _ _ z => z.ke kcN ⟨_, hlo'⟩ ⟨_, hlf'⟩) ⟨m2, _, rfl, m2lo, m2lf, gm2N, ?_⟩
        rw [← xl]
        exact paired_drop _ hsN
      have csl := paired_len hsC
      -- which open
      refine ⟨rfl, _, rfl, m1, _, rfl, SqL.of gm1N, fun D hD => ?_⟩
      refine lc_enum (K := K) (a := m1) (xs := ys2.take xC.length) (fun j Hx => Hx D = some (.lst (((List.range j).filter fun k => decide ((rtS fr svs pat st (i + 1)).1[k]? = some (("open", (i : Int) * st) : StD))).map pnV)) ∧ Same HN Hx) ⟨upd_same, Same.upd hD⟩ (fun j Hx ⟨_, s⟩ => SqL.of (s _ _ gm1N)) ?_ ?_
      · rintro j x T' Hx hxj ⟨hDx, sx⟩ hT
        obtain ⟨d, hd, u, rfl, hu⟩ := paired_get hsC hxj
        have jl := (List.getElem?_eq_some_iff.mp hd).1
        have sT := Same.upd (o := .tup [.int (j : Nat), .ref u]) hT
        have uT := sT _ _ (sx _ _ hu)
        refine ⟨T', _, rfl, SqT.of upd_same, rfl, _, _, rfl, _, _, rfl, rfl, rfl, ?_⟩
        refine ⟨_, rfl, _, rfl, (by show 2 ≤ sizeLine; decide), fun q5 hq5 => ?_⟩
        have s5 := Same.upd (o := .tup [.str "open", .int t]) hq5
        have okd : okW d := p2 d (List.mem_of_getElem? hd)
        refine ⟨stD d, stD ("open", t), .tup (SqT.of (s5 _ _ uT)) (.cons (.str _) (.cons (.int _) .nil)), .tup (SqT.of upd_same) (.cons (.str _) (.cons (.int _) .nil)), shStD okd, shStD (.inr (.inl rfl)), _, rfl, ?_⟩
        rw [stD_eq]
        have hD5 := s5 _ _ (sT _ _ hDx)
        have sx5 := (sx.trans sT).trans s5
        have erg : ((List.range (j + 1)).filter fun k => decide ((rtS fr svs pat st (i + 1)).1[k]? = some (("open", (i : Int) * st) : StD))) = ((List.range j).filter fun k => decide ((rtS fr svs pat st (i + 1)).1[k]? = some (("open", (i : Int) * st) : StD))) ++ if d = (("open", t) : StD) then [j] else [] := by
          rw [List.range_succ, List.filter_append, List.filter_cons, hd, ← ht]
          by_cases z : d = (("open", t) : StD)
          · rw [if_pos z, if_pos (decide_eq_true (congrArg some z))]
            rfl
          · rw [if_neg z, if_neg (fun y => z (Option.some.inj (of_decide_eq_true y)))]
            rfl
        rw [erg]
        refine ite2 (fun z => ?_) (fun z => ?_)
        · rw [if_pos (of_decide_eq_true z), List.map_append]
          refine ⟨_, rfl, _, hD5, small1 (by rw [List.length_map]; have := List.length_filter_le (fun k => decide ((rtS fr svs pat st (i + 1)).1[k]? = some (("open", (i : Int) * st) : StD))) (List.range j); rw [List.length_range] at this; omega), upd_same, fun b v e => by rw [upd_ne (ne_of_none e hD)]; exact sx5 _ _ e⟩
        · rw [if_neg (fun y => z (decide_eq_true y)), List.append_nil]
          exact ⟨hD5, sx5⟩
      rintro HP ⟨hDP, sP⟩
      have eop : ((List.range (ys2.take xC.length).length).filter fun k => decide ((rtS fr svs pat st (i + 1)).1[k]? = some (("open", (i : Int) * st) : StD))) = rtOp fr svs pat st i := by
        unfold rtOp
        rw [csl, p1]
      rw [eop] at hDP
      have Dlo : D ≠ lo := (ne_of_none hloN hD).symm
      have Dlf : D ≠ lf := (ne_of_none hlfN hD).symm
      have hlfP := sP _ _ hlfN
      refine ⟨_, rfl, .inl ⟨rfl, _, SqL.of hlfP⟩, _, rfl, _, rfl, ?_⟩
      refine ⟨_, .tuple [.str "served"], (txN.same sP).dp, .tup (t_SERVED _) (.cons (.str _) .nil), outD_sh _ _ _, served_sh, _, rfl, (by show 3 ≤ sizeLine; decide), fun tq htq => ?_⟩
      have kn : kOf (fr ++ (svOf svs wi).1) ((rtS fr svs pat st i).1 ++ ow) t ≤ (fr ++ (svOf svs wi).1).length := kOf_le _ _ _
      have eg : PyData.eqv (outD (fr ++ (svOf svs wi).1).length (kOf (fr ++ (svOf svs wi).1) ((rtS fr svs pat st i).1 ++ ow) t) (!(upB (svOf svs wi).2 t))) (.tuple [.str "served"]) = rtGood fr svs pat st i := by
        rw [outD_served _ _ _ kn, Bool.not_not]
        unfold rtGood rtK rtRow rtSt rtUp
        rw [← hwi, ← ht, eo]
      have htq0 := htq
      rw [eg]
      have sQ := Same.upd (o := .tup [pnV (rtW pat i), .bl (rtGood fr svs pat st i), .ref D]) htq
      have hlfQ := sQ _ _ hlfP
      have gtq : (upd HP tq (.tup [pnV (rtW pat i), .bl (rtGood fr svs pat st i), .ref D])) tq = some (.tup [pnV (rtW pat i), .bl (rtGood fr svs pat st i), .ref D]) := upd_same
      have sNQ := sP.trans sQ
      have hDQ := sQ _ _ hDP
      generalize upd HP tq (.tup [pnV (rtW pat i), .bl (rtGood fr svs pat st i), .ref D]) = HQ at sQ hlfQ gtq sNQ hDQ ⊢
      refine ⟨lf, rows, _, rfl, rfl, hlfQ, small1 (by omega), ?_⟩
      have kF : Kp lf HQ (upd HQ lf (.lst (rows ++ [.ref tq]))) := Kp.upd
      have nF := Kp.nl kF hlfQ
      have kce : ∀ b o, b ≠ lo → b ≠ lf → Hc b = some o → (upd HQ lf (.lst (rows ++ [.ref tq]))) b = some o := fun b o n1 n2 e => kF _ _ n2 (sNQ _ _ (kcN b o n1 n2 e))
      have tpl : ∀ b us, Hc b = some (.tup us) → b ≠ lo ∧ b ≠ lf := fun b us e => ⟨fun z => (by rw [z, hlo'] at e; cases e), fun z => (by rw [z, hlf'] at e; cases e)⟩
      refine ⟨_, _, _, _, _, _, _, _, _, _, m1, ys2.take xC.length, yo.set wi (.ref m2), rows ++ [.ref tq], rfl, kF _ _ m1lf (sNQ _ _ gm1N), m1lo, m1lf, (hsC.same sNQ).nl nF, kF _ _ nof (sNQ _ _ hloN), L2.Paired.mapP ownN (fun _ _ z => z.ke (fun b o _ n2 e => kF _ _ n2 (sNQ _ _ e)) ⟨_, hloN⟩ ⟨_, hlfN⟩), upd_same, by rw [List.length_append, rl]; rfl, fun (j : Nat) (x : V) hj => ?_, fun b o e => kF _ _ (ne_of_none e nHf) (sNQ _ _ (sHN _ _ e))⟩
      by_cases c : j < i
      · rw [List.getElem?_append_left (by omega)] at hj
        obtain ⟨q6, l6, e6, b1, b2, b3, b4⟩ := hrows j x hj
        exact ⟨q6, l6, e6, b1, b2, kce _ _ (tpl _ _ b3).1 (tpl _ _ b3).2 b3, kce _ _ b1 b2 b4⟩
      · rw [List.getElem?_append_right (by omega), rl] at hj
        have : j = i := by
          have := (List.getElem?_eq_some_iff.mp hj).1
          simp at this
          omega
        subst this
        rw [Nat.sub_self] at hj
        cases hj
        exact ⟨tq, D, rfl, Dlo, Dlf, nF _ _ gtq fun _ z => (nomatch z), kF _ _ Dlf hDQ⟩
    · rintro σ Hc ⟨v4, v5, v8, v9, v10, v11, v12, v13, v14, v15, cc, ys, yo, rows, rfl, hcc, cco, ccf, hys, hlo', own, hlf', rl, hrows, sc⟩
      have en : ((n : Int)).toNat = n := Int.toNat_natCast n
      rw [en] at rl
      refine ⟨_, rfl, k lf rows Hc hlf' ⟨rl, fun j x e => ?_⟩ sc nHf⟩
      obtain ⟨q, l, h1, _, _, h2, h3⟩ := hrows j x e
      exact ⟨q, l, h1, h2, h3⟩
theorem ok_sentrequests (T : LX K mg L) : Cal P w K mg base "sent_requests" 6 L.f_sent_requests ["routes", "count"] (spSentR L.c_Routes) := T.d_sent_requests.cal fun fd F => fn_sentrequests T F
end
/-! ### what is told of requests through routes -/
def rtG (fr : List Tri) (svs : List Svc) (pat : List Nat) (st : Int) (n w : Nat) : List Bool := ((List.range n).filter fun j => decide (rtW pat j = w)).map (rtGood fr svs pat st)
def opsL (fr : List Tri) (svs : List Svc) (pat : List Nat) (st : Int) (n : Nat) : List (Nat × Nat) := (List.range n).flatMap fun j => (rtOp fr svs pat st j).map fun k => (j, k)
def PrAt (H : Hp) (v : V) (p : Nat × Nat) : Prop := ∃ a, v = .ref a ∧ H a = some (.tup [.int (p.1 : Int), .int (p.2 : Int)])
theorem PrAt.nl {H H' : Hp} (k : NL H H') {v : V} {p : Nat × Nat} (h : PrAt H v p) : PrAt H' v p := by
  obtain ⟨a, e, h⟩ := h
  exact ⟨a, e, k _ _ h fun _ z => nomatch z⟩
/-- counts of a service, as they stand -/
def CtAt (H : Hp) (v : V) (a b : Nat) : Prop := ∃ q, v = .ref q ∧ H q = some (.tup [.int (a : Int), .int (b : Int)])
def spServed (C : Addr) : Sp := fun vs H Q _ => ∃ p fr svs pat st, ∃ n : Nat, vs = [.ref p, .int (n : Int)] ∧ RtV C H p fr svs pat st ∧ n ≤ 10000 ∧ ∀ l xs H', H' l = some (.lst xs) → xs.length = svs.length → (∀ (w : Nat) (x : V), xs[w]? = some x → CtAt H' x ((rtG fr svs pat st n w).count true) ((rtG fr svs pat st n w).count false)) → Same H H' → H l = none → Q (.ref l) H'
def spOpens (C : Addr) : Sp := fun vs H Q _ => ∃ p fr svs pat st, ∃ n : Nat, vs = [.ref p, .int (n : Int)] ∧ RtV C H p fr svs pat st ∧ n ≤ 10000 ∧ ∀ l xs H', H' l = some (.lst xs) → Paired (PrAt H') xs (opsL fr svs pat st n) → Same H H' → H l = none → Q (.ref l) H'
theorem bools_dp {K : PySem.W.Frag} {H : Hp} : ∀ bs : List Bool, DpAll K H (bs.map V.bl) (bs.map PyData.bool)
  | [] => .nil
  | b :: r => .cons (.bl b) (bools_dp r)
theorem bools_plain : ∀ bs : List Bool, PyData.plainAll (bs.map PyData.bool) = true
  | [] => by simp [PyData.plainAll]
  | b :: r => by rw [List.map_cons, PyData.plainAll, bools_plain r]; simp [PyData.plain]
theorem bools_count (c : Bool) : ∀ bs : List Bool, (bs.map PyData.bool).countP (fun e => PyData.eqv e (.bool c)) = bs.count c
  | [] => rfl
  | b :: r => by
    rw [List.map_cons, List.countP_cons, List.count_cons, bools_count c r]
    cases b <;> cases c <;> rfl
theorem rtOp_len (fr : List Tri) (svs : List Svc) (pat : List Nat) (st : Int) (j : Nat) : (rtOp fr svs pat st j).length ≤ fr.length := by
  unfold rtOp
  have := List.length_filter_le (fun k => decide ((rtS fr svs pat st (j + 1)).1[k]? = some (("open", (j : Int) * st) : StD))) (List.range fr.length)
  rw [List.length_range] at this
  exact this
theorem opsL_succ (fr : List Tri) (svs : List Svc) (pat : List Nat) (st : Int) (n : Nat) : opsL fr svs pat st (n + 1) = opsL fr svs pat st n ++ (rtOp fr svs pat st n).map fun k => (n, k) := by
  unfold opsL
  rw [List.range_succ, List.flatMap_append]
  simp
theorem opsL_len (fr : List Tri) (svs : List Svc) (pat : List Nat) (st : Int) : ∀ n : Nat, (opsL fr svs pat st n).length ≤ fr.length * n
  | 0 => by simp [opsL]
  | n + 1 => by
    rw [opsL_succ, List.length_append, List.length_map, Nat.mul_succ]
    have := opsL_len fr svs pat st n
    have := rtOp_len fr svs pat st n
    omega
/-- a comprehension over enumerate, and then over a list -/
theorem lc2e_outer {K : PySem.W.Frag} {a : Addr} {xs : List V} {g : TG} {tt : TT} {wi1 : TI} {g1 : TG} {tt1 : TT} {te : TE} {vs vs1 : List Nat} {σ : L2.St} {H1 : Hp} {D : Addr} {Qd : Hp → Prop} (Pv : Nat → Hp → Prop) (h0 : Pv 0 (upd H1 D (.lst []))) (hl : ∀ i H, Pv i H → SqL K H a xs)
    (hs : ∀ (i : Nat) (x : V) (T : Addr) (H : Hp), xs[i]? = some x → Pv i H → H T = none → g (.ref T) (wipe σ vs) (upd H T (.tup [.int (i : Nat), x])) fun σ2 H2 => wipe σ2 vs = wipe σ vs ∧ tt σ2 H2 fun b H3 =>
      if b = true then wi1 σ2 H3 fun J1 H4 => ∃ W1 : Nat → Nat → Hp → Prop, (∃ m, W1 0 m H4) ∧ ∀ j k H, W1 j k H →
        (J1.stop j H ∧ Pv (i + 1) H) ∨ (J1.go j H ∧ ∃ Nx1 : Hp → Prop, (∀ H', Nx1 H' → ∃ k', k' < k ∧ W1 (j + 1) k' H') ∧ ∀ x H', J1.yld j H x H' → g1 x (wipe σ2 vs1) H' fun σ3 H5 => wipe σ3 vs1 = wipe σ2 vs1 ∧ tt1 σ3 H5 fun b H6 =>
          if b = true then te σ3 H6 fun y H7 => ∃ acc, H7 D = some (.lst acc) ∧ acc.length < sizeLine ∧ Nx1 (upd H7 D (.lst (acc ++ [y]))) else Nx1 H6)
      else Pv (i + 1) H3) (hd : ∀ H, Pv xs.length H → Qd H) :
    ∃ W : Nat → Nat → Hp → Prop, (∃ m, W 0 m (upd H1 D (.lst []))) ∧ ∀ i m H, W i m H →
      ((Ite K a).stop i H ∧ Qd H) ∨ ((Ite K a).go i H ∧ ∃ Nx : Hp → Prop, (∀ H', Nx H' → ∃ m', m' < m ∧ W (i + 1) m' H') ∧ ∀ x H', (Ite K a).yld i H x H' → g x (wipe σ vs) H' fun σ2 H2 => wipe σ2 vs = wipe σ vs ∧ tt σ2 H2 fun b H3 =>
        if b = true then wi1 σ2 H3 fun J1 H4 => ∃ W1 : Nat → Nat → Hp → Prop, (∃ m, W1 0 m H4) ∧ ∀ j k H, W1 j k H →
          (J1.stop j H ∧ Nx H) ∨ (J1.go j H ∧ ∃ Nx1 : Hp → Prop, (∀ H', Nx1 H' → ∃ k', k' < k ∧ W1 (j + 1) k' H') ∧ ∀ x H', J1.yld j H x H' → g1 x (wipe σ2 vs1) H' fun σ3 H5 => wipe σ3 vs1 = wipe σ2 vs1 ∧ tt1 σ3 H5 fun b H6 =>
            if b = true then te σ3 H6 fun y H7 => ∃ acc, H7 D = some (.lst acc) ∧ acc.length < sizeLine ∧ Nx1 (upd H7 D (.lst (acc ++ [y]))) else Nx1 H6)
        else Nx H3) := by
  refine ⟨fun i m H => m = xs.length - i ∧ i ≤ xs.length ∧ Pv i H, ⟨xs.length, by omega, Nat.zero_le _, h0⟩, ?_⟩
  rintro i m H ⟨rfl, hi, p⟩
  have q := hl i H p
  by_cases hlt : i < xs.length
  · refine .inr ⟨⟨xs, xs[i], q, List.getElem?_eq_getElem hlt⟩, Pv (i + 1), fun H' p' => ⟨xs.length - (i + 1), by omega, rfl, hlt, p'⟩, fun v H' y => ?_⟩
    obtain ⟨T, x', rfl, hT, rfl, f⟩ := y
    exact hs i x' T H (f xs q) p hT
  · have e : i = xs.length := by omega
    subst e
    exact .inl ⟨⟨xs, q, Nat.le_refl _⟩, hd H p⟩
theorem lc2e_inner {K : PySem.W.Frag} {a : Addr} {xs : List V} {g1 : TG} {tt1 : TT} {te : TE} {vs1 : List Nat} {σ2 : L2.St} {H4 : Hp} {D : Addr} {Nx : Hp → Prop} (Pv : Nat → Hp → Prop) (h0 : Pv 0 H4) (hl : ∀ i H, i ≤ xs.length → Pv i H → SqL K H a xs)
    (hs : ∀ j x H, xs[j]? = some x → Pv j H → g1 x (wipe σ2 vs1) H fun σ3 H5 => wipe σ3 vs1 = wipe σ2 vs1 ∧ tt1 σ3 H5 fun b H6 =>
      if b = true then te σ3 H6 fun y H7 => ∃ acc, H7 D = some (.lst acc) ∧ acc.length < sizeLine ∧ Pv (j + 1) (upd H7 D (.lst (acc ++ [y]))) else Pv (j + 1) H6) (hd : ∀ H, Pv xs.length H → Nx H) :
    ∃ W1 : Nat → Nat → Hp → Prop, (∃ m, W1 0 m H4) ∧ ∀ j k H, W1 j k H →
      ((Itl K a).stop j H ∧ Nx H) ∨ ((Itl K a).go j H ∧ ∃ Nx1 : Hp → Prop, (∀ H', Nx1 H' → ∃ k', k' < k ∧ W1 (j + 1) k' H') ∧ ∀ x H', (Itl K a).yld j H x H' → g1 x (wipe σ2 vs1) H' fun σ3 H5 => wipe σ3 vs1 = wipe σ2 vs1 ∧ tt1 σ3 H5 fun b H6 =>
        if b = true then te σ3 H6 fun y H7 => ∃ acc, H7 D = some (.lst acc) ∧ acc.length < sizeLine ∧ Nx1 (upd H7 D (.lst (acc ++ [y]))) else Nx1 H6) := by
  refine ⟨fun i m H => m = xs.length - i ∧ i ≤ xs.length ∧ Pv i H, ⟨xs.length, by simp, Nat.zero_le _, h0⟩, ?_⟩
  rintro i m H ⟨rfl, hi, p⟩
  have q := hl i H hi p
  by_cases hlt : i < xs.length
  · refine .inr ⟨⟨xs, xs[i], q, by simp [hlt]⟩, Pv (i + 1), fun H' p' => ⟨xs.length - (i + 1), by omega, rfl, hlt, p'⟩, fun x H' y => ?_⟩
    obtain ⟨e, y⟩ := y
    subst e
    exact hs i x _ (y xs q) p
  · have e : i = xs.length := by omega
    subst e
    exact .inl ⟨⟨xs, q, Nat.le_refl _⟩, hd H p⟩
section
variable {P : Program} {w : World} {K : PySem.W.Frag} {mg : Str → Option Value} {base : Heap} {L : LA}
abbrev N_served : List Str := ["routes", "count", "requests", "totals", "place", "succeeded", "service", "success", "opened"]
theorem sc_served : FnScope N_served ["routes", "count"] (defScope st_served) := ⟨rfl, rfl, rfl, by decide +kernel, rfl, by decide +kernel, by decide +kernel⟩
theorem fn_served (T : LX K mg L) {fd : FuncData} (F : Fun K "served" "served" st_served L.f_served fd) : FnOk P w K mg base CX0 7 L.f_served fd ["routes", "count"] (spServed L.c_Routes) := by
  have G_sentrequests := ok_sentrequests (P := P) (w := w) (base := base) T
  have nd := sc_served.nd
  refine F.ok sc_served (fun vs H Q E h => ?_) (fun cdv A outer S H vs Q E hr h => ?_)
  · obtain ⟨p, fr, svs, pat, st, n, rfl, _⟩ := h
    rfl
  · obtain ⟨p, fr, svs, pat, st, n, rfl, RV, hn, k⟩ := h
    refine ⟨_, (pss_cons (ps_set (i := 2) nd rfl (Or.inl rfl) (pe_c G_sentrequests (hr.mono (by decide)) rfl (pa_cons (pv 0) (pa_cons (pv 1) pa_nil))))
       (pss_cons (ps_set (i := 3) nd rfl (Or.inl rfl) (pe_lst pa_nil))
       (pss_cons (ps_for PassesOwn.never rfl (pi_range1 rfl T.b_range (pa_cons (pe_callB call_len_seq (by rfl) T.b_len PySem.boot_len (pa_cons (pe_fld (pv 0) rfl) pa_nil)) pa_nil)) (pg_name (i := 4) nd rfl (Or.inr rfl)) (pss_cons (ps_setLc (i := 5) (own := [("service", 6), ("success", 7), ("opened", 8)]) (g := gTup K 3 (gCons (gName 6) (gCons (gName 7) (gCons (gName 8) (gNil))))) rfl nd rfl rfl (sw_true rfl rfl rfl (by decide +kernel)) (pi_list (pv 2)) (blkOk_by (own := [("service", 6), ("success", 7), ("opened", 8)]) (N := N_served) (sc := defScope st_served) (by decide +kernel)) (fun _ _ _ _ _ => pg_tup rfl (pgs_cons (pg_name (i := 6) nd rfl (Or.inl rfl)) (pgs_cons (pg_name (i := 7) nd rfl (Or.inl rfl)) (pgs_cons (pg_name (i := 8) nd rfl (Or.inl rfl)) pgs_nil)))) (fun _ _ _ _ _ => pts_one (pt_cmpR op_eq (pv 6) (pv 4) (nomark _))) (fun _ _ _ _ _ => (pv 7)))
       (pss_one (ps_expr (pe_bm PySem.F.plainAttrs_list PySem.F.slot_list_append PySem.F.type_list_append mt_append (pv 3) (pa_cons (pe_tup (pa_cons (pe_bm PySem.F.plainAttrs_list PySem.F.slot_list_count PySem.F.type_list_count (mt_dcount hr.units) (pv 5) (pa_cons pe_bl pa_nil)) (pa_cons (pe_bm PySem.F.plainAttrs_list PySem.F.slot_list_count PySem.F.type_list_count (mt_dcount hr.units) (pv 5) (pa_cons pe_bl pa_nil)) pa_nil))) pa_nil))))))
       (pss_one (ps_ret (pv 3)))))), ?_⟩
    have RV0 := RV
    obtain ⟨aC, aS, aP, xC, xS, R⟩ := RV
    obtain ⟨dx, hp⟩ := R.ob
    have sl := paired_len R.sv
    have sl10 := R.s1
    refine ⟨_, rfl, _, rfl, p, fr, svs, pat, st, n, rfl, RV0, hn, fun lr rows H1 hlr fds s1 n1 => ⟨(by show 0 ≤ sizeLine; decide), fun lt hlt => ?_⟩⟩
    have s2 := s1.trans (Same.upd (o := .lst []) hlt)
    have R2 := R.nl (NL.of s2)
    have nH : H lt = none := none_of s1 hlt
    have hlr2 := (Same.upd (o := .lst []) hlt) _ _ hlr
    have nrt : lr ≠ lt := ne_of_none hlr hlt
    refine ⟨_, rfl, p, L.c_Routes, dx, _, _, rfl, s2 _ _ hp, T.cf_Routes.cl, T.nf_Routes_services, rtF_s _ _ _ _, aS, xS, rfl, .inr (SqT.of R2.hS), _, rfl, by omega, by omega, ?_⟩
    refine for_range (lo := 0) (n := ((xS.length : Int)).toNat) (fun i σ Hc => ∃ (v4 v5 v6 v7 v8 : Option V) (ts : List V), σ = [some (.ref p), some (.int (n : Int)), some (.ref lr), some (.ref lt), v4, v5, v6, v7, v8] ∧ Hc lt = some (.lst ts) ∧ ts.length = i ∧ (∀ (w : Nat) (x : V), ts[w]? = some x → CtAt Hc x ((rtG fr svs pat st n w).count true) ((rtG fr svs pat st n w).count false)) ∧ Same H1 Hc)
      ⟨_, _, _, _, _, [], rfl, upd_same, rfl, fun (w : Nat) (x : V) e => (by cases e), Same.upd hlt⟩ ?_ ?_
    · rintro i σ Hc hi ⟨v4, v5, v6, v7, v8, ts, rfl, htc, tl, hts, sc⟩
      have e0 : (0 : Int) + (i : Int) = i := by omega
      rw [e0]
      have hlrc := sc _ _ hlr
      have fdc := fds.same sc
      refine ⟨_, rfl, lr, rfl, ⟨_, SqL.of hlrc⟩, fun D hD => ?_⟩
      refine lc_list (K := K) (a := lr) (xs := rows) (fun j Hx => Hx D = some (.lst ((rtG fr svs pat st j i).map V.bl)) ∧ Same Hc Hx) ⟨upd_same, Same.upd hD⟩ (fun j Hx _ ⟨_, s⟩ => SqL.of (s _ _ hlrc)) ?_ ?_
      · rintro j x Hx hxj ⟨hDx, sx⟩
        obtain ⟨q, lo, rfl, h1, h2⟩ := (fdc.2 j x hxj).same sx
        have jn : j < n := by have := (List.getElem?_eq_some_iff.mp hxj).1; rw [fds.1] at this; exact this
        have gl : (rtG fr svs pat st j i).length ≤ j := by
          unfold rtG
          rw [List.length_map]
          have := List.length_filter_le (fun j => decide (rtW pat j = i)) (List.range j)
          rw [List.length_range] at this
          exact this
        have er : rtG fr svs pat st (j + 1) i = rtG fr svs pat st j i ++ if rtW pat j = i then [rtGood fr svs pat st j] else [] := by
          unfold rtG
          rw [List.range_succ, List.filter_append, List.map_append, List.filter_cons]
          by_cases c : rtW pat j = i
          · rw [if_pos c, if_pos (decide_eq_true c)]
            rfl
          · rw [if_neg c, if_neg (fun z => c (of_decide_eq_true z))]
            rfl
        rw [er]
        refine ⟨q, _, rfl, SqT.of h1, rfl, _, _, rfl, _, _, rfl, _, _, rfl, rfl, rfl, ?_⟩
        refine ⟨_, rfl, _, rfl, rfl, _, rfl, ite2 (fun c => ?_) (fun c => ?_)⟩
        · have c' : rtW pat j = i := by
            have := V.int.inj (of_decide_eq_true c)
            omega
          rw [if_pos c', List.map_append]
          exact ⟨_, rfl, _, hDx, small1 (by rw [List.length_map]; omega), upd_same, fun b u e => by rw [upd_ne (ne_of_none e hD)]; exact sx _ _ e⟩
        · have c' : ¬ rtW pat j = i := fun z => c (decide_eq_true (by rw [z]))
          rw [if_neg c', List.append_nil]
          exact ⟨hDx, sx⟩
      rintro HD ⟨hDD, sD⟩
      rw [fds.1] at hDD
      have htD := sD _ _ htc
      refine ⟨_, rfl, .inl ⟨rfl, _, SqL.of htD⟩, _, rfl, .inl ⟨rfl, _, SqL.of hDD⟩, ?_⟩
      refine ⟨D, (rtG fr svs pat st n i).map V.bl, (rtG fr svs pat st n i).map PyData.bool, .bl true, .bool true, rfl, rfl, SqL.of hDD, bools_dp (rtG fr svs pat st n i), .bl true, bools_plain (rtG fr svs pat st n i), by simp [PyData.plain], by simp [PyData.depth], ?_⟩
      refine ⟨_, rfl, .inl ⟨rfl, _, SqL.of hDD⟩, ?_⟩
      refine ⟨D, (rtG fr svs pat st n i).map V.bl, (rtG fr svs pat st n i).map PyData.bool, .bl false, .bool false, rfl, rfl, SqL.of hDD, bools_dp (rtG fr svs pat st n i), .bl false, bools_plain (rtG fr svs pat st n i), by simp [PyData.plain], by simp [PyData.depth], ?_⟩
      simp only [bools_count]
      generalize hct : (rtG fr svs pat st n i).count true = ct
      generalize hcf : (rtG fr svs pat st n i).count false = cf
      refine ⟨(by show 2 ≤ sizeLine; decide), fun tq htq => ?_⟩
      have sq := Same.upd (o := .tup [.int (ct : Int), .int (cf : Int)]) htq
      have htQ := sq _ _ htD
      have nq := NL.upd (o := .lst (ts ++ [.ref tq])) htQ
      have s1q := (sc.trans sD).trans sq
      refine ⟨lt, ts, _, rfl, rfl, htQ, small1 (by omega), ?_⟩
      refine ⟨_, _, _, _, _, ts ++ [.ref tq], rfl, upd_same, by rw [List.length_append, tl]; rfl, fun (w : Nat) (x : V) hw => ?_, fun b o e => by rw [upd_ne (ne_of_none e hlt)]; exact s1q _ _ e⟩
      by_cases c : w < i
      · rw [List.getElem?_append_left (by omega)] at hw
        obtain ⟨q, e, h⟩ := hts w x hw
        exact ⟨q, e, nq _ _ (sq _ _ (sD _ _ h)) fun _ z => nomatch z⟩
      · rw [List.getElem?_append_right (by omega), tl] at hw
        have : w = i := by
          have := (List.getElem?_eq_some_iff.mp hw).1
          simp at this
          omega
        subst this
        rw [Nat.sub_self] at hw
        cases hw
        refine ⟨tq, rfl, ?_⟩
        rw [hct, hcf]
        exact nq _ _ upd_same fun _ z => nomatch z
    · rintro σ Hc ⟨v4, v5, v6, v7, v8, ts, rfl, htc, tl, hts, sc⟩
      exact ⟨_, rfl, k lt ts Hc htc (by omega) hts (s1.trans sc) nH⟩
theorem ok_served (T : LX K mg L) : Cal P w K mg base "served" 7 L.f_served ["routes", "count"] (spServed L.c_Routes) := T.d_served.cal fun fd F => fn_served T F
abbrev N_commonopenings : List Str := ["routes", "count", "requests", "number", "service", "success", "opened", "breaker"]
theorem sc_commonopenings : FnScope N_commonopenings ["routes", "count"] (defScope st_common_openings) := ⟨rfl, rfl, rfl, by decide +kernel, rfl, by decide +kernel, by decide +kernel⟩
theorem fn_commonopenings (T : LX K mg L) {fd : FuncData} (F : Fun K "common_openings" "common_openings" st_common_openings L.f_common_openings fd) : FnOk P w K mg base CX0 7 L.f_common_openings fd ["routes", "count"] (spOpens L.c_Routes) := by
  have G_sentrequests := ok_sentrequests (P := P) (w := w) (base := base) T
  have nd := sc_commonopenings.nd
  refine F.ok sc_commonopenings (fun vs H Q E h => ?_) (fun cdv A outer S H vs Q E hr h => ?_)
  · obtain ⟨p, fr, svs, pat, st, n, rfl, _⟩ := h
    rfl
  · obtain ⟨p, fr, svs, pat, st, n, rfl, RV, hn, k⟩ := h
    refine ⟨_, (pss_cons (ps_set (i := 2) nd rfl (Or.inl rfl) (pe_c G_sentrequests (hr.mono (by decide)) rfl (pa_cons (pv 0) (pa_cons (pv 1) pa_nil))))
       (pss_one (ps_ret (pe_lc2 (own := [("number", 3), ("service", 4), ("success", 5), ("opened", 6), ("breaker", 7)]) (vs1 := [7]) (g := gTup K 2 (gCons (gName 3) (gCons (gTup K 3 (gCons (gName 4) (gCons (gName 5) (gCons (gName 6) (gNil))))) (gNil)))) (tt := tYes) (g1 := gName 7) (tt1 := tYes) (wi1 := iList K _) rfl nd (pi_enum (by rfl) T.b_enumerate (pa_cons (pv 2) pa_nil)) (blkOk_by (own := [("number", 3), ("service", 4), ("success", 5), ("opened", 6), ("breaker", 7)]) (N := N_commonopenings) (sc := defScope st_common_openings) (by decide +kernel)) (by simp) (fun _ _ _ _ _ => pg_tup rfl (pgs_cons (pg_name (i := 3) nd rfl (Or.inl rfl)) (pgs_cons (pg_tup rfl (pgs_cons (pg_name (i := 4) nd rfl (Or.inl rfl)) (pgs_cons (pg_name (i := 5) nd rfl (Or.inl rfl)) (pgs_cons (pg_name (i := 6) nd rfl (Or.inl rfl)) pgs_nil)))) pgs_nil))) (fun _ _ _ _ _ => pts_nil) (fun _ _ _ _ _ => (pi_list (pv 6))) (fun _ _ _ _ _ => pg_name (i := 7) nd rfl (Or.inl rfl)) (fun _ _ _ _ _ => pts_nil) (fun _ _ _ _ _ => (pe_tup (pa_cons (pv 3) (pa_cons (pv 7) pa_nil)))))))), ?_⟩
    have l12 : fr.length ≤ 12 := by obtain ⟨_, _, _, _, _, R⟩ := RV; exact R.lnC
    refine ⟨_, rfl, _, rfl, p, fr, svs, pat, st, n, rfl, RV, hn, fun lr rows H1 hlr fds s1 n1 => ?_⟩
    refine ⟨_, rfl, lr, _, rfl, SqL.of hlr, fun D hD => ?_⟩
    have big : ∀ {m j : Nat}, m ≤ (opsL fr svs pat st j).length + 12 → j ≤ 10000 → m < sizeLine := fun {m j} h hj => by
      have h2 := opsL_len fr svs pat st j
      have h3 : fr.length * j ≤ 12 * 10000 := Nat.mul_le_mul l12 hj
      exact Nat.lt_of_le_of_lt (show m ≤ 200000 by omega) (by decide)
    refine lc2e_outer (K := K) (a := lr) (xs := rows) (fun i Hx => ∃ ys, Hx D = some (.lst ys) ∧ Paired (PrAt Hx) ys (opsL fr svs pat st i) ∧ Same H1 Hx) ⟨[], upd_same, .nil, Same.upd hD⟩ (fun i Hx ⟨_, _, _, s⟩ => SqL.of (s _ _ hlr)) ?_ ?_
    · rintro i x T' Hx hxi ⟨ys, hDx, py, sx⟩ hT
      have iN : i < n := by have := (List.getElem?_eq_some_iff.mp hxi).1; rw [fds.1] at this; exact this
      obtain ⟨q, lo, rfl, h1', h2'⟩ := fds.2 i x hxi
      have h1 := sx _ _ h1'
      have h2 := sx _ _ h2'
      have nlo : lo ≠ D := ne_of_none h2' hD
      have sT := Same.upd (o := .tup [.int (i : Nat), .ref q]) hT
      have h1T := sT _ _ h1
      have h2T := sT _ _ h2
      refine ⟨T', _, rfl, SqT.of upd_same, rfl, _, _, rfl, _, _, rfl, ⟨q, _, rfl, SqT.of h1T, rfl, _, _, rfl, _, _, rfl, _, _, rfl, rfl, rfl, ?_⟩⟩
      refine ⟨rfl, tYes_of ⟨_, rfl, lo, rfl, ⟨_, SqL.of h2T⟩, ?_⟩⟩
      have ylen := paired_len py
      refine lc2e_inner (K := K) (a := lo) (xs := (rtOp fr svs pat st i).map pnV) (fun j Hy => ∃ zs, Hy D = some (.lst zs) ∧ Paired (PrAt Hy) zs (opsL fr svs pat st i ++ ((rtOp fr svs pat st i).take j).map fun k => (i, k)) ∧ Kp D (upd Hx T' (.tup [.int (i : Nat), .ref q])) Hy) ⟨ys, sT _ _ hDx, by rw [List.take_zero, List.map_nil, List.append_nil]; exact L2.Paired.mapP py fun _ _ z => z.nl (NL.of sT), Kp.refl⟩ (fun j Hy _ ⟨_, _, _, ky⟩ => SqL.of (ky _ _ nlo h2T)) ?_ ?_
      · rintro j y Hy hyj ⟨zs, hDy, pz, ky⟩
        have hj := (List.getElem?_eq_some_iff.mp hyj).1
        rw [List.length_map] at hj
        obtain ⟨m, hm⟩ : ∃ m, (rtOp fr svs pat st i)[j]? = some m := ⟨_, List.getElem?_eq_getElem hj⟩
        rw [List.getElem?_map, hm] at hyj
        cases hyj
        have zl := paired_len pz
        rw [List.length_append, List.length_map, List.length_take] at zl
        have ol := rtOp_len fr svs pat st i
        refine ⟨rfl, tYes_of ⟨_, rfl, _, rfl, (by show 2 ≤ sizeLine; decide), fun tq htq => ⟨zs, (Same.upd htq) _ _ hDy, big (j := i) (by omega) (by omega), ?_⟩⟩⟩
        have sq := Same.upd (o := .tup [.int (i : Nat), pnV m]) htq
        have hDq := sq _ _ hDy
        have nq := NL.upd (o := .lst (zs ++ [.ref tq])) hDq
        refine ⟨_, upd_same, ?_, (ky.trans (Kp.of sq)).trans Kp.upd⟩
        rw [List.take_add_one, hm, List.map_append, ← List.append_assoc]
        exact paired_app (L2.Paired.mapP pz fun _ _ z => (z.nl (NL.of sq)).nl nq) (.cons ⟨tq, rfl, nq _ _ upd_same fun _ z => nomatch z⟩ .nil)
      · rintro Hy ⟨zs, hDy, pz, ky⟩
        rw [List.length_map, List.take_length, ← opsL_succ] at pz
        exact ⟨zs, hDy, pz, fun b o e => ky _ _ (ne_of_none e hD) (sT _ _ (sx _ _ e))⟩
    · rintro Hx ⟨ys, hDx, py, sx⟩
      rw [fds.1] at py
      exact k D ys Hx hDx py (s1.trans sx) (none_of s1 hD)
theorem ok_commonopenings (T : LX K mg L) : Cal P w K mg base "common_openings" 7 L.f_common_openings ["routes", "count"] (spOpens L.c_Routes) := T.d_common_openings.cal fun fd F => fn_commonopenings T F
end
/-! ### k58: runs of marked requests -/
def runF (m : Nat → Bool) : Nat → Nat
  | 0 => 0
  | n + 1 => if m n = true then runF m n + 1 else 0
def maxR (m : Nat → Bool) : Nat → Nat
  | 0 => 0
  | n + 1 => if maxR m n ≤ runF m (n + 1) then runF m (n + 1) else maxR m n
theorem runF_le (m : Nat → Bool) : ∀ n, runF m n ≤ n
  | 0 => Nat.le_refl _
  | n + 1 => by
    have := runF_le m n
    unfold runF
    split <;> omega
theorem maxR_ge (m : Nat → Bool) : ∀ {n j : Nat}, j ≤ n → runF m j ≤ maxR m n
  | 0, j, h => by
    have : j = 0 := by omega
    subst this
    exact Nat.le_refl _
  | n + 1, j, h => by
    unfold maxR
    by_cases c : j = n + 1
    · subst c
      split
      · exact Nat.le_refl _
      · omega
    · have := maxR_ge m (n := n) (j := j) (by omega)
      split <;> omega
theorem maxR_at (m : Nat → Bool) : ∀ n, ∃ j, j ≤ n ∧ runF m j = maxR m n
  | 0 => ⟨0, Nat.le_refl _, rfl⟩
  | n + 1 => by
    obtain ⟨j, h1, h2⟩ := maxR_at m n
    unfold maxR
    split
    · exact ⟨n + 1, Nat.le_refl _, rfl⟩
    · exact ⟨j, by omega, h2⟩
theorem maxR_is {m : Nat → Bool} {n : Nat} {x : Int} (h1 : x ∈ (List.range n).map fun i => (runF m (i + 1) : Int)) (h2 : ∀ y ∈ (List.range n).map (fun i => (runF m (i + 1) : Int)), y ≤ x) : x = (maxR m n : Int) := by
  obtain ⟨i, hi, rfl⟩ := List.mem_map.mp h1
  have hi := List.mem_range.mp hi
  have a := maxR_ge m (n := n) (j := i + 1) (by omega)
  obtain ⟨j, hj, e⟩ := maxR_at m n
  cases j with
  | zero =>
    have e : 0 = maxR m n := e
    omega
  | succ j =>
    have b := h2 _ (List.mem_map.mpr ⟨j, List.mem_range.mpr (by omega), rfl⟩)
    omega
theorem runF_all {m : Nat → Bool} (h : ∀ i, m i = true) : ∀ n, runF m n = n
  | 0 => rfl
  | n + 1 => by
    unfold runF
    rw [if_pos (h n), runF_all h n]
theorem runF_none {m : Nat → Bool} (h : ∀ i, m i = false) : ∀ n, runF m n = 0
  | 0 => rfl
  | n + 1 => by
    unfold runF
    rw [if_neg (by rw [h n]; exact Bool.false_ne_true)]
/-- a run is made of marks -/
theorem runF_mark {m : Nat → Bool} : ∀ {n k : Nat}, k < runF m n → m (n - 1 - k) = true
  | 0, k, h => absurd h (Nat.not_lt_zero _)
  | n + 1, k, h => by
    unfold runF at h
    by_cases c : m n = true
    · rw [if_pos c] at h
      cases k with
      | zero => exact c
      | succ k =>
        have := runF_mark (m := m) (n := n) (k := k) (by omega)
        rw [show n + 1 - 1 - (k + 1) = n - 1 - k by omega]
        exact this
    · rw [if_neg c] at h
      exact absurd h (Nat.not_lt_zero _)
theorem runF_ge {m : Nat → Bool} : ∀ {n L : Nat}, L ≤ n → (∀ k, k < L → m (n - 1 - k) = true) → L ≤ runF m n
  | 0, L, h, _ => h
  | n + 1, 0, _, _ => Nat.zero_le _
  | n + 1, L + 1, h, f => by
    have h0 := f 0 (Nat.succ_pos _)
    rw [show n + 1 - 1 - 0 = n by omega] at h0
    unfold runF
    rw [if_pos h0]
    have := runF_ge (m := m) (n := n) (L := L) (by omega) fun k hk => by
      have := f (k + 1) (by omega)
      rw [show n + 1 - 1 - (k + 1) = n - 1 - k by omega] at this
      exact this
    omega
/-- marks that repeat: the runs repeat from one unmarked place on -/
theorem runF_rep {m : Nat → Bool} {p q : Nat} (hp : ∀ i, m (i + p) = m i) (hq : m q = false) : ∀ k : Nat, runF m (q + 1 + k + p) = runF m (q + 1 + k)
  | 0 => by
    have e1 : runF m (q + 1) = 0 := by
      unfold runF
      rw [if_neg (by rw [hq]; exact Bool.false_ne_true)]
    have e2 : runF m (q + 1 + p) = 0 := by
      rw [show q + 1 + p = (q + p) + 1 by omega]
      unfold runF
      rw [if_neg (by rw [hp, hq]; exact Bool.false_ne_true)]
    rw [Nat.add_zero, e1, e2]
  | k + 1 => by
    have ih := runF_rep (m := m) (p := p) (q := q) hp hq k
    rw [show q + 1 + (k + 1) + p = (q + 1 + k + p) + 1 by omega, show q + 1 + (k + 1) = (q + 1 + k) + 1 by omega]
    show (if m (q + 1 + k + p) = true then runF m (q + 1 + k + p) + 1 else 0) = if m (q + 1 + k) = true then runF m (q + 1 + k) + 1 else 0
    rw [hp, ih]
theorem runF_two {m : Nat → Bool} {p q : Nat} (hp : ∀ i, m (i + p) = m i) (p1 : 1 ≤ p) (hqp : q < p) (hq : m q = false) : ∀ n : Nat, ∃ j, j ≤ 2 * p ∧ runF m n = runF m j := by
  intro n
  induction n using Nat.strongRecOn with
  | _ n ih =>
    by_cases c : n ≤ 2 * p
    · exact ⟨n, c, rfl⟩
    · have := runF_rep (m := m) (p := p) (q := q) hp hq (n - p - (q + 1))
      rw [show q + 1 + (n - p - (q + 1)) + p = n by omega, show q + 1 + (n - p - (q + 1)) = n - p by omega] at this
      obtain ⟨j, h1, h2⟩ := ih (n - p) (by omega)
      exact ⟨j, h1, this.trans h2⟩
theorem maxR_sup {m : Nat → Bool} {p q : Nat} (hp : ∀ i, m (i + p) = m i) (p1 : 1 ≤ p) (hqp : q < p) (hq : m q = false) (n : Nat) : runF m n ≤ maxR m (2 * p) := by
  obtain ⟨j, h1, h2⟩ := runF_two hp p1 hqp hq n
  rw [h2]
  exact maxR_ge m h1
/-- no run is longer than what repeats -/
theorem maxR_lt {m : Nat → Bool} {p q : Nat} (hp : ∀ i, m (i + p) = m i) (p1 : 1 ≤ p) (hqp : q < p) (hq : m q = false) : maxR m (2 * p) < p := by
  have per : ∀ k, m (q + k * p) = false := fun k => by
    induction k with
    | zero => rw [Nat.zero_mul]; exact hq
    | succ k ih => rw [Nat.succ_mul, ← Nat.add_assoc, hp]; exact ih
  obtain ⟨j, h1, h2⟩ := maxR_at m (2 * p)
  rw [← h2]
  refine Nat.lt_of_not_le fun h => ?_
  have jl := runF_le m j
  -- among the last p marks is one that is none
  obtain ⟨k, hk, hm⟩ : ∃ k, k < p ∧ m (j - 1 - k) = false := by
    by_cases c : j ≤ q + p
    · exact ⟨j - 1 - q, by omega, by rw [show j - 1 - (j - 1 - q) = q by omega]; exact hq⟩
    · refine ⟨j - 1 - (q + p), by omega, ?_⟩
      rw [show j - 1 - (j - 1 - (q + p)) = q + p by omega, hp]
      exact hq
  rw [runF_mark (m := m) (n := j) (k := k) (by omega)] at hm
  cases hm
/-! ### common breakers open first -/
/-- services that are down for ever, or never -/
def SvDown (svs : List Svc) (dead : List Nat) : Prop := ∀ (w : Nat) (sv : Svc), svs[w]? = some sv → (∀ t ∈ sv.1, OkT t) ∧ sv.2 = if w ∈ dead then [(0, 1000000000000000000000000000000)] else []
def mkD (pat dead : List Nat) (i : Nat) : Bool := decide (rtW pat i ∈ dead)
theorem kOf_closed : ∀ (bs : List Tri) (c : Int) (rest : List Tri) (ss : List StD) (t : Int), bs.length ≤ kOf (bs ++ rest) (List.replicate bs.length (("closed", c) : StD) ++ ss) t
  | [], _, _, _, _ => Nat.zero_le _
  | b :: bs, c, rest, ss, t => by
    show bs.length + 1 ≤ kOf (b :: (bs ++ rest)) ((("closed", c) : StD) :: (List.replicate bs.length (("closed", c) : StD) ++ ss)) t
    unfold kOf
    rw [if_pos (show psB b (("closed", c) : StD) t from fun e => absurd e sC_O)]
    exact Nat.succ_le_succ (kOf_closed bs c rest ss t)
theorem kOf_closed2 (as bs : List Tri) (c : Int) (t : Int) : kOf (as ++ bs) (List.replicate as.length (("closed", c) : StD) ++ List.replicate bs.length (("closed", 0) : StD)) t = (as ++ bs).length := by
  refine (kOf_is (by rw [List.length_append, List.length_append, List.length_replicate, List.length_replicate]) (Nat.le_refl _) (fun i b s hi hb hs e => ?_) (fun b s e => absurd (List.getElem?_eq_some_iff.mp e).1 (Nat.lt_irrefl _))).symm
  have : s.1 = "closed" := by
    rcases List.mem_append.mp (List.mem_of_getElem? hs) with h | h
    · rw [List.eq_of_mem_replicate h]
    · rw [List.eq_of_mem_replicate h]
  rw [this] at e
  exact absurd e sC_O
theorem stp_closed_good (b : Tri) (c t : Int) : stpS b (("closed", c) : StD) t true = (("closed", 0) : StD) := by
  show okS b (("closed", c) : StD) = (("closed", 0) : StD)
  exact okS_closed (s := (("closed", c) : StD)) rfl
theorem stp_closed_bad (b : Tri) (c t : Int) : stpS b (("closed", c) : StD) t false = if c + 1 < b.1 then (("closed", c + 1) : StD) else ("open", t) := by
  show badS b (("closed", c) : StD) t = if c + 1 < b.1 then (("closed", c + 1) : StD) else ("open", t)
  exact badS_closed (s := (("closed", c) : StD)) rfl
section
variable {fr : List Tri} {svs : List Svc} {pat dead : List Nat} {st : Int}
theorem upB_nil (t : Int) : upB [] t = true := by simp [upB]
theorem upB_ever {t : Int} (h0 : 0 ≤ t) (h1 : t < 1000000000000000000000000000000) : upB [(0, 1000000000000000000000000000000)] t = false := by
  simp [upB]
  omega
/-- the states of live services stay -/
def Liv (svs : List Svc) (dead : List Nat) (own : List (List StD)) : Prop := ∀ w, w < svs.length → w ∉ dead → own[w]? = some (List.replicate (svOf svs w).1.length (("closed", 0) : StD))
theorem new_live {fr' : List Tri} (c : Int) (bs : List Tri) (t : Int) : sntS (fr' ++ bs) (List.replicate fr'.length (("closed", c) : StD) ++ List.replicate bs.length (("closed", 0) : StD)) t true = List.replicate (fr' ++ bs).length (("closed", 0) : StD) := by
  refine List.ext_getElem? fun i => ?_
  by_cases h : i < (fr' ++ bs).length
  · have hb : (fr' ++ bs)[i]? = some (fr' ++ bs)[i] := List.getElem?_eq_getElem h
    have sl : (List.replicate fr'.length (("closed", c) : StD) ++ List.replicate bs.length (("closed", 0) : StD)).length = (fr' ++ bs).length := by rw [List.length_append, List.length_append, List.length_replicate, List.length_replicate]
    have hs : (List.replicate fr'.length (("closed", c) : StD) ++ List.replicate bs.length (("closed", 0) : StD))[i]? = some (List.replicate fr'.length (("closed", c) : StD) ++ List.replicate bs.length (("closed", 0) : StD))[i] := List.getElem?_eq_getElem (by rw [sl]; exact h)
    obtain ⟨d, hd⟩ : ∃ d : Int, (List.replicate fr'.length (("closed", c) : StD) ++ List.replicate bs.length (("closed", 0) : StD))[i]'(by rw [sl]; exact h) = (("closed", d) : StD) := by
      rcases List.mem_append.mp (List.getElem_mem (l := List.replicate fr'.length (("closed", c) : StD) ++ List.replicate bs.length (("closed", 0) : StD)) (n := i) (by rw [sl]; exact h)) with h | h
      · exact ⟨c, List.eq_of_mem_replicate h⟩
      · exact ⟨0, List.eq_of_mem_replicate h⟩
    rw [sntS_get hb hs, kOf_closed2, if_pos h, decide_eq_true rfl, hd]
    show some (stpS _ (("closed", d) : StD) t true) = _
    rw [stp_closed_good, List.getElem?_replicate, if_pos h]
  · rw [List.getElem?_eq_none (by rw [sntS_len]; omega), List.getElem?_eq_none (by rw [List.length_replicate]; omega)]
theorem new_dead {fr' : List Tri} (c : Int) (bs : List Tri) (ss : List StD) (sl : ss.length = bs.length) (t : Int) {i : Nat} {b : Tri} (hb : fr'[i]? = some b) : (sntS (fr' ++ bs) (List.replicate fr'.length (("closed", c) : StD) ++ ss) t false)[i]? = some (if c + 1 < b.1 then (("closed", c + 1) : StD) else ("open", t)) := by
  have h := (List.getElem?_eq_some_iff.mp hb).1
  have hb' : (fr' ++ bs)[i]? = some b := by rw [List.getElem?_append_left h]; exact hb
  have hs : (List.replicate fr'.length (("closed", c) : StD) ++ ss)[i]? = some (("closed", c) : StD) := by rw [List.getElem?_append_left (by rw [List.length_replicate]; exact h), List.getElem?_replicate, if_pos h]
  have kl := kOf_closed fr' c bs ss t
  rw [sntS_get hb' hs, if_pos (by omega), Bool.and_false, stp_closed_bad]
/-- while no run is long enough, all common breakers are closed and count it -/
theorem rt_low (hs : SvDown svs dead) (p0 : 1 ≤ pat.length) (pb : ∀ k ∈ pat, k < svs.length) (st0 : 1 ≤ st) (st1 : st ≤ 1000000000000) {L : Nat} (hL : ∀ b ∈ fr, (L : Int) ≤ b.1) : ∀ n : Nat, n ≤ 100000 → (∀ j, j ≤ n → runF (mkD pat dead) j < L) →
    (rtS fr svs pat st n).1 = List.replicate fr.length (("closed", (runF (mkD pat dead) n : Int)) : StD) ∧ Liv svs dead (rtS fr svs pat st n).2
  | 0, _, _ => by
    refine ⟨rfl, fun w hw _ => ?_⟩
    show (svs.map fun sv => List.replicate sv.1.length (("closed", 0) : StD))[w]? = _
    rw [List.getElem?_map, svOf_get hw]
    rfl
  | n + 1, hn, hr => by
    obtain ⟨h1, h2⟩ := rt_low hs p0 pb st0 st1 hL n (by omega) fun j hj => hr j (by omega)
    obtain ⟨w1, w2⟩ := rtW_lt p0 pb n
    obtain ⟨_, _, q3, q4⟩ := rtS_ok (fr := fr) (st := st) p0 pb n
    obtain ⟨o, ho⟩ : ∃ o, (rtS fr svs pat st n).2[rtW pat n]? = some o := ⟨_, List.getElem?_eq_getElem (by omega)⟩
    have eo : (rtS fr svs pat st n).2.getD (rtW pat n) [] = o := by rw [List.getD_eq_getElem?_getD, ho]; rfl
    obtain ⟨_, sd⟩ := hs _ _ (svOf_get w2)
    have t0 : 0 ≤ (n : Int) * st := Int.mul_nonneg (by omega) (by omega)
    have t1 : (n : Int) * st ≤ 100000 * 1000000000000 := Int.mul_le_mul (by omega) st1 (by omega) (by decide)
    have hn1 := hr (n + 1) (Nat.le_refl _)
    by_cases c : rtW pat n ∈ dead
    · have em : mkD pat dead n = true := decide_eq_true c
      have er : runF (mkD pat dead) (n + 1) = runF (mkD pat dead) n + 1 := by
        show (if mkD pat dead n = true then _ else _) = _
        rw [if_pos em]
      have eN : rtNew fr svs pat st (rtS fr svs pat st n) n = sntS (fr ++ (svOf svs (rtW pat n)).1) (List.replicate fr.length (("closed", (runF (mkD pat dead) n : Int)) : StD) ++ o) ((n : Int) * st) false := by
        unfold rtNew rtRow rtSt rtUp
        rw [eo, h1, sd, if_pos c, upB_ever t0 (by omega)]
      refine ⟨?_, fun w hw nd => ?_⟩
      · show (rtNew fr svs pat st (rtS fr svs pat st n) n).take fr.length = _
        rw [eN]
        refine List.ext_getElem? fun i => ?_
        by_cases h : i < fr.length
        · have hb : fr[i]? = some fr[i] := List.getElem?_eq_getElem h
          have hf := hL _ (List.getElem_mem h)
          rw [List.getElem?_take, if_pos h, new_dead _ _ _ (q4 _ _ ho).1 _ hb, if_pos (by omega), List.getElem?_replicate, if_pos h, er]
          rfl
        · rw [List.getElem?_eq_none (by rw [List.length_take]; omega), List.getElem?_eq_none (by rw [List.length_replicate]; omega)]
      · show ((rtS fr svs pat st n).2.set (rtW pat n) _)[w]? = _
        rw [List.getElem?_set, if_neg (fun (e : rtW pat n = w) => nd (e ▸ c))]
        exact h2 w hw nd
    · have em : ¬ mkD pat dead n = true := fun e => c (of_decide_eq_true e)
      have er : runF (mkD pat dead) (n + 1) = 0 := by
        show (if mkD pat dead n = true then _ else _) = _
        rw [if_neg em]
      have eo2 : o = List.replicate (svOf svs (rtW pat n)).1.length (("closed", 0) : StD) := by
        have := h2 _ w2 c
        rw [ho] at this
        exact Option.some.inj this
      have eN : rtNew fr svs pat st (rtS fr svs pat st n) n = List.replicate (fr ++ (svOf svs (rtW pat n)).1).length (("closed", 0) : StD) := by
        unfold rtNew rtRow rtSt rtUp
        rw [eo, eo2, h1, sd, if_neg c, upB_nil]
        exact new_live _ _ _
      refine ⟨?_, fun w hw nd => ?_⟩
      · show (rtNew fr svs pat st (rtS fr svs pat st n) n).take fr.length = _
        rw [eN, List.take_replicate, List.length_append, er, Nat.min_eq_left (by omega)]
        rfl
      · show ((rtS fr svs pat st n).2.set (rtW pat n) ((rtNew fr svs pat st (rtS fr svs pat st n) n).drop fr.length))[w]? = _
        rw [List.getElem?_set]
        by_cases e : rtW pat n = w
        · rw [if_pos e, if_pos (by omega), eN, List.drop_replicate, List.length_append, ← e, Nat.add_sub_cancel_left]
        · rw [if_neg e]
          exact h2 w hw nd
/-- which common breakers open at a request whose run reaches the least number -/
theorem rt_open (hs : SvDown svs dead) (p0 : 1 ≤ pat.length) (pb : ∀ k ∈ pat, k < svs.length) (st0 : 1 ≤ st) (st1 : st ≤ 1000000000000) {L : Nat} (hL : ∀ b ∈ fr, (L : Int) ≤ b.1) {n : Nat} (hn : n ≤ 100000) (hr : ∀ j, j ≤ n → runF (mkD pat dead) j < L) (h1 : runF (mkD pat dead) (n + 1) = L) (L1 : 1 ≤ L) :
    rtOp fr svs pat st n = (List.range fr.length).filter fun k => decide ((fr[k]?.map fun b => b.1) = some (L : Int)) := by
  obtain ⟨e1, _⟩ := rt_low hs p0 pb st0 st1 hL n hn hr
  obtain ⟨w1, w2⟩ := rtW_lt p0 pb n
  obtain ⟨_, _, q3, q4⟩ := rtS_ok (fr := fr) (st := st) p0 pb n
  obtain ⟨o, ho⟩ : ∃ o, (rtS fr svs pat st n).2[rtW pat n]? = some o := ⟨_, List.getElem?_eq_getElem (by omega)⟩
  have eo : (rtS fr svs pat st n).2.getD (rtW pat n) [] = o := by rw [List.getD_eq_getElem?_getD, ho]; rfl
  obtain ⟨_, sd⟩ := hs _ _ (svOf_get w2)
  have t0 : 0 ≤ (n : Int) * st := Int.mul_nonneg (by omega) (by omega)
  have t1 : (n : Int) * st ≤ 100000 * 1000000000000 := Int.mul_le_mul (by omega) st1 (by omega) (by decide)
  have em : mkD pat dead n = true := by
    have h2 : (if mkD pat dead n = true then runF (mkD pat dead) n + 1 else 0) = L := h1
    by_cases z : mkD pat dead n = true
    · exact z
    · rw [if_neg z] at h2
      omega
  have c : rtW pat n ∈ dead := of_decide_eq_true em
  have er : runF (mkD pat dead) n + 1 = L := by
    have h2 : (if mkD pat dead n = true then runF (mkD pat dead) n + 1 else 0) = L := h1
    rw [if_pos em] at h2
    exact h2
  have eN : rtNew fr svs pat st (rtS fr svs pat st n) n = sntS (fr ++ (svOf svs (rtW pat n)).1) (List.replicate fr.length (("closed", (runF (mkD pat dead) n : Int)) : StD) ++ o) ((n : Int) * st) false := by
    unfold rtNew rtRow rtSt rtUp
    rw [eo, e1, sd, if_pos c, upB_ever t0 (by omega)]
  unfold rtOp
  refine List.filter_congr fun k hk => ?_
  have h := List.mem_range.mp hk
  have hb : fr[k]? = some fr[k] := List.getElem?_eq_getElem h
  have hf := hL _ (List.getElem_mem h)
  have ek : (rtS fr svs pat st (n + 1)).1[k]? = some (if (runF (mkD pat dead) n : Int) + 1 < fr[k].1 then (("closed", (runF (mkD pat dead) n : Int) + 1) : StD) else ("open", (n : Int) * st)) := by
    show ((rtNew fr svs pat st (rtS fr svs pat st n) n).take fr.length)[k]? = _
    rw [eN, List.getElem?_take, if_pos h, new_dead _ _ _ (q4 _ _ ho).1 _ hb]
  rw [ek, hb]
  by_cases z : (runF (mkD pat dead) n : Int) + 1 < fr[k].1
  · rw [if_pos z]
    have d1 : ¬ (some (("closed", (runF (mkD pat dead) n : Int) + 1) : StD) = some (("open", (n : Int) * st) : StD)) := fun e => sC_O (congrArg Prod.fst (Option.some.inj e))
    have d2 : ¬ ((some fr[k]).map (fun b => b.1) = some (L : Int)) := fun e => by
      have e : fr[k].1 = (L : Int) := Option.some.inj e
      omega
    rw [decide_eq_false d1, decide_eq_false d2]
  · rw [if_neg z]
    have d2 : (some fr[k]).map (fun b => b.1) = some (L : Int) := by
      show some fr[k].1 = some (L : Int)
      congr 1
      omega
    rw [decide_eq_true rfl, decide_eq_true d2]
theorem rt_shut (hs : SvDown svs dead) (p0 : 1 ≤ pat.length) (pb : ∀ k ∈ pat, k < svs.length) (st0 : 1 ≤ st) (st1 : st ≤ 1000000000000) {L : Nat} (hL : ∀ b ∈ fr, (L : Int) ≤ b.1) {n : Nat} (hn : n + 1 ≤ 100000) (hr : ∀ j, j ≤ n + 1 → runF (mkD pat dead) j < L) : rtOp fr svs pat st n = [] := by
  obtain ⟨e1, _⟩ := rt_low hs p0 pb st0 st1 hL (n + 1) hn hr
  unfold rtOp
  rw [e1]
  refine List.filter_eq_nil_iff.mpr fun k hk => ?_
  have h := List.mem_range.mp hk
  rw [List.getElem?_replicate, if_pos h]
  exact fun z => sC_O (congrArg Prod.fst (Option.some.inj (of_decide_eq_true z)))
end
/-! ### enumerate of a tuple -/
section
open PySem.Builtin.SmallTypes PySem.Spec PyProof.Rows
theorem meets_enumerate_newT (t : Addr) (items : Array Value) :
    Meets (Builtin.«enumerate.__new__» ⟨[.type "enumerate", .ref t], []⟩) (fun _ R s => s.heap.IsTuple t items ∧
      R (.ok (.ret (.ref (s.heap.push { cls := .type "tuple_iterator", data := .fields #[.ref t, .int 0 0] }).objs.size)))
        { s with heap := (s.heap.push { cls := .type "tuple_iterator", data := .fields #[.ref t, .int 0 0] }).push { cls := .type "enumerate", data := .fields #[.none, .bool false, .ref s.heap.objs.size, rawInt 0, .none, .none] } }) :=
  .of_wp fun prog w A R s h => by
    obtain ⟨hp, g, d, tk, os⟩ := s
    obtain ⟨h1, h⟩ := h
    have hsub := sub_enumerate
    have q1 : ∀ {A' : Around} {E : Value → Shared → Prop} {Q : Value → Shared → Prop}, Q (.ref hp.objs.size) ⟨hp.push { cls := .type "tuple_iterator", data := .fields #[.ref t, .int 0 0] }, g, d, tk, os⟩ → wpAny (model prog w) A' (pyIter (.ref t)) Q E ⟨hp, g, d, tk, os⟩ :=
      fun q => wpAny_pyIter_tuple (s := ⟨hp, g, d, tk, os⟩) h1 q
    wp_walk using q1
    refine wpAny_stack_any fun st => wpAny_pure ?_
    split
    · rename_i c _ _ _ _ _
      cases (c == Value.type "enumerate")
      · wp_walk using q1
        exact ⟨_, rfl, h⟩
      · wp_walk using q1
        exact ⟨_, rfl, h⟩
    · wp_walk using q1
      exact ⟨_, rfl, h⟩
theorem call_enumerate_tuple {prog : Program} {w : World} {A : Around} {E : Value → Shared → Prop} {s : Shared} {t : Addr} {items : Array Value} {Q : Value → Shared → Prop} (hT : s.heap.IsTuple t items)
    (h : ∀ h', IsEnum h' (s.heap.objs.size + 1) s.heap.objs.size 0 .none → h'.IsTupleIter s.heap.objs.size t 0 → h'.objs.size = s.heap.objs.size + 2 →
      (∀ b o, s.heap.get? b = some o → h'.get? b = some o) → Q (.ref (s.heap.objs.size + 1)) { s with heap := h' }) :
    wpAny (model prog w) A (call (.type "enumerate") [.ref t]) Q E s := by
  refine callType_new F.called_enumerate (by decide) (F.typeCall_enumerate_1 _) (F.newCall_enumerate_1 _) (fun obj => F.args_object_init_2 obj _) F.entry_enumerate_new
    (meets_enumerate_newT t items) ⟨hT, ?_⟩
  have hz : (s.heap.push { cls := .type "tuple_iterator", data := .fields #[.ref t, .int 0 0] }).objs.size = s.heap.objs.size + 1 := Heap.size_push ..
  show _ ∧ _
  rw [hz]
  have he : IsEnum ((s.heap.push { cls := .type "tuple_iterator", data := .fields #[.ref t, .int 0 0] }).push
      { cls := .type "enumerate", data := .fields #[.none, .bool false, .ref s.heap.objs.size, rawInt 0, .none, .none] }) (s.heap.objs.size + 1) s.heap.objs.size 0 .none := by
    have := Heap.get?_push_size (s.heap.push { cls := .type "tuple_iterator", data := .fields #[.ref t, .int 0 0] })
      (o := { cls := .type "enumerate", data := .fields #[.none, .bool false, .ref s.heap.objs.size, rawInt 0, .none, .none] }) rfl
    rw [hz] at this
    exact this
  refine ⟨⟨_, he, rfl⟩, h _ he ⟨_, Heap.get?_push_of_some _ (Heap.get?_push_size _ rfl), rfl, rfl⟩ (by rw [Heap.size_push, hz]) fun b o x => Heap.get?_push_of_some _ (Heap.get?_push_of_some _ x)⟩
theorem enumT_end {prog : Program} {w : World} {A : Around} {E : Value → Shared → Prop} {s : Shared} {e it t : Addr} {i : Nat} {c : Int} {items : Array Value} {old : Value} {Q : Option Value → Shared → Prop} (hh : A.handled = none)
    (he : IsEnum s.heap e it c old) (hit : s.heap.IsTupleIter it t i) (ht : s.heap.IsTuple t items) (hx : items[i]? = none)
    (hQ : ∀ h', Heap.ExtBut it s.heap h' → Q none { s with heap := h' }) : wpAny (model prog w) A (pyNext (.ref e)) Q E s := by
  have hT : s.TypeIs (.ref e) "enumerate" := ⟨_, he, rfl⟩
  unfold pyNext
  refine wpAny_bind (wpAny_attempt (wpAny_callSpecial?_slot (name := Str.ofString "__next__") hT F.slot_enumerate_next
    (wpAny_call_entry F.slot_enumerate_next hT F.entry_enumerate_next ?_ (F.args_enumerate_next_1 _))))
  show wpAny _ _ (field (.ref e) 2 >>= _) _ _ _
  refine wpAny_bind (wpAny_field he rfl (x := .ref it) rfl ?_)
  refine wpAny_bind (RZ.nextOf_tuple_end hh hit ht hx fun h' x he' hx' => ?_)
  obtain ⟨o, ho, hc⟩ := hx'
  refine wpAny_bind (wpAny_isInstance (T := "StopIteration") (b := true) ⟨o, ho, hc⟩ isSubtype_stop ?_)
  exact wpAny_pure (hQ _ he')
/-- the tuple at a, each item in a new pair -/
def Itet (K : PySem.W.Frag) (a : Addr) : It :=
  ⟨fun i H => ∃ (xs : List V) (x : V), SqT K H a xs ∧ xs[i]? = some x, fun i H v H' => ∃ T x, v = .ref T ∧ H T = none ∧ H' = upd H T (.tup [.int (i : Nat), x]) ∧ ∀ xs, SqT K H a xs → xs[i]? = some x, fun i H => ∃ xs : List V, SqT K H a xs ∧ xs.length ≤ i⟩
theorem turn_enumT {P : Program} {w : World} {K : PySem.W.Frag} {elts : List Expr} {kk : Nat} {tpos : Pos} (a e it : Addr) :
    Turn P w K (.Tuple elts kk tpos) (Itet K a) [e, it] e (fun i h => (∃ old, IsEnum h e it ((i : Nat) : Int) old) ∧ h.IsTupleIter it a i ∧ e ≠ it ∧ a ≠ it ∧ e ≠ a) where
  mem := by simp
  obj := fun i h st b hb => by
    obtain ⟨⟨old, he⟩, ⟨o, ho, hc, hd⟩, _⟩ := st
    have e' : b = e ∨ b = it := by simpa using hb
    rcases e' with z | z
    · rw [z]; exact ⟨_, he, fun v q => nomatch q⟩
    · rw [z]; exact ⟨o, ho, fun v q => by rw [hd] at q; cases q⟩
  keep := fun i h h' st k => let ⟨⟨old, he⟩, hi, hne⟩ := st; ⟨⟨old, k e (by simp) _ he⟩, hi.at fun o q => k it (by simp) o q, hne⟩
  item := by
    intro X hP hw hK hc i pins s σ H E I hf st hg
    subst hP hw hK
    obtain ⟨⟨old, he⟩, hit, hne, hai, hea⟩ := st
    obtain ⟨xs, x, hq, hx⟩ := hg
    obtain ⟨its, rv, p, hz⟩ := I.tuple hq
    have p : s.heap.IsTuple a its.toArray := p
    obtain ⟨u, hu, ru⟩ := rv.get hx
    have hlt : i < its.toArray.size := by simpa using (List.getElem?_eq_some_iff.mp hu).1
    have hel : e < s.heap.objs.size := Heap.lt_size he
    have hil : it < s.heap.objs.size := by obtain ⟨_, q, _⟩ := hit; exact Heap.lt_size q
    refine wpAny_pyNext_enum_itemD (Draws.tuple (A := X.A.in1) (I.ok.hd hc) it a hai its.toArray) he ⟨hit, p⟩ hlt hne (by simp [hne, hea]) fun u' h' tk hu' ho hit' hT hsz hk => ?_
    have hu2 : its[i]? = some u' := by simpa using hu'
    rw [hu] at hu2
    cases hu2
    refine ⟨_, rfl, wpAny_letOwnedTupleGo_enum (s := { s with heap := h', toks := tk + 1 }) ho fun h'' he' sb => ?_⟩
    have hT2 : h''.get? s.heap.objs.size = some { cls := .type "tuple", data := .seq #[.int i tk, u] } := (sb.2 _ (Nat.ne_of_gt hel)).trans hT
    have new : ObjOk X.prog X.w (upd H s.heap.objs.size (.tup [.int (i : Nat), x])) h'' s.heap.objs.size (.tup [.int (i : Nat), x]) :=
      ⟨by show 2 ≤ sizeLine; decide, [.int i tk, u], .cons ⟨_, rfl⟩ (.cons ru .nil), ⟨_, hT2, rfl, _, rfl⟩⟩
    have I1 : Inv X pins σ (upd H s.heap.objs.size (.tup [.int (i : Nat), x])) { s with heap := h'', toks := tk + 1 } :=
      I.turnedNew (ch := [e, it]) (fun b ob hb q => (sb.2 b (fun z => hb (by simp [z]))).trans (hk b ob (fun z => hb (by simp [z])) (fun z => hb (by simp [z])) q)) hf (Nat.le_refl _) new
    refine ⟨.ref s.heap.objs.size, _, I1, rfl, ⟨_, x, rfl, I.hok.fresh (Nat.le_refl _), rfl, fun ys hy => by rw [I.tuple_inj hy hq]; exact hx⟩, ⟨⟨u, ?_⟩, hit'.1.at fun o q => (sb.2 it (Ne.symm hne)).trans q, hne, hai, hea⟩, fun b hb => ?_⟩
    · have e1 : ((i + 1 : Nat) : Int) = (i : Int) + 1 := by omega
      rw [e1]; exact he'
    · have hb' : b < s.heap.objs.size := by
        have e' : b = e ∨ b = it := by simpa using hb
        rcases e' with z | z
        · rw [z]; exact hel
        · rw [z]; exact hil
      rw [upd_ne (Nat.ne_of_lt hb')]
      exact (hf b hb).1
  done := by
    intro X hP hw hK hc i pins s σ H E I hf st hg
    subst hP hw hK
    obtain ⟨⟨old, he⟩, hit, hne, hai, hea⟩ := st
    obtain ⟨xs, hq, hx⟩ := hg
    obtain ⟨its, rv, p, hz⟩ := I.tuple hq
    have p : s.heap.IsTuple a its.toArray := p
    obtain ⟨f0, f1, f2, f3, f4, f5⟩ := hf it (by simp)
    have hl := rv.length
    exact enumT_end (I.ok.hd hc) he hit p (by simp; omega) fun h' eb => ⟨rfl, I.turned (t' := s.toks) (fun b o hb q => eb b o hb q) f0 f1 f3 f4 f5⟩
  self := fun A i s Q E st h => let ⟨⟨_, he⟩, _⟩ := st; wpAny_pyIter_enum he h
def iEnumT (K : PySem.W.Frag) (ta : TA) : TI := fun σ H R => ta σ H fun vs H1 => ∃ a xs, vs = [.ref a] ∧ SqT K H1 a xs ∧ R (Itet K a) H1
theorem pi_enumT {X : Cx} {e : Expr} {ta : TA} {p pos tpos : Pos} {elts : List Expr} {kk : Nat} (hg : Gl X "enumerate") (hm : X.mg "enumerate" = none) (ha : PA X [e] ta) (hs : starEach [e] X.env = [(false, eval e X.env)] := by rfl) :
    PI X (.Tuple elts kk tpos) (.Call (.Name "enumerate" p) [e] [] pos) (iEnumT X.K ta) := by
  refine ⟨fun pins s σ H R I h => ?_⟩
  refine Call_ (ld_blt I hg hm PyProof.Rows.boot_enumerate (PyProof.Rows.callWith_type1 (thn (ha.run pos pins s σ H _ I h) fun us s1 ⟨vs, H1, I1, r1, q1⟩ => ?_) hs rfl))
  obtain ⟨a, xs, ex, hq, q⟩ := q1
  subst ex
  cases r1 with
  | cons r rr =>
    cases rr
    cases r
    obtain ⟨its, rv, p', hz⟩ := I1.tuple hq
    have p' : s1.heap.IsTuple a its.toArray := p'
    have al : a < s1.heap.objs.size := by obtain ⟨_, q, _⟩ := p'; exact Heap.lt_size q
    refine call_enumerate_tuple p' fun h' he hit hsz hk => wpAny_pyIter_enum he ?_
    have I2 : Inv X pins σ H1 { s1 with heap := h' } := I1.kept (t' := s1.toks) hk
    refine ⟨s1.heap.objs.size + 1, [s1.heap.objs.size + 1, s1.heap.objs.size], _, _, H1, rfl, I2, turn_enumT a (s1.heap.objs.size + 1) s1.heap.objs.size, ⟨⟨.none, he⟩, hit, Nat.succ_ne_self _, Nat.ne_of_lt al, Nat.ne_of_gt (Nat.lt_succ_of_lt al)⟩, fun b hb => ?_, q⟩
    have e' : b = s1.heap.objs.size + 1 ∨ b = s1.heap.objs.size := by simpa using hb
    have hle : s1.heap.objs.size ≤ b := by
      rcases e' with z | z
      · rw [z]; exact Nat.le_add_right _ _
      · rw [z]; exact Nat.le_refl _
    exact I1.fpOk hle (I1.hok.fresh hle)
/-- a comprehension over enumerate of a tuple -/
theorem lc_enumT {K : PySem.W.Frag} {a : Addr} {xs : List V} {g : TG} {tt : TT} {te : TE} {vs : List Nat} {σ : L2.St} {H1 : Hp} {D : Addr} {Qd : Hp → Prop} (Pv : Nat → Hp → Prop) (h0 : Pv 0 (upd H1 D (.lst []))) (hl : ∀ i H, Pv i H → SqT K H a xs)
    (hs : ∀ (i : Nat) (x : V) (T : Addr) (H : Hp), xs[i]? = some x → Pv i H → H T = none → g (.ref T) (wipe σ vs) (upd H T (.tup [.int (i : Nat), x])) fun σ2 H2 => wipe σ2 vs = wipe σ vs ∧ tt σ2 H2 fun b H3 =>
      if b = true then te σ2 H3 fun y H4 => ∃ acc, H4 D = some (.lst acc) ∧ acc.length < sizeLine ∧ Pv (i + 1) (upd H4 D (.lst (acc ++ [y]))) else Pv (i + 1) H3) (hd : ∀ H, Pv xs.length H → Qd H) :
    ∃ W : Nat → Nat → Hp → Prop, (∃ m, W 0 m (upd H1 D (.lst []))) ∧ ∀ i m H, W i m H → ((Itet K a).stop i H ∧ Qd H) ∨ ((Itet K a).go i H ∧ ∃ Nx : Hp → Prop, (∀ H', Nx H' → ∃ m', m' < m ∧ W (i + 1) m' H') ∧ ∀ x H', (Itet K a).yld i H x H' → g x (wipe σ vs) H' fun σ2 H2 => wipe σ2 vs = wipe σ vs ∧ tt σ2 H2 fun b H3 =>
        if b = true then te σ2 H3 fun y H4 => ∃ acc, H4 D = some (.lst acc) ∧ acc.length < sizeLine ∧ Nx (upd H4 D (.lst (acc ++ [y]))) else Nx H3) := by
  refine ⟨fun i m H => m = xs.length - i ∧ i ≤ xs.length ∧ Pv i H, ⟨xs.length, by omega, Nat.zero_le _, h0⟩, ?_⟩
  rintro i m H ⟨rfl, hi, p⟩
  have q := hl i H p
  by_cases hlt : i < xs.length
  · refine .inr ⟨⟨xs, xs[i], q, List.getElem?_eq_getElem hlt⟩, Pv (i + 1), fun H' p' => ⟨xs.length - (i + 1), by omega, rfl, hlt, p'⟩, fun v H' y => ?_⟩
    obtain ⟨T, x', rfl, hT, rfl, f⟩ := y
    exact hs i x' T H (f xs q) p hT
  · have e : i = xs.length := by omega
    subst e
    exact .inl ⟨⟨xs, q, Nat.le_refl _⟩, hd H p⟩
end
/-! ### which common breakers open first -/
def rnL (m : Nat → Bool) (N : Nat) : List Int := (List.range N).map fun i => (runF m (i + 1) : Int)
def lgO (m : Nat → Bool) (p : Nat) : Option Int := if (List.range p).all m = true then none else some (maxR m (2 * p) : Int)
def opL (fr : List Tri) (L : Int) : List Nat := (List.range fr.length).filter fun k => decide ((fr[k]?.map fun b => b.1) = some L)
def FoIs (fr : List Tri) (m : Nat → Bool) (p : Nat) : Option (Int × List Nat) → Prop
  | none => fr = [] ∨ ((∃ q, q < p ∧ m q = false) ∧ ∀ b ∈ fr, (maxR m (2 * p) : Int) < b.1)
  | some (n, op) => ∃ L j : Nat, 1 ≤ L ∧ (∀ b ∈ fr, (L : Int) ≤ b.1) ∧ (∃ b ∈ fr, b.1 = (L : Int)) ∧ op = opL fr (L : Int) ∧ n = (j : Int) ∧ (∀ i, i ≤ j → runF m i < L) ∧ runF m (j + 1) = L
theorem FoIs.uniq {fr : List Tri} {m : Nat → Bool} {p : Nat} (hp : ∀ i, m (i + p) = m i) : ∀ {x y : Option (Int × List Nat)}, FoIs fr m p x → FoIs fr m p y → x = y
  | none, none, _, _ => rfl
  | none, some (n, op), h, ⟨L, j, _, l1, ⟨b, hb, eb⟩, _, _, _, h2⟩ => by
    rcases h with h | ⟨⟨q, hq, mq⟩, h⟩
    · subst h
      cases hb
    · have a := h b hb
      have c := maxR_sup hp (by omega) hq mq (j + 1)
      omega
  | some (n, op), none, ⟨L, j, _, l1, ⟨b, hb, eb⟩, _, _, _, h2⟩, h => by
    rcases h with h | ⟨⟨q, hq, mq⟩, h⟩
    · subst h
      cases hb
    · have a := h b hb
      have c := maxR_sup hp (by omega) hq mq (j + 1)
      omega
  | some (n, op), some (n', op'), ⟨L, j, _, l1, ⟨b, hb, eb⟩, eo, en, f1, f2⟩, ⟨L', j', _, l1', ⟨b', hb', eb'⟩, eo', en', f1', f2'⟩ => by
    have a := l1 b' hb'
    have a' := l1' b hb
    have : L = L' := by omega
    subst this
    have : j = j' := by
      rcases Nat.lt_trichotomy j j' with c | c | c
      · have := f1' (j + 1) (by omega)
        omega
      · exact c
      · have := f1 (j' + 1) (by omega)
        omega
    subst this
    rw [eo, eo', en, en']
/-- the first run that is long enough is just so long -/
theorem run_first {m : Nat → Bool} {L : Nat} (L1 : 1 ≤ L) : ∀ n : Nat, (∃ i, i ≤ n ∧ L ≤ runF m i) → ∃ j, j < n ∧ (∀ i, i ≤ j → runF m i < L) ∧ runF m (j + 1) = L
  | 0, ⟨i, hi, h⟩ => by
    have : i = 0 := by omega
    subst this
    have h : L ≤ 0 := h
    omega
  | n + 1, ⟨i, hi, h⟩ => by
    by_cases z : ∃ i, i ≤ n ∧ L ≤ runF m i
    · obtain ⟨j, h1, h2⟩ := run_first L1 n z
      exact ⟨j, by omega, h2⟩
    · have : i = n + 1 := by
        by_cases c : i ≤ n
        · exact absurd ⟨i, c, h⟩ z
        · omega
      subst this
      have low : ∀ i, i ≤ n → runF m i < L := fun i hi => Nat.lt_of_not_le fun q => z ⟨i, hi, q⟩
      refine ⟨n, Nat.lt_succ_self n, low, ?_⟩
      have h4 := low n (Nat.le_refl n)
      have h3 : (if m n = true then runF m n + 1 else 0) = runF m (n + 1) := rfl
      by_cases q : m n = true
      · rw [if_pos q] at h3
        omega
      · rw [if_neg q] at h3
        omega
theorem mkD_per {pat dead : List Nat} (i : Nat) : mkD pat dead (i + pat.length) = mkD pat dead i := by
  unfold mkD rtW
  rw [Nat.add_mod_right]
theorem mkD_mod {pat dead : List Nat} (i : Nat) : mkD pat dead i = mkD pat dead (i % pat.length) := by
  unfold mkD rtW
  rw [Nat.mod_mod]
theorem mkD_all {pat dead : List Nat} (p0 : 1 ≤ pat.length) (h : (List.range pat.length).all (mkD pat dead) = true) (i : Nat) : mkD pat dead i = true := by
  rw [mkD_mod]
  exact List.all_eq_true.mp h _ (List.mem_range.mpr (Nat.mod_lt _ (by omega)))
theorem not_all {m : Nat → Bool} {p : Nat} (h : ¬ (List.range p).all m = true) : ∃ q, q < p ∧ m q = false := by
  have h2 : (List.range p).all m = false := by simpa using h
  obtain ⟨q, hq, e⟩ := List.all_eq_false.mp h2
  exact ⟨q, List.mem_range.mp hq, by simpa using e⟩
theorem opL_step {fr : List Tri} {L : Int} {j : Nat} {b : Tri} (hb : fr[j]? = some b) : ((List.range (j + 1)).filter fun k => decide ((fr[k]?.map fun b => b.1) = some L)) = ((List.range j).filter fun k => decide ((fr[k]?.map fun b => b.1) = some L)) ++ if b.1 = L then [j] else [] := by
  have e1 : (fr[j]?.map fun b => b.1) = some b.1 := by rw [hb]; rfl
  rw [List.range_succ, List.filter_append, List.filter_cons, e1]
  by_cases z : b.1 = L
  · rw [if_pos z, if_pos (decide_eq_true (congrArg some z))]
    rfl
  · rw [if_neg z, if_neg (fun y => z (Option.some.inj (of_decide_eq_true y)))]
    rfl
/-- what is told of first openings, as it stands and as data -/
def FoAt (H : Hp) (x : V) : Option (Int × List Nat) → Prop
  | none => x = .non
  | some (n, op) => ∃ a l, x = .ref a ∧ H a = some (.tup [.int n, .ref l]) ∧ H l = some (.lst (op.map pnV))
theorem FoAt.same {H H' : Hp} (s : Same H H') {x : V} : ∀ {o : Option (Int × List Nat)}, FoAt H x o → FoAt H' x o
  | none, h => h
  | some (n, op), ⟨a, l, e, h1, h2⟩ => ⟨a, l, e, s _ _ h1, s _ _ h2⟩
def foD : Option (Int × List Nat) → PyData
  | none => .none
  | some (n, op) => .tuple [.int n, .list (op.map fun (k : Nat) => PyData.int (k : Int))]
theorem pns_dp {K : PySem.W.Frag} {H : Hp} : ∀ op : List Nat, DpAll K H (op.map pnV) (op.map fun (k : Nat) => PyData.int (k : Int))
  | [] => .nil
  | k :: r => .cons (.int _) (pns_dp r)
theorem FoAt.dp {K : PySem.W.Frag} {H : Hp} {x : V} : ∀ {o : Option (Int × List Nat)}, FoAt H x o → Dp K H x (foD o)
  | none, h => by
    have h : x = .non := h
    rw [h]
    exact .non
  | some (n, op), ⟨a, l, e, h1, h2⟩ => by
    rw [e]
    exact .tup (SqT.of h1) (.cons (.int _) (.cons (.lst (SqL.of h2) (pns_dp op)) .nil))
theorem pns_can : ∀ op : List Nat, PyData.canLayAll0 (op.map fun (k : Nat) => PyData.int (k : Int)) = true ∧ PyData.depthAll (op.map fun (k : Nat) => PyData.int (k : Int)) ≤ 3
  | [] => ⟨by simp [PyData.canLayAll0], by simp [PyData.depthAll]⟩
  | k :: r => by
    obtain ⟨h1, h2⟩ := pns_can r
    refine ⟨?_, ?_⟩
    · rw [List.map_cons, PyData.canLayAll0, h1]
      simp [PyData.canLay0]
    · rw [List.map_cons, PyData.depthAll]
      have : (PyData.int (k : Int)).depth ≤ 3 := by simp [PyData.depth]
      omega
theorem foD_sh : ∀ o : Option (Int × List Nat), SeqAt.shaped (foD o) = true
  | none => by decide
  | some (n, op) => by
    obtain ⟨h1, h2⟩ := pns_can op
    refine tup_sh ?_ ?_
    · simp [PyData.canLayAll0, PyData.canLay0, h1]
    · have h3 : (PyData.list (op.map fun (k : Nat) => PyData.int (k : Int))).depth ≤ 5 := by
        rw [PyData.depth]
        omega
      rw [PyData.depthAll, PyData.depthAll, PyData.depthAll]
      have h4 : (PyData.int n).depth ≤ 5 := by simp [PyData.depth]
      omega
theorem pns_eq : ∀ op : List Nat, PyData.eqvAll (op.map fun (k : Nat) => PyData.int (k : Int)) (op.map fun (k : Nat) => PyData.int (k : Int)) = true
  | [] => by simp [PyData.eqvAll]
  | k :: r => by
    rw [List.map_cons, PyData.eqvAll, pns_eq r]
    simp [PyData.eqv]
theorem foD_eq : ∀ o : Option (Int × List Nat), PyData.eqv (foD o) (foD o) = true
  | none => by simp [foD, PyData.eqv]
  | some (n, op) => by simp [foD, PyData.eqv, PyData.eqvAll, pns_eq op]
theorem SqT.nl' {K : PySem.W.Frag} {H H' : Hp} {a : Addr} {xs : List V} (h : SqT K H a xs) (s : NL H H') : SqT K H' a xs := by
  rcases h with h | h
  · rcases h with h | h
    · exact SqT.of (s _ _ h fun _ z => nomatch z)
    · exact .inl (.inr (by obtain ⟨u, h⟩ := h; exact ⟨u, s _ _ h fun _ z => nomatch z⟩))
  · exact .inr h
theorem rnL_get {m : Nat → Bool} {N i : Nat} (h : i < N) : ((rnL m N).map V.int)[i]? = some (.int (runF m (i + 1) : Int)) := by
  unfold rnL
  rw [List.getElem?_map, List.getElem?_map, List.getElem?_range h]
  rfl
theorem flat_ints' (ns : List Int) : (ns.map V.int).all flatV = true := List.all_eq_true.mpr fun x hx => by
  obtain ⟨k, _, rfl⟩ := List.mem_map.mp hx
  rfl
theorem eqV_int (a b : Int) : eqV (.int a) (.int b) = decide (a = b) := by
  unfold eqV
  rw [Bool.eq_iff_iff]
  simp
def spCkDown (C : Addr) : Sp := fun vs H Q _ => ∃ p fr svs pat st, ∃ (d : Addr) (dead : List Nat), vs = [.ref p, .ref d] ∧ RtV C H p fr svs pat st ∧ H d = some (.lst (dead.map pnV)) ∧ dead.Pairwise (· < ·) ∧ (∀ k ∈ dead, k < svs.length) ∧ Q .non H
def spFailing (C : Addr) : Sp := fun vs H Q _ => ∃ p fr svs pat st, ∃ (d : Addr) (dead : List Nat), vs = [.ref p, .ref d] ∧ RtV C H p fr svs pat st ∧ H d = some (.lst (dead.map pnV)) ∧ ∀ l H', H' l = some (.lst ((rnL (mkD pat dead) (2 * pat.length)).map V.int)) → Same H H' → H l = none → Q (.ref l) H'
def spLongest (C : Addr) : Sp := fun vs H Q _ => ∃ p fr svs pat st, ∃ (d : Addr) (dead : List Nat), vs = [.ref p, .ref d] ∧ RtV C H p fr svs pat st ∧ H d = some (.lst (dead.map pnV)) ∧ dead.Pairwise (· < ·) ∧ (∀ k ∈ dead, k < svs.length) ∧ ∀ H', Same H H' → Q (cV (lgO (mkD pat dead) pat.length)) H'
def spFirst (C : Addr) : Sp := fun vs H Q _ => ∃ p fr svs pat st, ∃ (d : Addr) (dead : List Nat), vs = [.ref p, .ref d] ∧ RtV C H p fr svs pat st ∧ H d = some (.lst (dead.map pnV)) ∧ dead.Pairwise (· < ·) ∧ (∀ k ∈ dead, k < svs.length) ∧ ∀ x o H', FoIs fr (mkD pat dead) pat.length o → FoAt H' x o → Same H H' → Q x H'
theorem inV_pns (k : Nat) : ∀ dead : List Nat, inV (pnV k) (dead.map pnV) = decide (k ∈ dead)
  | [] => by simp [inV]
  | d :: r => by
    have ih := inV_pns k r
    unfold inV at ih ⊢
    rw [List.map_cons, List.any_cons, ih, Bool.eq_iff_iff, Bool.or_eq_true, decide_eq_true_iff, decide_eq_true_iff, List.mem_cons]
    have e : (eqV (pnV d) (pnV k) = true) ↔ k = d := by
      unfold pnV eqV
      simp
      omega
    rw [e]
theorem flat_pns (dead : List Nat) : (dead.map pnV).all flatV = true := List.all_eq_true.mpr fun x hx => by
  obtain ⟨k, _, rfl⟩ := List.mem_map.mp hx
  rfl
section
variable {P : Program} {w : World} {K : PySem.W.Frag} {mg : Str → Option Value} {base : Heap} {L : LA}
abbrev N_checkdown : List Str := ["routes", "down", "least", "service"]
theorem sc_checkdown : FnScope N_checkdown ["routes", "down"] (defScope st_check_down) := ⟨rfl, rfl, rfl, by decide +kernel, rfl, by decide +kernel, by decide +kernel⟩
theorem fn_checkdown (T : LX K mg L) {fd : FuncData} (F : Fun K "check_down" "check_down" st_check_down L.f_check_down fd) : FnOk P w K mg base CX0 3 L.f_check_down fd ["routes", "down"] (spCkDown L.c_Routes) := by
  have G_iswithin := ok_iswithin (P := P) (w := w) (base := base) T
  have nd := sc_checkdown.nd
  refine F.ok sc_checkdown (fun vs H Q E h => ?_) (fun cdv A outer S H vs Q E hr h => ?_)
  · obtain ⟨p, fr, svs, pat, st, d, dead, rfl, _⟩ := h
    rfl
  · obtain ⟨p, fr, svs, pat, st, d, dead, rfl, RV, hd, pw, db, k⟩ := h
    refine ⟨_, (pss_cons (ps_if (pt_not (pt_val (pe_callB call_isi (by rfl) T.b_isinstance (by decide +kernel) (pa_cons (pv 1) (pa_cons (pe_bltn (by rfl) T.b_list (by decide +kernel : bootBuiltins "list" = some (.type "list")) (v := .ty "list") rfl) pa_nil))))) (pss_one (ps_never)) pss_nil)
       (pss_cons (ps_set (i := 2) nd rfl (Or.inl rfl) pe_int)
       (pss_one (ps_for PassesOwn.never rfl (pi_list (pv 1)) (pg_name (i := 3) nd rfl (Or.inl rfl)) (pss_cons (ps_if (pt_not (pt_val (pe_c G_iswithin (hr.mono (by decide)) rfl (pa_cons (pv 3) (pa_cons (pv 2) (pa_cons (pe_op op_sub (pe_callB call_len_seq (by rfl) T.b_len PySem.boot_len (pa_cons (pe_fld (pv 0) rfl) pa_nil)) pe_int) pa_nil)))))) (pss_one (ps_never)) pss_nil)
       (pss_one (ps_set (i := 2) nd rfl (Or.inl rfl) (pe_op op_add (pv 3) pe_int)))))))), ?_⟩
    obtain ⟨aC, aS, aP, xC, xS, R⟩ := RV
    obtain ⟨dx, hp⟩ := R.ob
    have sl := paired_len R.sv
    refine ⟨_, rfl, _, .ty "list", _, _, _, rfl, .ty "list", (Kd.lst hd).ty, (Kd.lst hd).kit "list" _ (.inr ⟨by decide, by decide, rfl⟩), _, rfl, iteF ?_⟩
    refine ⟨_, rfl, d, rfl, ⟨_, SqL.of hd⟩, ?_⟩
    refine for_list (K := K) (a := d) (xs := dead.map pnV) (fun i σ Hc => ∃ (v3 : Option V) (ls : Int), σ = [some (.ref p), some (.ref d), some (.int ls), v3] ∧ 0 ≤ ls ∧ (∀ k, k ∈ dead.drop i → ls ≤ (k : Int)) ∧ Hc = H) ⟨none, 0, rfl, Int.le_refl _, fun k _ => by omega, rfl⟩ (fun i σ Hc _ ⟨_, _, _, _, _, e⟩ => by rw [e]; exact SqL.of hd) ?_ ?_
    · rintro i x σ Hc hxi ⟨v3, ls, rfl, l0, hls, rfl⟩
      rw [List.getElem?_map] at hxi
      obtain ⟨k', hk', rfl⟩ := Option.map_eq_some_iff.mp hxi
      have hi := (List.getElem?_eq_some_iff.mp hk').1
      have dr : dead.drop i = k' :: dead.drop (i + 1) := by
        rw [List.drop_eq_getElem_cons hi]
        congr 1
        exact (List.getElem?_eq_some_iff.mp hk').2
      have h1 := hls k' (by rw [dr]; exact List.mem_cons_self ..)
      have h2 := db k' (List.mem_of_getElem? hk')
      have pd := pw.drop (i := i)
      rw [dr] at pd
      have h3 := (List.pairwise_cons.mp pd).1
      refine ⟨_, rfl, _, rfl, _, rfl, p, L.c_Routes, dx, _, _, rfl, hp, T.cf_Routes.cl, T.nf_Routes_services, rtF_s _ _ _ _, aS, xS, rfl, .inr (SqT.of R.hS), _, _, rfl, rfl, _, _, _, _, rfl, .int _, _, rfl, ?_⟩
      show if (!(isI (V.int (k' : Int)) && (decide (ls ≤ (k' : Int)) && decide ((k' : Int) ≤ ((xS.length : Nat) : Int) - 1)))) = true then _ else _
      rw [k6_pos h1 (show (k' : Int) ≤ ((xS.length : Nat) : Int) - 1 by omega)]
      refine iteF ⟨_, rfl, _, _, rfl, rfl, _, (k' : Int) + 1, rfl, by omega, fun m hm => ?_, rfl⟩
      have := h3 m hm
      omega
    · rintro σ Hc ⟨v3, ls, rfl, l0, hls, rfl⟩
      exact k
theorem ok_checkdown (T : LX K mg L) : Cal P w K mg base "check_down" 3 L.f_check_down ["routes", "down"] (spCkDown L.c_Routes) := T.d_check_down.cal fun fd F => fn_checkdown T F
abbrev N_failingruns : List Str := ["routes", "down", "runs", "length", "service"]
theorem sc_failingruns : FnScope N_failingruns ["routes", "down"] (defScope st_failing_runs) := ⟨rfl, rfl, rfl, by decide +kernel, rfl, by decide +kernel, by decide +kernel⟩
theorem fn_failingruns (T : LX K mg L) {fd : FuncData} (F : Fun K "failing_runs" "failing_runs" st_failing_runs L.f_failing_runs fd) : FnOk P w K mg base CX0 2 L.f_failing_runs fd ["routes", "down"] (spFailing L.c_Routes) := by
  have nd := sc_failingruns.nd
  refine F.ok sc_failingruns (fun vs H Q E h => ?_) (fun cdv A outer S H vs Q E hr h => ?_)
  · obtain ⟨p, fr, svs, pat, st, d, dead, rfl, _⟩ := h
    rfl
  · obtain ⟨p, fr, svs, pat, st, d, dead, rfl, RV, hd, k⟩ := h
    refine ⟨_, (pss_cons (ps_set (i := 2) nd rfl (Or.inl rfl) (pe_lst pa_nil))
       (pss_cons (ps_set (i := 3) nd rfl (Or.inl rfl) pe_int)
       (pss_cons (ps_for PassesOwn.never rfl (pi_tup (pe_op (r := rCatA K) op_catA (pe_fld (pv 0) rfl) (pe_fld (pv 0) rfl))) (pg_name (i := 4) nd rfl (Or.inl rfl)) (pss_cons (ps_set (i := 3) nd rfl (Or.inl rfl) (pe_ifExp (pt_cmpR op_in_seq (pv 4) (pv 1) rfl) (pe_op op_add (pv 3) pe_int) pe_int))
       (pss_one (ps_expr (pe_bm PySem.F.plainAttrs_list PySem.F.slot_list_append PySem.F.type_list_append mt_append (pv 2) (pa_cons (pv 3) pa_nil))))))
       (pss_one (ps_ret (pv 2)))))), ?_⟩
    obtain ⟨aC, aS, aP, xC, xS, R⟩ := RV
    obtain ⟨dx, hp⟩ := R.ob
    have p0 := R.p0
    have p1 := R.p1
    refine ⟨(by show 0 ≤ sizeLine; decide), fun lr hlr => ?_⟩
    have s1 := Same.upd (o := .lst []) hlr
    have hlr1 : (upd H lr (.lst [])) lr = some (.lst []) := upd_same
    generalize upd H lr (.lst []) = Hr at s1 hlr1 ⊢
    have R1 := R.nl (NL.of s1)
    have pl : (pat.map pnV).length = pat.length := List.length_map ..
    refine ⟨_, rfl, p, L.c_Routes, dx, _, _, rfl, s1 _ _ hp, T.cf_Routes.cl, T.nf_Routes_pattern, rtF_p _ _ _ _, _, rfl, p, L.c_Routes, dx, _, _, rfl, s1 _ _ hp, T.cf_Routes.cl, T.nf_Routes_pattern, rtF_p _ _ _ _, catA_of (SqT.of R1.hP) (SqT.of R1.hP) (Nat.le_trans (show _ ≤ 100 by omega) (by decide)) fun c H2 s2 hc => ⟨c, rfl, ⟨_, hc⟩, ?_⟩⟩
    refine for_tup (K := K) (a := c) (xs := pat.map pnV ++ pat.map pnV) (fun i σ Hx => ∃ v4 : Option V, σ = [some (.ref p), some (.ref d), some (.ref lr), some (.int (runF (mkD pat dead) i : Int)), v4] ∧ Hx lr = some (.lst ((rnL (mkD pat dead) i).map V.int)) ∧ Kp lr H2 Hx ∧ Same H Hx)
      ⟨none, rfl, s2 _ _ hlr1, Kp.refl, s1.trans s2⟩ (fun i σ Hx _ ⟨_, _, _, kx, _⟩ => SqT.nl' hc (Kp.nl kx (s2 _ _ hlr1))) ?_ ?_
    · rintro i x σ Hx hxi ⟨v4, rfl, hrx, kx, sx⟩
      have hi : i < 2 * pat.length := by
        have := (List.getElem?_eq_some_iff.mp hxi).1
        rw [List.length_append, pl] at this
        omega
      have hx : x = pnV (rtW pat i) := by
        have e1 := (rtW_lt p0 R.pb i).1
        by_cases c : i < pat.length
        · rw [List.getElem?_append_left (by omega), List.getElem?_map] at hxi
          rw [Nat.mod_eq_of_lt c] at e1
          rw [e1] at hxi
          exact (Option.some.inj hxi).symm
        · rw [List.getElem?_append_right (by omega), pl, List.getElem?_map] at hxi
          rw [Nat.mod_eq_sub_mod (by omega), Nat.mod_eq_of_lt (by omega)] at e1
          rw [e1] at hxi
          exact (Option.some.inj hxi).symm
      subst hx
      have hdx := sx _ _ hd
      refine ⟨_, rfl, _, rfl, d, _, rfl, .inl (SqL.of hdx), rfl, flat_pns _, _, rfl, ?_⟩
      show if inV (pnV (rtW pat i)) (dead.map pnV) = true then _ else _
      rw [inV_pns]
      have er : runF (mkD pat dead) (i + 1) = if rtW pat i ∈ dead then runF (mkD pat dead) i + 1 else 0 := by
        show (if mkD pat dead i = true then _ else _) = _
        unfold mkD
        by_cases c : rtW pat i ∈ dead
        · rw [if_pos c, if_pos (decide_eq_true c)]
        · rw [if_neg c, if_neg (fun z => c (of_decide_eq_true z))]
      have el : (rnL (mkD pat dead) (i + 1)).map V.int = (rnL (mkD pat dead) i).map V.int ++ [.int (runF (mkD pat dead) (i + 1) : Int)] := by
        unfold rnL
        rw [List.range_succ, List.map_append, List.map_append]
        rfl
      have ll : ((rnL (mkD pat dead) i).map V.int).length = i := by
        unfold rnL
        rw [List.length_map, List.length_map, List.length_range]
      have nH : H lr = none := hlr
      refine ite2 (fun c => ?_) (fun c => ?_)
      · rw [if_pos (of_decide_eq_true c)] at er
        refine ⟨_, rfl, _, _, rfl, rfl, ⟨_, rfl, .inl ⟨rfl, _, SqL.of hrx⟩, _, rfl, lr, _, _, rfl, rfl, hrx, small1 (by omega), ?_⟩⟩
        refine ⟨_, by rw [er]; rfl, by rw [upd_same, el, er]; rfl, kx.trans Kp.upd, fun b o e => by rw [upd_ne (ne_of_none e nH)]; exact sx _ _ e⟩
      · rw [if_neg (fun z => c (decide_eq_true z))] at er
        refine ⟨_, rfl, .inl ⟨rfl, _, SqL.of hrx⟩, _, rfl, lr, _, _, rfl, rfl, hrx, small1 (by omega), ?_⟩
        refine ⟨_, by rw [er]; rfl, by rw [upd_same, el, er]; rfl, kx.trans Kp.upd, fun b o e => by rw [upd_ne (ne_of_none e nH)]; exact sx _ _ e⟩
    · rintro σ Hx ⟨v4, rfl, hrx, kx, sx⟩
      rw [List.length_append, pl, ← Nat.two_mul] at hrx
      exact ⟨_, rfl, k lr Hx hrx sx hlr⟩
theorem ok_failingruns (T : LX K mg L) : Cal P w K mg base "failing_runs" 2 L.f_failing_runs ["routes", "down"] (spFailing L.c_Routes) := T.d_failing_runs.cal fun fd F => fn_failingruns T F
abbrev N_longestfailure : List Str := ["routes", "down", "longest"]
theorem sc_longestfailure : FnScope N_longestfailure ["routes", "down"] (defScope st_longest_failure) := ⟨rfl, rfl, rfl, by decide +kernel, rfl, by decide +kernel, by decide +kernel⟩
theorem fn_longestfailure (T : LX K mg L) {fd : FuncData} (F : Fun K "longest_failure" "longest_failure" st_longest_failure L.f_longest_failure fd) : FnOk P w K mg base CX0 4 L.f_longest_failure fd ["routes", "down"] (spLongest L.c_Routes) := by
  have G_checkdown := ok_checkdown (P := P) (w := w) (base := base) T
  have G_failingruns := ok_failingruns (P := P) (w := w) (base := base) T
  have nd := sc_longestfailure.nd
  refine F.ok sc_longestfailure (fun vs H Q E h => ?_) (fun cdv A outer S H vs Q E hr h => ?_)
  · obtain ⟨p, fr, svs, pat, st, d, dead, rfl, _⟩ := h
    rfl
  · obtain ⟨p, fr, svs, pat, st, d, dead, rfl, RV, hd, pw, db, k⟩ := h
    refine ⟨_, (pss_cons (ps_expr (pe_c G_checkdown (hr.mono (by decide)) rfl (pa_cons (pv 0) (pa_cons (pv 1) pa_nil))))
       (pss_cons (ps_set (i := 2) nd rfl (Or.inl rfl) (pe_callB (cr_max rfl) (by rfl) T.b_max (by decide +kernel) (pa_cons (pe_c G_failingruns (hr.mono (by decide)) rfl (pa_cons (pv 0) (pa_cons (pv 1) pa_nil))) pa_nil)))
       (pss_cons (ps_if (pt_cmpR op_gt (pv 2) (pe_callB call_len_seq (by rfl) T.b_len PySem.boot_len (pa_cons (pe_fld (pv 0) rfl) pa_nil)) (nomark _)) (pss_one (ps_ret pe_non)) pss_nil)
       (pss_one (ps_ret (pv 2)))))), ?_⟩
    have RV0 := RV
    obtain ⟨aC, aS, aP, xC, xS, R⟩ := RV
    obtain ⟨dx, hp⟩ := R.ob
    have p0 := R.p0
    have pl : (pat.map pnV).length = pat.length := List.length_map ..
    refine ⟨_, rfl, _, rfl, p, fr, svs, pat, st, d, dead, rfl, RV0, hd, pw, db, ?_⟩
    refine ⟨_, rfl, _, rfl, p, fr, svs, pat, st, d, dead, rfl, RV0, hd, fun l H1 hl s1 n1 => ?_⟩
    refine ⟨l, rnL (mkD pat dead) (2 * pat.length), rfl, SqL.of hl, by unfold rnL; rw [List.length_map, List.length_range]; omega, fun mx h1 h2 => ?_⟩
    have em := maxR_is h1 h2
    subst em
    refine ⟨_, rfl, _, rfl, p, L.c_Routes, dx, _, _, rfl, s1 _ _ hp, T.cf_Routes.cl, T.nf_Routes_pattern, rtF_p _ _ _ _, aP, _, rfl, .inr (SqT.of (R.nl (NL.of s1)).hP), _, _, rfl, rfl, _, rfl, ?_⟩
    rw [pl]
    have kk := k H1 s1
    unfold lgO at kk
    by_cases c : (List.range pat.length).all (mkD pat dead) = true
    · rw [if_pos c] at kk
      have ea := mkD_all p0 c
      have : maxR (mkD pat dead) (2 * pat.length) ≥ 2 * pat.length := by
        have := maxR_ge (mkD pat dead) (n := 2 * pat.length) (j := 2 * pat.length) (Nat.le_refl _)
        rw [runF_all ea] at this
        exact this
      rw [decide_eq_true (show ((pat.length : Nat) : Int) < (maxR (mkD pat dead) (2 * pat.length) : Nat) by omega)]
      exact iteT kk
    · rw [if_neg c] at kk
      obtain ⟨q, hq, mq⟩ := not_all c
      have := maxR_lt (m := mkD pat dead) mkD_per p0 hq mq
      rw [decide_eq_false (show ¬ ((pat.length : Nat) : Int) < (maxR (mkD pat dead) (2 * pat.length) : Nat) by omega)]
      exact iteF ⟨_, rfl, kk⟩
theorem ok_longestfailure (T : LX K mg L) : Cal P w K mg base "longest_failure" 4 L.f_longest_failure ["routes", "down"] (spLongest L.c_Routes) := T.d_longest_failure.cal fun fd F => fn_longestfailure T F
abbrev N_firstopening : List Str := ["routes", "down", "longest", "least", "opened", "place", "breaker"]
theorem sc_firstopening : FnScope N_firstopening ["routes", "down"] (defScope st_first_opening) := ⟨rfl, rfl, rfl, by decide +kernel, rfl, by decide +kernel, by decide +kernel⟩
theorem fn_firstopening (T : LX K mg L) {fd : FuncData} (F : Fun K "first_opening" "first_opening" st_first_opening L.f_first_opening fd) : FnOk P w K mg base CX0 5 L.f_first_opening fd ["routes", "down"] (spFirst L.c_Routes) := by
  have G_longestfailure := ok_longestfailure (P := P) (w := w) (base := base) T
  have G_failingruns := ok_failingruns (P := P) (w := w) (base := base) T
  have nd := sc_firstopening.nd
  refine F.ok sc_firstopening (fun vs H Q E h => ?_) (fun cdv A outer S H vs Q E hr h => ?_)
  · obtain ⟨p, fr, svs, pat, st, d, dead, rfl, _⟩ := h
    rfl
  · obtain ⟨p, fr, svs, pat, st, d, dead, rfl, RV, hd, pw, db, k⟩ := h
    refine ⟨_, (pss_cons (ps_set (i := 2) nd rfl (Or.inl rfl) (pe_c G_longestfailure (hr.mono (by decide)) rfl (pa_cons (pv 0) (pa_cons (pv 1) pa_nil))))
       (pss_cons (ps_if (pt_cmpR (op_eqD hr.units) (pe_fld (pv 0) rfl) (pe_tup pa_nil) (nomark _)) (pss_one (ps_ret pe_non)) pss_nil)
       (pss_cons (ps_set (i := 3) nd rfl (Or.inr rfl) (pe_callB (cr_min rfl) (by rfl) T.b_min (by decide +kernel) (pa_cons (pe_lc (own := [("breaker", 6)]) (g := gName 6) (tt := tYes) rfl nd (pi_tup (pe_fld (pv 0) rfl)) (blkOk_by (own := [("breaker", 6)]) (N := N_firstopening) (sc := defScope st_first_opening) (by decide +kernel)) (fun _ _ _ _ _ => pg_name (i := 6) nd rfl (Or.inl rfl)) (fun _ _ _ _ _ => pts_nil) (fun _ _ _ _ _ => (pe_ix (r := rIxT K) ix_tup (pv 6) pe_int (fun _ _ => rfl)))) pa_nil)))
       (pss_cons (ps_setLc (i := 4) (own := [("place", 5), ("breaker", 6)]) (g := gTup K 2 (gCons (gName 5) (gCons (gName 6) (gNil)))) rfl nd rfl rfl (sw_true rfl rfl rfl (by decide +kernel)) (pi_enumT (by rfl) T.b_enumerate (pa_cons (pe_fld (pv 0) rfl) pa_nil)) (blkOk_by (own := [("place", 5), ("breaker", 6)]) (N := N_firstopening) (sc := defScope st_first_opening) (by decide +kernel)) (fun _ _ _ _ _ => pg_tup rfl (pgs_cons (pg_name (i := 5) nd rfl (Or.inl rfl)) (pgs_cons (pg_name (i := 6) nd rfl (Or.inl rfl)) pgs_nil))) (fun _ _ _ _ _ => pts_one (pt_cmpR op_eq (pe_ix (r := rIxT K) ix_tup (pv 6) pe_int (fun _ _ => rfl)) (pv 3) (nomark _))) (fun _ _ _ _ _ => (pv 5)))
       (pss_cons (ps_if (pt_cmp (pc_isN (pv 2))) (pss_one (ps_ret (pe_tup (pa_cons (pe_op op_sub (pv 3) pe_int) (pa_cons (pv 4) pa_nil))))) pss_nil)
       (pss_cons (ps_if (pt_cmpR op_gt (pv 3) (pv 2) (nomark _)) (pss_one (ps_ret pe_non)) pss_nil)
       (pss_one (ps_ret (pe_tup (pa_cons (pe_bm PySem.F.plainAttrs_list PySem.F.slot_list_index PySem.F.type_list_index mt_index (pe_c G_failingruns (hr.mono (by decide)) rfl (pa_cons (pv 0) (pa_cons (pv 1) pa_nil))) (pa_cons (pv 3) pa_nil)) (pa_cons (pv 4) pa_nil))))))))))), ?_⟩
    have RV0 := RV
    obtain ⟨aC, aS, aP, xC, xS, R⟩ := RV
    obtain ⟨dx, hp⟩ := R.ob
    have p0 := R.p0
    have xl := R.bC.len
    have l12 := R.lnC
    refine ⟨_, rfl, _, rfl, p, fr, svs, pat, st, d, dead, rfl, RV0, hd, pw, db, fun H1 s1 => ?_⟩
    have R1 := R.nl (NL.of s1)
    have hp1 := s1 _ _ hp
    refine ⟨_, rfl, p, L.c_Routes, dx, _, _, rfl, hp1, T.cf_Routes.cl, T.nf_Routes_common, rtF_c _ _ _ _, (by show 0 ≤ sizeLine; decide), fun te hte => ?_⟩
    have s2 := Same.upd (o := .tup []) hte
    refine ⟨.tuple (fr.map triD), .tuple [], .tup (SqT.of (s2 _ _ R1.hC)) ((R1.bC.nl (NL.of s2)).dp), .tup (SqT.of upd_same) .nil, shT fr, shT [], _, rfl, ?_⟩
    have ee : PyData.eqv (.tuple (fr.map triD)) (.tuple []) = decide (fr = []) := by
      rw [PyData.eqv]
      exact triDs_eq fr []
    rw [ee]
    have s12 := s1.trans s2
    have R2 := R1.nl (NL.of s2)
    have hp2 := s2 _ _ hp1
    generalize upd H1 te (.tup []) = H2 at s2 s12 R2 hp2 ⊢
    refine ite2 (fun c => ?_) (fun c => ?_)
    · exact k .non none H2 (.inl (of_decide_eq_true c)) rfl s12
    have fne : fr ≠ [] := fun e => c (decide_eq_true e)
    refine ⟨_, rfl, p, L.c_Routes, dx, _, _, rfl, hp2, T.cf_Routes.cl, T.nf_Routes_common, rtF_c _ _ _ _, aC, rfl, ⟨_, SqT.of R2.hC⟩, fun D hD => ?_⟩
    refine lc_tup (K := K) (a := aC) (xs := xC) (fun j Hx => Hx D = some (.lst (((fr.take j).map fun b => b.1).map V.int)) ∧ Same H2 Hx) ⟨upd_same, Same.upd hD⟩ (fun j Hx _ ⟨_, s⟩ => SqT.of (s _ _ R2.hC)) ?_ ?_
    · rintro j x Hx hxj ⟨hDx, sx⟩
      obtain ⟨b, hb, c0, rfl, hc0⟩ := (R2.bC.nl (NL.of sx)).get hxj
      have hj := (List.getElem?_eq_some_iff.mp hb).1
      refine ⟨rfl, tYes_of ⟨_, rfl, c0, _, 0, .int b.1, rfl, rfl, SqT.of hc0, rfl, _, hDx, small1 (by rw [List.length_map, List.length_map, List.length_take]; omega), ?_, fun u w e => by rw [upd_ne (ne_of_none e hD)]; exact sx _ _ e⟩⟩
      rw [upd_same, List.take_add_one, hb, List.map_append, List.map_append]
      rfl
    rintro H3 ⟨hD3, s3⟩
    rw [xl, List.take_length] at hD3
    refine ⟨D, fr.map fun b => b.1, rfl, SqL.of hD3, by rw [List.length_map]; exact List.length_pos_iff.mpr fne, fun mn h1 h2 => ?_⟩
    obtain ⟨b0, hb0, eb0⟩ := List.mem_map.mp h1
    have hmin : ∀ b ∈ fr, mn ≤ b.1 := fun b hb => h2 _ (List.mem_map.mpr ⟨b, hb, rfl⟩)
    have m1 : 1 ≤ mn := by
      have := (R.okC b0 hb0).1
      omega
    obtain ⟨Ln, rfl⟩ := Int.eq_ofNat_of_zero_le (show 0 ≤ mn by omega)
    have s13 := s12.trans s3
    have R3 := R2.nl (NL.of s3)
    refine ⟨_, rfl, p, L.c_Routes, dx, _, _, rfl, s3 _ _ hp2, T.cf_Routes.cl, T.nf_Routes_common, rtF_c _ _ _ _, aC, xC, rfl, SqT.of R3.hC, fun D2 hD2 => ?_⟩
    refine lc_enumT (K := K) (a := aC) (xs := xC) (fun j Hx => Hx D2 = some (.lst (((List.range j).filter fun k => decide ((fr[k]?.map fun b => b.1) = some (Ln : Int))).map pnV)) ∧ Same H3 Hx) ⟨upd_same, Same.upd hD2⟩ (fun j Hx ⟨_, s⟩ => SqT.of (s _ _ R3.hC)) ?_ ?_
    · rintro j x T' Hx hxj ⟨hDx, sx⟩ hT
      obtain ⟨b, hb, c0, rfl, hc0⟩ := (R3.bC.nl (NL.of sx)).get hxj
      have hj := (List.getElem?_eq_some_iff.mp hb).1
      have sT := Same.upd (o := .tup [.int (j : Nat), .ref c0]) hT
      have hcT := sT _ _ hc0
      have hDT := sT _ _ hDx
      have sxT := sx.trans sT
      have er : ((List.range (j + 1)).filter fun k => decide ((fr[k]?.map fun b => b.1) = some (Ln : Int))) = ((List.range j).filter fun k => decide ((fr[k]?.map fun b => b.1) = some (Ln : Int))) ++ if b.1 = (Ln : Int) then [j] else [] := by
        exact opL_step hb
      rw [er]
      refine ⟨T', _, rfl, SqT.of upd_same, rfl, _, _, rfl, _, _, rfl, rfl, rfl, ?_⟩
      refine ⟨_, rfl, c0, _, 0, .int b.1, rfl, rfl, SqT.of hcT, rfl, _, rfl, rfl, _, rfl, ite2 (fun z => ?_) (fun z => ?_)⟩
      · rw [if_pos (V.int.inj (of_decide_eq_true z)), List.map_append]
        refine ⟨_, rfl, _, hDT, small1 (by rw [List.length_map]; have := List.length_filter_le (fun k => decide ((fr[k]?.map fun b => b.1) = some (Ln : Int))) (List.range j); rw [List.length_range] at this; omega), upd_same, fun u w e => by rw [upd_ne (ne_of_none e hD2)]; exact sxT _ _ e⟩
      · rw [if_neg (fun y => z (decide_eq_true (congrArg V.int y))), List.append_nil]
        exact ⟨hDT, sxT⟩
    rintro H4 ⟨hD4, s4⟩
    have eop : ((List.range xC.length).filter fun k => decide ((fr[k]?.map fun b => b.1) = some (Ln : Int))) = opL fr (Ln : Int) := by
      unfold opL
      rw [xl]
    rw [eop] at hD4
    have s14 := s13.trans s4
    have foG : ∀ j : Nat, (∀ i, i ≤ j → runF (mkD pat dead) i < Ln) → runF (mkD pat dead) (j + 1) = Ln → FoIs fr (mkD pat dead) pat.length (some ((j : Int), opL fr (Ln : Int))) := fun j f1 f2 => ⟨Ln, j, by omega, hmin, ⟨b0, hb0, eb0⟩, rfl, rfl, f1, f2⟩
    obtain ⟨lg, hlg⟩ : ∃ lg, lg = lgO (mkD pat dead) pat.length := ⟨_, rfl⟩
    rw [← hlg]
    cases lg with
    | none =>
      have ha : (List.range pat.length).all (mkD pat dead) = true := by
        unfold lgO at hlg
        by_cases c : (List.range pat.length).all (mkD pat dead) = true
        · exact c
        · rw [if_neg c] at hlg
          cases hlg
      have ea := mkD_all p0 ha
      refine ⟨_, rfl, _, rfl, iteT ⟨_, rfl, _, _, rfl, rfl, _, rfl, (by show 2 ≤ sizeLine; decide), fun tq htq => ?_⟩⟩
      have sq := Same.upd (o := .tup [.int ((Ln : Int) - 1), .ref D2]) htq
      have e1 : ((Ln - 1 : Nat) : Int) = (Ln : Int) - 1 := by omega
      have fo := foG (Ln - 1) (fun i hi => by rw [runF_all ea]; omega) (by rw [runF_all ea]; omega)
      rw [e1] at fo
      exact k (.ref tq) _ _ fo ⟨tq, D2, rfl, upd_same, sq _ _ hD4⟩ (s14.trans sq)
    | some lv =>
      have hna : ¬ (List.range pat.length).all (mkD pat dead) = true := fun c => by
        unfold lgO at hlg
        rw [if_pos c] at hlg
        cases hlg
      have elv : lv = (maxR (mkD pat dead) (2 * pat.length) : Int) := by
        unfold lgO at hlg
        rw [if_neg hna] at hlg
        exact Option.some.inj hlg
      refine ⟨_, rfl, _, rfl, iteF ⟨_, rfl, _, rfl, _, _, rfl, rfl, _, rfl, ite2 (fun c => ?_) (fun c => ?_)⟩⟩
      · have c := of_decide_eq_true c
        exact k .non none H4 (.inr ⟨not_all hna, fun b hb => by have := hmin b hb; omega⟩) rfl s14
      · have c : ¬ lv < (Ln : Int) := fun z => c (decide_eq_true z)
        obtain ⟨i0, hi0, ei0⟩ := maxR_at (mkD pat dead) (2 * pat.length)
        obtain ⟨j, jl, f1, f2⟩ := run_first (m := mkD pat dead) (L := Ln) (by omega) (2 * pat.length) ⟨i0, hi0, by omega⟩
        refine ⟨_, rfl, _, rfl, p, fr, svs, pat, st, d, dead, rfl, RV0.nl (NL.of s14), s14 _ _ hd, fun l H5 hl s5 n5 => ?_⟩
        refine ⟨.inl ⟨rfl, _, SqL.of hl⟩, _, rfl, l, (rnL (mkD pat dead) (2 * pat.length)).map V.int, .int (Ln : Int), j, .int (runF (mkD pat dead) (j + 1) : Int), rfl, rfl, SqL.of hl, rfl, flat_ints' _, rnL_get jl, by rw [eqV_int, f2]; exact decide_eq_true rfl, fun m z hm hz => ?_, _, rfl, (by show 2 ≤ sizeLine; decide), fun tq htq => ?_⟩
        · rw [rnL_get (by omega)] at hz
          cases hz
          rw [eqV_int]
          have := f1 (m + 1) (by omega)
          exact decide_eq_false (by omega)
        · have sq := Same.upd (o := .tup [.int (j : Int), .ref D2]) htq
          exact k (.ref tq) _ _ (foG j f1 f2) ⟨tq, D2, rfl, upd_same, sq _ _ (s5 _ _ hD4)⟩ ((s14.trans s5).trans sq)
theorem ok_firstopening (T : LX K mg L) : Cal P w K mg base "first_opening" 5 L.f_first_opening ["routes", "down"] (spFirst L.c_Routes) := T.d_first_opening.cal fun fd F => fn_firstopening T F
end
/-! ### try with one clause that names two classes -/
section
variable {X : Cx} {body : List Stmt} {b₀ : Stmt} {suite : List Stmt} {pos pos' p1 p2 tpos : Pos} {kk : Nat} {x1 x2 : Str} {c1 c2 : Value} {tb : L2.WX → TS} {ts : Addr → Value → Option Addr → TS}
/-- what the clause asks of an error of the body -/
def wPair (K : PySem.W.Frag) (c1 c2 : Value) (D : Ends) (ts : Addr → Value → Option Addr → TS) : L2.WX := fun cls d σ H => PySem.W.exmAny K cls [c1, c2] = some true ∧ ∀ a, H a = none → ts a cls d D σ H
theorem ps_try_pair (stk : X.stack = X.env :: X.outer) (frm : X.env.frame = some X.env.locals)
    (hbody : ∀ (W : L2.WX) (pn : List (Addr × Obj)) (xe : Value → Shared → Prop), L2.Takes (X.tr pn xe) W → PassesOwn (model X.prog X.w) X.A X.env xe → PSs (X.tr pn xe) body (tb W)) (n1 : L2.Names X x1 c1) (n2 : L2.Names X x2 c2)
    (hsu : ∀ (a : Addr) (oe : Obj) (cls : Value) (d : Option Addr) (pn : List (Addr × Obj)), L2.Zc cls d oe → (∃ vs, oe.data = .fields vs) → PSs (X.suite a ((a, oe) :: pn)) (b₀ :: suite) (ts a cls d)) :
    PS X (.Try body [.ExceptHandler (some (.Tuple [.Name x1 p1, .Name x2 p2] kk tpos)) none (b₀ :: suite) pos'] [] [] pos) (fun D σ H => tb (wPair X.K c1 c2 D ts) D σ H) := by
  refine ⟨fun pins s σ H D I start => ?_⟩
  have good := I.ok
  have frames : X.A.frames = some (X.env :: X.outer) := by rw [good.frames, stk]
  refine wpAny_Try_except ?_
  refine wpAny_mono ((hbody (wPair X.K c1 c2 D ts) (X.pn ++ pins) (fun er sA => wpAny (model X.prog X.w) X.A (noteFrame er X.env) (fun _ sB => wpAny (model X.prog X.w) X.A (setFlight er none) (fun _ sC => wpAny (model X.prog X.w) X.A (handleBy er X.env [.ExceptHandler (some (.Tuple [.Name x1 p1, .Name x2 p2] kk tpos)) none (b₀ :: suite) pos']) (SP X pins D) X.xe sC) X.xe sB) X.xe sA) (fun u sX flying => ?_) PassesOwn.looking).run [] s σ H D (I.toTry _) start) (fun fl sN ended => ?_) (fun er sE o => o)
  rotate_left
  · match fl, ended with
    | .next, ⟨_, _, JN, q⟩ => exact wpAny_execs_nil ⟨_, _, JN.ofTry good, q⟩
    | .brk, ⟨_, _, JN, q⟩ => exact ⟨_, _, JN.ofTry good, q⟩
    | .cont, ⟨_, _, JN, q⟩ => exact ⟨_, _, JN.ofTry good, q⟩
    | .ret _, ⟨_, _, _, JN, r, q⟩ => exact ⟨_, _, _, JN.ofTry good, r, q⟩
  obtain ⟨ea, Bs, sI, pinsI, σI, HI, cls, d, rfl, JI, nbase, upS, skyS, fresh, osE, bareE, look, wish⟩ := flying
  have J := JI.ofTry good
  have skyX : L2.Sky Bs (X.env :: X.outer) ea (L2.Zc cls d) X.env.locals sX.heap := stk ▸ skyS
  show wpAny (model X.prog X.w) X.A (noteFrame (.ref ea) X.env) _ _ _
  refine L2.Sky.land L2.Zc.steady frames frm skyX fun hL flL upL => ?_
  have JL : Inv X pins σI HI { sX with heap := hL } := J.landed nbase flL.1 (upS.trans upL) osE bareE
  obtain ⟨oL, vL, getL, zL, dataL⟩ := flL.there
  have noFrame : ea ∉ frs (X.env :: X.outer) := fun mem => by
    obtain ⟨_, oM, getM, notFields⟩ := flL.2.2.1.mem mem
    rw [getL] at getM
    exact notFields _ (by cases getM; exact dataL)
  have notLocals : ea ≠ X.env.locals := fun eq => noFrame (List.mem_filterMap.mpr ⟨X.env, List.mem_cons_self, by rw [frm, eq]⟩)
  have notOuter : ea ∉ X.fs := fun mem => let ⟨en, inO, fr⟩ := List.mem_filterMap.mp mem; noFrame (List.mem_filterMap.mpr ⟨en, List.mem_cons_of_mem _ inO, fr⟩)
  have SL := JL.suite getL dataL fresh notLocals notOuter
  have named : ∀ {x : Str} {c : Value} {np : Pos} {Q E : Value → Shared → Prop}, L2.Names X x c → Q c { sX with heap := hL } → wpAny (model X.prog X.w) (X.A.mark (some (.ref ea))) (eval (.Name x np) X.env) Q E { sX with heap := hL } := by
    rintro x c np Q E ⟨glob, dbg, own | ⟨free, boot, notNone⟩⟩ goal
    · exact L2.ld_glob (X := X.suite ea ((ea, oL) :: (X.pn ++ pins))) SL glob own goal dbg
    · exact L2.ld_blt (X := X.suite ea ((ea, oL) :: (X.pn ++ pins))) SL glob free boot goal notNone dbg
  have typed : PySem.W.Looks (model X.prog X.w) hL (typeOf (.ref ea)) cls := fun _ _ _ _ more res => wpAny_typeOf_ref (more _ _ getL) (by rw [zL.1]; exact res)
  have kp : ∀ q o, hL.get? q = some o → (hL.push { cls := .type "tuple", data := .seq [c1, c2].toArray }).get? q = some o := fun _ _ z => Heap.get?_push_of_some _ z
  have kIn : X.K.In hL := JL.kIn
  refine wpAny_handleBy_cons (codeAny_handlers_test ?_) (fun q => nomatch q)
  refine wpAny_Tuple ?_
  refine wpAny_items_cons (named n1 ?_)
  refine wpAny_items_cons (named n2 ?_)
  refine wpAny_items_nil ⟨by size_fits, ?_⟩
  refine (PySem.W.exm_tup2 (M := model X.prog X.w) (kIn.keeps kp) (typed.keeps kp) (Heap.get?_push_size hL rfl) look).here ?_
  refine codeAny_handlers_suite ?_
  have flP : HandSPX.FlyingZ Bs (X.env :: X.outer) ea (L2.Zc cls d) (hL.push { cls := .type "tuple", data := .seq [c1, c2].toArray }) := by
    obtain ⟨f1, f2, f3, oe, vs, T, oT, ts, he, hz, hd, h1, hn, hne, hT, hdT, h3⟩ := flL
    exact ⟨fun b o q => kp b o (f1 b o q), f2, f3.of_keeps fun b o q _ => ⟨o, kp b o q, rfl⟩, oe, vs, T, oT, ts, kp _ _ he, hz, hd, h1, hn, hne, kp _ _ hT, hdT, h3⟩
  have upP : hL.UpToSlots (hL.push { cls := .type "tuple", data := .seq [c1, c2].toArray }) := Heap.UpToSlots.of_keeps kp
  refine HandSPX.lands_againZ flP fun hM flM upM => ?_
  obtain ⟨oM, vM, getM, zM, dataM⟩ := flM.there
  have JM : Inv X pins σI HI { sX with heap := hM } := J.landed nbase flM.1 ((upS.trans upL).trans (upP.trans upM)) osE bareE
  have SM := JM.suite getM dataM fresh notLocals notOuter
  refine wpAny_mono ((hsu ea oM cls d (X.pn ++ pins) zM ⟨_, dataM⟩).run [] _ _ HI _ SM (wish ea fresh)) (fun fl sE done_ => ?_) (fun _ _ z => z.elim)
  match fl, done_ with
  | .next, ⟨_, _, SE, q⟩ => exact ⟨_, _, SE.unsuite good, q⟩
  | .brk, ⟨_, _, SE, q⟩ => exact ⟨_, _, SE.unsuite good, q⟩
  | .cont, ⟨_, _, SE, q⟩ => exact ⟨_, _, SE.unsuite good, q⟩
  | .ret _, ⟨_, _, _, SE, rv, q⟩ => exact ⟨_, _, _, SE.unsuite good, rv, q⟩
end
theorem exm_any2 {K : PySem.W.Frag} {cls c1 c2 : Value} {b1 b2 : Bool} (h1 : PySem.W.exmOne K cls c1 = some b1) (h2 : PySem.W.exmOne K cls c2 = some b2) : PySem.W.exmAny K cls [c1, c2] = some (b1 || b2) := by
  simp only [PySem.W.exmAny, h1, h2]
  cases b1 <;> cases b2 <;> rfl
/-! ### k59: what is no list of breakers, of outages, of services, no pattern -/
theorem FnOk.or0 {P : Program} {w : World} {K : PySem.W.Frag} {mg : Str → Option Value} {base : Heap} {CX : CXT} {k : Nat} {f : Addr} {fd : FuncData} {ps : List Str} {sp1 sp2 : Sp} (F1 : FnOk P w K mg base CX k f fd ps sp1) (F2 : FnOk P w K mg base CX k f fd ps sp2) : FnOk P w K mg base CX k f fd ps (fun vs H Q E => sp1 vs H Q E ∨ sp2 vs H Q E) :=
  ⟨fun vs H Q E h => h.elim (F1.len vs H Q E) (F2.len vs H Q E), fun A outer s H args us vs Q E hr e0 hb hv h => h.elim (F1.run A outer s H args us vs Q E hr e0 hb hv) (F2.run A outer s H args us vs Q E hr e0 hb hv)⟩
theorem FnOk.orX {P : Program} {w : World} {K : PySem.W.Frag} {mg : Str → Option Value} {base : Heap} {k : Nat} {f : Addr} {fd : FuncData} {ps : List Str} {sp1 sp2 : Sp} (F1 : FnOk P w K mg base CX0 k f fd ps sp1) (F2 : FnOk P w K mg base (L2.CX P w) k f fd ps sp2) : FnOk P w K mg base (L2.CX P w) k f fd ps (fun vs H Q E => sp1 vs H Q E0 ∨ sp2 vs H Q E) := by
  refine ⟨fun vs H Q E h => h.elim (F1.len vs H Q E0) (F2.len vs H Q E), fun A outer s H args us vs Q E hr e0 hb hv h => ?_⟩
  rcases h with h | h
  · refine codeAny_mono (F1.run A outer s H args us vs Q E0 hr e0 hb hv h) fun r s' z => ?_
    cases r with
    | error e => exact z.elim
    | ok fl => cases fl <;> exact z
  · exact F2.run A outer s H args us vs Q E hr e0 hb hv h
theorem Kd.sameK {H H' : Hp} {v : V} {nm : String} (k : Kd H v nm) (s : Same H H') : Kd H' v nm := by
  cases k with
  | non => exact .non
  | bl b => exact .bl b
  | int i => exact .int i
  | str x => exact .str x
  | lst e => exact .lst (s _ _ e)
  | tup e => exact .tup (s _ _ e)
  | dK e => exact .dK (s _ _ e)
inductive NoBr (H : Hp) : V → Prop
  | kind {v : V} {nm : String} (k : Kd H v nm) (n : nm ≠ "tuple") : NoBr H v
  | len {a : Addr} {xs : List V} (e : H a = some (.tup xs)) (n : xs.length ≠ 3) : NoBr H (.ref a)
  | num {a : Addr} {x y z : V} {n1 n2 n3 : String} (e : H a = some (.tup [x, y, z])) (k1 : Kd H x n1) (k2 : Kd H y n2) (k3 : Kd H z n3)
      (bad : ((isI x && (decide (1 ≤ toI x) && decide (toI x ≤ 1000000000000))) && ((isI y && (decide (1 ≤ toI y) && decide (toI y ≤ 1000000000000000000000000000000))) && (isI z && (decide (1 ≤ toI z) && decide (toI z ≤ 1000000000000))))) = false) : NoBr H (.ref a)
theorem NoBr.same {H H' : Hp} {v : V} (h : NoBr H v) (s : Same H H') : NoBr H' v := by
  cases h with
  | kind k n => exact .kind (Kd.sameK k s) n
  | len e n => exact .len (s _ _ e) n
  | num e k1 k2 k3 bad => exact .num (s _ _ e) (Kd.sameK k1 s) (Kd.sameK k2 s) (Kd.sameK k3 s) bad
def spIsBrN : Sp := fun vs H Q _ => ∃ x, vs = [x] ∧ NoBr H x ∧ Q (.bl false) H

inductive NoOut (H : Hp) : V → Prop
  | kind {v : V} {nm : String} (k : Kd H v nm) (n : nm ≠ "tuple") : NoOut H v
  | len {a : Addr} {xs : List V} (e : H a = some (.tup xs)) (n : xs.length ≠ 2) : NoOut H (.ref a)
  | num {a : Addr} {x y : V} {n1 n2 : String} (e : H a = some (.tup [x, y])) (k1 : Kd H x n1) (k2 : Kd H y n2) (bad : ((isI x && decide (0 ≤ toI x)) && (isI y && (decide (toI x + 1 ≤ toI y) && decide (toI y ≤ 1000000000000000000000000000000)))) = false) : NoOut H (.ref a)
theorem NoOut.same {H H' : Hp} {v : V} (h : NoOut H v) (s : Same H H') : NoOut H' v := by
  cases h with
  | kind k n => exact .kind (Kd.sameK k s) n
  | len e n => exact .len (s _ _ e) n
  | num e k1 k2 bad => exact .num (s _ _ e) (Kd.sameK k1 s) (Kd.sameK k2 s) bad
def spIsOutN : Sp := fun vs H Q _ => ∃ x, vs = [x] ∧ NoOut H x ∧ Q (.bl false) H
def OkOut (o : Int × Int) : Prop := 0 ≤ o.1 ∧ o.1 < o.2 ∧ o.2 ≤ 1000000000000000000000000000000
inductive BrsBad (H : Hp) : V → Int → Prop
  | kind {v : V} {nm : String} (k : Kd H v nm) (n : nm ≠ "list") : BrsBad H v (-1)
  | many {a : Addr} {xs : List V} (e : H a = some (.lst xs)) (m : 12 < xs.length) : BrsBad H (.ref a) (-1)
  | item {a : Addr} {pre post : List V} {x : V} {ts : List Tri} (e : H a = some (.lst (pre ++ x :: post))) (hb : Brs H pre ts) (ok : ∀ t ∈ ts, OkT t) (ln : (pre ++ x :: post).length ≤ 12) (bad : NoBr H x) : BrsBad H (.ref a) pre.length
theorem Brs.sameB {H H' : Hp} {xs : List V} {ts : List Tri} (h : Brs H xs ts) (s : Same H H') : Brs H' xs ts := h.nl (NL.of s)
theorem BrsBad.same {H H' : Hp} {v : V} {i : Int} (h : BrsBad H v i) (s : Same H H') : BrsBad H' v i := by
  cases h with
  | kind k n => exact .kind (Kd.sameK k s) n
  | many e m => exact .many (s _ _ e) m
  | item e hb ok ln bad => exact .item (s _ _ e) (hb.sameB s) ok ln (bad.same s)
inductive OutBad (H : Hp) : V → Int → Prop
  | kind {v : V} {nm : String} (k : Kd H v nm) (n : nm ≠ "list") : OutBad H v (-1)
  | first {a : Addr} {post : List V} {x : V} (e : H a = some (.lst (x :: post))) (ln : (x :: post).length ≤ 50) (bad : NoOut H x) : OutBad H (.ref a) 0
  | touch {a : Addr} {post : List V} {y x : V} {p o : Int × Int} (e : H a = some (.lst (y :: x :: post))) (ln : (y :: x :: post).length ≤ 50) (hy : OtAt H y (p.1, some p.2)) (oy : OkOut p) (hx : OtAt H x (o.1, some o.2)) (ox : OkOut o) (t : o.1 ≤ p.2) : OutBad H (.ref a) 1
theorem OutBad.same {H H' : Hp} {v : V} {i : Int} (h : OutBad H v i) (s : Same H H') : OutBad H' v i := by
  cases h with
  | kind k n => exact .kind (Kd.sameK k s) n
  | first e ln bad => exact .first (s _ _ e) ln (bad.same s)
  | touch e ln hy oy hx ox t => exact .touch (s _ _ e) ln (hy.same s) oy (hx.same s) ox t
def spBrkX (L : LA) : Sp := fun vs H _ E => ∃ v pt i, vs = [v, .str pt] ∧ BrsBad H v i ∧ ∀ d H', H' d = some (.xd [("at", .int i), ("part", .str pt)]) → Same H H' → E (.ref L.e_InvalidRow) (some d) H'
def spOutX (L : LA) : Sp := fun vs H _ E => ∃ v i, vs = [v] ∧ OutBad H v i ∧ ∀ d H', H' d = some (.xd [("at", .int i)]) → Same H H' → E (.ref L.e_InvalidOutages) (some d) H'
/-- not a service -/
inductive NoSvc (H : Hp) : V → Prop
  | kind {v : V} {nm : String} (k : Kd H v nm) (n : nm ≠ "tuple") : NoSvc H v
  | len {a : Addr} {xs : List V} (e : H a = some (.tup xs)) (n : xs.length ≠ 2) : NoSvc H (.ref a)
  | brs {a : Addr} {b o : V} {i : Int} (e : H a = some (.tup [b, o])) (bad : BrsBad H b i) : NoSvc H (.ref a)
  | outs {a ab : Addr} {o : V} {xb : List V} {ts : List Tri} {i : Int} (e : H a = some (.tup [.ref ab, o])) (hl : H ab = some (.lst xb)) (hb : Brs H xb ts) (ok : ∀ t ∈ ts, OkT t) (ln : ts.length ≤ 12) (bad : OutBad H o i) : NoSvc H (.ref a)
theorem NoSvc.same {H H' : Hp} {v : V} (h : NoSvc H v) (s : Same H H') : NoSvc H' v := by
  cases h with
  | kind k n => exact .kind (Kd.sameK k s) n
  | len e n => exact .len (s _ _ e) n
  | brs e bad => exact .brs (s _ _ e) (bad.same s)
  | outs e hl hb ok ln bad => exact .outs (s _ _ e) (s _ _ hl) (hb.sameB s) ok ln (bad.same s)
def spIsSvN : Sp := fun vs H Q _ => ∃ v, vs = [v] ∧ NoSvc H v ∧ ∀ H', Same H H' → Q (.bl false) H'
inductive SvcBad (H : Hp) : V → Int → Prop
  | kind {v : V} {nm : String} (k : Kd H v nm) (n : nm ≠ "list") : SvcBad H v (-1)
  | size {a : Addr} {xs : List V} (e : H a = some (.lst xs)) (m : xs.length = 0 ∨ 10 < xs.length) : SvcBad H (.ref a) (-1)
  | item {a : Addr} {pre post : List V} {x : V} {svs : List Svc} (e : H a = some (.lst (pre ++ x :: post))) (hs : Paired (SlAt H) pre svs) (ok : ∀ s ∈ svs, OkSv s) (ln : (pre ++ x :: post).length ≤ 10) (bad : NoSvc H x) : SvcBad H (.ref a) pre.length
theorem SvcBad.same {H H' : Hp} {v : V} {i : Int} (h : SvcBad H v i) (s : Same H H') : SvcBad H' v i := by
  cases h with
  | kind k n => exact .kind (Kd.sameK k s) n
  | size e m => exact .size (s _ _ e) m
  | item e hs ok ln bad => exact .item (s _ _ e) (L2.Paired.mapP hs fun _ _ z => z.same s) ok ln (bad.same s)
def spSvcX (L : LA) : Sp := fun vs H _ E => ∃ v i, vs = [v] ∧ SvcBad H v i ∧ ∀ d H', H' d = some (.xd [("at", .int i), ("part", .str "services")]) → Same H H' → E (.ref L.e_InvalidRow) (some d) H'
inductive PatBad (H : Hp) (n : Nat) : V → Int → Prop
  | kind {v : V} {nm : String} (k : Kd H v nm) (c : nm ≠ "list") : PatBad H n v (-1)
  | size {a : Addr} {xs : List V} (e : H a = some (.lst xs)) (m : xs.length = 0 ∨ 20 < xs.length) : PatBad H n (.ref a) (-1)
  | item {a : Addr} {pre : List Nat} {post : List V} {x : V} {nm : String} (e : H a = some (.lst (pre.map pnV ++ x :: post))) (pb : ∀ k ∈ pre, k < n) (ln : (pre.map pnV ++ x :: post).length ≤ 20) (k : Kd H x nm) (bad : (isI x && (decide (0 ≤ toI x) && decide (toI x ≤ (n : Int) - 1))) = false) : PatBad H n (.ref a) pre.length
theorem PatBad.same {H H' : Hp} {n : Nat} {v : V} {i : Int} (h : PatBad H n v i) (s : Same H H') : PatBad H' n v i := by
  cases h with
  | kind k n => exact .kind (Kd.sameK k s) n
  | size e m => exact .size (s _ _ e) m
  | item e pb ln k bad => exact .item (s _ _ e) pb ln (Kd.sameK k s) bad
def spPatX (L : LA) : Sp := fun vs H _ E => ∃ v i, ∃ n : Nat, vs = [v, .int (n : Int)] ∧ PatBad H n v i ∧ ∀ d H', H' d = some (.xd [("at", .int i), ("part", .str "pattern")]) → Same H H' → E (.ref L.e_InvalidRow) (some d) H'
def StpBad (H : Hp) (v : V) : Prop := ∃ nm, Kd H v nm ∧ (isI v && (decide (1 ≤ toI v) && decide (toI v ≤ 1000000000000000000000000000000))) = false
theorem StpBad.same {H H' : Hp} {v : V} (h : StpBad H v) (s : Same H H') : StpBad H' v := by
  obtain ⟨nm, k, b⟩ := h
  exact ⟨nm, Kd.sameK k s, b⟩
def spStpX (L : LA) : Sp := fun vs H _ E => ∃ v, vs = [v] ∧ StpBad H v ∧ ∀ d H', H' d = some (.xd [("at", .int (-1)), ("part", .str "step")]) → Same H H' → E (.ref L.e_InvalidRow) (some d) H'
namespace N
section
variable {P : Program} {w : World} {K : PySem.W.Frag} {mg : Str → Option Value} {base : Heap} {L : LA}
abbrev N_isbreaker : List Str := ["value", "failures", "wait", "successes"]
theorem sc_isbreaker : FnScope N_isbreaker ["value"] (defScope st_is_breaker) := ⟨rfl, rfl, rfl, by decide +kernel, rfl, by decide +kernel, by decide +kernel⟩
theorem fn_isbreaker (T : LX K mg L) {fd : FuncData} (F : Fun K "is_breaker" "is_breaker" st_is_breaker L.f_is_breaker fd) : FnOk P w K mg base CX0 3 L.f_is_breaker fd ["value"] (spIsBrN) := by
  have G_iswithin := ok_iswithin (P := P) (w := w) (base := base) T
  obtain ⟨tk_MOST_COUNT, c_MOST_COUNT⟩ := T.n_MOST_COUNT
  obtain ⟨tk_MOST_TIME, c_MOST_TIME⟩ := T.n_MOST_TIME
  have nd := sc_isbreaker.nd
  refine F.ok sc_isbreaker (fun vs H Q E h => ?_) (fun cdv A outer S H vs Q E hr h => ?_)
  · obtain ⟨x, rfl, _⟩ := h
    rfl
  · obtain ⟨x, rfl, nt, k⟩ := h
    refine ⟨_, (pss_cons (ps_if (PW.pt (pw_or (pt_not (pt_val (pe_callB call_isi (by rfl) T.b_isinstance (by decide +kernel) (pa_cons (pv 0) (pa_cons (pe_bltn (by rfl) T.b_tuple (by decide +kernel : bootBuiltins "tuple" = some (.type "tuple")) (v := .ty "tuple") rfl) pa_nil))))) (pw_or1 (pt_cmpR op_ne (pe_callB call_len_seq (by rfl) T.b_len PySem.boot_len (pa_cons (pv 0) pa_nil)) pe_int (nomark _))))) (pss_one (ps_ret pe_bl)) pss_nil)
       (pss_cons (ps_asg (pv 0) (pg_tup rfl (pgs_cons (pg_name (i := 1) nd rfl (Or.inl rfl)) (pgs_cons (pg_name (i := 2) nd rfl (Or.inl rfl)) (pgs_cons (pg_name (i := 3) nd rfl (Or.inl rfl)) pgs_nil)))))
       (pss_one (ps_ret (pe_and (pe_c G_iswithin (hr.mono (by decide)) rfl (pa_cons (pv 1) (pa_cons pe_int (pa_cons (pe_gI c_MOST_COUNT) pa_nil)))) (pe_and (pe_c G_iswithin (hr.mono (by decide)) rfl (pa_cons (pv 2) (pa_cons pe_int (pa_cons (pe_gI c_MOST_TIME) pa_nil)))) (pe_one (pe_c G_iswithin (hr.mono (by decide)) rfl (pa_cons (pv 3) (pa_cons pe_int (pa_cons (pe_gI c_MOST_COUNT) pa_nil))))))))))), ?_⟩
    cases nt with
    | @kind _ nm kd n =>
      refine ⟨_, rfl, _, .ty "tuple", _, _, _, rfl, .ty "tuple", kd.ty, kd.kit "tuple" _ (.inr ⟨by decide, by decide, rfl⟩), _, rfl, ?_⟩
      rw [show (nm == "tuple") = false from beq_false_of_ne n]
      exact iteT (iteT k)
    | @len a xs e n =>
      refine ⟨_, rfl, _, .ty "tuple", _, _, _, rfl, .ty "tuple", (Kd.tup e).ty, (Kd.tup e).kit "tuple" _ (.inr ⟨by decide, by decide, rfl⟩), _, rfl, iteF ?_⟩
      refine ⟨_, rfl, a, _, rfl, .inr (SqT.of e), rfl, _, rfl, ?_⟩
      rw [show (!decide (V.int (xs.length : Int) = V.int 3)) = true by
        rw [decide_eq_false fun z => n (by have := V.int.inj z; omega)]
        rfl]
      exact iteT k
    | @num a x y z n1 n2 n3 e k1 k2 k3 bad =>
      refine ⟨_, rfl, _, .ty "tuple", _, _, _, rfl, .ty "tuple", (Kd.tup e).ty, (Kd.tup e).kit "tuple" _ (.inr ⟨by decide, by decide, rfl⟩), _, rfl, iteF ?_⟩
      refine ⟨_, rfl, a, _, rfl, .inr (SqT.of e), rfl, _, rfl, iteF ?_⟩
      refine ⟨_, rfl, a, _, rfl, SqT.of e, rfl, _, _, rfl, _, _, rfl, _, _, rfl, rfl, ?_⟩
      refine ⟨_, rfl, _, _, _, _, rfl, k1, _, rfl, ?_⟩
      show if (isI x && (decide (1 ≤ toI x) && decide (toI x ≤ 1000000000000))) = true then _ else _
      cases b1 : (isI x && (decide (1 ≤ toI x) && decide (toI x ≤ 1000000000000))) with
      | false => exact iteF k
      | true =>
        rw [b1, Bool.true_and] at bad
        refine iteT ⟨_, rfl, _, _, _, _, rfl, k2, _, rfl, ?_⟩
        show if (isI y && (decide (1 ≤ toI y) && decide (toI y ≤ 1000000000000000000000000000000))) = true then _ else _
        cases b2 : (isI y && (decide (1 ≤ toI y) && decide (toI y ≤ 1000000000000000000000000000000))) with
        | false => exact iteF k
        | true =>
          rw [b2, Bool.true_and] at bad
          refine iteT ⟨_, rfl, _, _, _, _, rfl, k3, ?_⟩
          show Q (.bl (isI z && (decide (1 ≤ toI z) && decide (toI z ≤ 1000000000000)))) H
          rw [bad]
          exact k
theorem ok_isbreaker (T : LX K mg L) : Cal P w K mg base "is_breaker" 3 L.f_is_breaker ["value"] (spIsBrN) := T.d_is_breaker.cal fun fd F => fn_isbreaker T F
abbrev N_isoutage : List Str := ["value", "begin", "end"]
theorem sc_isoutage : FnScope N_isoutage ["value"] (defScope st_is_outage) := ⟨rfl, rfl, rfl, by decide +kernel, rfl, by decide +kernel, by decide +kernel⟩
theorem fn_isoutage (T : LX K mg L) {fd : FuncData} (F : Fun K "is_outage" "is_outage" st_is_outage L.f_is_outage fd) : FnOk P w K mg base CX0 3 L.f_is_outage fd ["value"] (spIsOutN) := by
  have G_isatleast := ok_isatleast (P := P) (w := w) (base := base) T
  have G_iswithin := ok_iswithin (P := P) (w := w) (base := base) T
  obtain ⟨tk_MOST_TIME, c_MOST_TIME⟩ := T.n_MOST_TIME
  have nd := sc_isoutage.nd
  refine F.ok sc_isoutage (fun vs H Q E h => ?_) (fun cdv A outer S H vs Q E hr h => ?_)
  · obtain ⟨x, rfl, _⟩ := h
    rfl
  · obtain ⟨x, rfl, nt, k⟩ := h
    refine ⟨_, (pss_cons (ps_if (PW.pt (pw_or (pt_not (pt_val (pe_callB call_isi (by rfl) T.b_isinstance (by decide +kernel) (pa_cons (pv 0) (pa_cons (pe_bltn (by rfl) T.b_tuple (by decide +kernel : bootBuiltins "tuple" = some (.type "tuple")) (v := .ty "tuple") rfl) pa_nil))))) (pw_or1 (pt_cmpR op_ne (pe_callB call_len_seq (by rfl) T.b_len PySem.boot_len (pa_cons (pv 0) pa_nil)) pe_int (nomark _))))) (pss_one (ps_ret pe_bl)) pss_nil)
       (pss_cons (ps_asg (pv 0) (pg_tup rfl (pgs_cons (pg_name (i := 1) nd rfl (Or.inl rfl)) (pgs_cons (pg_name (i := 2) nd rfl (Or.inl rfl)) pgs_nil))))
       (pss_one (ps_ret (pe_and (pe_c G_isatleast (hr.mono (by decide)) rfl (pa_cons (pv 1) (pa_cons pe_int pa_nil))) (pe_one (pe_c G_iswithin (hr.mono (by decide)) rfl (pa_cons (pv 2) (pa_cons (pe_op op_add (pv 1) pe_int) (pa_cons (pe_gI c_MOST_TIME) pa_nil)))))))))), ?_⟩
    cases nt with
    | @kind _ nm kd n =>
      refine ⟨_, rfl, _, .ty "tuple", _, _, _, rfl, .ty "tuple", kd.ty, kd.kit "tuple" _ (.inr ⟨by decide, by decide, rfl⟩), _, rfl, ?_⟩
      rw [show (nm == "tuple") = false from beq_false_of_ne n]
      exact iteT (iteT k)
    | @len a xs e n =>
      refine ⟨_, rfl, _, .ty "tuple", _, _, _, rfl, .ty "tuple", (Kd.tup e).ty, (Kd.tup e).kit "tuple" _ (.inr ⟨by decide, by decide, rfl⟩), _, rfl, iteF ?_⟩
      refine ⟨_, rfl, a, _, rfl, .inr (SqT.of e), rfl, _, rfl, ?_⟩
      rw [show (!decide (V.int (xs.length : Int) = V.int 2)) = true by
        rw [decide_eq_false fun z => n (by have := V.int.inj z; omega)]
        rfl]
      exact iteT k
    | @num a x y n1 n2 e k1 k2 bad =>
      refine ⟨_, rfl, _, .ty "tuple", _, _, _, rfl, .ty "tuple", (Kd.tup e).ty, (Kd.tup e).kit "tuple" _ (.inr ⟨by decide, by decide, rfl⟩), _, rfl, iteF ?_⟩
      refine ⟨_, rfl, a, _, rfl, .inr (SqT.of e), rfl, _, rfl, iteF ?_⟩
      refine ⟨_, rfl, a, _, rfl, SqT.of e, rfl, _, _, rfl, _, _, rfl, rfl, ?_⟩
      refine ⟨_, rfl, _, _, _, rfl, k1, _, rfl, ?_⟩
      cases b1 : (isI x && decide (0 ≤ toI x)) with
      | false => exact iteF k
      | true =>
        rw [b1, Bool.true_and] at bad
        cases x with
        | int i =>
          refine iteT ⟨_, rfl, _, rfl, _, _, rfl, rfl, _, _, _, _, rfl, k2, ?_⟩
          have bad : (isI y && (decide (i + 1 ≤ toI y) && decide (toI y ≤ 1000000000000000000000000000000))) = false := bad
          rw [bad]
          exact k
        | _ => exact absurd b1 (by simp [isI])
theorem ok_isoutage (T : LX K mg L) : Cal P w K mg base "is_outage" 3 L.f_is_outage ["value"] (spIsOutN) := T.d_is_outage.cal fun fd F => fn_isoutage T F
end
end N
namespace EX
section
variable {P : Program} {w : World} {K : PySem.W.Frag} {mg : Str → Option Value} {base : Heap} {L : LA}
theorem ok_isbreaker (T : LX K mg L) : Cal P w K mg base "is_breaker" 3 L.f_is_breaker ["value"] (fun vs H Q E => spIsBr vs H Q E ∨ spIsBrN vs H Q E) := T.d_is_breaker.cal fun fd F => FnOk.or0 (fn_isbreaker T F) (N.fn_isbreaker T F)
theorem ok_isoutage (T : LX K mg L) : Cal P w K mg base "is_outage" 3 L.f_is_outage ["value"] (fun vs H Q E => spIsOut vs H Q E ∨ spIsOutN vs H Q E) := T.d_is_outage.cal fun fd F => FnOk.or0 (fn_isoutage T F) (N.fn_isoutage T F)
namespace R
theorem fn_checkbreakers (T : LX K mg L) {fd : FuncData} (F : Fun K "check_breakers" "check_breakers" st_check_breakers L.f_check_breakers fd) : FnOk P w K mg base (L2.CX P w) 4 L.f_check_breakers fd ["breakers", "part"] (spBrkX L) := by
  obtain ⟨tk_MOST_BREAKERS, c_MOST_BREAKERS⟩ := T.n_MOST_BREAKERS
  have G_isbreaker := ok_isbreaker (P := P) (w := w) (base := base) T
  have nd := sc_checkbreakers.nd
  refine F.okX sc_checkbreakers (fun vs H Q E h => ?_) (fun cdv A outer S H vs Q E hr h => ?_)
  · obtain ⟨v, pt, i, rfl, _⟩ := h
    rfl
  · obtain ⟨v, pt, i, rfl, bad, k⟩ := h
    refine ⟨_, (pss_cons (ps_if (PW.pt (pw_or (pt_not (pt_val (pe_callB call_isi (by rfl) T.b_isinstance (by decide +kernel) (pa_cons (pv 0) (pa_cons (pe_bltn (by rfl) T.b_list (by decide +kernel : bootBuiltins "list" = some (.type "list")) (v := .ty "list") rfl) pa_nil))))) (pw_or1 (pt_cmpR op_gt (pe_callB call_len_seq (by rfl) T.b_len PySem.boot_len (pa_cons (pv 0) pa_nil)) (pe_gI c_MOST_BREAKERS) (nomark _))))) (pss_one (ps_raise rfl (takes_of rfl rfl rfl rfl) (mk_InvalidRow T (hr.mono (by decide)) rfl (pa_cons (pv 1) (pa_cons (pe_un un_neg pe_int) pa_nil))))) pss_nil)
       (pss_one (ps_for (passes_of rfl) rfl (pi_enum (by rfl) T.b_enumerate (pa_cons (pv 0) pa_nil)) (pg_tup rfl (pgs_cons (pg_name (i := 2) nd rfl (Or.inl rfl)) (pgs_cons (pg_name (i := 3) nd rfl (Or.inl rfl)) pgs_nil))) (pss_one (ps_if (pt_not (pt_val (pe_c G_isbreaker (hr.mono (by decide)) rfl (pa_cons (pv 3) pa_nil)))) (pss_one (ps_raise rfl (takes_of rfl rfl rfl rfl) (mk_InvalidRow T (hr.mono (by decide)) rfl (pa_cons (pv 1) (pa_cons (pv 2) pa_nil))))) pss_nil))))), ?_⟩
    cases bad with
    | @kind _ nm kd n =>
      refine ⟨_, rfl, _, .ty "list", _, _, _, rfl, .ty "list", kd.ty, kd.kit "list" _ (.inr ⟨by decide, by decide, rfl⟩), _, rfl, ?_⟩
      rw [show (nm == "list") = false from beq_false_of_ne n]
      exact iteT (iteT ⟨_, rfl, 1, rfl, (by show 2 ≤ 1000; decide), fun e he => raise2 k e he⟩)
    | @many a xs e m =>
      refine ⟨_, rfl, _, .ty "list", _, _, _, rfl, .ty "list", (Kd.lst e).ty, (Kd.lst e).kit "list" _ (.inr ⟨by decide, by decide, rfl⟩), _, rfl, iteF ?_⟩
      refine ⟨_, rfl, a, _, rfl, .inl (SqL.of e), _, _, rfl, rfl, _, rfl, ?_⟩
      rw [decide_eq_true (show (12 : Int) < (xs.length : Nat) by omega)]
      exact iteT ⟨_, rfl, 1, rfl, (by show 2 ≤ 1000; decide), fun e he => raise2 k e he⟩
    | @item a pre post x ts ha hb ok ln bad =>
      obtain ⟨xs, hxs⟩ : ∃ xs, xs = pre ++ x :: post := ⟨_, rfl⟩
      rw [← hxs] at ha ln
      have hpl : pre.length < xs.length := by rw [hxs, List.length_append, List.length_cons]; omega
      refine ⟨_, rfl, _, .ty "list", _, _, _, rfl, .ty "list", (Kd.lst ha).ty, (Kd.lst ha).kit "list" _ (.inr ⟨by decide, by decide, rfl⟩), _, rfl, iteF ?_⟩
      refine ⟨_, rfl, a, _, rfl, .inl (SqL.of ha), _, _, rfl, rfl, _, rfl, ?_⟩
      rw [decide_eq_false (show ¬ ((12 : Int) < (xs.length : Nat)) by omega)]
      refine iteF ?_
      refine ⟨_, rfl, a, xs, rfl, SqL.of ha, for_enum (K := K) (a := a) (xs := xs) (fun i σ H2 => ∃ u v : Option V, σ = [some (.ref a), some (.str pt), u, v] ∧ Same H H2 ∧ i ≤ pre.length)
        ⟨none, none, rfl, Same.refl H, Nat.zero_le _⟩ (fun i σ H2 _ ⟨_, _, _, s2, _⟩ => SqL.of (s2 _ _ ha)) ?_ ?_⟩
      · rintro i y T' σ H2 hyi ⟨u, v, rfl, s2, il⟩ hT
        have s3 : Same H (upd H2 T' (.tup [.int (i : Nat), y])) := s2.trans (Same.upd hT)
        refine ⟨T', _, rfl, SqT.of upd_same, rfl, _, _, rfl, _, _, rfl, rfl, ?_⟩
        by_cases ie : i = pre.length
        · have hyx : y = x := by
            rw [hxs, ie, List.getElem?_append_right (Nat.le_refl _), Nat.sub_self] at hyi
            exact (Option.some.inj hyi).symm
          subst hyx
          subst ie
          exact ⟨_, rfl, .inr ⟨y, rfl, bad.same s3, _, rfl, iteT ⟨_, rfl, _, rfl, (by show 2 ≤ 1000; decide), fun e he => raise2 (fun d H' hd s' => k d H' hd (s3.trans s')) e he⟩⟩⟩
        · have hil : i < pre.length := by omega
          have hyi : pre[i]? = some y := by rwa [hxs, List.getElem?_append_left hil] at hyi
          obtain ⟨t, ht, hbr⟩ := hb.get hyi
          exact ⟨_, rfl, .inl ⟨y, t, rfl, hbr.nl (NL.of s3), ok t (List.mem_of_getElem? ht), _, rfl, iteF ⟨_, _, rfl, s3, hil⟩⟩⟩
      · rintro σ H2 ⟨u, v, rfl, s2, il⟩
        exact absurd il (by omega)
theorem ok_checkbreakers (T : LX K mg L) : CalX P w K mg base "check_breakers" 4 L.f_check_breakers ["breakers", "part"] (spBrkX L) := T.d_check_breakers.calX fun fd F => fn_checkbreakers T F
theorem fn_checkoutages (T : LX K mg L) {fd : FuncData} (F : Fun K "check_outages" "check_outages" st_check_outages L.f_check_outages fd) : FnOk P w K mg base (L2.CX P w) 4 L.f_check_outages fd ["outages"] (spOutX L) := by
  obtain ⟨tk_MOST_OUTAGES, c_MOST_OUTAGES⟩ := T.n_MOST_OUTAGES
  have G_isoutage := ok_isoutage (P := P) (w := w) (base := base) T
  have nd := sc_checkoutages.nd
  refine F.okX sc_checkoutages (fun vs H Q E h => ?_) (fun cdv A outer S H vs Q E hr h => ?_)
  · obtain ⟨v, i, rfl, _⟩ := h
    rfl
  · obtain ⟨v, i, rfl, bad, k⟩ := h
    refine ⟨_, (pss_cons (ps_if (PW.pt (pw_or (pt_not (pt_val (pe_callB call_isi (by rfl) T.b_isinstance (by decide +kernel) (pa_cons (pv 0) (pa_cons (pe_bltn (by rfl) T.b_list (by decide +kernel : bootBuiltins "list" = some (.type "list")) (v := .ty "list") rfl) pa_nil))))) (pw_or1 (pt_cmpR op_gt (pe_callB call_len_seq (by rfl) T.b_len PySem.boot_len (pa_cons (pv 0) pa_nil)) (pe_gI c_MOST_OUTAGES) (nomark _))))) (pss_one (ps_raise rfl (takes_of rfl rfl rfl rfl) (mk_InvalidOutages T (hr.mono (by decide)) rfl (pa_cons (pe_un un_neg pe_int) pa_nil)))) pss_nil)
       (pss_cons (ps_set (i := 1) nd rfl (Or.inl rfl) pe_int)
       (pss_one (ps_for (passes_of rfl) rfl (pi_enum (by rfl) T.b_enumerate (pa_cons (pv 0) pa_nil)) (pg_tup rfl (pgs_cons (pg_name (i := 2) nd rfl (Or.inl rfl)) (pgs_cons (pg_name (i := 3) nd rfl (Or.inl rfl)) pgs_nil))) (pss_cons (ps_if (PW.pt (pw_or (pt_not (pt_val (pe_c G_isoutage (hr.mono (by decide)) rfl (pa_cons (pv 3) pa_nil)))) (pw_or1 (pt_cmpR op_lt (pe_ix (r := rIxT K) ix_tup (pv 3) pe_int (fun _ _ => rfl)) (pv 1) (nomark _))))) (pss_one (ps_raise rfl (takes_of rfl rfl rfl rfl) (mk_InvalidOutages T (hr.mono (by decide)) rfl (pa_cons (pv 2) pa_nil)))) pss_nil)
       (pss_one (ps_set (i := 1) nd rfl (Or.inl rfl) (pe_op op_add (pe_ix (r := rIxT K) ix_tup (pv 3) pe_int (fun _ _ => rfl)) pe_int)))))))), ?_⟩
    cases bad with
    | @kind _ nm kd n =>
      refine ⟨_, rfl, _, .ty "list", _, _, _, rfl, .ty "list", kd.ty, kd.kit "list" _ (.inr ⟨by decide, by decide, rfl⟩), _, rfl, ?_⟩
      rw [show (nm == "list") = false from beq_false_of_ne n]
      exact iteT (iteT ⟨1, rfl, (by show 1 ≤ 1000; decide), fun e he => raise1 k e he⟩)
    | @first a post x ha ln bad =>
      obtain ⟨xs, hxs⟩ : ∃ xs, xs = x :: post := ⟨_, rfl⟩
      rw [← hxs] at ha ln
      have hpl : 0 < xs.length := by rw [hxs, List.length_cons]; omega
      refine ⟨_, rfl, _, .ty "list", _, _, _, rfl, .ty "list", (Kd.lst ha).ty, (Kd.lst ha).kit "list" _ (.inr ⟨by decide, by decide, rfl⟩), _, rfl, iteF ?_⟩
      refine ⟨_, rfl, a, _, rfl, .inl (SqL.of ha), _, _, rfl, rfl, _, rfl, ?_⟩
      rw [decide_eq_false (show ¬ ((50 : Int) < (xs.length : Nat)) by omega)]
      refine iteF ?_
      refine ⟨_, rfl, a, xs, rfl, SqL.of ha, for_enum (K := K) (a := a) (xs := xs) (fun i σ H2 => ∃ m, ∃ u v : Option V, σ = [some (.ref a), some (.int m), u, v] ∧ Same H H2 ∧ i ≤ 0)
        ⟨0, none, none, rfl, Same.refl H, Nat.zero_le _⟩ (fun i σ H2 _ ⟨_, _, _, _, s2, _⟩ => SqL.of (s2 _ _ ha)) ?_ ?_⟩
      · rintro i y T' σ H2 hyi ⟨m, u, v, rfl, s2, il⟩ hT
        have s3 : Same H (upd H2 T' (.tup [.int (i : Nat), y])) := s2.trans (Same.upd hT)
        refine ⟨T', _, rfl, SqT.of upd_same, rfl, _, _, rfl, _, _, rfl, rfl, ?_⟩
        obtain rfl : i = 0 := by omega
        have hyx : y = x := by
          rw [hxs] at hyi
          exact (Option.some.inj hyi).symm
        subst hyx
        exact ⟨_, rfl, .inr ⟨y, rfl, bad.same s3, _, rfl, iteT ⟨_, rfl, (by show 1 ≤ 1000; decide), fun e he => raise1 (fun d H' hd s' => k d H' hd (s3.trans s')) e he⟩⟩⟩
      · rintro σ H2 ⟨m, u, v, rfl, s2, il⟩
        exact absurd il (by omega)
    | @touch a post y0 x p o ha ln hy oy hx ox tch =>
      obtain ⟨xs, hxs⟩ : ∃ xs, xs = y0 :: x :: post := ⟨_, rfl⟩
      rw [← hxs] at ha ln
      have hpl : 1 < xs.length := by rw [hxs, List.length_cons, List.length_cons]; omega
      refine ⟨_, rfl, _, .ty "list", _, _, _, rfl, .ty "list", (Kd.lst ha).ty, (Kd.lst ha).kit "list" _ (.inr ⟨by decide, by decide, rfl⟩), _, rfl, iteF ?_⟩
      refine ⟨_, rfl, a, _, rfl, .inl (SqL.of ha), _, _, rfl, rfl, _, rfl, ?_⟩
      rw [decide_eq_false (show ¬ ((50 : Int) < (xs.length : Nat)) by omega)]
      refine iteF ?_
      refine ⟨_, rfl, a, xs, rfl, SqL.of ha, for_enum (K := K) (a := a) (xs := xs) (fun i σ H2 => ∃ m, ∃ u v : Option V, σ = [some (.ref a), some (.int m), u, v] ∧ Same H H2 ∧ ((i = 0 ∧ m = 0) ∨ (i = 1 ∧ m = p.2 + 1)))
        ⟨0, none, none, rfl, Same.refl H, .inl ⟨rfl, rfl⟩⟩ (fun i σ H2 _ ⟨_, _, _, _, s2, _⟩ => SqL.of (s2 _ _ ha)) ?_ ?_⟩
      · rintro i y T' σ H2 hyi ⟨m, u, v, rfl, s2, il⟩ hT
        have s3 : Same H (upd H2 T' (.tup [.int (i : Nat), y])) := s2.trans (Same.upd hT)
        refine ⟨T', _, rfl, SqT.of upd_same, rfl, _, _, rfl, _, _, rfl, rfl, ?_⟩
        rcases il with ⟨rfl, rfl⟩ | ⟨rfl, rfl⟩
        · have hyx : y = y0 := by
            rw [hxs] at hyi
            exact (Option.some.inj hyi).symm
          subst hyx
          have hy3 := hy.same s3
          refine ⟨_, rfl, .inl ⟨y, p, rfl, hy3, oy.1, oy.2.1, oy.2.2, _, rfl, iteF ?_⟩⟩
          obtain ⟨c, rfl, hc⟩ := hy3
          refine ⟨_, rfl, c, _, 0, .int p.1, rfl, rfl, SqT.of hc, rfl, _, rfl, _, _, rfl, rfl, _, rfl, ?_⟩
          rw [decide_eq_false (show ¬ p.1 < 0 by have := oy.1; omega)]
          exact iteF ⟨_, rfl, c, _, 1, .int p.2, rfl, rfl, SqT.of hc, rfl, _, _, rfl, rfl, _, _, _, rfl, s3, .inr ⟨rfl, rfl⟩⟩
        · have hyx : y = x := by
            rw [hxs] at hyi
            exact (Option.some.inj hyi).symm
          subst hyx
          have hy3 := hx.same s3
          refine ⟨_, rfl, .inl ⟨y, o, rfl, hy3, ox.1, ox.2.1, ox.2.2, _, rfl, iteF ?_⟩⟩
          obtain ⟨c, rfl, hc⟩ := hy3
          refine ⟨_, rfl, c, _, 0, .int o.1, rfl, rfl, SqT.of hc, rfl, _, rfl, _, _, rfl, rfl, _, rfl, ?_⟩
          rw [decide_eq_true (show o.1 < p.2 + 1 by omega)]
          exact iteT ⟨_, rfl, (by show 1 ≤ 1000; decide), fun e he => raise1 (fun d H' hd s' => k d H' hd (s3.trans s')) e he⟩
      · rintro σ H2 ⟨m, u, v, rfl, s2, il⟩
        exact absurd il (by omega)
theorem ok_checkoutages (T : LX K mg L) : CalX P w K mg base "check_outages" 4 L.f_check_outages ["outages"] (spOutX L) := T.d_check_outages.calX fun fd F => fn_checkoutages T F
theorem fn_checkstep (T : LX K mg L) {fd : FuncData} (F : Fun K "check_step" "check_step" st_check_step L.f_check_step fd) : FnOk P w K mg base (L2.CX P w) 3 L.f_check_step fd ["step"] (spStpX L) := by
  have G_iswithin := ok_iswithin (P := P) (w := w) (base := base) T
  obtain ⟨tk_MOST_TIME, c_MOST_TIME⟩ := T.n_MOST_TIME
  have nd := sc_checkstep.nd
  refine F.okX sc_checkstep (fun vs H Q E h => ?_) (fun cdv A outer S H vs Q E hr h => ?_)
  · obtain ⟨v, rfl, _⟩ := h
    rfl
  · obtain ⟨v, rfl, ⟨nm, kd, bad⟩, k⟩ := h
    refine ⟨_, (pss_one (ps_if (pt_not (pt_val (pe_c G_iswithin (hr.mono (by decide)) rfl (pa_cons (pv 0) (pa_cons pe_int (pa_cons (pe_gI c_MOST_TIME) pa_nil)))))) (pss_one (ps_raise rfl (takes_of rfl rfl rfl rfl) (mk_InvalidRow T (hr.mono (by decide)) rfl (pa_cons pe_str (pa_cons (pe_un un_neg pe_int) pa_nil))))) pss_nil)), ?_⟩
    refine ⟨_, rfl, _, _, _, _, rfl, kd, _, rfl, ?_⟩
    rw [bad]
    exact iteT ⟨1, rfl, (by show 2 ≤ 1000; decide), fun e he => raise2 k e he⟩
theorem ok_checkstep (T : LX K mg L) : CalX P w K mg base "check_step" 3 L.f_check_step ["step"] (spStpX L) := T.d_check_step.calX fun fd F => fn_checkstep T F
theorem fn_checkpattern (T : LX K mg L) {fd : FuncData} (F : Fun K "check_pattern" "check_pattern" st_check_pattern L.f_check_pattern fd) : FnOk P w K mg base (L2.CX P w) 3 L.f_check_pattern fd ["pattern", "number"] (spPatX L) := by
  obtain ⟨tk_MOST_PLACES, c_MOST_PLACES⟩ := T.n_MOST_PLACES
  have G_iswithin := ok_iswithin (P := P) (w := w) (base := base) T
  have nd := sc_checkpattern.nd
  refine F.okX sc_checkpattern (fun vs H Q E h => ?_) (fun cdv A outer S H vs Q E hr h => ?_)
  · obtain ⟨v, i, n, rfl, _⟩ := h
    rfl
  · obtain ⟨v, i, n, rfl, bad, k⟩ := h
    refine ⟨_, (pss_cons (ps_if (PW.pt (pw_or (pt_not (pt_val (pe_callB call_isi (by rfl) T.b_isinstance (by decide +kernel) (pa_cons (pv 0) (pa_cons (pe_bltn (by rfl) T.b_list (by decide +kernel : bootBuiltins "list" = some (.type "list")) (v := .ty "list") rfl) pa_nil))))) (pw_or1 (pt_not (pt_chain op_le op_le pe_int (pe_callB call_len_seq (by rfl) T.b_len PySem.boot_len (pa_cons (pv 0) pa_nil)) (pe_gI c_MOST_PLACES)))))) (pss_one (ps_raise rfl (takes_of rfl rfl rfl rfl) (mk_InvalidRow T (hr.mono (by decide)) rfl (pa_cons pe_str (pa_cons (pe_un un_neg pe_int) pa_nil))))) pss_nil)
       (pss_one (ps_for (passes_of rfl) rfl (pi_enum (by rfl) T.b_enumerate (pa_cons (pv 0) pa_nil)) (pg_tup rfl (pgs_cons (pg_name (i := 2) nd rfl (Or.inl rfl)) (pgs_cons (pg_name (i := 3) nd rfl (Or.inl rfl)) pgs_nil))) (pss_one (ps_if (pt_not (pt_val (pe_c G_iswithin (hr.mono (by decide)) rfl (pa_cons (pv 3) (pa_cons pe_int (pa_cons (pe_op op_sub (pv 1) pe_int) pa_nil)))))) (pss_one (ps_raise rfl (takes_of rfl rfl rfl rfl) (mk_InvalidRow T (hr.mono (by decide)) rfl (pa_cons pe_str (pa_cons (pv 2) pa_nil))))) pss_nil))))), ?_⟩
    cases bad with
    | @kind _ nm kd c =>
      refine ⟨_, rfl, _, .ty "list", _, _, _, rfl, .ty "list", kd.ty, kd.kit "list" _ (.inr ⟨by decide, by decide, rfl⟩), _, rfl, ?_⟩
      rw [show (nm == "list") = false from beq_false_of_ne c]
      exact iteT (iteT ⟨1, rfl, (by show 2 ≤ 1000; decide), fun e he => raise2 k e he⟩)
    | @size a xs e m =>
      refine ⟨_, rfl, _, .ty "list", _, _, _, rfl, .ty "list", (Kd.lst e).ty, (Kd.lst e).kit "list" _ (.inr ⟨by decide, by decide, rfl⟩), _, rfl, iteF ?_⟩
      refine ⟨_, rfl, a, _, rfl, .inl (SqL.of e), _, _, rfl, rfl, _, rfl, ?_⟩
      rcases m with m | m
      · rw [decide_eq_false (show ¬ ((1 : Int) ≤ (xs.length : Nat)) by omega)]
        exact iteF ⟨_, rfl, iteT ⟨1, rfl, (by show 2 ≤ 1000; decide), fun e he => raise2 k e he⟩⟩
      · rw [decide_eq_true (show (1 : Int) ≤ (xs.length : Nat) by omega)]
        refine iteT ⟨_, _, rfl, rfl, _, rfl, ?_⟩
        show if (!(decide ((((xs.length : Nat) : Int) ≤ 20)))) = true then _ else _
        rw [decide_eq_false (show ¬ ((xs.length : Nat) : Int) ≤ 20 by omega)]
        exact iteT ⟨1, rfl, (by show 2 ≤ 1000; decide), fun e he => raise2 k e he⟩
    | @item a pre post x nm ha pb ln kd bad =>
      obtain ⟨xs, hxs⟩ : ∃ xs, xs = pre.map pnV ++ x :: post := ⟨_, rfl⟩
      rw [← hxs] at ha ln
      have hpl : pre.length < xs.length := by rw [hxs, List.length_append, List.length_cons, List.length_map]; omega
      refine ⟨_, rfl, _, .ty "list", _, _, _, rfl, .ty "list", (Kd.lst ha).ty, (Kd.lst ha).kit "list" _ (.inr ⟨by decide, by decide, rfl⟩), _, rfl, iteF ?_⟩
      refine ⟨_, rfl, a, _, rfl, .inl (SqL.of ha), _, _, rfl, rfl, ?_⟩
      refine ⟨_, rfl, ?_⟩
      rw [decide_eq_true (show (1 : Int) ≤ (xs.length : Nat) by omega)]
      refine iteT ⟨_, _, rfl, rfl, _, rfl, ?_⟩
      show if (!(decide (((xs.length : Nat) : Int) ≤ 20))) = true then _ else _
      rw [decide_eq_true (show ((xs.length : Nat) : Int) ≤ 20 by omega)]
      refine iteF ⟨_, rfl, a, xs, rfl, SqL.of ha, for_enum (K := K) (a := a) (xs := xs) (fun i σ H2 => ∃ u v : Option V, σ = [some (.ref a), some (.int (n : Int)), u, v] ∧ Same H H2 ∧ i ≤ pre.length) ⟨none, none, rfl, Same.refl H, Nat.zero_le _⟩ (fun i σ H2 _ ⟨_, _, _, s2, _⟩ => SqL.of (s2 _ _ ha)) ?_ ?_⟩
      · rintro i y T' σ H2 hyi ⟨u, v, rfl, s2, il⟩ hT
        have s3 : Same H (upd H2 T' (.tup [.int (i : Nat), y])) := s2.trans (Same.upd hT)
        refine ⟨T', _, rfl, SqT.of upd_same, rfl, _, _, rfl, _, _, rfl, rfl, ?_⟩
        by_cases ie : i = pre.length
        · have hyx : y = x := by
            rw [hxs, ie, List.getElem?_append_right (by rw [List.length_map]; exact Nat.le_refl _), List.length_map, Nat.sub_self] at hyi
            exact (Option.some.inj hyi).symm
          subst hyx
          subst ie
          refine ⟨_, rfl, _, rfl, _, _, rfl, rfl, _, _, _, _, rfl, Kd.sameK kd s3, _, rfl, ?_⟩
          rw [bad]
          exact iteT ⟨_, rfl, (by show 2 ≤ 1000; decide), fun e he => raise2 (fun d H' hd s' => k d H' hd (s3.trans s')) e he⟩
        · have hil : i < pre.length := by omega
          rw [hxs, List.getElem?_append_left (by rw [List.length_map]; exact hil), List.getElem?_map] at hyi
          obtain ⟨m, hm, rfl⟩ := Option.map_eq_some_iff.mp hyi
          have mb := pb m (List.mem_of_getElem? hm)
          refine ⟨_, rfl, _, rfl, _, _, rfl, rfl, _, _, _, _, rfl, .int _, _, rfl, ?_⟩
          show if (!(isI (V.int (m : Int)) && (decide ((0 : Int) ≤ (m : Int)) && decide ((m : Int) ≤ (n : Int) - 1)))) = true then _ else _
          rw [k6_pos (show (0 : Int) ≤ (m : Int) by omega) (show (m : Int) ≤ (n : Int) - 1 by omega)]
          exact iteF ⟨_, _, rfl, s3, hil⟩
      · rintro σ H2 ⟨u, v, rfl, s2, il⟩
        exact absurd il (by omega)
theorem ok_checkpattern (T : LX K mg L) : CalX P w K mg base "check_pattern" 3 L.f_check_pattern ["pattern", "number"] (spPatX L) := T.d_check_pattern.calX fun fd F => fn_checkpattern T F
end R
theorem ok_checkbreakers (T : LX K mg L) : CalX P w K mg base "check_breakers" 4 L.f_check_breakers ["breakers", "part"] (fun vs H Q E => spRChk vs H Q E0 ∨ spBrkX L vs H Q E) := T.d_check_breakers.calX fun fd F => FnOk.orX (Toy.fn_checkbreakers T F) (R.fn_checkbreakers T F)
theorem ok_checkoutages (T : LX K mg L) : CalX P w K mg base "check_outages" 4 L.f_check_outages ["outages"] (fun vs H Q E => spChkO vs H Q E0 ∨ spOutX L vs H Q E) := T.d_check_outages.calX fun fd F => FnOk.orX (Toy.fn_checkoutages T F) (R.fn_checkoutages T F)
theorem ok_checkstep (T : LX K mg L) : CalX P w K mg base "check_step" 3 L.f_check_step ["step"] (fun vs H Q E => spRStep vs H Q E0 ∨ spStpX L vs H Q E) := T.d_check_step.calX fun fd F => FnOk.orX (Toy.fn_checkstep T F) (R.fn_checkstep T F)
theorem ok_checkpattern (T : LX K mg L) : CalX P w K mg base "check_pattern" 3 L.f_check_pattern ["pattern", "number"] (fun vs H Q E => spCkPat vs H Q E0 ∨ spPatX L vs H Q E) := T.d_check_pattern.calX fun fd F => FnOk.orX (Toy.fn_checkpattern T F) (R.fn_checkpattern T F)
end
end EX
/-! ### k59: services refused -/
theorem exm_RR {K : PySem.W.Frag} {mg : Str → Option Value} {L : LA} (T : LX K mg L) : PySem.W.exmAny K (.ref L.e_InvalidRow) [.ref L.e_InvalidRow, .ref L.e_InvalidOutages] = some true := exm_any2 (exm_of T.xe_InvalidRow T.te_InvalidRow T.se_InvalidRow_InvalidRow) (exm_of T.xe_InvalidOutages T.te_InvalidOutages T.se_InvalidRow_InvalidOutages)
theorem exm_RO {K : PySem.W.Frag} {mg : Str → Option Value} {L : LA} (T : LX K mg L) : PySem.W.exmAny K (.ref L.e_InvalidOutages) [.ref L.e_InvalidRow, .ref L.e_InvalidOutages] = some true := exm_any2 (exm_of T.xe_InvalidRow T.te_InvalidRow T.se_InvalidOutages_InvalidRow) (exm_of T.xe_InvalidOutages T.te_InvalidOutages T.se_InvalidOutages_InvalidOutages)
namespace N
section
variable {P : Program} {w : World} {K : PySem.W.Frag} {mg : Str → Option Value} {base : Heap} {L : LA}
theorem fn_isservice (T : LX K mg L) {fd : FuncData} (F : Fun K "is_service" "is_service" st_is_service L.f_is_service fd) : FnOk P w K mg base CX0 5 L.f_is_service fd ["value"] (spIsSvN) := by
  have G_checkbreakers := ok_checkbreakers (P := P) (w := w) (base := base) T
  have G_checkoutages := ok_checkoutages (P := P) (w := w) (base := base) T
  have nd := sc_isservice.nd
  refine F.ok sc_isservice (fun vs H Q E h => ?_) (fun cdv A outer S H vs Q E hr h => ?_)
  · obtain ⟨v, rfl, _⟩ := h
    rfl
  · obtain ⟨v, rfl, nt, k⟩ := h
    refine ⟨_, (pss_cons (ps_if (PW.pt (pw_or (pt_not (pt_val (pe_callB call_isi (by rfl) T.b_isinstance (by decide +kernel) (pa_cons (pv 0) (pa_cons (pe_bltn (by rfl) T.b_tuple (by decide +kernel : bootBuiltins "tuple" = some (.type "tuple")) (v := .ty "tuple") rfl) pa_nil))))) (pw_or1 (pt_cmpR op_ne (pe_callB call_len_seq (by rfl) T.b_len PySem.boot_len (pa_cons (pv 0) pa_nil)) pe_int (nomark _))))) (pss_one (ps_ret pe_bl)) pss_nil)
       (pss_cons (ps_asg (pv 0) (pg_tup rfl (pgs_cons (pg_name (i := 1) nd rfl (Or.inl rfl)) (pgs_cons (pg_name (i := 2) nd rfl (Or.inl rfl)) pgs_nil))))
       (pss_cons (ps_try_pair rfl rfl (fun W pn xe tk _ => (pss_cons (ps_expr (pe_cX (EX.ok_checkbreakers (P := P) (w := w) (base := base) T) (hr.mono (by decide)) rfl (fun σ => passAt (tk) σ) (pa_cons (pv 1) (pa_cons pe_str pa_nil))))
       (pss_one (ps_expr (pe_cX (EX.ok_checkoutages (P := P) (w := w) (base := base) T) (hr.mono (by decide)) rfl (fun σ => passAt (tk) σ) (pa_cons (pv 2) pa_nil)))))) ⟨rfl, by decide, Or.inl T.ge_InvalidRow⟩ ⟨rfl, by decide, Or.inl T.ge_InvalidOutages⟩ (fun a oe cls d pn hz hf => (pss_one (ps_ret pe_bl))))
       (pss_one (ps_ret pe_bl))))), ?_⟩
    cases nt with
    | @kind _ nm kd n =>
      refine ⟨_, rfl, _, .ty "tuple", _, _, _, rfl, .ty "tuple", kd.ty, kd.kit "tuple" _ (.inr ⟨by decide, by decide, rfl⟩), _, rfl, ?_⟩
      rw [show (nm == "tuple") = false from beq_false_of_ne n]
      exact iteT (iteT (k _ (Same.refl _)))
    | @len a xs e n =>
      refine ⟨_, rfl, _, .ty "tuple", _, _, _, rfl, .ty "tuple", (Kd.tup e).ty, (Kd.tup e).kit "tuple" _ (.inr ⟨by decide, by decide, rfl⟩), _, rfl, iteF ?_⟩
      refine ⟨_, rfl, a, _, rfl, .inr (SqT.of e), rfl, _, rfl, ?_⟩
      rw [show (!decide (V.int (xs.length : Int) = V.int 2)) = true by
        rw [decide_eq_false fun z => n (by have := V.int.inj z; omega)]
        rfl]
      exact iteT (k _ (Same.refl _))
    | @brs a b o i e bad =>
      refine ⟨_, rfl, _, .ty "tuple", _, _, _, rfl, .ty "tuple", (Kd.tup e).ty, (Kd.tup e).kit "tuple" _ (.inr ⟨by decide, by decide, rfl⟩), _, rfl, iteF ?_⟩
      refine ⟨_, rfl, a, _, rfl, .inr (SqT.of e), rfl, _, rfl, iteF ?_⟩
      refine ⟨_, rfl, a, _, rfl, SqT.of e, rfl, _, _, rfl, _, _, rfl, rfl, ?_⟩
      exact ⟨_, rfl, .inr ⟨b, _, i, rfl, bad, fun d H' hd s' => ⟨exm_RR T, fun a na => k _ s'⟩⟩⟩
    | @outs a ab o xb ts i e hl hb ok ln bad =>
      refine ⟨_, rfl, _, .ty "tuple", _, _, _, rfl, .ty "tuple", (Kd.tup e).ty, (Kd.tup e).kit "tuple" _ (.inr ⟨by decide, by decide, rfl⟩), _, rfl, iteF ?_⟩
      refine ⟨_, rfl, a, _, rfl, .inr (SqT.of e), rfl, _, rfl, iteF ?_⟩
      refine ⟨_, rfl, a, _, rfl, SqT.of e, rfl, _, _, rfl, _, _, rfl, rfl, ?_⟩
      exact ⟨_, rfl, .inl ⟨ab, xb, ts, _, rfl, hl, hb, ok, ln, fun H1 s1 => ⟨_, rfl, .inr ⟨o, i, rfl, bad.same s1, fun d H' hd s' => ⟨exm_RO T, fun a na => k _ (s1.trans s')⟩⟩⟩⟩⟩
theorem ok_isservice (T : LX K mg L) : Cal P w K mg base "is_service" 5 L.f_is_service ["value"] (spIsSvN) := T.d_is_service.cal fun fd F => fn_isservice T F
end
end N
inductive RtBad (H : Hp) (c s p st : V) : Str → Int → Prop
  | com {i : Int} (b : BrsBad H c i) : RtBad H c s p st "common" i
  | svc {a : Addr} {xs : List V} {ts : List Tri} {i : Int} (e : c = .ref a) (hc : H a = some (.lst xs)) (hb : Brs H xs ts) (ok : ∀ t ∈ ts, OkT t) (ln : ts.length ≤ 12) (b : SvcBad H s i) : RtBad H c s p st "services" i
  | pat {a l : Addr} {xs ys : List V} {ts : List Tri} {svs : List Svc} {i : Int} (e : c = .ref a) (hc : H a = some (.lst xs)) (hb : Brs H xs ts) (ok : ∀ t ∈ ts, OkT t) (ln : ts.length ≤ 12)
      (e2 : s = .ref l) (hl : H l = some (.lst ys)) (hs : Paired (SlAt H) ys svs) (oks : ∀ s ∈ svs, OkSv s) (l0 : 1 ≤ svs.length) (l1 : svs.length ≤ 10) (b : PatBad H svs.length p i) : RtBad H c s p st "pattern" i
  | stp {a l q : Addr} {xs ys : List V} {ts : List Tri} {svs : List Svc} {pat : List Nat} (e : c = .ref a) (hc : H a = some (.lst xs)) (hb : Brs H xs ts) (ok : ∀ t ∈ ts, OkT t) (ln : ts.length ≤ 12)
      (e2 : s = .ref l) (hl : H l = some (.lst ys)) (hs : Paired (SlAt H) ys svs) (oks : ∀ s ∈ svs, OkSv s) (l0 : 1 ≤ svs.length) (l1 : svs.length ≤ 10)
      (e3 : p = .ref q) (hq : H q = some (.lst (pat.map pnV))) (p0 : 1 ≤ pat.length) (p1 : pat.length ≤ 20) (pb : ∀ k ∈ pat, k < svs.length) (b : StpBad H st) : RtBad H c s p st "step" (-1)
theorem SlAt.sameP {H H' : Hp} {ys : List V} {svs : List Svc} (h : Paired (SlAt H) ys svs) (s : Same H H') : Paired (SlAt H') ys svs := L2.Paired.mapP h fun _ _ z => z.same s
theorem RtBad.same {H H' : Hp} {c s p st : V} {nm : Str} {i : Int} (h : RtBad H c s p st nm i) (m : Same H H') : RtBad H' c s p st nm i := by
  cases h with
  | com b => exact .com (b.same m)
  | svc e hc hb ok ln b => exact .svc e (m _ _ hc) (hb.sameB m) ok ln (b.same m)
  | pat e hc hb ok ln e2 hl hs oks l0 l1 b => exact .pat e (m _ _ hc) (hb.sameB m) ok ln e2 (m _ _ hl) (SlAt.sameP hs m) oks l0 l1 (b.same m)
  | stp e hc hb ok ln e2 hl hs oks l0 l1 e3 hq p0 p1 pb b => exact .stp e (m _ _ hc) (hb.sameB m) ok ln e2 (m _ _ hl) (SlAt.sameP hs m) oks l0 l1 e3 (m _ _ hq) p0 p1 pb (b.same m)
def spRtX (L : LA) : Sp := fun vs H _ E => ∃ r c s p st nm i, vs = [.ref r, c, s, p, st] ∧ RtBad H c s p st nm i ∧ ∀ d H', H' d = some (.xd [("at", .int i), ("part", .str nm)]) → Same H H' → E (.ref L.e_InvalidRow) (some d) H'
def CtBad (H : Hp) (v : V) : Prop := ∃ nm, Kd H v nm ∧ (isI v && (decide (0 ≤ toI v) && decide (toI v ≤ 10000))) = false
def spCntX (L : LA) : Sp := fun vs H _ E => ∃ r v, vs = [r, v] ∧ CtBad H v ∧ ∀ d H', H' d = some (.xd [("part", .str "count")]) → Same H H' → E (.ref L.e_InvalidBound) (some d) H'
inductive DnBad (H : Hp) (n : Nat) : V → Prop
  | kind {v : V} {nm : String} (k : Kd H v nm) (c : nm ≠ "list") : DnBad H n v
  | first {a : Addr} {post : List V} {x : V} {nm : String} (e : H a = some (.lst (x :: post))) (k : Kd H x nm) (bad : (isI x && (decide (0 ≤ toI x) && decide (toI x ≤ (n : Int) - 1))) = false) : DnBad H n (.ref a)
  | low {a : Addr} {post : List V} {c : Int} {x : V} {nm : String} (e : H a = some (.lst (.int c :: x :: post))) (c0 : 0 ≤ c) (c1 : c ≤ (n : Int) - 1) (k : Kd H x nm) (bad : (isI x && (decide (c + 1 ≤ toI x) && decide (toI x ≤ (n : Int) - 1))) = false) : DnBad H n (.ref a)
def spDnX (L : LA) : Sp := fun vs H _ E => ∃ p fr svs pat st v, vs = [.ref p, v] ∧ RtV L.c_Routes H p fr svs pat st ∧ DnBad H svs.length v ∧ ∀ d H', H' d = some (.xd [("part", .str "down")]) → Same H H' → E (.ref L.e_InvalidBound) (some d) H'
namespace EX
section
variable {P : Program} {w : World} {K : PySem.W.Frag} {mg : Str → Option Value} {base : Heap} {L : LA}
theorem ok_isservice (T : LX K mg L) : Cal P w K mg base "is_service" 5 L.f_is_service ["value"] (fun vs H Q E => spIsSv vs H Q E ∨ spIsSvN vs H Q E) := T.d_is_service.cal fun fd F => FnOk.or0 (fn_isservice T F) (N.fn_isservice T F)
namespace R
theorem fn_checkservices (T : LX K mg L) {fd : FuncData} (F : Fun K "check_services" "check_services" st_check_services L.f_check_services fd) : FnOk P w K mg base (L2.CX P w) 6 L.f_check_services fd ["services"] (spSvcX L) := by
  obtain ⟨tk_MOST_SERVICES, c_MOST_SERVICES⟩ := T.n_MOST_SERVICES
  have G_isservice := ok_isservice (P := P) (w := w) (base := base) T
  have nd := sc_checkservices.nd
  refine F.okX sc_checkservices (fun vs H Q E h => ?_) (fun cdv A outer S H vs Q E hr h => ?_)
  · obtain ⟨v, i, rfl, _⟩ := h
    rfl
  · obtain ⟨v, i, rfl, bad, k⟩ := h
    refine ⟨_, (pss_cons (ps_if (PW.pt (pw_or (pt_not (pt_val (pe_callB call_isi (by rfl) T.b_isinstance (by decide +kernel) (pa_cons (pv 0) (pa_cons (pe_bltn (by rfl) T.b_list (by decide +kernel : bootBuiltins "list" = some (.type "list")) (v := .ty "list") rfl) pa_nil))))) (pw_or1 (pt_not (pt_chain op_le op_le pe_int (pe_callB call_len_seq (by rfl) T.b_len PySem.boot_len (pa_cons (pv 0) pa_nil)) (pe_gI c_MOST_SERVICES)))))) (pss_one (ps_raise rfl (takes_of rfl rfl rfl rfl) (mk_InvalidRow T (hr.mono (by decide)) rfl (pa_cons pe_str (pa_cons (pe_un un_neg pe_int) pa_nil))))) pss_nil)
       (pss_one (ps_for (passes_of rfl) rfl (pi_enum (by rfl) T.b_enumerate (pa_cons (pv 0) pa_nil)) (pg_tup rfl (pgs_cons (pg_name (i := 1) nd rfl (Or.inl rfl)) (pgs_cons (pg_name (i := 2) nd rfl (Or.inl rfl)) pgs_nil))) (pss_one (ps_if (pt_not (pt_val (pe_c G_isservice (hr.mono (by decide)) rfl (pa_cons (pv 2) pa_nil)))) (pss_one (ps_raise rfl (takes_of rfl rfl rfl rfl) (mk_InvalidRow T (hr.mono (by decide)) rfl (pa_cons pe_str (pa_cons (pv 1) pa_nil))))) pss_nil))))), ?_⟩
    cases bad with
    | @kind _ nm kd c =>
      refine ⟨_, rfl, _, .ty "list", _, _, _, rfl, .ty "list", kd.ty, kd.kit "list" _ (.inr ⟨by decide, by decide, rfl⟩), _, rfl, ?_⟩
      rw [show (nm == "list") = false from beq_false_of_ne c]
      exact iteT (iteT ⟨1, rfl, (by show 2 ≤ 1000; decide), fun e he => raise2 k e he⟩)
    | @size a xs e m =>
      refine ⟨_, rfl, _, .ty "list", _, _, _, rfl, .ty "list", (Kd.lst e).ty, (Kd.lst e).kit "list" _ (.inr ⟨by decide, by decide, rfl⟩), _, rfl, iteF ?_⟩
      refine ⟨_, rfl, a, _, rfl, .inl (SqL.of e), _, _, rfl, rfl, _, rfl, ?_⟩
      rcases m with m | m
      · rw [decide_eq_false (show ¬ ((1 : Int) ≤ (xs.length : Nat)) by omega)]
        exact iteF ⟨_, rfl, iteT ⟨1, rfl, (by show 2 ≤ 1000; decide), fun e he => raise2 k e he⟩⟩
      · rw [decide_eq_true (show (1 : Int) ≤ (xs.length : Nat) by omega)]
        refine iteT ⟨_, _, rfl, rfl, _, rfl, ?_⟩
        show if (!(decide ((((xs.length : Nat) : Int) ≤ 10)))) = true then _ else _
        rw [decide_eq_false (show ¬ ((xs.length : Nat) : Int) ≤ 10 by omega)]
        exact iteT ⟨1, rfl, (by show 2 ≤ 1000; decide), fun e he => raise2 k e he⟩
    | @item a pre post x svs ha hs ok ln bad =>
      obtain ⟨xs, hxs⟩ : ∃ xs, xs = pre ++ x :: post := ⟨_, rfl⟩
      rw [← hxs] at ha ln
      have hpl : pre.length < xs.length := by rw [hxs, List.length_append, List.length_cons]; omega
      refine ⟨_, rfl, _, .ty "list", _, _, _, rfl, .ty "list", (Kd.lst ha).ty, (Kd.lst ha).kit "list" _ (.inr ⟨by decide, by decide, rfl⟩), _, rfl, iteF ?_⟩
      refine ⟨_, rfl, a, _, rfl, .inl (SqL.of ha), _, _, rfl, rfl, ?_⟩
      refine ⟨_, rfl, ?_⟩
      rw [decide_eq_true (show (1 : Int) ≤ (xs.length : Nat) by omega)]
      refine iteT ⟨_, _, rfl, rfl, _, rfl, ?_⟩
      show if (!(decide (((xs.length : Nat) : Int) ≤ 10))) = true then _ else _
      rw [decide_eq_true (show ((xs.length : Nat) : Int) ≤ 10 by omega)]
      refine iteF ⟨_, rfl, a, xs, rfl, SqL.of ha, for_enum (K := K) (a := a) (xs := xs) (fun i σ H2 => ∃ u v : Option V, σ = [some (.ref a), u, v] ∧ Same H H2 ∧ i ≤ pre.length) ⟨none, none, rfl, Same.refl H, Nat.zero_le _⟩ (fun i σ H2 _ ⟨_, _, _, s2, _⟩ => SqL.of (s2 _ _ ha)) ?_ ?_⟩
      · rintro i y T' σ H2 hyi ⟨u, v, rfl, s2, il⟩ hT
        have s3 : Same H (upd H2 T' (.tup [.int (i : Nat), y])) := s2.trans (Same.upd hT)
        refine ⟨T', _, rfl, SqT.of upd_same, rfl, _, _, rfl, _, _, rfl, rfl, ?_⟩
        by_cases ie : i = pre.length
        · have hyx : y = x := by
            rw [hxs, ie, List.getElem?_append_right (Nat.le_refl _), Nat.sub_self] at hyi
            exact (Option.some.inj hyi).symm
          subst hyx
          subst ie
          exact ⟨_, rfl, .inr ⟨y, rfl, bad.same s3, fun H4 s4 => ⟨_, rfl, iteT ⟨_, rfl, (by show 2 ≤ 1000; decide), fun e he => raise2 (fun d H' hd s' => k d H' hd ((s3.trans s4).trans s')) e he⟩⟩⟩⟩
        · have hil : i < pre.length := by omega
          have hyi : pre[i]? = some y := by rwa [hxs, List.getElem?_append_left hil] at hyi
          obtain ⟨sv, hsv, hat⟩ := paired_get hs hyi
          exact ⟨_, rfl, .inl ⟨y, sv, rfl, hat.same s3, ok sv (List.mem_of_getElem? hsv), fun H4 s4 => ⟨_, rfl, iteF ⟨_, _, rfl, s3.trans s4, hil⟩⟩⟩⟩
      · rintro σ H2 ⟨u, v, rfl, s2, il⟩
        exact absurd il (by omega)
theorem ok_checkservices (T : LX K mg L) : CalX P w K mg base "check_services" 6 L.f_check_services ["services"] (spSvcX L) := T.d_check_services.calX fun fd F => fn_checkservices T F
end R
theorem ok_checkservices (T : LX K mg L) : CalX P w K mg base "check_services" 6 L.f_check_services ["services"] (fun vs H Q E => spCkSv vs H Q E0 ∨ spSvcX L vs H Q E) := T.d_check_services.calX fun fd F => FnOk.orX (Toy.fn_checkservices T F) (R.fn_checkservices T F)
theorem fn_Routesinit (T : LX K mg L) {fd : FuncData} (F : Fun K "__init__" "Routes.__init__" st_Routes_init L.i_Routes fd) : FnOk P w K mg base (L2.CX P w) 8 L.i_Routes fd ["self", "common", "services", "pattern", "step"] (spRtX L) := by
  have G_checkbreakers := ok_checkbreakers (P := P) (w := w) (base := base) T
  have G_checkservices := ok_checkservices (P := P) (w := w) (base := base) T
  have G_checkpattern := ok_checkpattern (P := P) (w := w) (base := base) T
  have G_checkstep := ok_checkstep (P := P) (w := w) (base := base) T
  have nd := sc_Routesinit.nd
  refine F.okX sc_Routesinit (fun vs H Q E h => ?_) (fun cdv A outer S H vs Q E hr h => ?_)
  · obtain ⟨r, c, s, p, st, nm, i, rfl, _⟩ := h
    rfl
  · obtain ⟨r, c, s, p, st, nm, i, rfl, bad, k⟩ := h
    refine ⟨_, (pss_cons (ps_expr (pe_cX (EX.ok_checkbreakers (P := P) (w := w) (base := base) T) (hr.mono (by decide)) rfl (fun σ => passAt (takes_of rfl rfl rfl rfl) σ) (pa_cons (pv 1) (pa_cons pe_str pa_nil))))
       (pss_cons (ps_expr (pe_cX (EX.ok_checkservices (P := P) (w := w) (base := base) T) (hr.mono (by decide)) rfl (fun σ => passAt (takes_of rfl rfl rfl rfl) σ) (pa_cons (pv 2) pa_nil)))
       (pss_cons (ps_expr (pe_cX (EX.ok_checkpattern (P := P) (w := w) (base := base) T) (hr.mono (by decide)) rfl (fun σ => passAt (takes_of rfl rfl rfl rfl) σ) (pa_cons (pv 3) (pa_cons (pe_callB call_len_seq (by rfl) T.b_len PySem.boot_len (pa_cons (pv 2) pa_nil)) pa_nil))))
       (pss_cons (ps_expr (pe_cX (EX.ok_checkstep (P := P) (w := w) (base := base) T) (hr.mono (by decide)) rfl (fun σ => passAt (takes_of rfl rfl rfl rfl) σ) (pa_cons (pv 4) pa_nil)))
       (pss_cons (ps_fld (pv 0) (pe_callTy call_tuple_of (by rfl) T.b_tuple (by decide +kernel) (pa_cons (pv 1) pa_nil)) rfl)
       (pss_cons (ps_fld (pv 0) (pe_callTy call_tuple_of (by rfl) T.b_tuple (by decide +kernel) (pa_cons (pe_lc (own := [("breakers", 5), ("outages", 6)]) (g := gTup K 2 (gCons (gName 5) (gCons (gName 6) (gNil)))) (tt := tYes) rfl nd (pi_list (pv 2)) (blkOk_by (own := [("breakers", 5), ("outages", 6)]) (N := N_Routesinit) (sc := defScope st_Routes_init) (by decide +kernel)) (fun _ _ _ _ _ => pg_tup rfl (pgs_cons (pg_name (i := 5) nd rfl (Or.inl rfl)) (pgs_cons (pg_name (i := 6) nd rfl (Or.inl rfl)) pgs_nil))) (fun _ _ _ _ _ => pts_nil) (fun _ _ _ _ _ => (pe_tup (pa_cons (pe_callTy (call_tupK (K := K) rfl) (by rfl) T.b_tuple (by decide +kernel) (pa_cons (pv 5) pa_nil)) (pa_cons (pe_callTy (call_tupK (K := K) rfl) (by rfl) T.b_tuple (by decide +kernel) (pa_cons (pv 6) pa_nil)) pa_nil))))) pa_nil)) rfl)
       (pss_cons (ps_fld (pv 0) (pe_callTy call_tuple_of (by rfl) T.b_tuple (by decide +kernel) (pa_cons (pv 3) pa_nil)) rfl)
       (pss_one (ps_fld (pv 0) (pv 4) rfl))))))))), ?_⟩
    cases bad with
    | com b => exact ⟨_, rfl, .inr ⟨c, _, i, rfl, b, k⟩⟩
    | @svc a xs ts _ e hc hb ok ln b =>
      subst e
      exact ⟨_, rfl, .inl ⟨a, xs, ts, _, rfl, hc, hb, ok, ln, fun H1 s1 => ⟨_, rfl, .inr ⟨s, i, rfl, b.same s1, fun d H' hd s' => k d H' hd (s1.trans s')⟩⟩⟩⟩
    | @pat a l xs ys ts svs _ e hc hb ok ln e2 hl hs oks l0 l1 b =>
      subst e e2
      refine ⟨_, rfl, .inl ⟨a, xs, ts, _, rfl, hc, hb, ok, ln, fun H1 s1 => ⟨_, rfl, .inl ⟨l, ys, svs, rfl, s1 _ _ hl, SlAt.sameP hs s1, oks, l0, l1, fun H2 s2 => ?_⟩⟩⟩⟩
      have s12 := s1.trans s2
      have yl := paired_len hs
      refine ⟨_, rfl, _, rfl, l, _, rfl, .inl (SqL.of (s12 _ _ hl)), ?_⟩
      rw [yl]
      exact .inr ⟨p, i, _, rfl, b.same s12, fun d H' hd s' => k d H' hd (s12.trans s')⟩
    | @stp a l q xs ys ts svs pat e hc hb ok ln e2 hl hs oks l0 l1 e3 hq p0 p1 pb b =>
      subst e e2 e3
      refine ⟨_, rfl, .inl ⟨a, xs, ts, _, rfl, hc, hb, ok, ln, fun H1 s1 => ⟨_, rfl, .inl ⟨l, ys, svs, rfl, s1 _ _ hl, SlAt.sameP hs s1, oks, l0, l1, fun H2 s2 => ?_⟩⟩⟩⟩
      have s12 := s1.trans s2
      have yl := paired_len hs
      refine ⟨_, rfl, _, rfl, l, _, rfl, .inl (SqL.of (s12 _ _ hl)), ?_⟩
      rw [yl]
      refine .inl ⟨q, pat, _, rfl, s12 _ _ hq, p0, p1, pb, fun H3 s3 => ?_⟩
      have s13 := s12.trans s3
      exact ⟨_, rfl, .inr ⟨st, rfl, b.same s13, fun d H' hd s' => k d H' hd (s13.trans s')⟩⟩
namespace R
theorem fn_sentrequests (T : LX K mg L) {fd : FuncData} (F : Fun K "sent_requests" "sent_requests" st_sent_requests L.f_sent_requests fd) : FnOk P w K mg base (L2.CX P w) 6 L.f_sent_requests fd ["routes", "count"] (spCntX L) := by
  have G_closedstates := ok_closedstates (P := P) (w := w) (base := base) T
  have G_iswithin := ok_iswithin (P := P) (w := w) (base := base) T
  obtain ⟨tk_MOST_REQUESTS, c_MOST_REQUESTS⟩ := T.n_MOST_REQUESTS
  have G_sent := ok_sent (P := P) (w := w) (base := base) T
  have G_isup := ok_isup (P := P) (w := w) (base := base) T
  obtain ⟨a_SERVED, c_SERVED, t_SERVED⟩ := T.n_SERVED
  have nd := sc_sentrequests.nd
  refine F.okX sc_sentrequests (fun vs H Q E h => ?_) (fun cdv A outer S H vs Q E hr h => ?_)
  · obtain ⟨r, v, rfl, _⟩ := h
    rfl
  · obtain ⟨r, v, rfl, ⟨nm, kd, bad⟩, k⟩ := h
    refine ⟨_, (pss_cons (ps_if (pt_not (pt_val (pe_c G_iswithin (hr.mono (by decide)) rfl (pa_cons (pv 1) (pa_cons pe_int (pa_cons (pe_gI c_MOST_REQUESTS) pa_nil)))))) (pss_one (ps_raise rfl (takes_of rfl rfl rfl rfl) (mk_InvalidBound T (hr.mono (by decide)) rfl (pa_cons pe_str pa_nil)))) pss_nil)
       (pss_cons (ps_set (i := 2) nd rfl (Or.inl rfl) (pe_callB call_len_seq (by rfl) T.b_len PySem.boot_len (pa_cons (pe_fld (pv 0) rfl) pa_nil)))
       (pss_cons (ps_set (i := 3) nd rfl (Or.inl rfl) (pe_c G_closedstates (hr.mono (by decide)) rfl (pa_cons (pv 2) pa_nil)))
       (pss_cons (ps_setLc (i := 6) (own := [("breakers", 4), ("outages", 5)]) (g := gTup K 2 (gCons (gName 4) (gCons (gName 5) (gNil)))) (tt := tYes) rfl nd rfl rfl (sw_true rfl rfl rfl (by decide +kernel)) (pi_tup (pe_fld (pv 0) rfl)) (blkOk_by (own := [("breakers", 4), ("outages", 5)]) (N := N_sentrequests) (sc := defScope st_sent_requests) (by decide +kernel)) (fun _ _ _ _ _ => pg_tup rfl (pgs_cons (pg_name (i := 4) nd rfl (Or.inl rfl)) (pgs_cons (pg_name (i := 5) nd rfl (Or.inl rfl)) pgs_nil))) (fun _ _ _ _ _ => pts_nil) (fun _ _ _ _ _ => (pe_c G_closedstates (hr.mono (by decide)) rfl (pa_cons (pe_callB (call_lenK (K := K) rfl) (by rfl) T.b_len PySem.boot_len (pa_cons (pv 4) pa_nil)) pa_nil))))
       (pss_cons (ps_set (i := 7) nd rfl (Or.inl rfl) (pe_lst pa_nil))
       (pss_cons (ps_for (passes_of rfl) rfl (pi_range1 rfl T.b_range (pa_cons (pv 1) pa_nil)) (pg_name (i := 8) nd rfl (Or.inl rfl)) (pss_cons (ps_set (i := 9) nd rfl (Or.inl rfl) (pe_ix (r := rIxT K) ix_tup (pe_fld (pv 0) rfl) (pe_op op_mod (pv 8) (pe_callB call_len_seq (by rfl) T.b_len PySem.boot_len (pa_cons (pe_fld (pv 0) rfl) pa_nil))) (fun _ _ => rfl)))
       (pss_cons (ps_asg (pe_ix (r := rIxT K) ix_tup (pe_fld (pv 0) rfl) (pv 9) (fun _ _ => rfl)) (pg_tup rfl (pgs_cons (pg_name (i := 4) nd rfl (Or.inl rfl)) (pgs_cons (pg_name (i := 5) nd rfl (Or.inl rfl)) pgs_nil))))
       (pss_cons (ps_set (i := 10) nd rfl (Or.inr rfl) (pe_op op_mulW (pv 8) (pe_fld (pv 0) rfl)))
       (pss_cons (ps_asg (pe_c G_sent (hr.mono (by decide)) rfl (pa_cons (pe_op (r := rCatA K) op_catA (pe_fld (pv 0) rfl) (pv 4)) (pa_cons (pe_op op_cat (pv 3) (pe_ix (r := rIxL K) ix_list (pv 6) (pv 9) (fun _ _ => rfl))) (pa_cons (pv 10) (pa_cons (pe_c G_isup (hr.mono (by decide)) rfl (pa_cons (pv 5) (pa_cons (pv 10) pa_nil))) pa_nil))))) (pg_tup rfl (pgs_cons (pg_name (i := 11) nd rfl (Or.inl rfl)) (pgs_cons (pg_name (i := 12) nd rfl (Or.inl rfl)) pgs_nil))))
       (pss_cons (ps_asg (pe_tup (pa_cons (pe_slice (r := rSlL K) sl_list (pv 12) po_none (po_some (pv 2))) (pa_cons (pe_slice (r := rSlL K) sl_list (pv 12) (po_some (pv 2)) po_none) pa_nil))) (pg_tup rfl (pgs_cons (pg_name (i := 3) nd rfl (Or.inl rfl)) (pgs_cons (pg_sub (pv 6) (pv 9) set_list) pgs_nil))))
       (pss_cons (ps_setLc (i := 13) (own := [("breaker", 14), ("state", 15)]) (g := gTup K 2 (gCons (gName 14) (gCons (gName 15) (gNil)))) rfl nd rfl rfl (sw_true rfl rfl rfl (by decide +kernel)) (pi_enum (by rfl) T.b_enumerate (pa_cons (pv 3) pa_nil)) (blkOk_by (own := [("breaker", 14), ("state", 15)]) (N := N_sentrequests) (sc := defScope st_sent_requests) (by decide +kernel)) (fun _ _ _ _ _ => pg_tup rfl (pgs_cons (pg_name (i := 14) nd rfl (Or.inl rfl)) (pgs_cons (pg_name (i := 15) nd rfl (Or.inl rfl)) pgs_nil))) (fun _ _ _ _ _ => pts_one (pt_cmpR (op_eqDK (K := K) rfl hr.units) (pv 15) (pe_tup (pa_cons pe_str (pa_cons (pv 10) pa_nil))) (nomark _))) (fun _ _ _ _ _ => (pv 14)))
       (pss_one (ps_expr (pe_bm PySem.F.plainAttrs_list PySem.F.slot_list_append PySem.F.type_list_append mt_append (pv 7) (pa_cons (pe_tup (pa_cons (pv 9) (pa_cons (pe_cmpR (op_eqD hr.units) (pv 11) (pe_glob (by rfl) c_SERVED rr) (nomark _)) (pa_cons (pv 13) pa_nil)))) pa_nil)))))))))))
       (pss_one (ps_ret (pv 7))))))))), ?_⟩
    refine ⟨_, rfl, _, _, _, _, rfl, kd, _, rfl, ?_⟩
    rw [bad]
    exact iteT ⟨(by show 1 ≤ 1000; decide), fun e he => raise1 k e he⟩
theorem ok_sentrequests (T : LX K mg L) : CalX P w K mg base "sent_requests" 6 L.f_sent_requests ["routes", "count"] (spCntX L) := T.d_sent_requests.calX fun fd F => fn_sentrequests T F
end R
theorem ok_sentrequests (T : LX K mg L) : CalX P w K mg base "sent_requests" 6 L.f_sent_requests ["routes", "count"] (spCntX L) := T.d_sent_requests.calX fun fd F => R.fn_sentrequests T F
namespace R
theorem fn_served (T : LX K mg L) {fd : FuncData} (F : Fun K "served" "served" st_served L.f_served fd) : FnOk P w K mg base (L2.CX P w) 7 L.f_served fd ["routes", "count"] (spCntX L) := by
  have G_sentrequests := ok_sentrequests (P := P) (w := w) (base := base) T
  have nd := sc_served.nd
  refine F.okX sc_served (fun vs H Q E h => ?_) (fun cdv A outer S H vs Q E hr h => ?_)
  · obtain ⟨r, v, rfl, _⟩ := h
    rfl
  · obtain ⟨r, v, rfl, bad, k⟩ := h
    refine ⟨_, (pss_cons (ps_set (i := 2) nd rfl (Or.inl rfl) (pe_cX (EX.ok_sentrequests (P := P) (w := w) (base := base) T) (hr.mono (by decide)) rfl (fun σ => passAt (takes_of rfl rfl rfl rfl) σ) (pa_cons (pv 0) (pa_cons (pv 1) pa_nil))))
       (pss_cons (ps_set (i := 3) nd rfl (Or.inl rfl) (pe_lst pa_nil))
       (pss_cons (ps_for (passes_of rfl) rfl (pi_range1 rfl T.b_range (pa_cons (pe_callB call_len_seq (by rfl) T.b_len PySem.boot_len (pa_cons (pe_fld (pv 0) rfl) pa_nil)) pa_nil)) (pg_name (i := 4) nd rfl (Or.inr rfl)) (pss_cons (ps_setLc (i := 5) (own := [("service", 6), ("success", 7), ("opened", 8)]) (g := gTup K 3 (gCons (gName 6) (gCons (gName 7) (gCons (gName 8) (gNil))))) rfl nd rfl rfl (sw_true rfl rfl rfl (by decide +kernel)) (pi_list (pv 2)) (blkOk_by (own := [("service", 6), ("success", 7), ("opened", 8)]) (N := N_served) (sc := defScope st_served) (by decide +kernel)) (fun _ _ _ _ _ => pg_tup rfl (pgs_cons (pg_name (i := 6) nd rfl (Or.inl rfl)) (pgs_cons (pg_name (i := 7) nd rfl (Or.inl rfl)) (pgs_cons (pg_name (i := 8) nd rfl (Or.inl rfl)) pgs_nil)))) (fun _ _ _ _ _ => pts_one (pt_cmpR op_eq (pv 6) (pv 4) (nomark _))) (fun _ _ _ _ _ => (pv 7)))
       (pss_one (ps_expr (pe_bm PySem.F.plainAttrs_list PySem.F.slot_list_append PySem.F.type_list_append mt_append (pv 3) (pa_cons (pe_tup (pa_cons (pe_bm PySem.F.plainAttrs_list PySem.F.slot_list_count PySem.F.type_list_count (mt_dcount hr.units) (pv 5) (pa_cons pe_bl pa_nil)) (pa_cons (pe_bm PySem.F.plainAttrs_list PySem.F.slot_list_count PySem.F.type_list_count (mt_dcount hr.units) (pv 5) (pa_cons pe_bl pa_nil)) pa_nil))) pa_nil))))))
       (pss_one (ps_ret (pv 3)))))), ?_⟩
    exact ⟨_, rfl, _, rfl, r, v, rfl, bad, k⟩
theorem ok_served (T : LX K mg L) : CalX P w K mg base "served" 7 L.f_served ["routes", "count"] (spCntX L) := T.d_served.calX fun fd F => fn_served T F
theorem fn_commonopenings (T : LX K mg L) {fd : FuncData} (F : Fun K "common_openings" "common_openings" st_common_openings L.f_common_openings fd) : FnOk P w K mg base (L2.CX P w) 7 L.f_common_openings fd ["routes", "count"] (spCntX L) := by
  have G_sentrequests := ok_sentrequests (P := P) (w := w) (base := base) T
  have nd := sc_commonopenings.nd
  refine F.okX sc_commonopenings (fun vs H Q E h => ?_) (fun cdv A outer S H vs Q E hr h => ?_)
  · obtain ⟨r, v, rfl, _⟩ := h
    rfl
  · obtain ⟨r, v, rfl, bad, k⟩ := h
    refine ⟨_, (pss_cons (ps_set (i := 2) nd rfl (Or.inl rfl) (pe_cX (EX.ok_sentrequests (P := P) (w := w) (base := base) T) (hr.mono (by decide)) rfl (fun σ => passAt (takes_of rfl rfl rfl rfl) σ) (pa_cons (pv 0) (pa_cons (pv 1) pa_nil))))
       (pss_one (ps_ret (pe_lc2 (own := [("number", 3), ("service", 4), ("success", 5), ("opened", 6), ("breaker", 7)]) (vs1 := [7]) (g := gTup K 2 (gCons (gName 3) (gCons (gTup K 3 (gCons (gName 4) (gCons (gName 5) (gCons (gName 6) (gNil))))) (gNil)))) (tt := tYes) (g1 := gName 7) (tt1 := tYes) (wi1 := iList K _) rfl nd (pi_enum (by rfl) T.b_enumerate (pa_cons (pv 2) pa_nil)) (blkOk_by (own := [("number", 3), ("service", 4), ("success", 5), ("opened", 6), ("breaker", 7)]) (N := N_commonopenings) (sc := defScope st_common_openings) (by decide +kernel)) (by simp) (fun _ _ _ _ _ => pg_tup rfl (pgs_cons (pg_name (i := 3) nd rfl (Or.inl rfl)) (pgs_cons (pg_tup rfl (pgs_cons (pg_name (i := 4) nd rfl (Or.inl rfl)) (pgs_cons (pg_name (i := 5) nd rfl (Or.inl rfl)) (pgs_cons (pg_name (i := 6) nd rfl (Or.inl rfl)) pgs_nil)))) pgs_nil))) (fun _ _ _ _ _ => pts_nil) (fun _ _ _ _ _ => (pi_list (pv 6))) (fun _ _ _ _ _ => pg_name (i := 7) nd rfl (Or.inl rfl)) (fun _ _ _ _ _ => pts_nil) (fun _ _ _ _ _ => (pe_tup (pa_cons (pv 3) (pa_cons (pv 7) pa_nil)))))))), ?_⟩
    exact ⟨_, rfl, _, rfl, r, v, rfl, bad, k⟩
theorem ok_commonopenings (T : LX K mg L) : CalX P w K mg base "common_openings" 7 L.f_common_openings ["routes", "count"] (spCntX L) := T.d_common_openings.calX fun fd F => fn_commonopenings T F
theorem fn_checkdown (T : LX K mg L) {fd : FuncData} (F : Fun K "check_down" "check_down" st_check_down L.f_check_down fd) : FnOk P w K mg base (L2.CX P w) 3 L.f_check_down fd ["routes", "down"] (spDnX L) := by
  have G_iswithin := ok_iswithin (P := P) (w := w) (base := base) T
  have nd := sc_checkdown.nd
  refine F.okX sc_checkdown (fun vs H Q E h => ?_) (fun cdv A outer S H vs Q E hr h => ?_)
  · obtain ⟨p, fr, svs, pat, st, v, rfl, _⟩ := h
    rfl
  · obtain ⟨p, fr, svs, pat, st, v, rfl, RV, bad, k⟩ := h
    refine ⟨_, (pss_cons (ps_if (pt_not (pt_val (pe_callB call_isi (by rfl) T.b_isinstance (by decide +kernel) (pa_cons (pv 1) (pa_cons (pe_bltn (by rfl) T.b_list (by decide +kernel : bootBuiltins "list" = some (.type "list")) (v := .ty "list") rfl) pa_nil))))) (pss_one (ps_raise rfl (takes_of rfl rfl rfl rfl) (mk_InvalidBound T (hr.mono (by decide)) rfl (pa_cons pe_str pa_nil)))) pss_nil)
       (pss_cons (ps_set (i := 2) nd rfl (Or.inl rfl) pe_int)
       (pss_one (ps_for (passes_of rfl) rfl (pi_list (pv 1)) (pg_name (i := 3) nd rfl (Or.inl rfl)) (pss_cons (ps_if (pt_not (pt_val (pe_c G_iswithin (hr.mono (by decide)) rfl (pa_cons (pv 3) (pa_cons (pv 2) (pa_cons (pe_op op_sub (pe_callB call_len_seq (by rfl) T.b_len PySem.boot_len (pa_cons (pe_fld (pv 0) rfl) pa_nil)) pe_int) pa_nil)))))) (pss_one (ps_raise rfl (takes_of rfl rfl rfl rfl) (mk_InvalidBound T (hr.mono (by decide)) rfl (pa_cons pe_str pa_nil)))) pss_nil)
       (pss_one (ps_set (i := 2) nd rfl (Or.inl rfl) (pe_op op_add (pv 3) pe_int)))))))), ?_⟩
    obtain ⟨aC, aS, aP, xC, xS, R⟩ := RV
    obtain ⟨dx, hp⟩ := R.ob
    have sl := paired_len R.sv
    cases bad with
    | @kind _ nm kd c =>
      refine ⟨_, rfl, _, .ty "list", _, _, _, rfl, .ty "list", kd.ty, kd.kit "list" _ (.inr ⟨by decide, by decide, rfl⟩), _, rfl, ?_⟩
      rw [show (nm == "list") = false from beq_false_of_ne c]
      exact iteT ⟨(by show 1 ≤ 1000; decide), fun e he => raise1 k e he⟩
    | @first a post x nm hd kd bad =>
      refine ⟨_, rfl, _, .ty "list", _, _, _, rfl, .ty "list", (Kd.lst hd).ty, (Kd.lst hd).kit "list" _ (.inr ⟨by decide, by decide, rfl⟩), _, rfl, iteF ?_⟩
      refine ⟨_, rfl, a, rfl, ⟨_, SqL.of hd⟩, ?_⟩
      obtain ⟨xs, hxs⟩ : ∃ xs, xs = x :: post := ⟨_, rfl⟩
      rw [← hxs] at hd
      have hpl : 0 < xs.length := by rw [hxs, List.length_cons]; omega
      refine for_list (K := K) (a := a) (xs := xs) (fun i σ Hc => ∃ v3 : Option V, σ = [some (.ref p), some (.ref a), some (.int 0), v3] ∧ i = 0 ∧ Hc = H) ⟨none, rfl, rfl, rfl⟩ (fun i σ Hc _ ⟨_, _, _, e⟩ => by rw [e]; exact SqL.of hd) ?_ ?_
      · rintro i y σ Hc hyi ⟨v3, rfl, rfl, rfl⟩
        have hyx : y = x := by
          rw [hxs] at hyi
          exact (Option.some.inj hyi).symm
        subst hyx
        refine ⟨_, rfl, _, rfl, _, rfl, p, L.c_Routes, dx, _, _, rfl, hp, T.cf_Routes.cl, T.nf_Routes_services, rtF_s _ _ _ _, aS, xS, rfl, .inr (SqT.of R.hS), _, _, rfl, rfl, _, _, _, _, rfl, kd, _, rfl, ?_⟩
        rw [sl, bad]
        exact iteT ⟨(by show 1 ≤ 1000; decide), fun e he => raise1 k e he⟩
      · rintro σ Hc ⟨v3, rfl, e, rfl⟩
        exact absurd e (by omega)
    | @low a post c x nm hd c0 c1 kd bad =>
      refine ⟨_, rfl, _, .ty "list", _, _, _, rfl, .ty "list", (Kd.lst hd).ty, (Kd.lst hd).kit "list" _ (.inr ⟨by decide, by decide, rfl⟩), _, rfl, iteF ?_⟩
      refine ⟨_, rfl, a, rfl, ⟨_, SqL.of hd⟩, ?_⟩
      obtain ⟨xs, hxs⟩ : ∃ xs, xs = V.int c :: x :: post := ⟨_, rfl⟩
      rw [← hxs] at hd
      have hpl : 1 < xs.length := by rw [hxs, List.length_cons, List.length_cons]; omega
      refine for_list (K := K) (a := a) (xs := xs) (fun i σ Hc => ∃ (v3 : Option V) (ls : Int), σ = [some (.ref p), some (.ref a), some (.int ls), v3] ∧ ((i = 0 ∧ ls = 0) ∨ (i = 1 ∧ ls = c + 1)) ∧ Hc = H) ⟨none, 0, rfl, .inl ⟨rfl, rfl⟩, rfl⟩ (fun i σ Hc _ ⟨_, _, _, _, e⟩ => by rw [e]; exact SqL.of hd) ?_ ?_
      · rintro i y σ Hc hyi ⟨v3, ls, rfl, alt, rfl⟩
        rcases alt with ⟨rfl, rfl⟩ | ⟨rfl, rfl⟩
        · have hyx : y = .int c := by
            rw [hxs] at hyi
            exact (Option.some.inj hyi).symm
          subst hyx
          refine ⟨_, rfl, _, rfl, _, rfl, p, L.c_Routes, dx, _, _, rfl, hp, T.cf_Routes.cl, T.nf_Routes_services, rtF_s _ _ _ _, aS, xS, rfl, .inr (SqT.of R.hS), _, _, rfl, rfl, _, _, _, _, rfl, .int _, _, rfl, ?_⟩
          show if (!(isI (V.int c) && (decide ((0 : Int) ≤ c) && decide (c ≤ ((xS.length : Nat) : Int) - 1)))) = true then _ else _
          rw [k6_pos c0 (show c ≤ ((xS.length : Nat) : Int) - 1 by omega)]
          exact iteF ⟨_, rfl, _, _, rfl, rfl, _, _, rfl, .inr ⟨rfl, rfl⟩, rfl⟩
        · have hyx : y = x := by
            rw [hxs] at hyi
            exact (Option.some.inj hyi).symm
          subst hyx
          refine ⟨_, rfl, _, rfl, _, rfl, p, L.c_Routes, dx, _, _, rfl, hp, T.cf_Routes.cl, T.nf_Routes_services, rtF_s _ _ _ _, aS, xS, rfl, .inr (SqT.of R.hS), _, _, rfl, rfl, _, _, _, _, rfl, kd, _, rfl, ?_⟩
          rw [sl, bad]
          exact iteT ⟨(by show 1 ≤ 1000; decide), fun e he => raise1 k e he⟩
      · rintro σ Hc ⟨v3, ls, rfl, alt, rfl⟩
        exact absurd alt (by omega)
theorem ok_checkdown (T : LX K mg L) : CalX P w K mg base "check_down" 3 L.f_check_down ["routes", "down"] (spDnX L) := T.d_check_down.calX fun fd F => fn_checkdown T F
end R
theorem ok_checkdown (T : LX K mg L) : CalX P w K mg base "check_down" 3 L.f_check_down ["routes", "down"] (spDnX L) := T.d_check_down.calX fun fd F => R.fn_checkdown T F
namespace R
theorem fn_longestfailure (T : LX K mg L) {fd : FuncData} (F : Fun K "longest_failure" "longest_failure" st_longest_failure L.f_longest_failure fd) : FnOk P w K mg base (L2.CX P w) 4 L.f_longest_failure fd ["routes", "down"] (spDnX L) := by
  have G_checkdown := ok_checkdown (P := P) (w := w) (base := base) T
  have G_failingruns := ok_failingruns (P := P) (w := w) (base := base) T
  have nd := sc_longestfailure.nd
  refine F.okX sc_longestfailure (fun vs H Q E h => ?_) (fun cdv A outer S H vs Q E hr h => ?_)
  · obtain ⟨p, fr, svs, pat, st, v, rfl, _⟩ := h
    rfl
  · obtain ⟨p, fr, svs, pat, st, v, rfl, RV, bad, k⟩ := h
    refine ⟨_, (pss_cons (ps_expr (pe_cX (EX.ok_checkdown (P := P) (w := w) (base := base) T) (hr.mono (by decide)) rfl (fun σ => passAt (takes_of rfl rfl rfl rfl) σ) (pa_cons (pv 0) (pa_cons (pv 1) pa_nil))))
       (pss_cons (ps_set (i := 2) nd rfl (Or.inl rfl) (pe_callB (cr_max rfl) (by rfl) T.b_max (by decide +kernel) (pa_cons (pe_c G_failingruns (hr.mono (by decide)) rfl (pa_cons (pv 0) (pa_cons (pv 1) pa_nil))) pa_nil)))
       (pss_cons (ps_if (pt_cmpR op_gt (pv 2) (pe_callB call_len_seq (by rfl) T.b_len PySem.boot_len (pa_cons (pe_fld (pv 0) rfl) pa_nil)) (nomark _)) (pss_one (ps_ret pe_non)) pss_nil)
       (pss_one (ps_ret (pv 2)))))), ?_⟩
    exact ⟨_, rfl, _, rfl, p, fr, svs, pat, st, v, rfl, RV, bad, k⟩
theorem ok_longestfailure (T : LX K mg L) : CalX P w K mg base "longest_failure" 4 L.f_longest_failure ["routes", "down"] (spDnX L) := T.d_longest_failure.calX fun fd F => fn_longestfailure T F
end R
theorem ok_longestfailure (T : LX K mg L) : CalX P w K mg base "longest_failure" 4 L.f_longest_failure ["routes", "down"] (spDnX L) := T.d_longest_failure.calX fun fd F => R.fn_longestfailure T F
namespace R
theorem fn_firstopening (T : LX K mg L) {fd : FuncData} (F : Fun K "first_opening" "first_opening" st_first_opening L.f_first_opening fd) : FnOk P w K mg base (L2.CX P w) 5 L.f_first_opening fd ["routes", "down"] (spDnX L) := by
  have G_longestfailure := ok_longestfailure (P := P) (w := w) (base := base) T
  have G_failingruns := ok_failingruns (P := P) (w := w) (base := base) T
  have nd := sc_firstopening.nd
  refine F.okX sc_firstopening (fun vs H Q E h => ?_) (fun cdv A outer S H vs Q E hr h => ?_)
  · obtain ⟨p, fr, svs, pat, st, v, rfl, _⟩ := h
    rfl
  · obtain ⟨p, fr, svs, pat, st, v, rfl, RV, bad, k⟩ := h
    refine ⟨_, (pss_cons (ps_set (i := 2) nd rfl (Or.inl rfl) (pe_cX (EX.ok_longestfailure (P := P) (w := w) (base := base) T) (hr.mono (by decide)) rfl (fun σ => passAt (takes_of rfl rfl rfl rfl) σ) (pa_cons (pv 0) (pa_cons (pv 1) pa_nil))))
       (pss_cons (ps_if (pt_cmpR (op_eqD hr.units) (pe_fld (pv 0) rfl) (pe_tup pa_nil) (nomark _)) (pss_one (ps_ret pe_non)) pss_nil)
       (pss_cons (ps_set (i := 3) nd rfl (Or.inr rfl) (pe_callB (cr_min rfl) (by rfl) T.b_min (by decide +kernel) (pa_cons (pe_lc (own := [("breaker", 6)]) (g := gName 6) (tt := tYes) rfl nd (pi_tup (pe_fld (pv 0) rfl)) (blkOk_by (own := [("breaker", 6)]) (N := N_firstopening) (sc := defScope st_first_opening) (by decide +kernel)) (fun _ _ _ _ _ => pg_name (i := 6) nd rfl (Or.inl rfl)) (fun _ _ _ _ _ => pts_nil) (fun _ _ _ _ _ => (pe_ix (r := rIxT K) ix_tup (pv 6) pe_int (fun _ _ => rfl)))) pa_nil)))
       (pss_cons (ps_setLc (i := 4) (own := [("place", 5), ("breaker", 6)]) (g := gTup K 2 (gCons (gName 5) (gCons (gName 6) (gNil)))) rfl nd rfl rfl (sw_true rfl rfl rfl (by decide +kernel)) (pi_enumT (by rfl) T.b_enumerate (pa_cons (pe_fld (pv 0) rfl) pa_nil)) (blkOk_by (own := [("place", 5), ("breaker", 6)]) (N := N_firstopening) (sc := defScope st_first_opening) (by decide +kernel)) (fun _ _ _ _ _ => pg_tup rfl (pgs_cons (pg_name (i := 5) nd rfl (Or.inl rfl)) (pgs_cons (pg_name (i := 6) nd rfl (Or.inl rfl)) pgs_nil))) (fun _ _ _ _ _ => pts_one (pt_cmpR op_eq (pe_ix (r := rIxT K) ix_tup (pv 6) pe_int (fun _ _ => rfl)) (pv 3) (nomark _))) (fun _ _ _ _ _ => (pv 5)))
       (pss_cons (ps_if (pt_cmp (pc_isN (pv 2))) (pss_one (ps_ret (pe_tup (pa_cons (pe_op op_sub (pv 3) pe_int) (pa_cons (pv 4) pa_nil))))) pss_nil)
       (pss_cons (ps_if (pt_cmpR op_gt (pv 3) (pv 2) (nomark _)) (pss_one (ps_ret pe_non)) pss_nil)
       (pss_one (ps_ret (pe_tup (pa_cons (pe_bm PySem.F.plainAttrs_list PySem.F.slot_list_index PySem.F.type_list_index mt_index (pe_c G_failingruns (hr.mono (by decide)) rfl (pa_cons (pv 0) (pa_cons (pv 1) pa_nil))) (pa_cons (pv 3) pa_nil)) (pa_cons (pv 4) pa_nil))))))))))), ?_⟩
    exact ⟨_, rfl, _, rfl, p, fr, svs, pat, st, v, rfl, RV, bad, k⟩
theorem ok_firstopening (T : LX K mg L) : CalX P w K mg base "first_opening" 5 L.f_first_opening ["routes", "down"] (spDnX L) := T.d_first_opening.calX fun fd F => fn_firstopening T F
end R
theorem ok_served (T : LX K mg L) : CalX P w K mg base "served" 7 L.f_served ["routes", "count"] (spCntX L) := T.d_served.calX fun fd F => R.fn_served T F
theorem ok_commonopenings (T : LX K mg L) : CalX P w K mg base "common_openings" 7 L.f_common_openings ["routes", "count"] (spCntX L) := T.d_common_openings.calX fun fd F => R.fn_commonopenings T F
theorem ok_firstopening (T : LX K mg L) : CalX P w K mg base "first_opening" 5 L.f_first_opening ["routes", "down"] (spDnX L) := T.d_first_opening.calX fun fd F => R.fn_firstopening T F
end
end EX
def spRtU (L : LA) : Sp := fun vs H Q E => spRtInit L.c_Routes vs H Q E0 ∨ spRtX L vs H Q E
section
variable {X : Cx} {L : LA}
/-- Routes(..), good or bad -/
theorem pe_mkRoutesX {K : PySem.W.Frag} {E : XK} (hK : X.K = K) (tk : L2.Takes X fun cls d _ H => E cls d H) (T : LX K X.mg L) (hr : Room 9 X.A) {p pos : Pos} {e : Expr} {es : List Expr} {t : TA} (hg : Gl X "Routes") (ha : PA X (e :: es) t)
    (he : starEach (e :: es) X.env = (false, eval e X.env) :: starEach es X.env := by rfl) (hpl : (backTo pos (starEach es X.env)).any (·.1) = false := by rfl) : PE X (.Call (.Name "Routes" p) (e :: es) [] pos) (tMake L.c_Routes (spRtU L) [] E t) := by
  subst hK
  obtain ⟨fd, F, b⟩ := T.in_Routes
  exact pe_make T.mk_Routes (FnOk.orX (fn_Routesinit T F) (EX.fn_Routesinit T F)) hr hg T.gc_Routes b .nil (pass1 tk) ha (by decide) he hpl
end
/-! ### which error a call raises (_law_raised) -/
abbrev N_wraised : List Str := ["_law_call", "_law_found", "e"]
theorem sc_wraised : FnScope N_wraised ["_law_call"] (defScope st__law_raised) := ⟨rfl, rfl, rfl, by decide +kernel, rfl, by decide +kernel, by decide +kernel⟩
theorem lt_mem_wpartsright {K : PySem.W.Frag} {mg : Str → Option Value} {L : LA} (T : LX K mg L) : (L.t__law_parts_right, (("_law_parts_right" : Str) ++ ".<locals>.") ++ "<lambda>") ∈ LT L := by simp [LT]
theorem lt_one_wpartsright {K : PySem.W.Frag} {mg : Str → Option Value} {L : LA} (T : LX K mg L) : ∀ p ∈ LT L, p.1 = L.t__law_parts_right → p.2 = (("_law_parts_right" : Str) ++ ".<locals>.") ++ "<lambda>" := by
  intro p hp e
  simp only [LT, List.mem_cons, List.mem_nil_iff, or_false] at hp
  rcases hp with rfl | rfl
  · rfl
  · exact absurd e (fun z => T.nt__law_parts_right_law z.symm)
theorem lt_mem_law {K : PySem.W.Frag} {mg : Str → Option Value} {L : LA} (T : LX K mg L) : (L.t_law, (("law" : Str) ++ ".<locals>.") ++ "<lambda>") ∈ LT L := by simp [LT]
theorem lt_one_law {K : PySem.W.Frag} {mg : Str → Option Value} {L : LA} (T : LX K mg L) : ∀ p ∈ LT L, p.1 = L.t_law → p.2 = (("law" : Str) ++ ".<locals>.") ++ "<lambda>" := by
  intro p hp e
  simp only [LT, List.mem_cons, List.mem_nil_iff, or_false] at hp
  rcases hp with rfl | rfl
  · exact absurd e T.nt__law_parts_right_law
  · rfl

inductive RsdA (K : PySem.W.Frag) (L : LA) (dd : Addr) (H : Hp) (Q : VK) : Addr → Prop where
  | row (x y : V) (h : H dd = some (.xd [("at", y), ("part", x)])) (k : ∀ p H', H' p = some (.tup [x, y]) → Same H H' → H p = none → Q (.ref p) H') : RsdA K L dd H Q L.e_InvalidRow
  | bound (v : V) (h : H dd = some (.xd [("part", v)])) (k : ∀ p H', H' p = some (.tup [.str "bound", v]) → Same H H' → H p = none → Q (.ref p) H') : RsdA K L dd H Q L.e_InvalidBound
def RsdR (K : PySem.W.Frag) (L : LA) (cls : Value) (d : Option Addr) (H : Hp) (Q : VK) : Prop := ∃ D dd : Addr, cls = .ref D ∧ d = some dd ∧ RsdA K L dd H Q D
/-- the lambda ends well, or with such an error -/
def TTrsd (K : PySem.W.Frag) (L : LA) : (XK → Hp → VK → Prop) → Hp → VK → Prop := fun tl H Q => ∀ (E : XK) (N : VK) (H1 : Hp), Same H H1 → (∀ cls d H', RsdR K L cls d H' Q → E cls d H') → (∀ v H', Q .non H' → N v H') → tl E H1 N
theorem Takes.long {X : Cx} {W : L2.WX} (tk : L2.Takes X W) : L2.Takes X (fun cls d σ H => σ.length = X.N.length → W cls d σ H) := fun u s' x => by
  obtain ⟨a, B, sI, pins, σ, H, cls, d, e, I, nb, up, sky, na, os, ag, w⟩ := x
  exact tk u s' ⟨a, B, sI, pins, σ, H, cls, d, e, I, nb, up, sky, na, os, ag, w I.len⟩
theorem rsd_gives {X : Cx} {L : LA} (T : LX X.K X.mg L) (hr9 : Room 3 X.A) {g : Addr} {cdg : Value} {q : Str} : LamX.GivesTo X N_wraised "_law_raised" (defScope st__law_raised) g cdg (defBody st__law_raised) "_law_call" q (TTrsd X.K L) := by
  intro f c' s H Q tl act hc h
  have nd := sc_wraised.nd
  have hr := hr9.deeper (PyProof.Rows.envOfC "_law_raised" (defScope st__law_raised) s.heap.objs.size g cdg)
  refine ⟨_, (pss_cons (ps_set (i := 1) nd rfl (Or.inl rfl) (pe_tup (pa_cons pe_str (pa_cons pe_non pa_nil)))) (pss_cons (ps_try_as (i := 2) (Wout := fun _ _ _ _ => False) (tb := fun W => tSeq (fun D σ H => ∃ Ech : XK, (∀ cls d (σ' : L2.St) H', σ'.length = 3 → Ech cls d H' → W cls d σ' H') ∧ σ[0]? = some (some (.ref f)) ∧ H c' = some (LamX.CodeO c' q) ∧ tl Ech H fun _ H' => D.nx σ H') (tAsg (tC .non) (gName 1))) rfl rfl nd rfl rfl ⟨rfl, by decide, Or.inl T.ge_BreakerError⟩ takes0 (fun W pn xe tk _ => ?_) (fun a oe cls d pn hz hf => by exact (pss_cons (ps_if (pt_val (pe_callB (call_isZ (K := X.K) (by rfl) hz hf) (by rfl) T.b_isinstance (by decide +kernel) (pa_cons (pv 2) (pa_cons (pe_glob rfl T.ge_InvalidRow rr) pa_nil)))) (pss_one (ps_set (i := 1) nd rfl (Or.inl rfl) (pe_tup (pa_cons (pe_xfZ (K := X.K) (by rfl) hz hf (pv 2)) (pa_cons (pe_xfZ (K := X.K) (by rfl) hz hf (pv 2)) pa_nil))))) pss_nil)
 (pss_one (ps_if (pt_val (pe_callB (call_isZ (K := X.K) (by rfl) hz hf) (by rfl) T.b_isinstance (by decide +kernel) (pa_cons (pv 2) (pa_cons (pe_glob rfl T.ge_InvalidBound rr) pa_nil)))) (pss_one (ps_set (i := 1) nd rfl (Or.inl rfl) (pe_tup (pa_cons pe_str (pa_cons (pe_xfZ (K := X.K) (by rfl) hz hf (pv 2)) pa_nil))))) pss_nil))))) (pss_one (ps_ret (pv 1))))), ?_⟩
  · refine pss_cons ⟨fun pins s' σ H' D I h' => ?_⟩ (pss_one (ps_set (i := 1) nd rfl (Or.inl rfl) pe_non))
    obtain ⟨Ech, hW, h1, h2, h3⟩ := h'
    exact (ps_expr (act _ pn xe Ech _ _ (Takes.long tk) (fun cls d σ' H' e z => hW cls d σ' H' z e))).run pins s' σ H' D I ⟨h1, h2, h3⟩
  · refine ⟨(by show 2 ≤ sizeLine; decide), fun t0 n0 => ?_⟩
    have S0 := Same.upd (o := .tup [.str "another", .non]) n0
    generalize upd H t0 (.tup [.str "another", .non]) = H1 at S0 ⊢
    refine ⟨fun cls d H' => RsdR X.K L cls d H' Q, fun cls d σ' H' hl z => ?_, rfl, S0 _ _ hc, h _ _ _ S0 (fun _ _ _ z => z) fun _ H' z => ⟨_, rfl, z⟩⟩
    obtain ⟨D, dd, rfl, rfl, alt⟩ := z
    obtain ⟨s0, s1, s2, rfl⟩ : ∃ a0 a1 a2, σ' = [a0, a1, a2] := by
      match σ', hl with
      | [a0, a1, a2], _ => exact ⟨a0, a1, a2, rfl⟩
    have fld : ∀ {D a : Addr} {f : Str} {v : V} {fs' : List (Str × V)} {Qx : VK} {a0 a1 : Option V} {Hx : Hp}, L2.XfC X.K D → PySem.W.findIn X.K (.ref D) f = some none → Hx dd = some (.xd fs') → fs'.lookup f = some v → Qx v Hx → tXfZ X.K a (.ref D) (some dd) f (tVar 2) [a0, a1, some (.ref a)] Hx Qx := fun {D a f v fs' Qx a0 a1 Hx} xf no h1 h2 q => ⟨D, xf, no, _, rfl, rfl, rfl, dd, _, _, rfl, h1, h2, q⟩
    have isz : ∀ {D a : Addr} {fs : List (Str × V)} {v : V} {C : Value} {x : Bool} {Hx : Hp} {Qx : VK}, IsC X.K D → PySem.W.kitOne X.K (.ref D) C = some x → (∀ u, L2.RelV v u → u = C) → Hx dd = some (.xd fs) → Qx (.bl x) Hx → rIsZ X.K a (.ref D) (some dd) [.ref a, v] Hx Qx := fun {D a fs v C x Hx Qx} h0 h1 h2 h3 h4 => ⟨D, dd, rfl, rfl, h0, v, C, x, fs, rfl, h3, h2, h1, h4⟩
    have ir : ∀ (p : Addr) (u : Value), L2.RelV (.ref p) u → u = .ref p := fun p u hu => hu
    cases alt with
    | row x y hd k =>
      refine ⟨true, exm_of T.xe_BreakerError T.te_BreakerError T.se_InvalidRow_BreakerError, fun _ a na => ?_, fun z => nomatch z⟩
      refine ⟨_, rfl, isz T.is_InvalidRow (kit_of T.xe_InvalidRow T.te_InvalidRow T.se_InvalidRow_InvalidRow T.se_InvalidRow_InvalidRow) (ir _) hd ⟨_, rfl, iteT ?_⟩⟩
      refine fld T.xe_InvalidRow T.ne_InvalidRow_part hd rfl (fld T.xe_InvalidRow T.ne_InvalidRow_at hd rfl ?_)
      refine ⟨(by show 2 ≤ sizeLine; decide), fun p5 n5 => ?_⟩
      have S5 := Same.upd (o := .tup [x, y]) n5
      refine ⟨_, rfl, isz T.is_InvalidRow (kit_of T.xe_InvalidBound T.te_InvalidBound T.se_InvalidRow_InvalidRow T.se_InvalidRow_InvalidBound) (ir _) (S5 _ _ hd) ⟨_, rfl, iteF ?_⟩⟩
      exact ⟨_, rfl, k _ _ upd_same S5 n5⟩
    | bound v hd k =>
      refine ⟨true, exm_of T.xe_BreakerError T.te_BreakerError T.se_InvalidBound_BreakerError, fun _ a na => ?_, fun z => nomatch z⟩
      refine ⟨_, rfl, isz T.is_InvalidBound (kit_of T.xe_InvalidRow T.te_InvalidRow T.se_InvalidBound_InvalidBound T.se_InvalidBound_InvalidRow) (ir _) hd ⟨_, rfl, iteF ?_⟩⟩
      refine ⟨_, rfl, isz T.is_InvalidBound (kit_of T.xe_InvalidBound T.te_InvalidBound T.se_InvalidBound_InvalidBound T.se_InvalidBound_InvalidBound) (ir _) hd ⟨_, rfl, iteT ?_⟩⟩
      refine fld T.xe_InvalidBound T.ne_InvalidBound_part hd rfl ?_
      exact ⟨(by show 2 ≤ sizeLine; decide), fun p5 n5 => ⟨_, rfl, k _ _ upd_same (Same.upd n5) n5⟩⟩
/-! ### k59: facts over calls that make lambdas -/
theorem Kd.ext {H H' : Hp} {v : V} {nm : String} (k : Kd H v nm) (s : LamX.ExtN H H') : Kd H' v nm := by
  cases k with
  | non => exact .non
  | bl b => exact .bl b
  | int i => exact .int i
  | str x => exact .str x
  | lst e => exact .lst (s _ _ e fun _ z => nomatch z)
  | tup e => exact .tup (s _ _ e fun _ z => nomatch z)
  | dK e => exact .dK (s _ _ e fun _ z => nomatch z)
theorem Tabs.nl {T : List (Addr × Str)} {H H' : Hp} (t : LamX.Tabs T H) (n : NL H H') : LamX.Tabs T H' := fun p hp => by
  obtain ⟨ps, h1, h2, h3⟩ := t p hp
  refine ⟨ps, n _ _ h1 (fun _ z => nomatch z), h2, fun pos cv hc => ?_⟩
  obtain ⟨c, e1, e2⟩ := h3 pos cv hc
  exact ⟨c, e1, n _ _ e2 (fun _ z => by unfold LamX.CodeO at z; cases z)⟩
theorem Brs.ext {H H' : Hp} {xs : List V} {ts : List Tri} (h : Brs H xs ts) (s : LamX.ExtN H H') : Brs H' xs ts := L2.Paired.mapP h fun _ _ ⟨b, e, h⟩ => ⟨b, e, s _ _ h fun _ z => nomatch z⟩
theorem Ots.ext {H H' : Hp} {xs : List V} {ts : List Out} (h : Ots H xs ts) (s : LamX.ExtN H H') : Ots H' xs ts := L2.Paired.mapP h fun _ _ ⟨b, e, h⟩ => ⟨b, e, s _ _ h fun _ z => nomatch z⟩
theorem NoBr.ext {H H' : Hp} {v : V} (h : NoBr H v) (s : LamX.ExtN H H') : NoBr H' v := by
  cases h with
  | kind k n => exact .kind (Kd.ext k s) n
  | len e n => exact .len (s _ _ e fun _ z => nomatch z) n
  | num e k1 k2 k3 bad => exact .num (s _ _ e fun _ z => nomatch z) (Kd.ext k1 s) (Kd.ext k2 s) (Kd.ext k3 s) bad
theorem NoOut.ext {H H' : Hp} {v : V} (h : NoOut H v) (s : LamX.ExtN H H') : NoOut H' v := by
  cases h with
  | kind k n => exact .kind (Kd.ext k s) n
  | len e n => exact .len (s _ _ e fun _ z => nomatch z) n
  | num e k1 k2 bad => exact .num (s _ _ e fun _ z => nomatch z) (Kd.ext k1 s) (Kd.ext k2 s) bad
theorem BrsBad.ext {H H' : Hp} {v : V} {i : Int} (h : BrsBad H v i) (s : LamX.ExtN H H') : BrsBad H' v i := by
  cases h with
  | kind k n => exact .kind (Kd.ext k s) n
  | many e m => exact .many (s _ _ e fun _ z => nomatch z) m
  | item e hb ok ln bad => exact .item (s _ _ e fun _ z => nomatch z) (hb.ext s) ok ln (bad.ext s)
theorem OutBad.ext {H H' : Hp} {v : V} {i : Int} (h : OutBad H v i) (s : LamX.ExtN H H') : OutBad H' v i := by
  cases h with
  | kind k n => exact .kind (Kd.ext k s) n
  | first e ln bad => exact .first (s _ _ e fun _ z => nomatch z) ln (bad.ext s)
  | touch e ln hy oy hx ox t =>
    obtain ⟨c1, rfl, h1⟩ := hy
    obtain ⟨c2, rfl, h2⟩ := hx
    exact .touch (s _ _ e fun _ z => nomatch z) ln ⟨c1, rfl, s _ _ h1 fun _ z => nomatch z⟩ oy ⟨c2, rfl, s _ _ h2 fun _ z => nomatch z⟩ ox t
theorem NoSvc.ext {H H' : Hp} {v : V} (h : NoSvc H v) (s : LamX.ExtN H H') : NoSvc H' v := by
  cases h with
  | kind k n => exact .kind (Kd.ext k s) n
  | len e n => exact .len (s _ _ e fun _ z => nomatch z) n
  | brs e bad => exact .brs (s _ _ e fun _ z => nomatch z) (bad.ext s)
  | outs e hl hb ok ln bad => exact .outs (s _ _ e fun _ z => nomatch z) (s _ _ hl fun _ z => nomatch z) (hb.ext s) ok ln (bad.ext s)
theorem SlAt.ext {H H' : Hp} {v : V} {sv : Svc} (h : SlAt H v sv) (s : LamX.ExtN H H') : SlAt H' v sv := by
  obtain ⟨a, ab, ao, xb, xo, e, h1, h2, h3, h4, h5⟩ := h
  exact ⟨a, ab, ao, xb, xo, e, s _ _ h1 fun _ z => (nomatch z), s _ _ h2 fun _ z => (nomatch z), h3.ext s, s _ _ h4 fun _ z => (nomatch z), Ots.ext h5 s⟩
theorem SlAt.extP {H H' : Hp} {ys : List V} {svs : List Svc} (h : Paired (SlAt H) ys svs) (s : LamX.ExtN H H') : Paired (SlAt H') ys svs := L2.Paired.mapP h fun _ _ z => z.ext s
theorem SvcBad.ext {H H' : Hp} {v : V} {i : Int} (h : SvcBad H v i) (s : LamX.ExtN H H') : SvcBad H' v i := by
  cases h with
  | kind k n => exact .kind (Kd.ext k s) n
  | size e m => exact .size (s _ _ e fun _ z => nomatch z) m
  | item e hs ok ln bad => exact .item (s _ _ e fun _ z => nomatch z) (SlAt.extP hs s) ok ln (bad.ext s)
theorem PatBad.ext {H H' : Hp} {n : Nat} {v : V} {i : Int} (h : PatBad H n v i) (s : LamX.ExtN H H') : PatBad H' n v i := by
  cases h with
  | kind k n => exact .kind (Kd.ext k s) n
  | size e m => exact .size (s _ _ e fun _ z => nomatch z) m
  | item e pb ln k bad => exact .item (s _ _ e fun _ z => nomatch z) pb ln (Kd.ext k s) bad
theorem StpBad.ext {H H' : Hp} {v : V} (h : StpBad H v) (s : LamX.ExtN H H') : StpBad H' v := by
  obtain ⟨nm, k, b⟩ := h
  exact ⟨nm, Kd.ext k s, b⟩
theorem CtBad.ext {H H' : Hp} {v : V} (h : CtBad H v) (s : LamX.ExtN H H') : CtBad H' v := by
  obtain ⟨nm, k, b⟩ := h
  exact ⟨nm, Kd.ext k s, b⟩
theorem DnBad.ext {H H' : Hp} {n : Nat} {v : V} (h : DnBad H n v) (s : LamX.ExtN H H') : DnBad H' n v := by
  cases h with
  | kind k c => exact .kind (Kd.ext k s) c
  | first e k bad => exact .first (s _ _ e fun _ z => nomatch z) (Kd.ext k s) bad
  | low e c0 c1 k bad => exact .low (s _ _ e fun _ z => nomatch z) c0 c1 (Kd.ext k s) bad
theorem RtV.ext {C : Addr} {H H' : Hp} {p : Addr} {fr : List Tri} {svs : List Svc} {pat : List Nat} {st : Int} (R : RtV C H p fr svs pat st) (s : LamX.ExtN H H') : RtV C H' p fr svs pat st := by
  obtain ⟨aC, aS, aP, xC, xS, ⟨dx, ob⟩, hC, bC, hS, sv, hP, r1, r2, r3, r4, r5, r6, r7, r8, r9, r10⟩ := R
  exact ⟨aC, aS, aP, xC, xS, ⟨dx, s _ _ ob fun _ z => nomatch z⟩, s _ _ hC fun _ z => (nomatch z), bC.ext s, s _ _ hS fun _ z => (nomatch z), L2.Paired.mapP sv fun _ _ ⟨a, ab, ao, xb, xo, e, h1, h2, h3, h4, h5⟩ => ⟨a, ab, ao, xb, xo, e, s _ _ h1 fun _ z => (nomatch z), s _ _ h2 fun _ z => (nomatch z), h3.ext s, s _ _ h4 fun _ z => (nomatch z), Ots.ext h5 s⟩, s _ _ hP fun _ z => (nomatch z), r1, r2, r3, r4, r5, r6, r7, r8, r9, r10⟩
theorem Src.ext {H H' : Hp} {a : Addr} {n : Nat} (h : Src H a n) (s : LamX.ExtN H H') : Src H' a n := by
  obtain ⟨x, y, z, e, r⟩ := h
  exact ⟨x, y, z, s _ _ e fun _ z => (nomatch z), r⟩
/-! ### all but the source of draws -/
abbrev Dl (s : Addr) (H : Hp) : Hp := L2.del H s
theorem Dl.sub (s : Addr) (H : Hp) : LamX.ExtN (Dl s H) H := fun b o e _ => by
  have e : L2.del H s b = some o := e
  by_cases c : b = s
  · rw [c, L2.del_same] at e
    cases e
  · rwa [L2.del_ne c] at e
theorem Dl.gen {s : Addr} {H H' : Hp} (k : ∀ b o, b ≠ s → H b = some o → (∀ ps, o ≠ .tbl ps) → H' b = some o) : LamX.ExtN (Dl s H) (Dl s H') := fun b o h n => by
  have h : L2.del H s b = some o := h
  show L2.del H' s b = some o
  by_cases c : b = s
  · rw [c, L2.del_same] at h
    cases h
  · rw [L2.del_ne c] at h ⊢
    exact k _ _ c h n
theorem Dl.ext {s : Addr} {H H' : Hp} (e : LamX.ExtN H H') : LamX.ExtN (Dl s H) (Dl s H') := Dl.gen fun b o _ h n => e b o h n
theorem Dl.kp {s : Addr} {H H' : Hp} (k : Kp s H H') : LamX.ExtN (Dl s H) (Dl s H') := Dl.gen fun b o c h _ => k b o c h
theorem Dl.at {s : Addr} {H : Hp} {b : Addr} {o : HO} (h : H b = some o) (n : b ≠ s) : Dl s H b = some o := by
  show L2.del H s b = some o
  rw [L2.del_ne n]
  exact h
/-! ### what _law_raised makes of the errors -/
section
variable {K : PySem.W.Frag} {mg : Str → Option Value} {L : LA} {Q : VK} {E : XK}
theorem rsd_row (hE : ∀ cls d H', RsdR K L cls d H' Q → E cls d H') {Hy : Hp} {x y : V} (k : ∀ p H', H' p = some (.tup [x, y]) → Same Hy H' → Q (.ref p) H') : ∀ d H', H' d = some (.xd [("at", y), ("part", x)]) → Same Hy H' → E (.ref L.e_InvalidRow) (some d) H' :=
  fun d H' hd s => hE _ _ _ ⟨L.e_InvalidRow, d, rfl, rfl, .row x y hd fun p H'' hp s2 _ => k p H'' hp (s.trans s2)⟩
theorem rsd_bound (hE : ∀ cls d H', RsdR K L cls d H' Q → E cls d H') {Hy : Hp} {x : V} (k : ∀ p H', H' p = some (.tup [.str "bound", x]) → Same Hy H' → Q (.ref p) H') : ∀ d H', H' d = some (.xd [("part", x)]) → Same Hy H' → E (.ref L.e_InvalidBound) (some d) H' :=
  fun d H' hd s => hE _ _ _ ⟨L.e_InvalidBound, d, rfl, rfl, .bound x hd fun p H'' hp s2 _ => k p H'' hp (s.trans s2)⟩
theorem mk_same {Hy : Hp} {x dx C : Addr} (nx : Hy x = none) (nd : Hy dx = none) (_ : dx ≠ x) : Same Hy (upd (upd Hy dx (.own x)) x (.ins C dx [])) := fun b o e => by
  rw [upd_ne (ne_of_none e nx), upd_ne (ne_of_none e nd)]
  exact e
/-- Routes(..) of bad parts, in a lambda -/
theorem mk_bad (hE : ∀ cls d H', RsdR K L cls d H' Q → E cls d H') {N : VK} {Hy : Hp} {c s p st : V} {nm : Str} {i : Int} (bad : RtBad Hy c s p st nm i) (k : ∀ q H', H' q = some (.tup [.str nm, .int i]) → Same Hy H' → Q (.ref q) H') : ∀ x dx, Hy x = none → Hy dx = none → dx ≠ x →
    spRtU L (.ref x :: ([c, s, p, st] ++ [])) (upd (upd Hy dx (.own x)) x (.ins L.c_Routes dx [])) (fun v H2 => v = .non ∧ N (.ref x) H2) E := fun x dx nx nd ne => by
  have S := mk_same (C := L.c_Routes) nx nd ne
  exact .inr ⟨x, c, s, p, st, nm, i, rfl, bad.same S, rsd_row hE fun q H' hq s' => k q H' hq (S.trans s')⟩
end
def partD (nm : Str) (i : Int) : PyData := .tuple [.str nm, .int i]
theorem dpPart {K : PySem.W.Frag} {H : Hp} {p : Addr} {nm : Str} {i : Int} (h : H p = some (.tup [.str nm, .int i])) : Dp K H (.ref p) (partD nm i) := .tup (SqT.of h) (.cons (.str _) (.cons (.int _) .nil))
theorem shPart {nm : Str} (i : Int) (h : PyData.strOk nm = true) : SeqAt.shaped (partD nm i) = true := by
  refine Bool.and_eq_true_iff.mpr ⟨by simp [partD, PyData.canLay0, PyData.canLayAll0, h], decide_eq_true (by simp [partD, PyData.depth, PyData.depthAll])⟩
theorem eqPart {nm : Str} (i : Int) (h : PyData.strOk nm = true) : PyData.eqv (partD nm i) (partD nm i) = true := SeqAt.eqv_refl _ (Bool.and_eq_true_iff.mp (shPart i h)).1
theorem ok_common : PyData.strOk "common" = true := by decide +kernel
theorem ok_services : PyData.strOk "services" = true := by decide +kernel
theorem ok_pattern : PyData.strOk "pattern" = true := by decide +kernel
theorem ok_step : PyData.strOk "step" = true := by decide +kernel
theorem paired_takeF {α β : Type} {F : α → β → Prop} : ∀ (n : Nat) {xs : List α} {ys : List β}, Paired F xs ys → Paired F (xs.take n) (ys.take n)
  | 0, _, _, _ => .nil
  | _ + 1, _, _, .nil => .nil
  | n + 1, _, _, .cons h t => .cons h (paired_takeF n t)
theorem cut_tk {xs : List V} {k : Nat} (h : k ≤ xs.length) : cutV xs none (some (k : Int)) = xs.take k := by
  unfold cutV
  rw [HT.sIx_nat, HT.sIx_none, Nat.min_eq_left h]
  rfl
/-! ### the law's breakers and services -/
def T59 : List Tri := [(1, 2, 3), (4, 5, 6)]
def T596 : List Tri := [(1, 2, 3), (4, 5, 6), (1, 2, 3), (4, 5, 6), (1, 2, 3), (4, 5, 6), (1, 2, 3), (4, 5, 6), (1, 2, 3), (4, 5, 6), (1, 2, 3), (4, 5, 6)]
def S59 : List Svc := [(T59, [(3, 9)]), ([], []), (T596, [(0, 1), (2, 1000000000000000000000000000000)])]
theorem okT59 : ∀ t ∈ T59, OkT t := fun t h => by
  simp only [T59, List.mem_cons, List.mem_nil_iff, or_false] at h
  rcases h with rfl | rfl <;> exact ⟨by decide, by decide, by decide, by decide, by decide, by decide⟩
theorem okT596 : ∀ t ∈ T596, OkT t := fun t h => by
  simp only [T596, List.mem_cons, List.mem_nil_iff, or_false] at h
  rcases h with rfl | rfl | rfl | rfl | rfl | rfl | rfl | rfl | rfl | rfl | rfl | rfl <;> exact ⟨by decide, by decide, by decide, by decide, by decide, by decide⟩
theorem okS59 : ∀ s ∈ S59, OkSv s := fun s h => by
  simp only [S59, List.mem_cons, List.mem_nil_iff, or_false] at h
  rcases h with rfl | rfl | rfl
  · exact ⟨okT59, by decide, ⟨by decide, by decide, by decide, trivial⟩, by decide⟩
  · exact ⟨(fun t h => nomatch h), by decide, trivial, by decide⟩
  · exact ⟨okT596, by decide, ⟨by decide, by decide, by decide, by decide, by decide, by decide, trivial⟩, by decide⟩
/-- the lists of the law stand there -/
structure Bas (H : Hp) (sp sv : Addr) (x1 x2 z1 z2 z3 : V) : Prop where
  sp_ : H sp = some (.lst [x1, x2])
  br : Brs H [x1, x2] T59
  sv_ : H sv = some (.lst [z1, z2, z3])
  sl : Paired (SlAt H) [z1, z2, z3] S59
theorem Bas.ext {H H' : Hp} {sp sv : Addr} {x1 x2 z1 z2 z3 : V} (b : Bas H sp sv x1 x2 z1 z2 z3) (s : LamX.ExtN H H') : Bas H' sp sv x1 x2 z1 z2 z3 :=
  ⟨s _ _ b.sp_ fun _ z => (nomatch z), b.br.ext s, s _ _ b.sv_ fun _ z => (nomatch z), SlAt.extP b.sl s⟩
theorem Bas.up {H : Hp} {s sp sv : Addr} {x1 x2 z1 z2 z3 : V} (b : Bas (Dl s H) sp sv x1 x2 z1 z2 z3) : Bas H sp sv x1 x2 z1 z2 z3 := b.ext (Dl.sub s H)
theorem cut_dp {xs : List V} {k : Nat} (h : k ≤ xs.length) : cutV xs (some (k : Int)) none = xs.drop k := by
  unfold cutV
  rw [HT.sIx_nat, HT.sIx_none, Nat.min_eq_left h]
  exact List.take_of_length_le (by rw [List.length_drop]; exact Nat.le_refl _)
/-- a list with a bad one put in -/
theorem brs_put {H : Hp} {a : Addr} {x1 x2 x : V} {j : Nat} (e : H a = some (.lst (cutV [x1, x2] none (some (j : Int)) ++ [x] ++ cutV [x1, x2] (some (j : Int)) none))) (hb : Brs H [x1, x2] T59) (hj : j ≤ 2) (bad : NoBr H x) : BrsBad H (.ref a) (j : Int) := by
  obtain ⟨xs, hx⟩ : ∃ xs, xs = [x1, x2] := ⟨_, rfl⟩
  rw [← hx] at e hb
  have xl : xs.length = 2 := by rw [hx]; rfl
  rw [cut_tk (by omega), cut_dp (by omega), List.append_assoc] at e
  have e : H a = some (.lst (xs.take j ++ x :: xs.drop j)) := e
  have tl : (xs.take j).length = j := by rw [List.length_take]; omega
  have := BrsBad.item (ts := T59.take j) e (paired_takeF j hb) (fun t h => okT59 t (List.mem_of_mem_take h)) (by rw [List.length_append, List.length_cons, tl, List.length_drop]; omega) bad
  rwa [tl] at this
theorem svc_put {H : Hp} {a : Addr} {z1 z2 z3 x : V} {j : Nat} (e : H a = some (.lst (cutV [z1, z2, z3] none (some (j : Int)) ++ [x] ++ cutV [z1, z2, z3] (some (j : Int)) none))) (hs : Paired (SlAt H) [z1, z2, z3] S59) (hj : j ≤ 3) (bad : NoSvc H x) : SvcBad H (.ref a) (j : Int) := by
  obtain ⟨xs, hx⟩ : ∃ xs, xs = [z1, z2, z3] := ⟨_, rfl⟩
  rw [← hx] at e hs
  have xl : xs.length = 3 := by rw [hx]; rfl
  rw [cut_tk (by omega), cut_dp (by omega), List.append_assoc] at e
  have e : H a = some (.lst (xs.take j ++ x :: xs.drop j)) := e
  have tl : (xs.take j).length = j := by rw [List.length_take]; omega
  have := SvcBad.item (svs := S59.take j) e (paired_takeF j hs) (fun t h => okS59 t (List.mem_of_mem_take h)) (by rw [List.length_append, List.length_cons, tl, List.length_drop]; omega) bad
  rwa [tl] at this
theorem pat_put {H : Hp} {a : Addr} {x : V} {nm : String} {j : Nat} (e : H a = some (.lst (cutV [.int 0, .int 2, .int 1] none (some (j : Int)) ++ [x] ++ [.int 0]))) (hj : j ≤ 2) (k : Kd H x nm) (bad : (isI x && (decide (0 ≤ toI x) && decide (toI x ≤ ((3 : Nat) : Int) - 1))) = false) : PatBad H 3 (.ref a) (j : Int) := by
  have hx : ([.int 0, .int 2, .int 1] : List V) = [0, 2, 1].map pnV := rfl
  rw [cut_tk (show j ≤ 3 by omega), List.append_assoc, hx, ← List.map_take] at e
  have e : H a = some (.lst (([0, 2, 1].take j).map pnV ++ x :: [.int 0])) := e
  have tl : (([0, 2, 1] : List Nat).take j).length = j := by rw [List.length_take]; show min j 3 = j; omega
  have := PatBad.item (n := 3) e (fun k hk => by
    have := List.mem_of_mem_take hk
    simp only [List.mem_cons, List.mem_nil_iff, or_false] at this
    omega) (by rw [List.length_append, List.length_map, tl, List.length_cons]; show j + 2 ≤ 20; omega) k bad
  rwa [tl] at this
def S5910 : List Svc := [(T59, [(3, 9)]), ([], []), (T596, [(0, 1), (2, 1000000000000000000000000000000)]), (T59, [(3, 9)]), ([], []), (T596, [(0, 1), (2, 1000000000000000000000000000000)]), (T59, [(3, 9)]), ([], []), (T596, [(0, 1), (2, 1000000000000000000000000000000)]), (T59, [(3, 9)])]
theorem okS5910 : ∀ s ∈ S5910, OkSv s := fun s h => okS59 s (by
  simp only [S5910, S59, List.mem_cons, List.mem_nil_iff, or_false] at h ⊢
  rcases h with h | h | h | h | h | h | h | h | h | h
  all_goals first | exact .inl h | exact .inr (.inl h) | exact .inr (.inr h))
theorem okR59 : RtOk T596 S5910 (List.replicate 20 9) 1000000000000000000000000000000 := ⟨okT596, by decide, okS5910, by decide, by decide, by decide, by decide, fun n h => by rw [List.eq_of_mem_replicate h]; decide, by decide, by decide⟩
theorem Bas.fr {H : Hp} {sp sv : Addr} {x1 x2 z1 z2 z3 : V} (b : Bas H sp sv x1 x2 z1 z2 z3) : Brs H [x1, x2, x1, x2, x1, x2, x1, x2, x1, x2, x1, x2] T596 := by
  cases b.br with
  | cons h1 t =>
    cases t with
    | cons h2 t2 => exact .cons h1 (.cons h2 (.cons h1 (.cons h2 (.cons h1 (.cons h2 (.cons h1 (.cons h2 (.cons h1 (.cons h2 (.cons h1 (.cons h2 .nil)))))))))))
theorem Bas.sls {H : Hp} {sp sv : Addr} {x1 x2 z1 z2 z3 : V} (b : Bas H sp sv x1 x2 z1 z2 z3) : Paired (SlAt H) [z1, z2, z3, z1, z2, z3, z1, z2, z3, z1] S5910 := by
  cases b.sl with
  | cons h1 t =>
    cases t with
    | cons h2 t2 =>
      cases t2 with
      | cons h3 t3 => exact .cons h1 (.cons h2 (.cons h3 (.cons h1 (.cons h2 (.cons h3 (.cons h1 (.cons h2 (.cons h3 (.cons h1 .nil)))))))))
/-! ### k59: bad parts, in their order -/
def spPrt59 (L : LA) : Sp := fun vs H Q _ => ∃ (s : Addr) (n : Nat), vs = [.ref s] ∧ Src H s n ∧ n ≤ 100000 ∧ LamX.Tabs (LT L) H ∧ ∀ H', Src H' s (n + 5505) → LamX.ExtN (Dl s H) (Dl s H') → LamX.Tabs (LT L) H' → Q (.bl true) H'
section
variable {P : Program} {w : World} {K : PySem.W.Frag} {mg : Str → Option Value} {base : Heap} {L : LA}
abbrev N_wpartsright : List Str := ["_law_source", "_law_bad", "_law_place", "_law_at", "_law_item", "_law_none", "_law_odd", "_law_services", "_law_specs", "_law_spoilt", "_law_step"]
theorem sc_wpartsright : FnScope N_wpartsright ["_law_source"] (defScope st__law_parts_right) := ⟨rfl, rfl, rfl, by decide +kernel, rfl, by decide +kernel, by decide +kernel⟩
theorem fn_wpartsright (T : LX K mg L) (B : TX base mg L) {fd : FuncData} (F : FunT K "_law_parts_right" "_law_parts_right" st__law_parts_right L.f__law_parts_right L.k__law_parts_right fd) : FnOk P w K mg base CX0 13 L.f__law_parts_right fd ["_law_source"] (spPrt59 L) := by
  have G_wnext := ok_wnext (P := P) (w := w) (base := base) T
  have G_wone := ok_wone (P := P) (w := w) (base := base) T
  have nd := sc_wpartsright.nd
  refine F.ok sc_wpartsright (fun vs H Q E h => ?_) (fun A outer S H vs Q E hr h => ?_)
  · obtain ⟨s, n, rfl, _⟩ := h
    rfl
  · obtain ⟨s, n, rfl, src, hn, tabs, k⟩ := h
    refine ⟨_, (pss_cons (ps_set (i := 8) nd rfl (Or.inr rfl) (pe_lst (pa_cons (pe_tup (pa_cons pe_int (pa_cons pe_int (pa_cons pe_int pa_nil)))) (pa_cons (pe_tup (pa_cons pe_int (pa_cons pe_int (pa_cons pe_int pa_nil)))) pa_nil))))
       (pss_cons (ps_set (i := 7) nd rfl (Or.inr rfl) (pe_lst (pa_cons (pe_tup (pa_cons (pv 8) (pa_cons (pe_lst (pa_cons (pe_tup (pa_cons pe_int (pa_cons pe_int pa_nil))) pa_nil)) pa_nil))) (pa_cons (pe_tup (pa_cons (pe_lst pa_nil) (pa_cons (pe_lst pa_nil) pa_nil))) (pa_cons (pe_tup (pa_cons (pe_op op_rep (pv 8) pe_int) (pa_cons (pe_lst (pa_cons (pe_tup (pa_cons pe_int (pa_cons pe_int pa_nil))) (pa_cons (pe_tup (pa_cons pe_int (pa_cons (pe_op op_pow pe_int pe_int) pa_nil))) pa_nil))) pa_nil))) pa_nil)))))
       (pss_cons (ps_set (i := 3) nd rfl (Or.inr rfl) (pe_c G_wnext (hr.mono (by decide)) rfl (pa_cons (pv 0) (pa_cons pe_int pa_nil))))
       (pss_cons (ps_set (i := 6) nd rfl (Or.inr rfl) (pe_c G_wone (hr.mono (by decide)) rfl (pa_cons (pv 0) (pa_cons (pe_lst (pa_cons pe_non (pa_cons pe_int (pa_cons pe_str (pa_cons (pe_tup (pa_cons pe_int (pa_cons pe_int pa_nil))) (pa_cons (pe_tup (pa_cons pe_int (pa_cons pe_int (pa_cons pe_int pa_nil)))) (pa_cons (pe_lst (pa_cons pe_int (pa_cons pe_int (pa_cons pe_int pa_nil)))) (pa_cons (pe_tup (pa_cons pe_int (pa_cons pe_int (pa_cons pe_bl pa_nil)))) (pa_cons pe_dnewK pa_nil))))))))) pa_nil))))
       (pss_cons (ps_if (pt_cmpR (op_neD hr.units) (pe_lamc (T := LT L) (TT := TTrsd K L) (c := L.k__law_parts_right) (P := L.t__law_parts_right) (k := 9) T.d__law_raised sc_wraised rfl (Or.inl rfl) (fun _ => rsd_gives T (hr.mono (by decide))) B.b__law_parts_right rfl (lt_mem_wpartsright T) (lt_one_wpartsright T) (hr.mono (by decide)) (LamX.lamS_by (sc := defScope st__law_parts_right) (by decide +kernel)) rfl (fun _ _ _ _ _ => rfl) (fun A outer s H E f c2 hr => by exact (pe_mkRoutesX (K := K) rfl (takes_of rfl rfl rfl rfl) T (hr.mono (by decide)) rfl (pa_cons (pe_op op_cat (pe_op op_cat (pe_slice (r := rSlL K) sl_list (pv 8) po_none (po_some (pv 3))) (pe_lst (pa_cons (pv 6) pa_nil))) (pe_slice (r := rSlL K) sl_list (pv 8) (po_some (pv 3)) po_none)) (pa_cons pe_non (pa_cons pe_non (pa_cons pe_non pa_nil))))))) (pe_tup (pa_cons pe_str (pa_cons (pe_callB (call_min2 rfl) (by rfl) T.b_min (by decide +kernel) (pa_cons (pv 3) (pa_cons pe_int pa_nil))) pa_nil))) (nomark _)) (pss_one (ps_ret pe_bl)) pss_nil)
       (pss_cons (ps_for PassesOwn.never rfl (pi_list (pe_lst (pa_cons pe_non (pa_cons (pe_callTy call_tuple_of (by rfl) T.b_tuple (by decide +kernel) (pa_cons (pv 8) pa_nil)) (pa_cons pe_dnewK (pa_cons pe_int (pa_cons (pe_op op_rep (pv 8) pe_int) pa_nil))))))) (pg_name (i := 5) nd rfl (Or.inr rfl)) (pss_one (ps_if (pt_cmpR (op_neD hr.units) (pe_lamc (T := LT L) (TT := TTrsd K L) (c := L.k__law_parts_right) (P := L.t__law_parts_right) (k := 9) T.d__law_raised sc_wraised rfl (Or.inl rfl) (fun _ => rsd_gives T (hr.mono (by decide))) B.b__law_parts_right rfl (lt_mem_wpartsright T) (lt_one_wpartsright T) (hr.mono (by decide)) (LamX.lamS_by (sc := defScope st__law_parts_right) (by decide +kernel)) rfl (fun _ _ _ _ _ => rfl) (fun A outer s H E f c2 hr => by exact (pe_mkRoutesX (K := K) rfl (takes_of rfl rfl rfl rfl) T (hr.mono (by decide)) rfl (pa_cons (pv 5) (pa_cons (pv 5) (pa_cons (pv 5) (pa_cons pe_int pa_nil))))))) (pe_tup (pa_cons pe_str (pa_cons (pe_un un_neg pe_int) pa_nil))) (nomark _)) (pss_one (ps_ret pe_bl)) pss_nil)))
       (pss_cons (ps_set (i := 1) nd rfl (Or.inl rfl) (pe_lst (pa_cons pe_non (pa_cons (pe_tup (pa_cons (pv 8) pa_nil)) (pa_cons (pe_op (r := rCatT K) op_catT (pe_tup (pa_cons (pv 8) (pa_cons (pe_lst pa_nil) pa_nil))) (pe_tup (pa_cons (pe_lst pa_nil) pa_nil))) (pa_cons (pe_lst (pa_cons (pv 8) (pa_cons (pe_lst pa_nil) pa_nil))) (pa_cons (pe_tup (pa_cons (pe_callTy call_tuple_of (by rfl) T.b_tuple (by decide +kernel) (pa_cons (pv 8) pa_nil)) (pa_cons (pe_lst pa_nil) pa_nil))) (pa_cons (pe_tup (pa_cons (pe_op op_cat (pv 8) (pe_lst (pa_cons (pv 6) pa_nil))) (pa_cons (pe_lst pa_nil) pa_nil))) (pa_cons (pe_tup (pa_cons (pe_op op_rep (pv 8) pe_int) (pa_cons (pe_lst pa_nil) pa_nil))) pa_nil)))))))))
       (pss_cons (ps_set (i := 1) nd rfl (Or.inl rfl) (pe_op op_cat (pv 1) (pe_lst (pa_cons (pe_tup (pa_cons (pv 8) (pa_cons pe_non pa_nil))) (pa_cons (pe_tup (pa_cons (pv 8) (pa_cons (pe_lst (pa_cons (pe_tup (pa_cons pe_int (pa_cons pe_int pa_nil))) pa_nil)) pa_nil))) (pa_cons (pe_tup (pa_cons (pv 8) (pa_cons (pe_lst (pa_cons (pe_tup (pa_cons pe_int (pa_cons pe_int pa_nil))) (pa_cons (pe_tup (pa_cons pe_int (pa_cons pe_int pa_nil))) pa_nil))) pa_nil))) (pa_cons (pe_tup (pa_cons (pv 8) (pa_cons (pe_lst (pa_cons (pe_tup (pa_cons pe_int (pa_cons pe_int pa_nil))) (pa_cons (pe_tup (pa_cons pe_int (pa_cons pe_int pa_nil))) pa_nil))) pa_nil))) pa_nil)))))))
       (pss_cons (ps_expr (pe_bm PySem.F.plainAttrs_list PySem.F.slot_list_append PySem.F.type_list_append mt_append (pv 1) (pa_cons (pe_tup (pa_cons (pv 8) (pa_cons (pe_tup (pa_cons (pe_tup (pa_cons pe_int (pa_cons pe_int pa_nil))) pa_nil)) pa_nil))) pa_nil)))
       (pss_cons (ps_set (i := 1) nd rfl (Or.inl rfl) (pe_op op_cat (pv 1) (pe_lst (pa_cons (pe_tup (pa_cons (pv 8) (pa_cons (pe_lst (pa_cons (pe_tup (pa_cons pe_bl (pa_cons pe_int pa_nil))) pa_nil)) pa_nil))) (pa_cons (pe_tup (pa_cons (pv 8) (pa_cons (pe_lst (pa_cons (pe_tup (pa_cons (pe_un un_neg pe_int) (pa_cons pe_int pa_nil))) pa_nil)) pa_nil))) (pa_cons (pe_tup (pa_cons (pv 8) (pa_cons (pe_lst (pa_cons (pe_lst (pa_cons pe_int (pa_cons pe_int pa_nil))) pa_nil)) pa_nil))) (pa_cons (pe_tup (pa_cons (pe_lst pa_nil) (pa_cons (pe_lst (pa_cons (pe_tup (pa_cons pe_int (pa_cons pe_non pa_nil))) pa_nil)) pa_nil))) pa_nil)))))))
       (pss_cons (ps_set (i := 2) nd rfl (Or.inl rfl) (pe_c G_wnext (hr.mono (by decide)) rfl (pa_cons (pv 0) (pa_cons pe_int pa_nil))))
       (pss_cons (ps_set (i := 9) nd rfl (Or.inr rfl) (pe_op op_cat (pe_op op_cat (pe_slice (r := rSlL K) sl_list (pv 7) po_none (po_some (pv 2))) (pe_lst (pa_cons (pe_c G_wone (hr.mono (by decide)) rfl (pa_cons (pv 0) (pa_cons (pv 1) pa_nil))) pa_nil))) (pe_slice (r := rSlL K) sl_list (pv 7) (po_some (pv 2)) po_none)))
       (pss_cons (ps_if (pt_cmpR (op_neD hr.units) (pe_lamc (T := LT L) (TT := TTrsd K L) (c := L.k__law_parts_right) (P := L.t__law_parts_right) (k := 9) T.d__law_raised sc_wraised rfl (Or.inl rfl) (fun _ => rsd_gives T (hr.mono (by decide))) B.b__law_parts_right rfl (lt_mem_wpartsright T) (lt_one_wpartsright T) (hr.mono (by decide)) (LamX.lamS_by (sc := defScope st__law_parts_right) (by decide +kernel)) rfl (fun _ _ _ _ _ => rfl) (fun A outer s H E f c2 hr => by exact (pe_mkRoutesX (K := K) rfl (takes_of rfl rfl rfl rfl) T (hr.mono (by decide)) rfl (pa_cons (pv 8) (pa_cons (pv 9) (pa_cons pe_non (pa_cons pe_non pa_nil))))))) (pe_tup (pa_cons pe_str (pa_cons (pv 2) pa_nil))) (nomark _)) (pss_one (ps_ret pe_bl)) pss_nil)
       (pss_cons (ps_for PassesOwn.never rfl (pi_list (pe_lst (pa_cons pe_non (pa_cons (pe_lst pa_nil) (pa_cons (pe_callTy call_tuple_of (by rfl) T.b_tuple (by decide +kernel) (pa_cons (pv 7) pa_nil)) (pa_cons pe_dnewK (pa_cons (pe_op op_rep (pv 7) pe_int) pa_nil))))))) (pg_name (i := 5) nd rfl (Or.inr rfl)) (pss_one (ps_if (pt_cmpR (op_neD hr.units) (pe_lamc (T := LT L) (TT := TTrsd K L) (c := L.k__law_parts_right) (P := L.t__law_parts_right) (k := 9) T.d__law_raised sc_wraised rfl (Or.inl rfl) (fun _ => rsd_gives T (hr.mono (by decide))) B.b__law_parts_right rfl (lt_mem_wpartsright T) (lt_one_wpartsright T) (hr.mono (by decide)) (LamX.lamS_by (sc := defScope st__law_parts_right) (by decide +kernel)) rfl (fun _ _ _ _ _ => rfl) (fun A outer s H E f c2 hr => by exact (pe_mkRoutesX (K := K) rfl (takes_of rfl rfl rfl rfl) T (hr.mono (by decide)) rfl (pa_cons (pv 8) (pa_cons (pv 5) (pa_cons pe_non (pa_cons pe_int pa_nil))))))) (pe_tup (pa_cons pe_str (pa_cons (pe_un un_neg pe_int) pa_nil))) (nomark _)) (pss_one (ps_ret pe_bl)) pss_nil)))
       (pss_cons (ps_set (i := 4) nd rfl (Or.inr rfl) (pe_c G_wone (hr.mono (by decide)) rfl (pa_cons (pv 0) (pa_cons (pe_lst (pa_cons pe_int (pa_cons (pe_un un_neg pe_int) (pa_cons pe_bl (pa_cons pe_non (pa_cons pe_str (pa_cons (pe_lst (pa_cons pe_int pa_nil)) (pa_cons pe_dnewK pa_nil)))))))) pa_nil))))
       (pss_cons (ps_if (pt_cmpR (op_neD hr.units) (pe_lamc (T := LT L) (TT := TTrsd K L) (c := L.k__law_parts_right) (P := L.t__law_parts_right) (k := 9) T.d__law_raised sc_wraised rfl (Or.inl rfl) (fun _ => rsd_gives T (hr.mono (by decide))) B.b__law_parts_right rfl (lt_mem_wpartsright T) (lt_one_wpartsright T) (hr.mono (by decide)) (LamX.lamS_by (sc := defScope st__law_parts_right) (by decide +kernel)) rfl (fun _ _ _ _ _ => rfl) (fun A outer s H E f c2 hr => by exact (pe_mkRoutesX (K := K) rfl (takes_of rfl rfl rfl rfl) T (hr.mono (by decide)) rfl (pa_cons (pv 8) (pa_cons (pv 7) (pa_cons (pe_op op_cat (pe_op op_cat (pe_slice (r := rSlL K) sl_list (pe_lst (pa_cons pe_int (pa_cons pe_int (pa_cons pe_int pa_nil)))) po_none (po_some (pv 3))) (pe_lst (pa_cons (pv 4) pa_nil))) (pe_lst (pa_cons pe_int pa_nil))) (pa_cons pe_int pa_nil))))))) (pe_tup (pa_cons pe_str (pa_cons (pe_callB (call_min2 rfl) (by rfl) T.b_min (by decide +kernel) (pa_cons (pv 3) (pa_cons pe_int pa_nil))) pa_nil))) (nomark _)) (pss_one (ps_ret pe_bl)) pss_nil)
       (pss_cons (ps_for PassesOwn.never rfl (pi_list (pe_lst (pa_cons pe_non (pa_cons (pe_lst pa_nil) (pa_cons (pe_tup (pa_cons pe_int (pa_cons pe_int pa_nil))) (pa_cons pe_dnewK (pa_cons (pe_op op_rep (pe_lst (pa_cons pe_int pa_nil)) pe_int) (pa_cons pe_str pa_nil)))))))) (pg_name (i := 5) nd rfl (Or.inr rfl)) (pss_one (ps_if (pt_cmpR (op_neD hr.units) (pe_lamc (T := LT L) (TT := TTrsd K L) (c := L.k__law_parts_right) (P := L.t__law_parts_right) (k := 9) T.d__law_raised sc_wraised rfl (Or.inl rfl) (fun _ => rsd_gives T (hr.mono (by decide))) B.b__law_parts_right rfl (lt_mem_wpartsright T) (lt_one_wpartsright T) (hr.mono (by decide)) (LamX.lamS_by (sc := defScope st__law_parts_right) (by decide +kernel)) rfl (fun _ _ _ _ _ => rfl) (fun A outer s H E f c2 hr => by exact (pe_mkRoutesX (K := K) rfl (takes_of rfl rfl rfl rfl) T (hr.mono (by decide)) rfl (pa_cons (pv 8) (pa_cons (pv 7) (pa_cons (pv 5) (pa_cons pe_int pa_nil))))))) (pe_tup (pa_cons pe_str (pa_cons (pe_un un_neg pe_int) pa_nil))) (nomark _)) (pss_one (ps_ret pe_bl)) pss_nil)))
       (pss_cons (ps_for PassesOwn.never rfl (pi_list (pe_lst (pa_cons pe_int (pa_cons (pe_un un_neg pe_int) (pa_cons pe_bl (pa_cons pe_non (pa_cons pe_str (pa_cons (pe_lst (pa_cons pe_int pa_nil)) (pa_cons pe_dnewK (pa_cons (pe_op op_add (pe_op op_pow pe_int pe_int) pe_int) pa_nil)))))))))) (pg_name (i := 10) nd rfl (Or.inr rfl)) (pss_one (ps_if (pt_cmpR (op_neD hr.units) (pe_lamc (T := LT L) (TT := TTrsd K L) (c := L.k__law_parts_right) (P := L.t__law_parts_right) (k := 9) T.d__law_raised sc_wraised rfl (Or.inl rfl) (fun _ => rsd_gives T (hr.mono (by decide))) B.b__law_parts_right rfl (lt_mem_wpartsright T) (lt_one_wpartsright T) (hr.mono (by decide)) (LamX.lamS_by (sc := defScope st__law_parts_right) (by decide +kernel)) rfl (fun _ _ _ _ _ => rfl) (fun A outer s H E f c2 hr => by exact (pe_mkRoutesX (K := K) rfl (takes_of rfl rfl rfl rfl) T (hr.mono (by decide)) rfl (pa_cons (pv 8) (pa_cons (pv 7) (pa_cons (pe_lst (pa_cons pe_int (pa_cons pe_int pa_nil))) (pa_cons (pv 10) pa_nil))))))) (pe_tup (pa_cons pe_str (pa_cons (pe_un un_neg pe_int) pa_nil))) (nomark _)) (pss_one (ps_ret pe_bl)) pss_nil)))
       (pss_one (ps_ret (pe_cmp (pc_isN (pe_lamc (T := LT L) (TT := TTrsd K L) (c := L.k__law_parts_right) (P := L.t__law_parts_right) (k := 9) T.d__law_raised sc_wraised rfl (Or.inl rfl) (fun _ => rsd_gives T (hr.mono (by decide))) B.b__law_parts_right rfl (lt_mem_wpartsright T) (lt_one_wpartsright T) (hr.mono (by decide)) (LamX.lamS_by (sc := defScope st__law_parts_right) (by decide +kernel)) rfl (fun _ _ _ _ _ => rfl) (fun A outer s H E f c2 hr => by exact (pe_mkRoutesX (K := K) rfl (takes_of rfl rfl rfl rfl) T (hr.mono (by decide)) rfl (pa_cons (pe_op op_rep (pv 8) pe_int) (pa_cons (pe_op op_cat (pe_op op_rep (pv 7) pe_int) (pe_slice (r := rSlL K) sl_list (pv 7) po_none (po_some pe_int))) (pa_cons (pe_op op_rep (pe_lst (pa_cons pe_int pa_nil)) pe_int) (pa_cons (pe_op op_pow pe_int pe_int) pa_nil))))))))))))))))))))))))))))), ?_⟩
    have e30 : (10 : Int) ^ (30 : Int).toNat = 1000000000000000000000000000000 := by decide +kernel
    have cp : CPow 10 30 := ⟨by decide, by decide, by decide⟩
    obtain ⟨HA0, hHA0⟩ : ∃ HA0, HA0 = H := ⟨_, rfl⟩
    rw [← hHA0] at src tabs k ⊢
    clear hHA0
    obtain ⟨yu, hsu⟩ := src.has
    refine ⟨(by show 3 ≤ sizeLine; decide), fun ua1 un1 => ?_⟩
    have uo1 : ua1 ≠ s := fun z => by rw [z, hsu] at un1; cases un1
    have us1 := Same.upd (o := .tup [.int 1, .int 2, .int 3]) un1
    have ue1 : upd HA0 ua1 (.tup [.int 1, .int 2, .int 3]) ua1 = some (.tup [.int 1, .int 2, .int 3]) := upd_same
    have ur1 := us1 _ _ hsu
    generalize upd HA0 ua1 (.tup [.int 1, .int 2, .int 3]) = uH1 at us1 ue1 ur1 ⊢
    refine ⟨(by show 3 ≤ sizeLine; decide), fun ua2 un2 => ?_⟩
    have uo2 : ua2 ≠ s := fun z => by rw [z, ur1] at un2; cases un2
    have us2 := Same.upd (o := .tup [.int 4, .int 5, .int 6]) un2
    have ue2 : upd uH1 ua2 (.tup [.int 4, .int 5, .int 6]) ua2 = some (.tup [.int 4, .int 5, .int 6]) := upd_same
    have ur2 := us2 _ _ ur1
    generalize upd uH1 ua2 (.tup [.int 4, .int 5, .int 6]) = uH2 at us2 ue2 ur2 ⊢
    refine ⟨(by show 2 ≤ sizeLine; decide), fun ua3 un3 => ?_⟩
    have uo3 : ua3 ≠ s := fun z => by rw [z, ur2] at un3; cases un3
    have us3 := Same.upd (o := .lst [.ref ua1, .ref ua2]) un3
    have ue3 : upd uH2 ua3 (.lst [.ref ua1, .ref ua2]) ua3 = some (.lst [.ref ua1, .ref ua2]) := upd_same
    have ur3 := us3 _ _ ur2
    generalize upd uH2 ua3 (.lst [.ref ua1, .ref ua2]) = uH3 at us3 ue3 ur3 ⊢
    refine ⟨_, rfl, (by show 2 ≤ sizeLine; decide), fun ua4 un4 => ?_⟩
    have uo4 : ua4 ≠ s := fun z => by rw [z, ur3] at un4; cases un4
    have us4 := Same.upd (o := .tup [.int 3, .int 9]) un4
    have ue4 : upd uH3 ua4 (.tup [.int 3, .int 9]) ua4 = some (.tup [.int 3, .int 9]) := upd_same
    have ur4 := us4 _ _ ur3
    generalize upd uH3 ua4 (.tup [.int 3, .int 9]) = uH4 at us4 ue4 ur4 ⊢
    refine ⟨(by show 1 ≤ sizeLine; decide), fun ua5 un5 => ?_⟩
    have uo5 : ua5 ≠ s := fun z => by rw [z, ur4] at un5; cases un5
    have us5 := Same.upd (o := .lst [.ref ua4]) un5
    have ue5 : upd uH4 ua5 (.lst [.ref ua4]) ua5 = some (.lst [.ref ua4]) := upd_same
    have ur5 := us5 _ _ ur4
    generalize upd uH4 ua5 (.lst [.ref ua4]) = uH5 at us5 ue5 ur5 ⊢
    refine ⟨(by show 2 ≤ sizeLine; decide), fun ua6 un6 => ?_⟩
    have uo6 : ua6 ≠ s := fun z => by rw [z, ur5] at un6; cases un6
    have us6 := Same.upd (o := .tup [.ref ua3, .ref ua5]) un6
    have ue6 : upd uH5 ua6 (.tup [.ref ua3, .ref ua5]) ua6 = some (.tup [.ref ua3, .ref ua5]) := upd_same
    have ur6 := us6 _ _ ur5
    generalize upd uH5 ua6 (.tup [.ref ua3, .ref ua5]) = uH6 at us6 ue6 ur6 ⊢
    refine ⟨(by show 0 ≤ sizeLine; decide), fun ua7 un7 => ?_⟩
    have uo7 : ua7 ≠ s := fun z => by rw [z, ur6] at un7; cases un7
    have us7 := Same.upd (o := .lst []) un7
    have ue7 : upd uH6 ua7 (.lst []) ua7 = some (.lst []) := upd_same
    have ur7 := us7 _ _ ur6
    generalize upd uH6 ua7 (.lst []) = uH7 at us7 ue7 ur7 ⊢
    refine ⟨(by show 0 ≤ sizeLine; decide), fun ua8 un8 => ?_⟩
    have uo8 : ua8 ≠ s := fun z => by rw [z, ur7] at un8; cases un8
    have us8 := Same.upd (o := .lst []) un8
    have ue8 : upd uH7 ua8 (.lst []) ua8 = some (.lst []) := upd_same
    have ur8 := us8 _ _ ur7
    generalize upd uH7 ua8 (.lst []) = uH8 at us8 ue8 ur8 ⊢
    refine ⟨(by show 2 ≤ sizeLine; decide), fun ua9 un9 => ?_⟩
    have uo9 : ua9 ≠ s := fun z => by rw [z, ur8] at un9; cases un9
    have us9 := Same.upd (o := .tup [.ref ua7, .ref ua8]) un9
    have ue9 : upd uH8 ua9 (.tup [.ref ua7, .ref ua8]) ua9 = some (.tup [.ref ua7, .ref ua8]) := upd_same
    have ur9 := us9 _ _ ur8
    generalize upd uH8 ua9 (.tup [.ref ua7, .ref ua8]) = uH9 at us9 ue9 ur9 ⊢
    refine ⟨_, rfl, ua3, 6, _, rfl, rfl, (us9 _ _ (us8 _ _ (us7 _ _ (us6 _ _ (us5 _ _ (us4 _ _ ue3)))))), by decide, by decide, (by show 2 * 6 ≤ sizeLine; decide), fun ua10 un10 => ?_⟩
    have uo10 : ua10 ≠ s := fun z => by rw [z, ur9] at un10; cases un10
    have us10 := Same.upd (o := .lst (List.replicate (6 : Int).toNat [.ref ua1, .ref ua2]).flatten) un10
    have ue10 : upd uH9 ua10 (.lst (List.replicate (6 : Int).toNat [.ref ua1, .ref ua2]).flatten) ua10 = some (.lst (List.replicate (6 : Int).toNat [.ref ua1, .ref ua2]).flatten) := upd_same
    have ur10 := us10 _ _ ur9
    generalize upd uH9 ua10 (.lst (List.replicate (6 : Int).toNat [.ref ua1, .ref ua2]).flatten) = uH10 at us10 ue10 ur10 ⊢
    have ue10 : uH10 ua10 = some (.lst [.ref ua1, .ref ua2, .ref ua1, .ref ua2, .ref ua1, .ref ua2, .ref ua1, .ref ua2, .ref ua1, .ref ua2, .ref ua1, .ref ua2]) := ue10
    refine ⟨(by show 2 ≤ sizeLine; decide), fun ua11 un11 => ?_⟩
    have uo11 : ua11 ≠ s := fun z => by rw [z, ur10] at un11; cases un11
    have us11 := Same.upd (o := .tup [.int 0, .int 1]) un11
    have ue11 : upd uH10 ua11 (.tup [.int 0, .int 1]) ua11 = some (.tup [.int 0, .int 1]) := upd_same
    have ur11 := us11 _ _ ur10
    generalize upd uH10 ua11 (.tup [.int 0, .int 1]) = uH11 at us11 ue11 ur11 ⊢
    refine ⟨_, _, rfl, rfl, cp, (by show 2 ≤ sizeLine; decide), fun ua12 un12 => ?_⟩
    have uo12 : ua12 ≠ s := fun z => by rw [z, ur11] at un12; cases un12
    have us12 := Same.upd (o := .tup [.int 2, .int ((10 : Int) ^ (30 : Int).toNat)]) un12
    have ue12 : upd uH11 ua12 (.tup [.int 2, .int ((10 : Int) ^ (30 : Int).toNat)]) ua12 = some (.tup [.int 2, .int ((10 : Int) ^ (30 : Int).toNat)]) := upd_same
    have ur12 := us12 _ _ ur11
    generalize upd uH11 ua12 (.tup [.int 2, .int ((10 : Int) ^ (30 : Int).toNat)]) = uH12 at us12 ue12 ur12 ⊢
    refine ⟨(by show 2 ≤ sizeLine; decide), fun ua13 un13 => ?_⟩
    have uo13 : ua13 ≠ s := fun z => by rw [z, ur12] at un13; cases un13
    have us13 := Same.upd (o := .lst [.ref ua11, .ref ua12]) un13
    have ue13 : upd uH12 ua13 (.lst [.ref ua11, .ref ua12]) ua13 = some (.lst [.ref ua11, .ref ua12]) := upd_same
    have ur13 := us13 _ _ ur12
    generalize upd uH12 ua13 (.lst [.ref ua11, .ref ua12]) = uH13 at us13 ue13 ur13 ⊢
    refine ⟨(by show 2 ≤ sizeLine; decide), fun ua14 un14 => ?_⟩
    have uo14 : ua14 ≠ s := fun z => by rw [z, ur13] at un14; cases un14
    have us14 := Same.upd (o := .tup [.ref ua10, .ref ua13]) un14
    have ue14 : upd uH13 ua14 (.tup [.ref ua10, .ref ua13]) ua14 = some (.tup [.ref ua10, .ref ua13]) := upd_same
    have ur14 := us14 _ _ ur13
    generalize upd uH13 ua14 (.tup [.ref ua10, .ref ua13]) = uH14 at us14 ue14 ur14 ⊢
    refine ⟨(by show 3 ≤ sizeLine; decide), fun ua15 un15 => ?_⟩
    have uo15 : ua15 ≠ s := fun z => by rw [z, ur14] at un15; cases un15
    have us15 := Same.upd (o := .lst [.ref ua6, .ref ua9, .ref ua14]) un15
    have ue15 : upd uH14 ua15 (.lst [.ref ua6, .ref ua9, .ref ua14]) ua15 = some (.lst [.ref ua6, .ref ua9, .ref ua14]) := upd_same
    have ur15 := us15 _ _ ur14
    generalize upd uH14 ua15 (.lst [.ref ua6, .ref ua9, .ref ua14]) = uH15 at us15 ue15 ur15 ⊢
    have uS15 := Same.refl uH15
    have uS14 := us15.trans uS15
    have uS13 := us14.trans uS14
    have uS12 := us13.trans uS13
    have uS11 := us12.trans uS12
    have uS10 := us11.trans uS11
    have uS9 := us10.trans uS10
    have uS8 := us9.trans uS9
    have uS7 := us8.trans uS8
    have uS6 := us7.trans uS7
    have uS5 := us6.trans uS6
    have uS4 := us5.trans uS5
    have uS3 := us4.trans uS4
    have uS2 := us3.trans uS3
    have uS1 := us2.trans uS2
    have uS0 := us1.trans uS1
    have uE1 := Dl.at (s := s) (uS1 _ _ ue1) uo1
    have uE2 := Dl.at (s := s) (uS2 _ _ ue2) uo2
    have uE3 := Dl.at (s := s) (uS3 _ _ ue3) uo3
    have uE4 := Dl.at (s := s) (uS4 _ _ ue4) uo4
    have uE5 := Dl.at (s := s) (uS5 _ _ ue5) uo5
    have uE6 := Dl.at (s := s) (uS6 _ _ ue6) uo6
    have uE7 := Dl.at (s := s) (uS7 _ _ ue7) uo7
    have uE8 := Dl.at (s := s) (uS8 _ _ ue8) uo8
    have uE9 := Dl.at (s := s) (uS9 _ _ ue9) uo9
    have uE10 := Dl.at (s := s) (uS10 _ _ ue10) uo10
    have uE11 := Dl.at (s := s) (uS11 _ _ ue11) uo11
    have uE12 := Dl.at (s := s) (uS12 _ _ ue12) uo12
    have uE13 := Dl.at (s := s) (uS13 _ _ ue13) uo13
    have uE14 := Dl.at (s := s) (uS14 _ _ ue14) uo14
    have uE15 := Dl.at (s := s) (uS15 _ _ ue15) uo15
    rw [e30] at uE12
    have bS : Brs (Dl s uH15) [.ref ua1, .ref ua2] T59 := .cons ⟨_, rfl, uE1⟩ (.cons ⟨_, rfl, uE2⟩ .nil)
    have b6 : Brs (Dl s uH15) [.ref ua1, .ref ua2, .ref ua1, .ref ua2, .ref ua1, .ref ua2, .ref ua1, .ref ua2, .ref ua1, .ref ua2, .ref ua1, .ref ua2] T596 := (.cons ⟨_, rfl, uE1⟩ (.cons ⟨_, rfl, uE2⟩ (.cons ⟨_, rfl, uE1⟩ (.cons ⟨_, rfl, uE2⟩ (.cons ⟨_, rfl, uE1⟩ (.cons ⟨_, rfl, uE2⟩ (.cons ⟨_, rfl, uE1⟩ (.cons ⟨_, rfl, uE2⟩ (.cons ⟨_, rfl, uE1⟩ (.cons ⟨_, rfl, uE2⟩ (.cons ⟨_, rfl, uE1⟩ (.cons ⟨_, rfl, uE2⟩ .nil))))))))))))
    have bas : Bas (Dl s uH15) ua3 ua15 (.ref ua1) (.ref ua2) (.ref ua6) (.ref ua9) (.ref ua14) := ⟨uE3, bS, uE15, .cons ⟨_, _, _, _, _, rfl, uE6, uE3, bS, uE5, .cons ⟨_, rfl, uE4⟩ .nil⟩ (.cons ⟨_, _, _, _, _, rfl, uE9, uE7, .nil, uE8, .nil⟩ (.cons ⟨_, _, _, _, _, rfl, uE14, uE10, b6, uE13, .cons ⟨_, rfl, uE11⟩ (.cons ⟨_, rfl, uE12⟩ .nil)⟩ .nil))⟩
    have src := src.same uS0
    have tabs := Tabs.nl tabs (NL.of uS0)
    have k : ∀ H', Src H' s (n + 5505) → LamX.ExtN (Dl s uH15) (Dl s H') → LamX.Tabs (LT L) H' → Q (.bl true) H' := fun H' x e t => k H' x ((Dl.ext (LamX.ExtN.of uS0)).trans e) t
    have hs := ur15
    clear ue1 us1 uE1 uS1 uo1 ue2 us2 uE2 uS2 uo2 ue3 us3 uE3 uS3 uo3 ue4 us4 uE4 uS4 uo4 ue5 us5 uE5 uS5 uo5 ue6 us6 uE6 uS6 uo6 ue7 us7 uE7 uS7 uo7 ue8 us8 uE8 uS8 uo8 ue9 us9 uE9 uS9 uo9 ue10 us10 uE10 uS10 uo10 ue11 us11 uE11 uS11 uo11 ue12 us12 uE12 uS12 uo12 ue13 us13 uE13 uS13 uo13 ue14 us14 uE14 uS14 uo14 ue15 us15 uE15 uS15 uo15 bS b6 uS0
    generalize uH15 = HB at src tabs k bas hs ⊢
    generalize V.ref ua1 = x1 at bas
    generalize V.ref ua2 = x2 at bas
    generalize V.ref ua6 = z1 at bas
    generalize V.ref ua9 = z2 at bas
    generalize V.ref ua14 = z3 at bas
    obtain ⟨sp, hsp_⟩ : ∃ sp, sp = ua3 := ⟨_, rfl⟩
    obtain ⟨sv, hsv_⟩ : ∃ sv, sv = ua15 := ⟨_, rfl⟩
    rw [← hsp_, ← hsv_] at bas
    rw [← hsp_, ← hsv_]
    clear hsp_ hsv_
    refine ⟨_, rfl, s, 3, n + 0, rfl, by decide, by decide, src, by omega, fun j Hj j0 j1 src kA => ?_⟩
    have exA : LamX.ExtN (Dl s _) (Dl s Hj) := Dl.kp kA
    have bas := bas.ext exA
    have tabs := Tabs.nl tabs (Kp.nl kA hs)
    have k : ∀ H', Src H' s (n + 5505) → LamX.ExtN (Dl s Hj) (Dl s H') → LamX.Tabs (LT L) H' → Q (.bl true) H' := fun H' x e t => k H' x (exA.trans e) t
    clear exA
    obtain ⟨j, rfl⟩ : ∃ m : Nat, j = (m : Int) := ⟨j.toNat, by omega⟩
    clear kA hs
    obtain ⟨yv, hsv⟩ := src.has
    refine ⟨_, rfl, (by show 2 ≤ sizeLine; decide), fun va1 vn1 => ?_⟩
    have vo1 : va1 ≠ s := fun z => by rw [z, hsv] at vn1; cases vn1
    have vs1 := Same.upd (o := .tup [.int 1, .int 2]) vn1
    have ve1 : upd Hj va1 (.tup [.int 1, .int 2]) va1 = some (.tup [.int 1, .int 2]) := upd_same
    have vr1 := vs1 _ _ hsv
    generalize upd Hj va1 (.tup [.int 1, .int 2]) = vH1 at vs1 ve1 vr1 ⊢
    refine ⟨(by show 3 ≤ sizeLine; decide), fun va2 vn2 => ?_⟩
    have vo2 : va2 ≠ s := fun z => by rw [z, vr1] at vn2; cases vn2
    have vs2 := Same.upd (o := .tup [.int 0, .int 1, .int 1]) vn2
    have ve2 : upd vH1 va2 (.tup [.int 0, .int 1, .int 1]) va2 = some (.tup [.int 0, .int 1, .int 1]) := upd_same
    have vr2 := vs2 _ _ vr1
    generalize upd vH1 va2 (.tup [.int 0, .int 1, .int 1]) = vH2 at vs2 ve2 vr2 ⊢
    refine ⟨(by show 3 ≤ sizeLine; decide), fun va3 vn3 => ?_⟩
    have vo3 : va3 ≠ s := fun z => by rw [z, vr2] at vn3; cases vn3
    have vs3 := Same.upd (o := .lst [.int 1, .int 1, .int 1]) vn3
    have ve3 : upd vH2 va3 (.lst [.int 1, .int 1, .int 1]) va3 = some (.lst [.int 1, .int 1, .int 1]) := upd_same
    have vr3 := vs3 _ _ vr2
    generalize upd vH2 va3 (.lst [.int 1, .int 1, .int 1]) = vH3 at vs3 ve3 vr3 ⊢
    refine ⟨(by show 3 ≤ sizeLine; decide), fun va4 vn4 => ?_⟩
    have vo4 : va4 ≠ s := fun z => by rw [z, vr3] at vn4; cases vn4
    have vs4 := Same.upd (o := .tup [.int 1, .int 1, .bl true]) vn4
    have ve4 : upd vH3 va4 (.tup [.int 1, .int 1, .bl true]) va4 = some (.tup [.int 1, .int 1, .bl true]) := upd_same
    have vr4 := vs4 _ _ vr3
    generalize upd vH3 va4 (.tup [.int 1, .int 1, .bl true]) = vH4 at vs4 ve4 vr4 ⊢
    refine fun va5 vn5 => ?_
    have vo5 : va5 ≠ s := fun z => by rw [z, vr4] at vn5; cases vn5
    have vs5 := Same.upd (o := .dK []) vn5
    have ve5 : upd vH4 va5 (.dK []) va5 = some (.dK []) := upd_same
    have vr5 := vs5 _ _ vr4
    generalize upd vH4 va5 (.dK []) = vH5 at vs5 ve5 vr5 ⊢
    refine ⟨(by show 8 ≤ sizeLine; decide), fun va6 vn6 => ?_⟩
    have vo6 : va6 ≠ s := fun z => by rw [z, vr5] at vn6; cases vn6
    have vs6 := Same.upd (o := .lst [(.non : V), (.int 5 : V), (.str "ab" : V), (.ref va1 : V), (.ref va2 : V), (.ref va3 : V), (.ref va4 : V), (.ref va5 : V)]) vn6
    have ve6 : upd vH5 va6 (.lst [(.non : V), (.int 5 : V), (.str "ab" : V), (.ref va1 : V), (.ref va2 : V), (.ref va3 : V), (.ref va4 : V), (.ref va5 : V)]) va6 = some (.lst [(.non : V), (.int 5 : V), (.str "ab" : V), (.ref va1 : V), (.ref va2 : V), (.ref va3 : V), (.ref va4 : V), (.ref va5 : V)]) := upd_same
    have vr6 := vs6 _ _ vr5
    generalize upd vH5 va6 (.lst [(.non : V), (.int 5 : V), (.str "ab" : V), (.ref va1 : V), (.ref va2 : V), (.ref va3 : V), (.ref va4 : V), (.ref va5 : V)]) = vH6 at vs6 ve6 vr6 ⊢
    have vS6 := Same.refl vH6
    have vS5 := vs6.trans vS6
    have vS4 := vs5.trans vS5
    have vS3 := vs4.trans vS4
    have vS2 := vs3.trans vS3
    have vS1 := vs2.trans vS2
    have vS0 := vs1.trans vS1
    have vE1 := Dl.at (s := s) (vS1 _ _ ve1) vo1
    have vE2 := Dl.at (s := s) (vS2 _ _ ve2) vo2
    have vE3 := Dl.at (s := s) (vS3 _ _ ve3) vo3
    have vE4 := Dl.at (s := s) (vS4 _ _ ve4) vo4
    have vE5 := Dl.at (s := s) (vS5 _ _ ve5) vo5
    have vE6 := Dl.at (s := s) (vS6 _ _ ve6) vo6
    have src := src.same vS0
    have exA : LamX.ExtN (Dl s _) (Dl s vH6) := Dl.ext (LamX.ExtN.of vS0)
    have bas := bas.ext exA
    have tabs := Tabs.nl tabs (NL.of vS0)
    have k : ∀ H', Src H' s (n + 5505) → LamX.ExtN (Dl s vH6) (Dl s H') → LamX.Tabs (LT L) H' → Q (.bl true) H' := fun H' x e t => k H' x (exA.trans e) t
    clear exA
    have hbl := ve6
    have g1 : ∀ x ∈ [(.non : V), (.int 5 : V), (.str "ab" : V), (.ref va1 : V), (.ref va2 : V), (.ref va3 : V), (.ref va4 : V), (.ref va5 : V)], NoBr (Dl s vH6) x := fun x hx => by
      simp only [List.mem_cons, List.mem_nil_iff, or_false] at hx
      rcases hx with rfl | rfl | rfl | rfl | rfl | rfl | rfl | rfl
      · exact .kind .non (by decide)
      · exact .kind (.int _) (by decide)
      · exact .kind (.str _) (by decide)
      · exact .len vE1 (by decide)
      · exact .num vE2 (.int _) (.int _) (.int _) (by decide)
      · exact .kind (.lst vE3) (by decide)
      · exact .num vE4 (.int _) (.int _) (.bl _) (by decide)
      · exact .kind (.dK vE5) (by decide)
    have lg1 : [(.non : V), (.int 5 : V), (.str "ab" : V), (.ref va1 : V), (.ref va2 : V), (.ref va3 : V), (.ref va4 : V), (.ref va5 : V)].length = 8 := rfl
    generalize [(.non : V), (.int 5 : V), (.str "ab" : V), (.ref va1 : V), (.ref va2 : V), (.ref va3 : V), (.ref va4 : V), (.ref va5 : V)] = Lg1 at hbl g1 lg1
    refine ⟨s, va6, _, n + 1101, rfl, vo6.symm, hbl, by rw [lg1]; decide, by rw [lg1]; decide, src, by omega, fun odd Hodd hodd src kA => ?_⟩
    have nob := (g1 odd hodd).ext (Dl.kp kA)
    have exA : LamX.ExtN (Dl s _) (Dl s Hodd) := Dl.kp kA
    have bas := bas.ext exA
    have tabs := Tabs.nl tabs (Kp.nl kA vr6)
    have k : ∀ H', Src H' s (n + 5505) → LamX.ExtN (Dl s Hodd) (Dl s H') → LamX.Tabs (LT L) H' → Q (.bl true) H' := fun H' x e t => k H' x (exA.trans e) t
    clear exA
    clear kA g1 lg1 hbl
    refine ⟨tabs, fun Hw exW txW E N H1 s1 hE hN => ?_⟩
    have ex1 := exW.trans (LamX.ExtN.of s1)
    have bas1 := bas.up.ext ex1
    have nob1 := (nob.ext (Dl.sub s _)).ext ex1
    refine ⟨_, rfl, _, rfl, _, rfl, sp, _, rfl, SqL.of bas1.sp_, fun p1 m1 => ?_⟩
    have t1 := Same.upd (o := .lst (cutV [x1, x2] none (some (j : Int)))) m1
    have f1 : upd H1 p1 (.lst (cutV [x1, x2] none (some (j : Int)))) p1 = some (.lst (cutV [x1, x2] none (some (j : Int)))) := upd_same
    generalize upd H1 p1 (.lst (cutV [x1, x2] none (some (j : Int)))) = U1 at t1 f1 ⊢
    refine ⟨_, rfl, (by show 1 ≤ sizeLine; decide), fun p2 m2 => ?_⟩
    have t2 := Same.upd (o := .lst [odd]) m2
    have f2 : upd U1 p2 (.lst [odd]) p2 = some (.lst [odd]) := upd_same
    generalize upd U1 p2 (.lst [odd]) = U2 at t2 f2 ⊢
    refine ⟨p1, p2, _, _, rfl, rfl, t2 _ _ f1, f2, (by have := cutV_length [x1, x2] none (some (j : Int)); exact small2 (by show _ + 1 ≤ 100000; have : ([x1, x2] : List V).length = 2 := rfl; omega)), fun p3 m3 => ?_⟩
    have t3 := Same.upd (o := .lst (cutV [x1, x2] none (some (j : Int)) ++ [odd])) m3
    have f3 : upd U2 p3 (.lst (cutV [x1, x2] none (some (j : Int)) ++ [odd])) p3 = some (.lst (cutV [x1, x2] none (some (j : Int)) ++ [odd])) := upd_same
    generalize upd U2 p3 (.lst (cutV [x1, x2] none (some (j : Int)) ++ [odd])) = U3 at t3 f3 ⊢
    refine ⟨_, rfl, _, rfl, _, rfl, sp, _, rfl, SqL.of (t3 _ _ (t2 _ _ (t1 _ _ bas1.sp_))), fun p4 m4 => ?_⟩
    have t4 := Same.upd (o := .lst (cutV [x1, x2] (some (j : Int)) none)) m4
    have f4 : upd U3 p4 (.lst (cutV [x1, x2] (some (j : Int)) none)) p4 = some (.lst (cutV [x1, x2] (some (j : Int)) none)) := upd_same
    generalize upd U3 p4 (.lst (cutV [x1, x2] (some (j : Int)) none)) = U4 at t4 f4 ⊢
    refine ⟨p3, p4, _, _, rfl, rfl, t4 _ _ f3, f4, (by have := cutV_length [x1, x2] none (some (j : Int)); have := cutV_length [x1, x2] (some (j : Int)) none; exact small2 (by rw [List.length_append]; show _ + 1 + _ ≤ 100000; have : ([x1, x2] : List V).length = 2 := rfl; omega)), fun p5 m5 => ?_⟩
    have t5 := Same.upd (o := .lst (cutV [x1, x2] none (some (j : Int)) ++ [odd] ++ cutV [x1, x2] (some (j : Int)) none)) m5
    have f5 : upd U4 p5 (.lst (cutV [x1, x2] none (some (j : Int)) ++ [odd] ++ cutV [x1, x2] (some (j : Int)) none)) p5 = some (.lst (cutV [x1, x2] none (some (j : Int)) ++ [odd] ++ cutV [x1, x2] (some (j : Int)) none)) := upd_same
    generalize upd U4 p5 (.lst (cutV [x1, x2] none (some (j : Int)) ++ [odd] ++ cutV [x1, x2] (some (j : Int)) none)) = U5 at t5 f5 ⊢
    have tt := (((t1.trans t2).trans t3).trans t4).trans t5
    refine mk_bad hE (nm := "common") (i := (j : Int)) (.com (brs_put f5 (bas1.br.ext (LamX.ExtN.of tt)) (by omega) (nob1.ext (LamX.ExtN.of tt)))) fun q Hu hq su => ?_
    refine ⟨_, rfl, _, _, rfl, ?_⟩
    rw [if_neg (show ¬ ((2 : Int) < (j : Int)) by omega)]
    refine ⟨(by show 2 ≤ sizeLine; decide), fun q6 m6 => ?_⟩
    have S6 := Same.upd (o := .tup [.str "common", .int (j : Int)]) m6
    refine ⟨partD "common" (j : Int), partD "common" (j : Int), dpPart (S6 _ _ hq), dpPart upd_same, shPart _ ok_common, shPart _ ok_common, ?_⟩
    rw [eqPart _ ok_common]
    have SS := s1.trans (tt.trans (su.trans S6))
    have exZ := exW.trans (LamX.ExtN.of SS)
    have tabs := Tabs.nl txW (NL.of SS)
    generalize upd Hu q6 (.tup [.str "common", .int (j : Int)]) = HZ at exZ tabs ⊢
    clear SS S6 hE hN
    refine ⟨_, rfl, iteF ?_⟩
    have src := src.ext exZ
    have exA : LamX.ExtN (Dl s _) (Dl s HZ) := Dl.ext exZ
    have bas := bas.ext exA
    have nob := nob.ext exA
    have k : ∀ H', Src H' s (n + 5505) → LamX.ExtN (Dl s HZ) (Dl s H') → LamX.Tabs (LT L) H' → Q (.bl true) H' := fun H' x e t => k H' x (exA.trans e) t
    clear exA
    clear exZ exW txW ex1 bas1 nob1 tt t1 t2 t3 t4 t5 f1 f2 f3 f4 f5
    obtain ⟨yw1_, hsw1_⟩ := src.has
    refine ⟨_, rfl, sp, _, rfl, .inl ⟨SqL.of bas.up.sp_, fun w1_a1 w1_n1 => ?_⟩⟩
    have w1_o1 : w1_a1 ≠ s := fun z => by rw [z, hsw1_] at w1_n1; cases w1_n1
    have w1_s1 := Same.upd (o := .tup [x1, x2]) w1_n1
    have w1_e1 : upd HZ w1_a1 (.tup [x1, x2]) w1_a1 = some (.tup [x1, x2]) := upd_same
    have w1_r1 := w1_s1 _ _ hsw1_
    generalize upd HZ w1_a1 (.tup [x1, x2]) = w1_H1 at w1_s1 w1_e1 w1_r1 ⊢
    refine fun w1_a2 w1_n2 => ?_
    have w1_o2 : w1_a2 ≠ s := fun z => by rw [z, w1_r1] at w1_n2; cases w1_n2
    have w1_s2 := Same.upd (o := .dK []) w1_n2
    have w1_e2 : upd w1_H1 w1_a2 (.dK []) w1_a2 = some (.dK []) := upd_same
    have w1_r2 := w1_s2 _ _ w1_r1
    generalize upd w1_H1 w1_a2 (.dK []) = w1_H2 at w1_s2 w1_e2 w1_r2 ⊢
    refine ⟨_, rfl, sp, 7, _, rfl, rfl, (w1_s2 _ _ (w1_s1 _ _ bas.up.sp_)), by decide, by decide, (by show 2 * 7 ≤ sizeLine; decide), fun w1_a3 w1_n3 => ?_⟩
    have w1_o3 : w1_a3 ≠ s := fun z => by rw [z, w1_r2] at w1_n3; cases w1_n3
    have w1_s3 := Same.upd (o := .lst (List.replicate (7 : Int).toNat [x1, x2]).flatten) w1_n3
    have w1_e3 : upd w1_H2 w1_a3 (.lst (List.replicate (7 : Int).toNat [x1, x2]).flatten) w1_a3 = some (.lst (List.replicate (7 : Int).toNat [x1, x2]).flatten) := upd_same
    have w1_r3 := w1_s3 _ _ w1_r2
    generalize upd w1_H2 w1_a3 (.lst (List.replicate (7 : Int).toNat [x1, x2]).flatten) = w1_H3 at w1_s3 w1_e3 w1_r3 ⊢
    have w1_e3 : w1_H3 w1_a3 = some (.lst [x1, x2, x1, x2, x1, x2, x1, x2, x1, x2, x1, x2, x1, x2]) := w1_e3
    refine ⟨(by show 5 ≤ sizeLine; decide), fun w1_a4 w1_n4 => ?_⟩
    have w1_o4 : w1_a4 ≠ s := fun z => by rw [z, w1_r3] at w1_n4; cases w1_n4
    have w1_s4 := Same.upd (o := .lst [(.non : V), (.ref w1_a1 : V), (.ref w1_a2 : V), (.int 5 : V), (.ref w1_a3 : V)]) w1_n4
    have w1_e4 : upd w1_H3 w1_a4 (.lst [(.non : V), (.ref w1_a1 : V), (.ref w1_a2 : V), (.int 5 : V), (.ref w1_a3 : V)]) w1_a4 = some (.lst [(.non : V), (.ref w1_a1 : V), (.ref w1_a2 : V), (.int 5 : V), (.ref w1_a3 : V)]) := upd_same
    have w1_r4 := w1_s4 _ _ w1_r3
    generalize upd w1_H3 w1_a4 (.lst [(.non : V), (.ref w1_a1 : V), (.ref w1_a2 : V), (.int 5 : V), (.ref w1_a3 : V)]) = w1_H4 at w1_s4 w1_e4 w1_r4 ⊢
    have w1_S4 := Same.refl w1_H4
    have w1_S3 := w1_s4.trans w1_S4
    have w1_S2 := w1_s3.trans w1_S3
    have w1_S1 := w1_s2.trans w1_S2
    have w1_S0 := w1_s1.trans w1_S1
    have w1_E1 := Dl.at (s := s) (w1_S1 _ _ w1_e1) w1_o1
    have w1_E2 := Dl.at (s := s) (w1_S2 _ _ w1_e2) w1_o2
    have w1_E3 := Dl.at (s := s) (w1_S3 _ _ w1_e3) w1_o3
    have w1_E4 := Dl.at (s := s) (w1_S4 _ _ w1_e4) w1_o4
    have src := src.same w1_S0
    have exA : LamX.ExtN (Dl s _) (Dl s w1_H4) := Dl.ext (LamX.ExtN.of w1_S0)
    have bas := bas.ext exA
    have nob := nob.ext exA
    have tabs := Tabs.nl tabs (NL.of w1_S0)
    have k : ∀ H', Src H' s (n + 5505) → LamX.ExtN (Dl s w1_H4) (Dl s H') → LamX.Tabs (LT L) H' → Q (.bl true) H' := fun H' x e t => k H' x (exA.trans e) t
    clear exA
    have hbl := w1_e4
    have g2 : ∀ x ∈ [(.non : V), (.ref w1_a1 : V), (.ref w1_a2 : V), (.int 5 : V), (.ref w1_a3 : V)], BrsBad (Dl s w1_H4) x (-1) := fun x hx => by
      simp only [List.mem_cons, List.mem_nil_iff, or_false] at hx
      rcases hx with rfl | rfl | rfl | rfl | rfl
      · exact .kind .non (by decide)
      · exact .kind (.tup w1_E1) (by decide)
      · exact .kind (.dK w1_E2) (by decide)
      · exact .kind (.int _) (by decide)
      · exact .many w1_E3 (by show 12 < 14; decide)
    have lg2 : [(.non : V), (.ref w1_a1 : V), (.ref w1_a2 : V), (.int 5 : V), (.ref w1_a3 : V)].length = 5 := rfl
    generalize [(.non : V), (.ref w1_a1 : V), (.ref w1_a2 : V), (.int 5 : V), (.ref w1_a3 : V)] = Lg2 at hbl g2 lg2
    refine ⟨w1_a4, rfl, ⟨_, SqL.of hbl⟩, for_list (K := K) (a := w1_a4) (xs := Lg2) (fun i σ Hx => ∃ vv : Option V, σ = [some (.ref s), none, none, some (.int (j : Int)), none, vv, some odd, some (.ref sv), some (.ref sp), none, none] ∧ LamX.ExtN w1_H4 Hx ∧ LamX.Tabs (LT L) Hx) ⟨_, rfl, LamX.ExtN.refl _, tabs⟩ (fun i σ Hx _ ⟨_, _, ex, _⟩ => SqL.of (ExtN.lst ex hbl)) ?_ ?_⟩
    · rintro i x σ Hx hxi ⟨vv, rfl, ex, tabs⟩
      have bad := ((g2 x (List.mem_of_getElem? hxi)).ext (Dl.sub s _)).ext ex
      have bas := bas.ext (Dl.ext ex)
      refine ⟨tabs, fun Hw exW txW E N H1 s1 hE hN => ?_⟩
      have ex1 := exW.trans (LamX.ExtN.of s1)
      have bas1 := bas.up.ext ex1
      have bad := bad.ext ex1
      refine ⟨_, rfl, _, rfl, _, rfl, mk_bad hE (nm := "common") (i := -1) (.com bad) fun q Hu hq su => ?_⟩
      refine ⟨1, rfl, ?_⟩
      refine ⟨(by show 2 ≤ sizeLine; decide), fun q6 m6 => ?_⟩
      have S6 := Same.upd (o := .tup [.str "common", .int (-1)]) m6
      refine ⟨partD "common" (-1), partD "common" (-1), dpPart (S6 _ _ hq), dpPart upd_same, shPart _ ok_common, shPart _ ok_common, ?_⟩
      rw [eqPart _ ok_common]
      have SS := s1.trans (su.trans S6)
      have exZ := exW.trans (LamX.ExtN.of SS)
      have tabs := Tabs.nl txW (NL.of SS)
      generalize upd Hu q6 (.tup [.str "common", .int (-1)]) = HZ at exZ tabs ⊢
      clear SS S6 hE hN
      refine ⟨_, rfl, iteF ?_⟩
      exact ⟨_, rfl, ex.trans exZ, tabs⟩
    rintro σ HE ⟨vv, rfl, exE, tabs⟩
    obtain ⟨vv_g2, hvv⟩ : ∃ u, u = vv := ⟨_, rfl⟩
    rw [← hvv]
    clear hvv
    have src := src.ext exE
    have exA : LamX.ExtN (Dl s _) (Dl s HE) := Dl.ext exE
    have bas := bas.ext exA
    have nob := nob.ext exA
    have k : ∀ H', Src H' s (n + 5505) → LamX.ExtN (Dl s HE) (Dl s H') → LamX.Tabs (LT L) H' → Q (.bl true) H' := fun H' x e t => k H' x (exA.trans e) t
    clear exA
    clear g2
    clear exE
    clear hbl lg2
    obtain ⟨yb, hsb⟩ := src.has
    refine ⟨_, rfl, (by show 1 ≤ sizeLine; decide), fun ba1 bn1 => ?_⟩
    have bo1 : ba1 ≠ s := fun z => by rw [z, hsb] at bn1; cases bn1
    have bs1 := Same.upd (o := .tup [.ref sp]) bn1
    have be1 : upd HE ba1 (.tup [.ref sp]) ba1 = some (.tup [.ref sp]) := upd_same
    have br1 := bs1 _ _ hsb
    generalize upd HE ba1 (.tup [.ref sp]) = bH1 at bs1 be1 br1 ⊢
    refine ⟨_, rfl, (by show 0 ≤ sizeLine; decide), fun ba2 bn2 => ?_⟩
    have bo2 : ba2 ≠ s := fun z => by rw [z, br1] at bn2; cases bn2
    have bs2 := Same.upd (o := .lst []) bn2
    have be2 : upd bH1 ba2 (.lst []) ba2 = some (.lst []) := upd_same
    have br2 := bs2 _ _ br1
    generalize upd bH1 ba2 (.lst []) = bH2 at bs2 be2 br2 ⊢
    refine ⟨(by show 2 ≤ sizeLine; decide), fun ba3 bn3 => ?_⟩
    have bo3 : ba3 ≠ s := fun z => by rw [z, br2] at bn3; cases bn3
    have bs3 := Same.upd (o := .tup [.ref sp, .ref ba2]) bn3
    have be3 : upd bH2 ba3 (.tup [.ref sp, .ref ba2]) ba3 = some (.tup [.ref sp, .ref ba2]) := upd_same
    have br3 := bs3 _ _ br2
    generalize upd bH2 ba3 (.tup [.ref sp, .ref ba2]) = bH3 at bs3 be3 br3 ⊢
    refine ⟨(by show 0 ≤ sizeLine; decide), fun ba4 bn4 => ?_⟩
    have bo4 : ba4 ≠ s := fun z => by rw [z, br3] at bn4; cases bn4
    have bs4 := Same.upd (o := .lst []) bn4
    have be4 : upd bH3 ba4 (.lst []) ba4 = some (.lst []) := upd_same
    have br4 := bs4 _ _ br3
    generalize upd bH3 ba4 (.lst []) = bH4 at bs4 be4 br4 ⊢
    refine ⟨(by show 1 ≤ sizeLine; decide), fun ba5 bn5 => ?_⟩
    have bo5 : ba5 ≠ s := fun z => by rw [z, br4] at bn5; cases bn5
    have bs5 := Same.upd (o := .tup [.ref ba4]) bn5
    have be5 : upd bH4 ba5 (.tup [.ref ba4]) ba5 = some (.tup [.ref ba4]) := upd_same
    have br5 := bs5 _ _ br4
    generalize upd bH4 ba5 (.tup [.ref ba4]) = bH5 at bs5 be5 br5 ⊢
    refine ⟨ba3, ba5, _, _, rfl, rfl, SqT.of (bs5 _ _ (bs4 _ _ be3)), SqT.of be5, (fun z => nomatch z), (by show 3 ≤ sizeLine; decide), (fun z => nomatch z), fun _ => ?_⟩
    refine fun ba6 bn6 => ?_
    have bo6 : ba6 ≠ s := fun z => by rw [z, br5] at bn6; cases bn6
    have bs6 := Same.upd (o := .tup ([.ref sp, .ref ba2] ++ [.ref ba4])) bn6
    have be6 : upd bH5 ba6 (.tup ([.ref sp, .ref ba2] ++ [.ref ba4])) ba6 = some (.tup ([.ref sp, .ref ba2] ++ [.ref ba4])) := upd_same
    have br6 := bs6 _ _ br5
    generalize upd bH5 ba6 (.tup ([.ref sp, .ref ba2] ++ [.ref ba4])) = bH6 at bs6 be6 br6 ⊢
    have be6 : bH6 ba6 = some (.tup [.ref sp, .ref ba2, .ref ba4]) := be6
    refine ⟨_, rfl, (by show 0 ≤ sizeLine; decide), fun ba7 bn7 => ?_⟩
    have bo7 : ba7 ≠ s := fun z => by rw [z, br6] at bn7; cases bn7
    have bs7 := Same.upd (o := .lst []) bn7
    have be7 : upd bH6 ba7 (.lst []) ba7 = some (.lst []) := upd_same
    have br7 := bs7 _ _ br6
    generalize upd bH6 ba7 (.lst []) = bH7 at bs7 be7 br7 ⊢
    refine ⟨(by show 2 ≤ sizeLine; decide), fun ba8 bn8 => ?_⟩
    have bo8 : ba8 ≠ s := fun z => by rw [z, br7] at bn8; cases bn8
    have bs8 := Same.upd (o := .lst [.ref sp, .ref ba7]) bn8
    have be8 : upd bH7 ba8 (.lst [.ref sp, .ref ba7]) ba8 = some (.lst [.ref sp, .ref ba7]) := upd_same
    have br8 := bs8 _ _ br7
    generalize upd bH7 ba8 (.lst [.ref sp, .ref ba7]) = bH8 at bs8 be8 br8 ⊢
    refine ⟨_, rfl, sp, _, rfl, .inl ⟨SqL.of (bs8 _ _ (bs7 _ _ (bs6 _ _ (bs5 _ _ (bs4 _ _ (bs3 _ _ (bs2 _ _ (bs1 _ _ bas.up.sp_)))))))), fun ba9 bn9 => ?_⟩⟩
    have bo9 : ba9 ≠ s := fun z => by rw [z, br8] at bn9; cases bn9
    have bs9 := Same.upd (o := .tup [x1, x2]) bn9
    have be9 : upd bH8 ba9 (.tup [x1, x2]) ba9 = some (.tup [x1, x2]) := upd_same
    have br9 := bs9 _ _ br8
    generalize upd bH8 ba9 (.tup [x1, x2]) = bH9 at bs9 be9 br9 ⊢
    refine ⟨(by show 0 ≤ sizeLine; decide), fun ba10 bn10 => ?_⟩
    have bo10 : ba10 ≠ s := fun z => by rw [z, br9] at bn10; cases bn10
    have bs10 := Same.upd (o := .lst []) bn10
    have be10 : upd bH9 ba10 (.lst []) ba10 = some (.lst []) := upd_same
    have br10 := bs10 _ _ br9
    generalize upd bH9 ba10 (.lst []) = bH10 at bs10 be10 br10 ⊢
    refine ⟨(by show 2 ≤ sizeLine; decide), fun ba11 bn11 => ?_⟩
    have bo11 : ba11 ≠ s := fun z => by rw [z, br10] at bn11; cases bn11
    have bs11 := Same.upd (o := .tup [.ref ba9, .ref ba10]) bn11
    have be11 : upd bH10 ba11 (.tup [.ref ba9, .ref ba10]) ba11 = some (.tup [.ref ba9, .ref ba10]) := upd_same
    have br11 := bs11 _ _ br10
    generalize upd bH10 ba11 (.tup [.ref ba9, .ref ba10]) = bH11 at bs11 be11 br11 ⊢
    refine ⟨_, rfl, _, rfl, (by show 1 ≤ sizeLine; decide), fun ba12 bn12 => ?_⟩
    have bo12 : ba12 ≠ s := fun z => by rw [z, br11] at bn12; cases bn12
    have bs12 := Same.upd (o := .lst [odd]) bn12
    have be12 : upd bH11 ba12 (.lst [odd]) ba12 = some (.lst [odd]) := upd_same
    have br12 := bs12 _ _ br11
    generalize upd bH11 ba12 (.lst [odd]) = bH12 at bs12 be12 br12 ⊢
    refine ⟨sp, ba12, _, _, rfl, rfl, (bs12 _ _ (bs11 _ _ (bs10 _ _ (bs9 _ _ (bs8 _ _ (bs7 _ _ (bs6 _ _ (bs5 _ _ (bs4 _ _ (bs3 _ _ (bs2 _ _ (bs1 _ _ bas.up.sp_)))))))))))), be12, (by show 3 ≤ sizeLine; decide), fun ba13 bn13 => ?_⟩
    have bo13 : ba13 ≠ s := fun z => by rw [z, br12] at bn13; cases bn13
    have bs13 := Same.upd (o := .lst ([x1, x2] ++ [odd])) bn13
    have be13 : upd bH12 ba13 (.lst ([x1, x2] ++ [odd])) ba13 = some (.lst ([x1, x2] ++ [odd])) := upd_same
    have br13 := bs13 _ _ br12
    generalize upd bH12 ba13 (.lst ([x1, x2] ++ [odd])) = bH13 at bs13 be13 br13 ⊢
    have be13 : bH13 ba13 = some (.lst [x1, x2, odd]) := be13
    refine ⟨(by show 0 ≤ sizeLine; decide), fun ba14 bn14 => ?_⟩
    have bo14 : ba14 ≠ s := fun z => by rw [z, br13] at bn14; cases bn14
    have bs14 := Same.upd (o := .lst []) bn14
    have be14 : upd bH13 ba14 (.lst []) ba14 = some (.lst []) := upd_same
    have br14 := bs14 _ _ br13
    generalize upd bH13 ba14 (.lst []) = bH14 at bs14 be14 br14 ⊢
    refine ⟨(by show 2 ≤ sizeLine; decide), fun ba15 bn15 => ?_⟩
    have bo15 : ba15 ≠ s := fun z => by rw [z, br14] at bn15; cases bn15
    have bs15 := Same.upd (o := .tup [.ref ba13, .ref ba14]) bn15
    have be15 : upd bH14 ba15 (.tup [.ref ba13, .ref ba14]) ba15 = some (.tup [.ref ba13, .ref ba14]) := upd_same
    have br15 := bs15 _ _ br14
    generalize upd bH14 ba15 (.tup [.ref ba13, .ref ba14]) = bH15 at bs15 be15 br15 ⊢
    refine ⟨_, rfl, sp, 7, _, rfl, rfl, (bs15 _ _ (bs14 _ _ (bs13 _ _ (bs12 _ _ (bs11 _ _ (bs10 _ _ (bs9 _ _ (bs8 _ _ (bs7 _ _ (bs6 _ _ (bs5 _ _ (bs4 _ _ (bs3 _ _ (bs2 _ _ (bs1 _ _ bas.up.sp_))))))))))))))), by decide, by decide, (by show 2 * 7 ≤ sizeLine; decide), fun ba16 bn16 => ?_⟩
    have bo16 : ba16 ≠ s := fun z => by rw [z, br15] at bn16; cases bn16
    have bs16 := Same.upd (o := .lst (List.replicate (7 : Int).toNat [x1, x2]).flatten) bn16
    have be16 : upd bH15 ba16 (.lst (List.replicate (7 : Int).toNat [x1, x2]).flatten) ba16 = some (.lst (List.replicate (7 : Int).toNat [x1, x2]).flatten) := upd_same
    have br16 := bs16 _ _ br15
    generalize upd bH15 ba16 (.lst (List.replicate (7 : Int).toNat [x1, x2]).flatten) = bH16 at bs16 be16 br16 ⊢
    have be16 : bH16 ba16 = some (.lst [x1, x2, x1, x2, x1, x2, x1, x2, x1, x2, x1, x2, x1, x2]) := be16
    refine ⟨(by show 0 ≤ sizeLine; decide), fun ba17 bn17 => ?_⟩
    have bo17 : ba17 ≠ s := fun z => by rw [z, br16] at bn17; cases bn17
    have bs17 := Same.upd (o := .lst []) bn17
    have be17 : upd bH16 ba17 (.lst []) ba17 = some (.lst []) := upd_same
    have br17 := bs17 _ _ br16
    generalize upd bH16 ba17 (.lst []) = bH17 at bs17 be17 br17 ⊢
    refine ⟨(by show 2 ≤ sizeLine; decide), fun ba18 bn18 => ?_⟩
    have bo18 : ba18 ≠ s := fun z => by rw [z, br17] at bn18; cases bn18
    have bs18 := Same.upd (o := .tup [.ref ba16, .ref ba17]) bn18
    have be18 : upd bH17 ba18 (.tup [.ref ba16, .ref ba17]) ba18 = some (.tup [.ref ba16, .ref ba17]) := upd_same
    have br18 := bs18 _ _ br17
    generalize upd bH17 ba18 (.tup [.ref ba16, .ref ba17]) = bH18 at bs18 be18 br18 ⊢
    refine ⟨(by show 7 ≤ sizeLine; decide), fun ba19 bn19 => ?_⟩
    have bo19 : ba19 ≠ s := fun z => by rw [z, br18] at bn19; cases bn19
    have bs19 := Same.upd (o := .lst [(.non : V), (.ref ba1 : V), (.ref ba6 : V), (.ref ba8 : V), (.ref ba11 : V), (.ref ba15 : V), (.ref ba18 : V)]) bn19
    have be19 : upd bH18 ba19 (.lst [(.non : V), (.ref ba1 : V), (.ref ba6 : V), (.ref ba8 : V), (.ref ba11 : V), (.ref ba15 : V), (.ref ba18 : V)]) ba19 = some (.lst [(.non : V), (.ref ba1 : V), (.ref ba6 : V), (.ref ba8 : V), (.ref ba11 : V), (.ref ba15 : V), (.ref ba18 : V)]) := upd_same
    have br19 := bs19 _ _ br18
    generalize upd bH18 ba19 (.lst [(.non : V), (.ref ba1 : V), (.ref ba6 : V), (.ref ba8 : V), (.ref ba11 : V), (.ref ba15 : V), (.ref ba18 : V)]) = bH19 at bs19 be19 br19 ⊢
    refine ⟨_, rfl, _, rfl, (by show 2 ≤ sizeLine; decide), fun ba20 bn20 => ?_⟩
    have bo20 : ba20 ≠ s := fun z => by rw [z, br19] at bn20; cases bn20
    have bs20 := Same.upd (o := .tup [.ref sp, .non]) bn20
    have be20 : upd bH19 ba20 (.tup [.ref sp, .non]) ba20 = some (.tup [.ref sp, .non]) := upd_same
    have br20 := bs20 _ _ br19
    generalize upd bH19 ba20 (.tup [.ref sp, .non]) = bH20 at bs20 be20 br20 ⊢
    refine ⟨_, rfl, (by show 2 ≤ sizeLine; decide), fun ba21 bn21 => ?_⟩
    have bo21 : ba21 ≠ s := fun z => by rw [z, br20] at bn21; cases bn21
    have bs21 := Same.upd (o := .tup [.int 3, .int 3]) bn21
    have be21 : upd bH20 ba21 (.tup [.int 3, .int 3]) ba21 = some (.tup [.int 3, .int 3]) := upd_same
    have br21 := bs21 _ _ br20
    generalize upd bH20 ba21 (.tup [.int 3, .int 3]) = bH21 at bs21 be21 br21 ⊢
    refine ⟨(by show 1 ≤ sizeLine; decide), fun ba22 bn22 => ?_⟩
    have bo22 : ba22 ≠ s := fun z => by rw [z, br21] at bn22; cases bn22
    have bs22 := Same.upd (o := .lst [.ref ba21]) bn22
    have be22 : upd bH21 ba22 (.lst [.ref ba21]) ba22 = some (.lst [.ref ba21]) := upd_same
    have br22 := bs22 _ _ br21
    generalize upd bH21 ba22 (.lst [.ref ba21]) = bH22 at bs22 be22 br22 ⊢
    refine ⟨(by show 2 ≤ sizeLine; decide), fun ba23 bn23 => ?_⟩
    have bo23 : ba23 ≠ s := fun z => by rw [z, br22] at bn23; cases bn23
    have bs23 := Same.upd (o := .tup [.ref sp, .ref ba22]) bn23
    have be23 : upd bH22 ba23 (.tup [.ref sp, .ref ba22]) ba23 = some (.tup [.ref sp, .ref ba22]) := upd_same
    have br23 := bs23 _ _ br22
    generalize upd bH22 ba23 (.tup [.ref sp, .ref ba22]) = bH23 at bs23 be23 br23 ⊢
    refine ⟨_, rfl, (by show 2 ≤ sizeLine; decide), fun ba24 bn24 => ?_⟩
    have bo24 : ba24 ≠ s := fun z => by rw [z, br23] at bn24; cases bn24
    have bs24 := Same.upd (o := .tup [.int 3, .int 9]) bn24
    have be24 : upd bH23 ba24 (.tup [.int 3, .int 9]) ba24 = some (.tup [.int 3, .int 9]) := upd_same
    have br24 := bs24 _ _ br23
    generalize upd bH23 ba24 (.tup [.int 3, .int 9]) = bH24 at bs24 be24 br24 ⊢
    refine ⟨(by show 2 ≤ sizeLine; decide), fun ba25 bn25 => ?_⟩
    have bo25 : ba25 ≠ s := fun z => by rw [z, br24] at bn25; cases bn25
    have bs25 := Same.upd (o := .tup [.int 9, .int 12]) bn25
    have be25 : upd bH24 ba25 (.tup [.int 9, .int 12]) ba25 = some (.tup [.int 9, .int 12]) := upd_same
    have br25 := bs25 _ _ br24
    generalize upd bH24 ba25 (.tup [.int 9, .int 12]) = bH25 at bs25 be25 br25 ⊢
    refine ⟨(by show 2 ≤ sizeLine; decide), fun ba26 bn26 => ?_⟩
    have bo26 : ba26 ≠ s := fun z => by rw [z, br25] at bn26; cases bn26
    have bs26 := Same.upd (o := .lst [.ref ba24, .ref ba25]) bn26
    have be26 : upd bH25 ba26 (.lst [.ref ba24, .ref ba25]) ba26 = some (.lst [.ref ba24, .ref ba25]) := upd_same
    have br26 := bs26 _ _ br25
    generalize upd bH25 ba26 (.lst [.ref ba24, .ref ba25]) = bH26 at bs26 be26 br26 ⊢
    refine ⟨(by show 2 ≤ sizeLine; decide), fun ba27 bn27 => ?_⟩
    have bo27 : ba27 ≠ s := fun z => by rw [z, br26] at bn27; cases bn27
    have bs27 := Same.upd (o := .tup [.ref sp, .ref ba26]) bn27
    have be27 : upd bH26 ba27 (.tup [.ref sp, .ref ba26]) ba27 = some (.tup [.ref sp, .ref ba26]) := upd_same
    have br27 := bs27 _ _ br26
    generalize upd bH26 ba27 (.tup [.ref sp, .ref ba26]) = bH27 at bs27 be27 br27 ⊢
    refine ⟨_, rfl, (by show 2 ≤ sizeLine; decide), fun ba28 bn28 => ?_⟩
    have bo28 : ba28 ≠ s := fun z => by rw [z, br27] at bn28; cases bn28
    have bs28 := Same.upd (o := .tup [.int 5, .int 6]) bn28
    have be28 : upd bH27 ba28 (.tup [.int 5, .int 6]) ba28 = some (.tup [.int 5, .int 6]) := upd_same
    have br28 := bs28 _ _ br27
    generalize upd bH27 ba28 (.tup [.int 5, .int 6]) = bH28 at bs28 be28 br28 ⊢
    refine ⟨(by show 2 ≤ sizeLine; decide), fun ba29 bn29 => ?_⟩
    have bo29 : ba29 ≠ s := fun z => by rw [z, br28] at bn29; cases bn29
    have bs29 := Same.upd (o := .tup [.int 1, .int 2]) bn29
    have be29 : upd bH28 ba29 (.tup [.int 1, .int 2]) ba29 = some (.tup [.int 1, .int 2]) := upd_same
    have br29 := bs29 _ _ br28
    generalize upd bH28 ba29 (.tup [.int 1, .int 2]) = bH29 at bs29 be29 br29 ⊢
    refine ⟨(by show 2 ≤ sizeLine; decide), fun ba30 bn30 => ?_⟩
    have bo30 : ba30 ≠ s := fun z => by rw [z, br29] at bn30; cases bn30
    have bs30 := Same.upd (o := .lst [.ref ba28, .ref ba29]) bn30
    have be30 : upd bH29 ba30 (.lst [.ref ba28, .ref ba29]) ba30 = some (.lst [.ref ba28, .ref ba29]) := upd_same
    have br30 := bs30 _ _ br29
    generalize upd bH29 ba30 (.lst [.ref ba28, .ref ba29]) = bH30 at bs30 be30 br30 ⊢
    refine ⟨(by show 2 ≤ sizeLine; decide), fun ba31 bn31 => ?_⟩
    have bo31 : ba31 ≠ s := fun z => by rw [z, br30] at bn31; cases bn31
    have bs31 := Same.upd (o := .tup [.ref sp, .ref ba30]) bn31
    have be31 : upd bH30 ba31 (.tup [.ref sp, .ref ba30]) ba31 = some (.tup [.ref sp, .ref ba30]) := upd_same
    have br31 := bs31 _ _ br30
    generalize upd bH30 ba31 (.tup [.ref sp, .ref ba30]) = bH31 at bs31 be31 br31 ⊢
    refine ⟨(by show 4 ≤ sizeLine; decide), fun ba32 bn32 => ?_⟩
    have bo32 : ba32 ≠ s := fun z => by rw [z, br31] at bn32; cases bn32
    have bs32 := Same.upd (o := .lst [(.ref ba20 : V), (.ref ba23 : V), (.ref ba27 : V), (.ref ba31 : V)]) bn32
    have be32 : upd bH31 ba32 (.lst [(.ref ba20 : V), (.ref ba23 : V), (.ref ba27 : V), (.ref ba31 : V)]) ba32 = some (.lst [(.ref ba20 : V), (.ref ba23 : V), (.ref ba27 : V), (.ref ba31 : V)]) := upd_same
    have br32 := bs32 _ _ br31
    generalize upd bH31 ba32 (.lst [(.ref ba20 : V), (.ref ba23 : V), (.ref ba27 : V), (.ref ba31 : V)]) = bH32 at bs32 be32 br32 ⊢
    refine ⟨ba19, ba32, _, _, rfl, rfl, (bs32 _ _ (bs31 _ _ (bs30 _ _ (bs29 _ _ (bs28 _ _ (bs27 _ _ (bs26 _ _ (bs25 _ _ (bs24 _ _ (bs23 _ _ (bs22 _ _ (bs21 _ _ (bs20 _ _ be19))))))))))))), be32, (by show 11 ≤ sizeLine; decide), fun ba33 bn33 => ?_⟩
    have bo33 : ba33 ≠ s := fun z => by rw [z, br32] at bn33; cases bn33
    have bs33 := Same.upd (o := .lst ([(.non : V), (.ref ba1 : V), (.ref ba6 : V), (.ref ba8 : V), (.ref ba11 : V), (.ref ba15 : V), (.ref ba18 : V)] ++ [(.ref ba20 : V), (.ref ba23 : V), (.ref ba27 : V), (.ref ba31 : V)])) bn33
    have be33 : upd bH32 ba33 (.lst ([(.non : V), (.ref ba1 : V), (.ref ba6 : V), (.ref ba8 : V), (.ref ba11 : V), (.ref ba15 : V), (.ref ba18 : V)] ++ [(.ref ba20 : V), (.ref ba23 : V), (.ref ba27 : V), (.ref ba31 : V)])) ba33 = some (.lst ([(.non : V), (.ref ba1 : V), (.ref ba6 : V), (.ref ba8 : V), (.ref ba11 : V), (.ref ba15 : V), (.ref ba18 : V)] ++ [(.ref ba20 : V), (.ref ba23 : V), (.ref ba27 : V), (.ref ba31 : V)])) := upd_same
    have br33 := bs33 _ _ br32
    generalize upd bH32 ba33 (.lst ([(.non : V), (.ref ba1 : V), (.ref ba6 : V), (.ref ba8 : V), (.ref ba11 : V), (.ref ba15 : V), (.ref ba18 : V)] ++ [(.ref ba20 : V), (.ref ba23 : V), (.ref ba27 : V), (.ref ba31 : V)])) = bH33 at bs33 be33 br33 ⊢
    have be33 : bH33 ba33 = some (.lst [(.non : V), (.ref ba1 : V), (.ref ba6 : V), (.ref ba8 : V), (.ref ba11 : V), (.ref ba15 : V), (.ref ba18 : V), (.ref ba20 : V), (.ref ba23 : V), (.ref ba27 : V), (.ref ba31 : V)]) := be33
    refine ⟨_, rfl, .inl ⟨rfl, _, SqL.of be33⟩, _, rfl, (by show 2 ≤ sizeLine; decide), fun ba34 bn34 => ?_⟩
    have bo34 : ba34 ≠ s := fun z => by rw [z, br33] at bn34; cases bn34
    have bs34 := Same.upd (o := .tup [.int 3, .int 9]) bn34
    have be34 : upd bH33 ba34 (.tup [.int 3, .int 9]) ba34 = some (.tup [.int 3, .int 9]) := upd_same
    have br34 := bs34 _ _ br33
    generalize upd bH33 ba34 (.tup [.int 3, .int 9]) = bH34 at bs34 be34 br34 ⊢
    refine ⟨(by show 1 ≤ sizeLine; decide), fun ba35 bn35 => ?_⟩
    have bo35 : ba35 ≠ s := fun z => by rw [z, br34] at bn35; cases bn35
    have bs35 := Same.upd (o := .tup [.ref ba34]) bn35
    have be35 : upd bH34 ba35 (.tup [.ref ba34]) ba35 = some (.tup [.ref ba34]) := upd_same
    have br35 := bs35 _ _ br34
    generalize upd bH34 ba35 (.tup [.ref ba34]) = bH35 at bs35 be35 br35 ⊢
    refine ⟨(by show 2 ≤ sizeLine; decide), fun ba36 bn36 => ?_⟩
    have bo36 : ba36 ≠ s := fun z => by rw [z, br35] at bn36; cases bn36
    have bs36 := Same.upd (o := .tup [.ref sp, .ref ba35]) bn36
    have be36 : upd bH35 ba36 (.tup [.ref sp, .ref ba35]) ba36 = some (.tup [.ref sp, .ref ba35]) := upd_same
    have br36 := bs36 _ _ br35
    generalize upd bH35 ba36 (.tup [.ref sp, .ref ba35]) = bH36 at bs36 be36 br36 ⊢
    refine ⟨ba33, _, _, rfl, rfl, (bs36 _ _ (bs35 _ _ (bs34 _ _ be33))), (by show 11 < sizeLine; decide), ?_⟩
    have bs37 : Kp ba33 bH36 (upd bH36 ba33 (.lst ([(.non : V), (.ref ba1 : V), (.ref ba6 : V), (.ref ba8 : V), (.ref ba11 : V), (.ref ba15 : V), (.ref ba18 : V), (.ref ba20 : V), (.ref ba23 : V), (.ref ba27 : V), (.ref ba31 : V)] ++ [(.ref ba36 : V)]))) := Kp.upd
    have bf : upd bH36 ba33 (.lst ([(.non : V), (.ref ba1 : V), (.ref ba6 : V), (.ref ba8 : V), (.ref ba11 : V), (.ref ba15 : V), (.ref ba18 : V), (.ref ba20 : V), (.ref ba23 : V), (.ref ba27 : V), (.ref ba31 : V)] ++ [(.ref ba36 : V)])) ba33 = some (.lst [(.non : V), (.ref ba1 : V), (.ref ba6 : V), (.ref ba8 : V), (.ref ba11 : V), (.ref ba15 : V), (.ref ba18 : V), (.ref ba20 : V), (.ref ba23 : V), (.ref ba27 : V), (.ref ba31 : V), (.ref ba36 : V)]) := upd_same
    have br37 := bs37 _ _ bo33.symm br36
    generalize upd bH36 ba33 (.lst ([(.non : V), (.ref ba1 : V), (.ref ba6 : V), (.ref ba8 : V), (.ref ba11 : V), (.ref ba15 : V), (.ref ba18 : V), (.ref ba20 : V), (.ref ba23 : V), (.ref ba27 : V), (.ref ba31 : V)] ++ [(.ref ba36 : V)])) = bH37 at bs37 bf br37 ⊢
    refine ⟨_, rfl, _, rfl, (by show 2 ≤ sizeLine; decide), fun ba38 bn38 => ?_⟩
    have bo38 : ba38 ≠ s := fun z => by rw [z, br37] at bn38; cases bn38
    have bs38 := Same.upd (o := .tup [.bl true, .int 9]) bn38
    have be38 : upd bH37 ba38 (.tup [.bl true, .int 9]) ba38 = some (.tup [.bl true, .int 9]) := upd_same
    have br38 := bs38 _ _ br37
    generalize upd bH37 ba38 (.tup [.bl true, .int 9]) = bH38 at bs38 be38 br38 ⊢
    refine ⟨(by show 1 ≤ sizeLine; decide), fun ba39 bn39 => ?_⟩
    have bo39 : ba39 ≠ s := fun z => by rw [z, br38] at bn39; cases bn39
    have bs39 := Same.upd (o := .lst [.ref ba38]) bn39
    have be39 : upd bH38 ba39 (.lst [.ref ba38]) ba39 = some (.lst [.ref ba38]) := upd_same
    have br39 := bs39 _ _ br38
    generalize upd bH38 ba39 (.lst [.ref ba38]) = bH39 at bs39 be39 br39 ⊢
    refine ⟨(by show 2 ≤ sizeLine; decide), fun ba40 bn40 => ?_⟩
    have bo40 : ba40 ≠ s := fun z => by rw [z, br39] at bn40; cases bn40
    have bs40 := Same.upd (o := .tup [.ref sp, .ref ba39]) bn40
    have be40 : upd bH39 ba40 (.tup [.ref sp, .ref ba39]) ba40 = some (.tup [.ref sp, .ref ba39]) := upd_same
    have br40 := bs40 _ _ br39
    generalize upd bH39 ba40 (.tup [.ref sp, .ref ba39]) = bH40 at bs40 be40 br40 ⊢
    refine ⟨_, rfl, 1, rfl, (by show 2 ≤ sizeLine; decide), fun ba41 bn41 => ?_⟩
    have bo41 : ba41 ≠ s := fun z => by rw [z, br40] at bn41; cases bn41
    have bs41 := Same.upd (o := .tup [.int (-1), .int 9]) bn41
    have be41 : upd bH40 ba41 (.tup [.int (-1), .int 9]) ba41 = some (.tup [.int (-1), .int 9]) := upd_same
    have br41 := bs41 _ _ br40
    generalize upd bH40 ba41 (.tup [.int (-1), .int 9]) = bH41 at bs41 be41 br41 ⊢
    refine ⟨(by show 1 ≤ sizeLine; decide), fun ba42 bn42 => ?_⟩
    have bo42 : ba42 ≠ s := fun z => by rw [z, br41] at bn42; cases bn42
    have bs42 := Same.upd (o := .lst [.ref ba41]) bn42
    have be42 : upd bH41 ba42 (.lst [.ref ba41]) ba42 = some (.lst [.ref ba41]) := upd_same
    have br42 := bs42 _ _ br41
    generalize upd bH41 ba42 (.lst [.ref ba41]) = bH42 at bs42 be42 br42 ⊢
    refine ⟨(by show 2 ≤ sizeLine; decide), fun ba43 bn43 => ?_⟩
    have bo43 : ba43 ≠ s := fun z => by rw [z, br42] at bn43; cases bn43
    have bs43 := Same.upd (o := .tup [.ref sp, .ref ba42]) bn43
    have be43 : upd bH42 ba43 (.tup [.ref sp, .ref ba42]) ba43 = some (.tup [.ref sp, .ref ba42]) := upd_same
    have br43 := bs43 _ _ br42
    generalize upd bH42 ba43 (.tup [.ref sp, .ref ba42]) = bH43 at bs43 be43 br43 ⊢
    refine ⟨_, rfl, (by show 2 ≤ sizeLine; decide), fun ba44 bn44 => ?_⟩
    have bo44 : ba44 ≠ s := fun z => by rw [z, br43] at bn44; cases bn44
    have bs44 := Same.upd (o := .lst [.int 3, .int 9]) bn44
    have be44 : upd bH43 ba44 (.lst [.int 3, .int 9]) ba44 = some (.lst [.int 3, .int 9]) := upd_same
    have br44 := bs44 _ _ br43
    generalize upd bH43 ba44 (.lst [.int 3, .int 9]) = bH44 at bs44 be44 br44 ⊢
    refine ⟨(by show 1 ≤ sizeLine; decide), fun ba45 bn45 => ?_⟩
    have bo45 : ba45 ≠ s := fun z => by rw [z, br44] at bn45; cases bn45
    have bs45 := Same.upd (o := .lst [.ref ba44]) bn45
    have be45 : upd bH44 ba45 (.lst [.ref ba44]) ba45 = some (.lst [.ref ba44]) := upd_same
    have br45 := bs45 _ _ br44
    generalize upd bH44 ba45 (.lst [.ref ba44]) = bH45 at bs45 be45 br45 ⊢
    refine ⟨(by show 2 ≤ sizeLine; decide), fun ba46 bn46 => ?_⟩
    have bo46 : ba46 ≠ s := fun z => by rw [z, br45] at bn46; cases bn46
    have bs46 := Same.upd (o := .tup [.ref sp, .ref ba45]) bn46
    have be46 : upd bH45 ba46 (.tup [.ref sp, .ref ba45]) ba46 = some (.tup [.ref sp, .ref ba45]) := upd_same
    have br46 := bs46 _ _ br45
    generalize upd bH45 ba46 (.tup [.ref sp, .ref ba45]) = bH46 at bs46 be46 br46 ⊢
    refine ⟨(by show 0 ≤ sizeLine; decide), fun ba47 bn47 => ?_⟩
    have bo47 : ba47 ≠ s := fun z => by rw [z, br46] at bn47; cases bn47
    have bs47 := Same.upd (o := .lst []) bn47
    have be47 : upd bH46 ba47 (.lst []) ba47 = some (.lst []) := upd_same
    have br47 := bs47 _ _ br46
    generalize upd bH46 ba47 (.lst []) = bH47 at bs47 be47 br47 ⊢
    refine ⟨(by show 2 ≤ sizeLine; decide), fun ba48 bn48 => ?_⟩
    have bo48 : ba48 ≠ s := fun z => by rw [z, br47] at bn48; cases bn48
    have bs48 := Same.upd (o := .tup [.int 3, .non]) bn48
    have be48 : upd bH47 ba48 (.tup [.int 3, .non]) ba48 = some (.tup [.int 3, .non]) := upd_same
    have br48 := bs48 _ _ br47
    generalize upd bH47 ba48 (.tup [.int 3, .non]) = bH48 at bs48 be48 br48 ⊢
    refine ⟨(by show 1 ≤ sizeLine; decide), fun ba49 bn49 => ?_⟩
    have bo49 : ba49 ≠ s := fun z => by rw [z, br48] at bn49; cases bn49
    have bs49 := Same.upd (o := .lst [.ref ba48]) bn49
    have be49 : upd bH48 ba49 (.lst [.ref ba48]) ba49 = some (.lst [.ref ba48]) := upd_same
    have br49 := bs49 _ _ br48
    generalize upd bH48 ba49 (.lst [.ref ba48]) = bH49 at bs49 be49 br49 ⊢
    refine ⟨(by show 2 ≤ sizeLine; decide), fun ba50 bn50 => ?_⟩
    have bo50 : ba50 ≠ s := fun z => by rw [z, br49] at bn50; cases bn50
    have bs50 := Same.upd (o := .tup [.ref ba47, .ref ba49]) bn50
    have be50 : upd bH49 ba50 (.tup [.ref ba47, .ref ba49]) ba50 = some (.tup [.ref ba47, .ref ba49]) := upd_same
    have br50 := bs50 _ _ br49
    generalize upd bH49 ba50 (.tup [.ref ba47, .ref ba49]) = bH50 at bs50 be50 br50 ⊢
    refine ⟨(by show 4 ≤ sizeLine; decide), fun ba51 bn51 => ?_⟩
    have bo51 : ba51 ≠ s := fun z => by rw [z, br50] at bn51; cases bn51
    have bs51 := Same.upd (o := .lst [(.ref ba40 : V), (.ref ba43 : V), (.ref ba46 : V), (.ref ba50 : V)]) bn51
    have be51 : upd bH50 ba51 (.lst [(.ref ba40 : V), (.ref ba43 : V), (.ref ba46 : V), (.ref ba50 : V)]) ba51 = some (.lst [(.ref ba40 : V), (.ref ba43 : V), (.ref ba46 : V), (.ref ba50 : V)]) := upd_same
    have br51 := bs51 _ _ br50
    generalize upd bH50 ba51 (.lst [(.ref ba40 : V), (.ref ba43 : V), (.ref ba46 : V), (.ref ba50 : V)]) = bH51 at bs51 be51 br51 ⊢
    refine ⟨ba33, ba51, _, _, rfl, rfl, (bs51 _ _ (bs50 _ _ (bs49 _ _ (bs48 _ _ (bs47 _ _ (bs46 _ _ (bs45 _ _ (bs44 _ _ (bs43 _ _ (bs42 _ _ (bs41 _ _ (bs40 _ _ (bs39 _ _ (bs38 _ _ bf)))))))))))))), be51, (by show 16 ≤ sizeLine; decide), fun ba52 bn52 => ?_⟩
    have bo52 : ba52 ≠ s := fun z => by rw [z, br51] at bn52; cases bn52
    have bs52 := Same.upd (o := .lst ([(.non : V), (.ref ba1 : V), (.ref ba6 : V), (.ref ba8 : V), (.ref ba11 : V), (.ref ba15 : V), (.ref ba18 : V), (.ref ba20 : V), (.ref ba23 : V), (.ref ba27 : V), (.ref ba31 : V), (.ref ba36 : V)] ++ [(.ref ba40 : V), (.ref ba43 : V), (.ref ba46 : V), (.ref ba50 : V)])) bn52
    have be52 : upd bH51 ba52 (.lst ([(.non : V), (.ref ba1 : V), (.ref ba6 : V), (.ref ba8 : V), (.ref ba11 : V), (.ref ba15 : V), (.ref ba18 : V), (.ref ba20 : V), (.ref ba23 : V), (.ref ba27 : V), (.ref ba31 : V), (.ref ba36 : V)] ++ [(.ref ba40 : V), (.ref ba43 : V), (.ref ba46 : V), (.ref ba50 : V)])) ba52 = some (.lst ([(.non : V), (.ref ba1 : V), (.ref ba6 : V), (.ref ba8 : V), (.ref ba11 : V), (.ref ba15 : V), (.ref ba18 : V), (.ref ba20 : V), (.ref ba23 : V), (.ref ba27 : V), (.ref ba31 : V), (.ref ba36 : V)] ++ [(.ref ba40 : V), (.ref ba43 : V), (.ref ba46 : V), (.ref ba50 : V)])) := upd_same
    have br52 := bs52 _ _ br51
    generalize upd bH51 ba52 (.lst ([(.non : V), (.ref ba1 : V), (.ref ba6 : V), (.ref ba8 : V), (.ref ba11 : V), (.ref ba15 : V), (.ref ba18 : V), (.ref ba20 : V), (.ref ba23 : V), (.ref ba27 : V), (.ref ba31 : V), (.ref ba36 : V)] ++ [(.ref ba40 : V), (.ref ba43 : V), (.ref ba46 : V), (.ref ba50 : V)])) = bH52 at bs52 be52 br52 ⊢
    have be52 : bH52 ba52 = some (.lst [(.non : V), (.ref ba1 : V), (.ref ba6 : V), (.ref ba8 : V), (.ref ba11 : V), (.ref ba15 : V), (.ref ba18 : V), (.ref ba20 : V), (.ref ba23 : V), (.ref ba27 : V), (.ref ba31 : V), (.ref ba36 : V), (.ref ba40 : V), (.ref ba43 : V), (.ref ba46 : V), (.ref ba50 : V)]) := be52
    have bZ52 := Same.refl bH52
    have bZ51 := bs52.trans bZ52
    have bZ50 := bs51.trans bZ51
    have bZ49 := bs50.trans bZ50
    have bZ48 := bs49.trans bZ49
    have bZ47 := bs48.trans bZ48
    have bZ46 := bs47.trans bZ47
    have bZ45 := bs46.trans bZ46
    have bZ44 := bs45.trans bZ45
    have bZ43 := bs44.trans bZ44
    have bZ42 := bs43.trans bZ43
    have bZ41 := bs42.trans bZ42
    have bZ40 := bs41.trans bZ41
    have bZ39 := bs40.trans bZ40
    have bZ38 := bs39.trans bZ39
    have bZ37 := bs38.trans bZ38
    have bP36 := Same.refl bH36
    have bP35 := bs36.trans bP36
    have bP34 := bs35.trans bP35
    have bP33 := bs34.trans bP34
    have bP32 := bs33.trans bP33
    have bP31 := bs32.trans bP32
    have bP30 := bs31.trans bP31
    have bP29 := bs30.trans bP30
    have bP28 := bs29.trans bP29
    have bP27 := bs28.trans bP28
    have bP26 := bs27.trans bP27
    have bP25 := bs26.trans bP26
    have bP24 := bs25.trans bP25
    have bP23 := bs24.trans bP24
    have bP22 := bs23.trans bP23
    have bP21 := bs22.trans bP22
    have bP20 := bs21.trans bP21
    have bP19 := bs20.trans bP20
    have bP18 := bs19.trans bP19
    have bP17 := bs18.trans bP18
    have bP16 := bs17.trans bP17
    have bP15 := bs16.trans bP16
    have bP14 := bs15.trans bP15
    have bP13 := bs14.trans bP14
    have bP12 := bs13.trans bP13
    have bP11 := bs12.trans bP12
    have bP10 := bs11.trans bP11
    have bP9 := bs10.trans bP10
    have bP8 := bs9.trans bP9
    have bP7 := bs8.trans bP8
    have bP6 := bs7.trans bP7
    have bP5 := bs6.trans bP6
    have bP4 := bs5.trans bP5
    have bP3 := bs4.trans bP4
    have bP2 := bs3.trans bP3
    have bP1 := bs2.trans bP2
    have bP0 := bs1.trans bP1
    have bQ32 := Same.refl bH32
    have bQ31 := bs32.trans bQ32
    have bQ30 := bs31.trans bQ31
    have bQ29 := bs30.trans bQ30
    have bQ28 := bs29.trans bQ29
    have bQ27 := bs28.trans bQ28
    have bQ26 := bs27.trans bQ27
    have bQ25 := bs26.trans bQ26
    have bQ24 := bs25.trans bQ25
    have bQ23 := bs24.trans bQ24
    have bQ22 := bs23.trans bQ23
    have bQ21 := bs22.trans bQ22
    have bQ20 := bs21.trans bQ21
    have bQ19 := bs20.trans bQ20
    have bQ18 := bs19.trans bQ19
    have bQ17 := bs18.trans bQ18
    have bQ16 := bs17.trans bQ17
    have bQ15 := bs16.trans bQ16
    have bQ14 := bs15.trans bQ15
    have bQ13 := bs14.trans bQ14
    have bQ12 := bs13.trans bQ13
    have bQ11 := bs12.trans bQ12
    have bQ10 := bs11.trans bQ11
    have bQ9 := bs10.trans bQ10
    have bQ8 := bs9.trans bQ9
    have bQ7 := bs8.trans bQ8
    have bQ6 := bs7.trans bQ7
    have bQ5 := bs6.trans bQ6
    have bQ4 := bs5.trans bQ5
    have bQ3 := bs4.trans bQ4
    have bQ2 := bs3.trans bQ3
    have bQ1 := bs2.trans bQ2
    have bQ0 := bs1.trans bQ1
    have bR33 := Same.refl bH33
    have bR34 := bR33.trans bs34
    have bR35 := bR34.trans bs35
    have bR36 := bR35.trans bs36
    have bS0 : Same HE bH52 := fun c o h => bZ37 _ _ (bs37 _ _ (ne_of_none (bQ0 _ _ h) bn33) (bP0 _ _ h))
    have bE1 := Dl.at (s := s) (bZ37 _ _ (bs37 _ _ (ne_of_none (bQ1 _ _ be1) bn33) (bP1 _ _ be1))) bo1
    have bE2 := Dl.at (s := s) (bZ37 _ _ (bs37 _ _ (ne_of_none (bQ2 _ _ be2) bn33) (bP2 _ _ be2))) bo2
    have bE3 := Dl.at (s := s) (bZ37 _ _ (bs37 _ _ (ne_of_none (bQ3 _ _ be3) bn33) (bP3 _ _ be3))) bo3
    have bE4 := Dl.at (s := s) (bZ37 _ _ (bs37 _ _ (ne_of_none (bQ4 _ _ be4) bn33) (bP4 _ _ be4))) bo4
    have bE5 := Dl.at (s := s) (bZ37 _ _ (bs37 _ _ (ne_of_none (bQ5 _ _ be5) bn33) (bP5 _ _ be5))) bo5
    have bE6 := Dl.at (s := s) (bZ37 _ _ (bs37 _ _ (ne_of_none (bQ6 _ _ be6) bn33) (bP6 _ _ be6))) bo6
    have bE7 := Dl.at (s := s) (bZ37 _ _ (bs37 _ _ (ne_of_none (bQ7 _ _ be7) bn33) (bP7 _ _ be7))) bo7
    have bE8 := Dl.at (s := s) (bZ37 _ _ (bs37 _ _ (ne_of_none (bQ8 _ _ be8) bn33) (bP8 _ _ be8))) bo8
    have bE9 := Dl.at (s := s) (bZ37 _ _ (bs37 _ _ (ne_of_none (bQ9 _ _ be9) bn33) (bP9 _ _ be9))) bo9
    have bE10 := Dl.at (s := s) (bZ37 _ _ (bs37 _ _ (ne_of_none (bQ10 _ _ be10) bn33) (bP10 _ _ be10))) bo10
    have bE11 := Dl.at (s := s) (bZ37 _ _ (bs37 _ _ (ne_of_none (bQ11 _ _ be11) bn33) (bP11 _ _ be11))) bo11
    have bE12 := Dl.at (s := s) (bZ37 _ _ (bs37 _ _ (ne_of_none (bQ12 _ _ be12) bn33) (bP12 _ _ be12))) bo12
    have bE13 := Dl.at (s := s) (bZ37 _ _ (bs37 _ _ (ne_of_none (bQ13 _ _ be13) bn33) (bP13 _ _ be13))) bo13
    have bE14 := Dl.at (s := s) (bZ37 _ _ (bs37 _ _ (ne_of_none (bQ14 _ _ be14) bn33) (bP14 _ _ be14))) bo14
    have bE15 := Dl.at (s := s) (bZ37 _ _ (bs37 _ _ (ne_of_none (bQ15 _ _ be15) bn33) (bP15 _ _ be15))) bo15
    have bE16 := Dl.at (s := s) (bZ37 _ _ (bs37 _ _ (ne_of_none (bQ16 _ _ be16) bn33) (bP16 _ _ be16))) bo16
    have bE17 := Dl.at (s := s) (bZ37 _ _ (bs37 _ _ (ne_of_none (bQ17 _ _ be17) bn33) (bP17 _ _ be17))) bo17
    have bE18 := Dl.at (s := s) (bZ37 _ _ (bs37 _ _ (ne_of_none (bQ18 _ _ be18) bn33) (bP18 _ _ be18))) bo18
    have bE19 := Dl.at (s := s) (bZ37 _ _ (bs37 _ _ (ne_of_none (bQ19 _ _ be19) bn33) (bP19 _ _ be19))) bo19
    have bE20 := Dl.at (s := s) (bZ37 _ _ (bs37 _ _ (ne_of_none (bQ20 _ _ be20) bn33) (bP20 _ _ be20))) bo20
    have bE21 := Dl.at (s := s) (bZ37 _ _ (bs37 _ _ (ne_of_none (bQ21 _ _ be21) bn33) (bP21 _ _ be21))) bo21
    have bE22 := Dl.at (s := s) (bZ37 _ _ (bs37 _ _ (ne_of_none (bQ22 _ _ be22) bn33) (bP22 _ _ be22))) bo22
    have bE23 := Dl.at (s := s) (bZ37 _ _ (bs37 _ _ (ne_of_none (bQ23 _ _ be23) bn33) (bP23 _ _ be23))) bo23
    have bE24 := Dl.at (s := s) (bZ37 _ _ (bs37 _ _ (ne_of_none (bQ24 _ _ be24) bn33) (bP24 _ _ be24))) bo24
    have bE25 := Dl.at (s := s) (bZ37 _ _ (bs37 _ _ (ne_of_none (bQ25 _ _ be25) bn33) (bP25 _ _ be25))) bo25
    have bE26 := Dl.at (s := s) (bZ37 _ _ (bs37 _ _ (ne_of_none (bQ26 _ _ be26) bn33) (bP26 _ _ be26))) bo26
    have bE27 := Dl.at (s := s) (bZ37 _ _ (bs37 _ _ (ne_of_none (bQ27 _ _ be27) bn33) (bP27 _ _ be27))) bo27
    have bE28 := Dl.at (s := s) (bZ37 _ _ (bs37 _ _ (ne_of_none (bQ28 _ _ be28) bn33) (bP28 _ _ be28))) bo28
    have bE29 := Dl.at (s := s) (bZ37 _ _ (bs37 _ _ (ne_of_none (bQ29 _ _ be29) bn33) (bP29 _ _ be29))) bo29
    have bE30 := Dl.at (s := s) (bZ37 _ _ (bs37 _ _ (ne_of_none (bQ30 _ _ be30) bn33) (bP30 _ _ be30))) bo30
    have bE31 := Dl.at (s := s) (bZ37 _ _ (bs37 _ _ (ne_of_none (bQ31 _ _ be31) bn33) (bP31 _ _ be31))) bo31
    have bE32 := Dl.at (s := s) (bZ37 _ _ (bs37 _ _ (ne_of_none (bQ32 _ _ be32) bn33) (bP32 _ _ be32))) bo32
    have bE33 := Dl.at (s := s) (bZ37 _ _ bf) bo33
    have bE34 := Dl.at (s := s) (bZ37 _ _ (bs37 _ _ (ne_of_none (bR33 _ _ be33) bn34).symm (bP34 _ _ be34))) bo34
    have bE35 := Dl.at (s := s) (bZ37 _ _ (bs37 _ _ (ne_of_none (bR34 _ _ be33) bn35).symm (bP35 _ _ be35))) bo35
    have bE36 := Dl.at (s := s) (bZ37 _ _ (bs37 _ _ (ne_of_none (bR35 _ _ be33) bn36).symm (bP36 _ _ be36))) bo36
    have bE38 := Dl.at (s := s) (bZ38 _ _ be38) bo38
    have bE39 := Dl.at (s := s) (bZ39 _ _ be39) bo39
    have bE40 := Dl.at (s := s) (bZ40 _ _ be40) bo40
    have bE41 := Dl.at (s := s) (bZ41 _ _ be41) bo41
    have bE42 := Dl.at (s := s) (bZ42 _ _ be42) bo42
    have bE43 := Dl.at (s := s) (bZ43 _ _ be43) bo43
    have bE44 := Dl.at (s := s) (bZ44 _ _ be44) bo44
    have bE45 := Dl.at (s := s) (bZ45 _ _ be45) bo45
    have bE46 := Dl.at (s := s) (bZ46 _ _ be46) bo46
    have bE47 := Dl.at (s := s) (bZ47 _ _ be47) bo47
    have bE48 := Dl.at (s := s) (bZ48 _ _ be48) bo48
    have bE49 := Dl.at (s := s) (bZ49 _ _ be49) bo49
    have bE50 := Dl.at (s := s) (bZ50 _ _ be50) bo50
    have bE51 := Dl.at (s := s) (bZ51 _ _ be51) bo51
    have bE52 := Dl.at (s := s) (bZ52 _ _ be52) bo52
    have src := src.same bS0
    have exA : LamX.ExtN (Dl s _) (Dl s bH52) := Dl.ext (LamX.ExtN.of bS0)
    have bas := bas.ext exA
    have nob := nob.ext exA
    have tabs := Tabs.nl tabs (NL.of bS0)
    have k : ∀ H', Src H' s (n + 5505) → LamX.ExtN (Dl s bH52) (Dl s H') → LamX.Tabs (LT L) H' → Q (.bl true) H' := fun H' x e t => k H' x (exA.trans e) t
    clear exA
    have hbl := bE52
    have g3 : ∀ x ∈ [(.non : V), (.ref ba1 : V), (.ref ba6 : V), (.ref ba8 : V), (.ref ba11 : V), (.ref ba15 : V), (.ref ba18 : V), (.ref ba20 : V), (.ref ba23 : V), (.ref ba27 : V), (.ref ba31 : V), (.ref ba36 : V), (.ref ba40 : V), (.ref ba43 : V), (.ref ba46 : V), (.ref ba50 : V)], NoSvc (Dl s bH52) x := fun x hx => by
      simp only [List.mem_cons, List.mem_nil_iff, or_false] at hx
      rcases hx with rfl | rfl | rfl | rfl | rfl | rfl | rfl | rfl | rfl | rfl | rfl | rfl | rfl | rfl | rfl | rfl
      · exact .kind .non (by decide)
      · exact .len bE1 (by show 1 ≠ 2; decide)
      · exact .len bE6 (by show 3 ≠ 2; decide)
      · exact .kind (.lst bE8) (by decide)
      · exact .brs bE11 (.kind (.tup bE9) (by decide))
      · exact .brs bE15 (.item (pre := [x1, x2]) (post := []) bE13 bas.br okT59 (by show 3 ≤ 12; decide) nob)
      · exact .brs bE18 (.many bE16 (by show 12 < 14; decide))
      · exact .outs bE20 bas.sp_ bas.br okT59 (by decide) (.kind .non (by decide))
      · exact .outs bE23 bas.sp_ bas.br okT59 (by decide) (.first bE22 (Nat.le_of_ble_eq_true rfl) (.num bE21 (.int _) (.int _) (by decide)))
      · exact .outs bE27 bas.sp_ bas.br okT59 (by decide) (.touch (p := (3, 9)) (o := (9, 12)) bE26 (Nat.le_of_ble_eq_true rfl) ⟨_, rfl, bE24⟩ ⟨by decide, by decide, by decide⟩ ⟨_, rfl, bE25⟩ ⟨by decide, by decide, by decide⟩ (by decide))
      · exact .outs bE31 bas.sp_ bas.br okT59 (by decide) (.touch (p := (5, 6)) (o := (1, 2)) bE30 (Nat.le_of_ble_eq_true rfl) ⟨_, rfl, bE28⟩ ⟨by decide, by decide, by decide⟩ ⟨_, rfl, bE29⟩ ⟨by decide, by decide, by decide⟩ (by decide))
      · exact .outs bE36 bas.sp_ bas.br okT59 (by decide) (.kind (.tup bE35) (by decide))
      · exact .outs bE40 bas.sp_ bas.br okT59 (by decide) (.first bE39 (Nat.le_of_ble_eq_true rfl) (.num bE38 (.bl _) (.int _) (by decide)))
      · exact .outs bE43 bas.sp_ bas.br okT59 (by decide) (.first bE42 (Nat.le_of_ble_eq_true rfl) (.num bE41 (.int _) (.int _) (by decide)))
      · exact .outs bE46 bas.sp_ bas.br okT59 (by decide) (.first bE45 (Nat.le_of_ble_eq_true rfl) (.kind (.lst bE44) (by decide)))
      · exact .outs bE50 bE47 .nil (fun t h => nomatch h) (by decide) (.first bE49 (Nat.le_of_ble_eq_true rfl) (.num bE48 (.int _) .non (by decide)))
    have lg3 : [(.non : V), (.ref ba1 : V), (.ref ba6 : V), (.ref ba8 : V), (.ref ba11 : V), (.ref ba15 : V), (.ref ba18 : V), (.ref ba20 : V), (.ref ba23 : V), (.ref ba27 : V), (.ref ba31 : V), (.ref ba36 : V), (.ref ba40 : V), (.ref ba43 : V), (.ref ba46 : V), (.ref ba50 : V)].length = 16 := rfl
    generalize [(.non : V), (.ref ba1 : V), (.ref ba6 : V), (.ref ba8 : V), (.ref ba11 : V), (.ref ba15 : V), (.ref ba18 : V), (.ref ba20 : V), (.ref ba23 : V), (.ref ba27 : V), (.ref ba31 : V), (.ref ba36 : V), (.ref ba40 : V), (.ref ba43 : V), (.ref ba46 : V), (.ref ba50 : V)] = Lg3 at hbl g3 lg3
    obtain ⟨ys0, hs⟩ := src.has
    have bl_ne := bo52
    refine ⟨_, rfl, s, 4, n + 2202, rfl, by decide, by decide, src, by omega, fun pl Hpl pl0 pl1 src kA => ?_⟩
    have hbl := ExtN.lst (Dl.kp kA) hbl
    have g3 := fun x hx => (g3 x hx).ext (Dl.kp kA)
    have exA : LamX.ExtN (Dl s _) (Dl s Hpl) := Dl.kp kA
    have bas := bas.ext exA
    have nob := nob.ext exA
    have tabs := Tabs.nl tabs (Kp.nl kA hs)
    have k : ∀ H', Src H' s (n + 5505) → LamX.ExtN (Dl s Hpl) (Dl s H') → LamX.Tabs (LT L) H' → Q (.bl true) H' := fun H' x e t => k H' x (exA.trans e) t
    clear exA
    obtain ⟨pl, rfl⟩ : ∃ m : Nat, pl = (m : Int) := ⟨pl.toNat, by omega⟩
    clear kA hs
    skip
    have cA : (cutV [z1, z2, z3] none (some (pl : Int))).length ≤ 3 := cutV_length [z1, z2, z3] none (some (pl : Int))
    have cC : (cutV [z1, z2, z3] (some (pl : Int)) none).length ≤ 3 := cutV_length [z1, z2, z3] (some (pl : Int)) none
    obtain ⟨ys1, hs⟩ := src.has
    refine ⟨_, rfl, _, rfl, _, rfl, sv, _, rfl, SqL.of bas.up.sv_, fun p1 m1 => ?_⟩
    have t1 := Same.upd (o := .lst (cutV [z1, z2, z3] none (some (pl : Int)))) m1
    have f1 : upd Hpl p1 (.lst (cutV [z1, z2, z3] none (some (pl : Int)))) p1 = some (.lst (cutV [z1, z2, z3] none (some (pl : Int)))) := upd_same
    generalize upd Hpl p1 (.lst (cutV [z1, z2, z3] none (some (pl : Int)))) = V1 at t1 f1 ⊢
    have q1 : p1 ≠ s := fun z => by rw [z, hs] at m1; cases m1
    have src := src.same t1
    have tabs := Tabs.nl tabs (NL.of t1)
    refine ⟨_, rfl, _, rfl, s, ba52, _, n + 3303, rfl, bl_ne.symm, t1 _ _ (ExtN.lst (Dl.sub s _) hbl), by rw [lg3]; decide, by rw [lg3]; decide, src, by omega, fun spo V2 hspo src kA => ?_⟩
    have nos := (g3 spo hspo).ext ((Dl.ext (LamX.ExtN.of t1)).trans (Dl.kp kA))
    have f1 := kA _ _ q1 f1
    have bas := bas.ext ((Dl.ext (LamX.ExtN.of t1)).trans (Dl.kp kA))
    have tabs := Tabs.nl tabs (Kp.nl kA (t1 _ _ hs))
    have exQ : LamX.ExtN (Dl s Hpl) (Dl s V2) := (Dl.ext (LamX.ExtN.of t1)).trans (Dl.kp kA)
    obtain ⟨ys2, hs⟩ := src.has
    refine ⟨(by show 1 ≤ sizeLine; decide), fun p2 m2 => ?_⟩
    have t2 := Same.upd (o := .lst [spo]) m2
    have f2 : upd V2 p2 (.lst [spo]) p2 = some (.lst [spo]) := upd_same
    generalize upd V2 p2 (.lst [spo]) = V3 at t2 f2 ⊢
    refine ⟨p1, p2, _, _, rfl, rfl, t2 _ _ f1, f2, small2 (by show _ + 1 ≤ 100000; omega), fun p3 m3 => ?_⟩
    have t3 := Same.upd (o := .lst (cutV [z1, z2, z3] none (some (pl : Int)) ++ [spo])) m3
    have f3 : upd V3 p3 (.lst (cutV [z1, z2, z3] none (some (pl : Int)) ++ [spo])) p3 = some (.lst (cutV [z1, z2, z3] none (some (pl : Int)) ++ [spo])) := upd_same
    generalize upd V3 p3 (.lst (cutV [z1, z2, z3] none (some (pl : Int)) ++ [spo])) = V4 at t3 f3 ⊢
    refine ⟨_, rfl, _, rfl, _, rfl, sv, _, rfl, SqL.of (t3 _ _ (t2 _ _ bas.up.sv_)), fun p4 m4 => ?_⟩
    have t4 := Same.upd (o := .lst (cutV [z1, z2, z3] (some (pl : Int)) none)) m4
    have f4 : upd V4 p4 (.lst (cutV [z1, z2, z3] (some (pl : Int)) none)) p4 = some (.lst (cutV [z1, z2, z3] (some (pl : Int)) none)) := upd_same
    generalize upd V4 p4 (.lst (cutV [z1, z2, z3] (some (pl : Int)) none)) = V5 at t4 f4 ⊢
    refine ⟨p3, p4, _, _, rfl, rfl, t4 _ _ f3, f4, small2 (by rw [List.length_append]; show _ + 1 + _ ≤ 100000; omega), fun p5 m5 => ?_⟩
    have t5 := Same.upd (o := .lst (cutV [z1, z2, z3] none (some (pl : Int)) ++ [spo] ++ cutV [z1, z2, z3] (some (pl : Int)) none)) m5
    have f5 : upd V5 p5 (.lst (cutV [z1, z2, z3] none (some (pl : Int)) ++ [spo] ++ cutV [z1, z2, z3] (some (pl : Int)) none)) p5 = some (.lst (cutV [z1, z2, z3] none (some (pl : Int)) ++ [spo] ++ cutV [z1, z2, z3] (some (pl : Int)) none)) := upd_same
    generalize upd V5 p5 (.lst (cutV [z1, z2, z3] none (some (pl : Int)) ++ [spo] ++ cutV [z1, z2, z3] (some (pl : Int)) none)) = V6 at t5 f5 ⊢
    have tt := ((t2.trans t3).trans t4).trans t5
    have q5 : p5 ≠ s := fun z => by rw [z, t4 _ _ (t3 _ _ (t2 _ _ hs))] at m5; cases m5
    have exR : LamX.ExtN (Dl s V2) (Dl s V6) := Dl.ext (LamX.ExtN.of tt)
    have bas := bas.ext exR
    have f5 := Dl.at (s := s) f5 q5
    have bsv := svc_put f5 bas.sl (by omega) (nos.ext exR)
    have src := src.same tt
    have tabs := Tabs.nl tabs (NL.of tt)
    have k : ∀ H', Src H' s (n + 5505) → LamX.ExtN (Dl s V6) (Dl s H') → LamX.Tabs (LT L) H' → Q (.bl true) H' := fun H' x e t => k H' x ((exQ.trans exR).trans e) t
    have nob := nob.ext (exQ.trans exR)
    clear exQ exR q5 q1 t1 t2 t3 t4 t5 f1 f2 f3 f4 kA g3 lg3 hbl nos cA cC hs
    refine ⟨tabs, fun Hw exW txW E N H1 s1 hE hN => ?_⟩
    have ex1 := exW.trans (LamX.ExtN.of s1)
    have bas1 := bas.up.ext ex1
    have bsv := (bsv.ext (Dl.sub s _)).ext ex1
    refine ⟨_, rfl, _, rfl, mk_bad hE (nm := "services") (i := (pl : Int)) (.svc rfl bas1.sp_ bas1.br okT59 (by decide) bsv) fun q Hu hq su => ?_⟩
    refine ⟨_, rfl, ?_⟩
    refine ⟨(by show 2 ≤ sizeLine; decide), fun q6 m6 => ?_⟩
    have S6 := Same.upd (o := .tup [.str "services", .int (pl : Int)]) m6
    refine ⟨partD "services" (pl : Int), partD "services" (pl : Int), dpPart (S6 _ _ hq), dpPart upd_same, shPart _ ok_services, shPart _ ok_services, ?_⟩
    rw [eqPart _ ok_services]
    have SS := s1.trans (su.trans S6)
    have exZ := exW.trans (LamX.ExtN.of SS)
    have tabs := Tabs.nl txW (NL.of SS)
    generalize upd Hu q6 (.tup [.str "services", .int (pl : Int)]) = HZ at exZ tabs ⊢
    clear SS S6 hE hN
    refine ⟨_, rfl, iteF ?_⟩
    have src := src.ext exZ
    have exA : LamX.ExtN (Dl s _) (Dl s HZ) := Dl.ext exZ
    have bas := bas.ext exA
    have nob := nob.ext exA
    have k : ∀ H', Src H' s (n + 5505) → LamX.ExtN (Dl s HZ) (Dl s H') → LamX.Tabs (LT L) H' → Q (.bl true) H' := fun H' x e t => k H' x (exA.trans e) t
    clear exA
    clear exZ exW txW ex1 bas1 bsv tt f5
    obtain ⟨spl, hspl⟩ : ∃ z, z = p5 := ⟨_, rfl⟩
    rw [← hspl]
    clear hspl
    obtain ⟨yc, hsc⟩ := src.has
    refine ⟨(by show 0 ≤ sizeLine; decide), fun ca1 cn1 => ?_⟩
    have co1 : ca1 ≠ s := fun z => by rw [z, hsc] at cn1; cases cn1
    have cs1 := Same.upd (o := .lst []) cn1
    have ce1 : upd HZ ca1 (.lst []) ca1 = some (.lst []) := upd_same
    have cr1 := cs1 _ _ hsc
    generalize upd HZ ca1 (.lst []) = cH1 at cs1 ce1 cr1 ⊢
    refine ⟨_, rfl, sv, _, rfl, .inl ⟨SqL.of (cs1 _ _ bas.up.sv_), fun ca2 cn2 => ?_⟩⟩
    have co2 : ca2 ≠ s := fun z => by rw [z, cr1] at cn2; cases cn2
    have cs2 := Same.upd (o := .tup [z1, z2, z3]) cn2
    have ce2 : upd cH1 ca2 (.tup [z1, z2, z3]) ca2 = some (.tup [z1, z2, z3]) := upd_same
    have cr2 := cs2 _ _ cr1
    generalize upd cH1 ca2 (.tup [z1, z2, z3]) = cH2 at cs2 ce2 cr2 ⊢
    refine fun ca3 cn3 => ?_
    have co3 : ca3 ≠ s := fun z => by rw [z, cr2] at cn3; cases cn3
    have cs3 := Same.upd (o := .dK []) cn3
    have ce3 : upd cH2 ca3 (.dK []) ca3 = some (.dK []) := upd_same
    have cr3 := cs3 _ _ cr2
    generalize upd cH2 ca3 (.dK []) = cH3 at cs3 ce3 cr3 ⊢
    refine ⟨_, rfl, sv, 4, _, rfl, rfl, (cs3 _ _ (cs2 _ _ (cs1 _ _ bas.up.sv_))), by decide, by decide, (by show 3 * 4 ≤ sizeLine; decide), fun ca4 cn4 => ?_⟩
    have co4 : ca4 ≠ s := fun z => by rw [z, cr3] at cn4; cases cn4
    have cs4 := Same.upd (o := .lst (List.replicate (4 : Int).toNat [z1, z2, z3]).flatten) cn4
    have ce4 : upd cH3 ca4 (.lst (List.replicate (4 : Int).toNat [z1, z2, z3]).flatten) ca4 = some (.lst (List.replicate (4 : Int).toNat [z1, z2, z3]).flatten) := upd_same
    have cr4 := cs4 _ _ cr3
    generalize upd cH3 ca4 (.lst (List.replicate (4 : Int).toNat [z1, z2, z3]).flatten) = cH4 at cs4 ce4 cr4 ⊢
    have ce4 : cH4 ca4 = some (.lst [z1, z2, z3, z1, z2, z3, z1, z2, z3, z1, z2, z3]) := ce4
    refine ⟨(by show 5 ≤ sizeLine; decide), fun ca5 cn5 => ?_⟩
    have co5 : ca5 ≠ s := fun z => by rw [z, cr4] at cn5; cases cn5
    have cs5 := Same.upd (o := .lst [(.non : V), (.ref ca1 : V), (.ref ca2 : V), (.ref ca3 : V), (.ref ca4 : V)]) cn5
    have ce5 : upd cH4 ca5 (.lst [(.non : V), (.ref ca1 : V), (.ref ca2 : V), (.ref ca3 : V), (.ref ca4 : V)]) ca5 = some (.lst [(.non : V), (.ref ca1 : V), (.ref ca2 : V), (.ref ca3 : V), (.ref ca4 : V)]) := upd_same
    have cr5 := cs5 _ _ cr4
    generalize upd cH4 ca5 (.lst [(.non : V), (.ref ca1 : V), (.ref ca2 : V), (.ref ca3 : V), (.ref ca4 : V)]) = cH5 at cs5 ce5 cr5 ⊢
    have cS5 := Same.refl cH5
    have cS4 := cs5.trans cS5
    have cS3 := cs4.trans cS4
    have cS2 := cs3.trans cS3
    have cS1 := cs2.trans cS2
    have cS0 := cs1.trans cS1
    have cE1 := Dl.at (s := s) (cS1 _ _ ce1) co1
    have cE2 := Dl.at (s := s) (cS2 _ _ ce2) co2
    have cE3 := Dl.at (s := s) (cS3 _ _ ce3) co3
    have cE4 := Dl.at (s := s) (cS4 _ _ ce4) co4
    have cE5 := Dl.at (s := s) (cS5 _ _ ce5) co5
    have src := src.same cS0
    have exA : LamX.ExtN (Dl s _) (Dl s cH5) := Dl.ext (LamX.ExtN.of cS0)
    have bas := bas.ext exA
    have nob := nob.ext exA
    have tabs := Tabs.nl tabs (NL.of cS0)
    have k : ∀ H', Src H' s (n + 5505) → LamX.ExtN (Dl s cH5) (Dl s H') → LamX.Tabs (LT L) H' → Q (.bl true) H' := fun H' x e t => k H' x (exA.trans e) t
    clear exA
    have hbl := ce5
    have g4 : ∀ x ∈ [(.non : V), (.ref ca1 : V), (.ref ca2 : V), (.ref ca3 : V), (.ref ca4 : V)], SvcBad (Dl s cH5) x (-1) := fun x hx => by
      simp only [List.mem_cons, List.mem_nil_iff, or_false] at hx
      rcases hx with rfl | rfl | rfl | rfl | rfl
      · exact .kind .non (by decide)
      · exact .size cE1 (.inl rfl)
      · exact .kind (.tup cE2) (by decide)
      · exact .kind (.dK cE3) (by decide)
      · exact .size cE4 (.inr (by show 10 < 12; decide))
    have lg4 : [(.non : V), (.ref ca1 : V), (.ref ca2 : V), (.ref ca3 : V), (.ref ca4 : V)].length = 5 := rfl
    generalize [(.non : V), (.ref ca1 : V), (.ref ca2 : V), (.ref ca3 : V), (.ref ca4 : V)] = Lg4 at hbl g4 lg4
    refine ⟨ca5, rfl, ⟨_, SqL.of hbl⟩, for_list (K := K) (a := ca5) (xs := Lg4) (fun i σ Hx => ∃ vv : Option V, σ = [some (.ref s), some (.ref ba52), some (.int (pl : Int)), some (.int (j : Int)), none, vv, some odd, some (.ref sv), some (.ref sp), some (.ref spl), none] ∧ LamX.ExtN cH5 Hx ∧ LamX.Tabs (LT L) Hx) ⟨_, rfl, LamX.ExtN.refl _, tabs⟩ (fun i σ Hx _ ⟨_, _, ex, _⟩ => SqL.of (ExtN.lst ex hbl)) ?_ ?_⟩
    · rintro i x σ Hx hxi ⟨vv, rfl, ex, tabs⟩
      have bad := ((g4 x (List.mem_of_getElem? hxi)).ext (Dl.sub s _)).ext ex
      have bas := bas.ext (Dl.ext ex)
      refine ⟨tabs, fun Hw exW txW E N H1 s1 hE hN => ?_⟩
      have ex1 := exW.trans (LamX.ExtN.of s1)
      have bas1 := bas.up.ext ex1
      have bad := bad.ext ex1
      refine ⟨_, rfl, _, rfl, mk_bad hE (nm := "services") (i := -1) (.svc rfl bas1.sp_ bas1.br okT59 (by decide) bad) fun q Hu hq su => ?_⟩
      refine ⟨1, rfl, ?_⟩
      refine ⟨(by show 2 ≤ sizeLine; decide), fun q6 m6 => ?_⟩
      have S6 := Same.upd (o := .tup [.str "services", .int (-1)]) m6
      refine ⟨partD "services" (-1), partD "services" (-1), dpPart (S6 _ _ hq), dpPart upd_same, shPart _ ok_services, shPart _ ok_services, ?_⟩
      rw [eqPart _ ok_services]
      have SS := s1.trans (su.trans S6)
      have exZ := exW.trans (LamX.ExtN.of SS)
      have tabs := Tabs.nl txW (NL.of SS)
      generalize upd Hu q6 (.tup [.str "services", .int (-1)]) = HZ at exZ tabs ⊢
      clear SS S6 hE hN
      refine ⟨_, rfl, iteF ?_⟩
      exact ⟨_, rfl, ex.trans exZ, tabs⟩
    rintro σ HE ⟨vv, rfl, exE, tabs⟩
    obtain ⟨vv_g4, hvv⟩ : ∃ u, u = vv := ⟨_, rfl⟩
    rw [← hvv]
    clear hvv
    have src := src.ext exE
    have exA : LamX.ExtN (Dl s _) (Dl s HE) := Dl.ext exE
    have bas := bas.ext exA
    have nob := nob.ext exA
    have k : ∀ H', Src H' s (n + 5505) → LamX.ExtN (Dl s HE) (Dl s H') → LamX.Tabs (LT L) H' → Q (.bl true) H' := fun H' x e t => k H' x (exA.trans e) t
    clear exA
    clear g4
    clear exE
    clear hbl lg4
    obtain ⟨yd, hsd⟩ := src.has
    refine ⟨_, rfl, 1, rfl, (by show 1 ≤ sizeLine; decide), fun da1 dn1 => ?_⟩
    have do1 : da1 ≠ s := fun z => by rw [z, hsd] at dn1; cases dn1
    have ds1 := Same.upd (o := .lst [.int 0]) dn1
    have de1 : upd HE da1 (.lst [.int 0]) da1 = some (.lst [.int 0]) := upd_same
    have dr1 := ds1 _ _ hsd
    generalize upd HE da1 (.lst [.int 0]) = dH1 at ds1 de1 dr1 ⊢
    refine fun da2 dn2 => ?_
    have do2 : da2 ≠ s := fun z => by rw [z, dr1] at dn2; cases dn2
    have ds2 := Same.upd (o := .dK []) dn2
    have de2 : upd dH1 da2 (.dK []) da2 = some (.dK []) := upd_same
    have dr2 := ds2 _ _ dr1
    generalize upd dH1 da2 (.dK []) = dH2 at ds2 de2 dr2 ⊢
    refine ⟨(by show 7 ≤ sizeLine; decide), fun da3 dn3 => ?_⟩
    have do3 : da3 ≠ s := fun z => by rw [z, dr2] at dn3; cases dn3
    have ds3 := Same.upd (o := .lst [(.int 3 : V), (.int (-1) : V), (.bl true : V), (.non : V), (.str "0" : V), (.ref da1 : V), (.ref da2 : V)]) dn3
    have de3 : upd dH2 da3 (.lst [(.int 3 : V), (.int (-1) : V), (.bl true : V), (.non : V), (.str "0" : V), (.ref da1 : V), (.ref da2 : V)]) da3 = some (.lst [(.int 3 : V), (.int (-1) : V), (.bl true : V), (.non : V), (.str "0" : V), (.ref da1 : V), (.ref da2 : V)]) := upd_same
    have dr3 := ds3 _ _ dr2
    generalize upd dH2 da3 (.lst [(.int 3 : V), (.int (-1) : V), (.bl true : V), (.non : V), (.str "0" : V), (.ref da1 : V), (.ref da2 : V)]) = dH3 at ds3 de3 dr3 ⊢
    have dS3 := Same.refl dH3
    have dS2 := ds3.trans dS3
    have dS1 := ds2.trans dS2
    have dS0 := ds1.trans dS1
    have dE1 := Dl.at (s := s) (dS1 _ _ de1) do1
    have dE2 := Dl.at (s := s) (dS2 _ _ de2) do2
    have dE3 := Dl.at (s := s) (dS3 _ _ de3) do3
    have src := src.same dS0
    have exA : LamX.ExtN (Dl s _) (Dl s dH3) := Dl.ext (LamX.ExtN.of dS0)
    have bas := bas.ext exA
    have nob := nob.ext exA
    have tabs := Tabs.nl tabs (NL.of dS0)
    have k : ∀ H', Src H' s (n + 5505) → LamX.ExtN (Dl s dH3) (Dl s H') → LamX.Tabs (LT L) H' → Q (.bl true) H' := fun H' x e t => k H' x (exA.trans e) t
    clear exA
    have hbl := de3
    have g5 : ∀ x ∈ [(.int 3 : V), (.int (-1) : V), (.bl true : V), (.non : V), (.str "0" : V), (.ref da1 : V), (.ref da2 : V)], ∃ nm, Kd (Dl s dH3) x nm ∧ (isI x && (decide (0 ≤ toI x) && decide (toI x ≤ ((3 : Nat) : Int) - 1))) = false := fun x hx => by
      simp only [List.mem_cons, List.mem_nil_iff, or_false] at hx
      rcases hx with rfl | rfl | rfl | rfl | rfl | rfl | rfl
      · exact ⟨_, (.int _), by decide⟩
      · exact ⟨_, (.int _), by decide⟩
      · exact ⟨_, (.bl _), by decide⟩
      · exact ⟨_, .non, by decide⟩
      · exact ⟨_, (.str _), by decide⟩
      · exact ⟨_, (.lst dE1), rfl⟩
      · exact ⟨_, (.dK dE2), rfl⟩
    have lg5 : [(.int 3 : V), (.int (-1) : V), (.bl true : V), (.non : V), (.str "0" : V), (.ref da1 : V), (.ref da2 : V)].length = 7 := rfl
    generalize [(.int 3 : V), (.int (-1) : V), (.bl true : V), (.non : V), (.str "0" : V), (.ref da1 : V), (.ref da2 : V)] = Lg5 at hbl g5 lg5
    refine ⟨s, da3, _, n + 4404, rfl, do3.symm, hbl, by rw [lg5]; decide, by rw [lg5]; decide, src, by omega, fun itm Hitm hitm src kA => ?_⟩
    obtain ⟨inm, ikd, ibad⟩ := g5 itm hitm
    have ikd := Kd.ext ikd (Dl.kp kA)
    have src : Src Hitm s (n + 5505) := src.mono (by omega)
    have exA : LamX.ExtN (Dl s _) (Dl s Hitm) := Dl.kp kA
    have bas := bas.ext exA
    have nob := nob.ext exA
    have tabs := Tabs.nl tabs (Kp.nl kA dr3)
    have k : ∀ H', Src H' s (n + 5505) → LamX.ExtN (Dl s Hitm) (Dl s H') → LamX.Tabs (LT L) H' → Q (.bl true) H' := fun H' x e t => k H' x (exA.trans e) t
    clear exA
    clear kA g5 lg5 hbl
    refine ⟨tabs, fun Hw exW txW E N H1 s1 hE hN => ?_⟩
    have ex1 := exW.trans (LamX.ExtN.of s1)
    have bas1 := bas.up.ext ex1
    have ikd := Kd.ext (Kd.ext ikd (Dl.sub s _)) ex1
    have cA : (cutV [.int 0, .int 2, .int 1] none (some (j : Int))).length ≤ 3 := cutV_length [.int 0, .int 2, .int 1] none (some (j : Int))
    refine ⟨_, rfl, _, rfl, (by show 3 ≤ sizeLine; decide), fun p1 m1 => ?_⟩
    have t1 := Same.upd (o := .lst [.int 0, .int 2, .int 1]) m1
    have f1 : upd H1 p1 (.lst [.int 0, .int 2, .int 1]) p1 = some (.lst [.int 0, .int 2, .int 1]) := upd_same
    generalize upd H1 p1 (.lst [.int 0, .int 2, .int 1]) = U1 at t1 f1 ⊢
    refine ⟨_, rfl, _, rfl, p1, _, rfl, SqL.of f1, fun p2 m2 => ?_⟩
    have t2 := Same.upd (o := .lst (cutV [.int 0, .int 2, .int 1] none (some (j : Int)))) m2
    have f2 : upd U1 p2 (.lst (cutV [.int 0, .int 2, .int 1] none (some (j : Int)))) p2 = some (.lst (cutV [.int 0, .int 2, .int 1] none (some (j : Int)))) := upd_same
    generalize upd U1 p2 (.lst (cutV [.int 0, .int 2, .int 1] none (some (j : Int)))) = U2 at t2 f2 ⊢
    refine ⟨_, rfl, (by show 1 ≤ sizeLine; decide), fun p3 m3 => ?_⟩
    have t3 := Same.upd (o := .lst [itm]) m3
    have f3 : upd U2 p3 (.lst [itm]) p3 = some (.lst [itm]) := upd_same
    generalize upd U2 p3 (.lst [itm]) = U3 at t3 f3 ⊢
    refine ⟨p2, p3, _, _, rfl, rfl, t3 _ _ f2, f3, small2 (by show _ + 1 ≤ 100000; omega), fun p4 m4 => ?_⟩
    have t4 := Same.upd (o := .lst (cutV [.int 0, .int 2, .int 1] none (some (j : Int)) ++ [itm])) m4
    have f4 : upd U3 p4 (.lst (cutV [.int 0, .int 2, .int 1] none (some (j : Int)) ++ [itm])) p4 = some (.lst (cutV [.int 0, .int 2, .int 1] none (some (j : Int)) ++ [itm])) := upd_same
    generalize upd U3 p4 (.lst (cutV [.int 0, .int 2, .int 1] none (some (j : Int)) ++ [itm])) = U4 at t4 f4 ⊢
    refine ⟨(by show 1 ≤ sizeLine; decide), fun p5 m5 => ?_⟩
    have t5 := Same.upd (o := .lst [.int 0]) m5
    have f5 : upd U4 p5 (.lst [.int 0]) p5 = some (.lst [.int 0]) := upd_same
    generalize upd U4 p5 (.lst [.int 0]) = U5 at t5 f5 ⊢
    refine ⟨p4, p5, _, _, rfl, rfl, t5 _ _ f4, f5, small2 (by rw [List.length_append]; show _ + 1 + 1 ≤ 100000; omega), fun p6 m6 => ?_⟩
    have t6 := Same.upd (o := .lst (cutV [.int 0, .int 2, .int 1] none (some (j : Int)) ++ [itm] ++ [.int 0])) m6
    have f6 : upd U5 p6 (.lst (cutV [.int 0, .int 2, .int 1] none (some (j : Int)) ++ [itm] ++ [.int 0])) p6 = some (.lst (cutV [.int 0, .int 2, .int 1] none (some (j : Int)) ++ [itm] ++ [.int 0])) := upd_same
    generalize upd U5 p6 (.lst (cutV [.int 0, .int 2, .int 1] none (some (j : Int)) ++ [itm] ++ [.int 0])) = U6 at t6 f6 ⊢
    have tt := ((((t1.trans t2).trans t3).trans t4).trans t5).trans t6
    have bas1 := bas1.ext (LamX.ExtN.of tt)
    refine mk_bad hE (nm := "pattern") (i := (j : Int)) (.pat rfl bas1.sp_ bas1.br okT59 (by decide) rfl bas1.sv_ bas1.sl okS59 (by decide) (by decide) (pat_put f6 (by omega) (Kd.ext ikd (LamX.ExtN.of tt)) ibad)) fun q Hu hq su => ?_
    refine ⟨_, rfl, _, _, rfl, ?_⟩
    rw [if_neg (show ¬ ((3 : Int) < (j : Int)) by omega)]
    refine ⟨(by show 2 ≤ sizeLine; decide), fun q6 m6 => ?_⟩
    have S6 := Same.upd (o := .tup [.str "pattern", .int (j : Int)]) m6
    refine ⟨partD "pattern" (j : Int), partD "pattern" (j : Int), dpPart (S6 _ _ hq), dpPart upd_same, shPart _ ok_pattern, shPart _ ok_pattern, ?_⟩
    rw [eqPart _ ok_pattern]
    have SS := s1.trans (tt.trans (su.trans S6))
    have exZ := exW.trans (LamX.ExtN.of SS)
    have tabs := Tabs.nl txW (NL.of SS)
    generalize upd Hu q6 (.tup [.str "pattern", .int (j : Int)]) = HZ at exZ tabs ⊢
    clear SS S6 hE hN
    refine ⟨_, rfl, iteF ?_⟩
    have src := src.ext exZ
    have exA : LamX.ExtN (Dl s _) (Dl s HZ) := Dl.ext exZ
    have bas := bas.ext exA
    have nob := nob.ext exA
    have k : ∀ H', Src H' s (n + 5505) → LamX.ExtN (Dl s HZ) (Dl s H') → LamX.Tabs (LT L) H' → Q (.bl true) H' := fun H' x e t => k H' x (exA.trans e) t
    clear exA
    clear exZ exW txW ex1 bas1 tt t1 t2 t3 t4 t5 t6 f1 f2 f3 f4 f5 f6 cA
    obtain ⟨yf, hsf⟩ := src.has
    refine ⟨(by show 0 ≤ sizeLine; decide), fun fa1 fn1 => ?_⟩
    have fo1 : fa1 ≠ s := fun z => by rw [z, hsf] at fn1; cases fn1
    have fs1 := Same.upd (o := .lst []) fn1
    have fe1 : upd HZ fa1 (.lst []) fa1 = some (.lst []) := upd_same
    have fr1 := fs1 _ _ hsf
    generalize upd HZ fa1 (.lst []) = fH1 at fs1 fe1 fr1 ⊢
    refine ⟨(by show 2 ≤ sizeLine; decide), fun fa2 fn2 => ?_⟩
    have fo2 : fa2 ≠ s := fun z => by rw [z, fr1] at fn2; cases fn2
    have fs2 := Same.upd (o := .tup [.int 0, .int 1]) fn2
    have fe2 : upd fH1 fa2 (.tup [.int 0, .int 1]) fa2 = some (.tup [.int 0, .int 1]) := upd_same
    have fr2 := fs2 _ _ fr1
    generalize upd fH1 fa2 (.tup [.int 0, .int 1]) = fH2 at fs2 fe2 fr2 ⊢
    refine fun fa3 fn3 => ?_
    have fo3 : fa3 ≠ s := fun z => by rw [z, fr2] at fn3; cases fn3
    have fs3 := Same.upd (o := .dK []) fn3
    have fe3 : upd fH2 fa3 (.dK []) fa3 = some (.dK []) := upd_same
    have fr3 := fs3 _ _ fr2
    generalize upd fH2 fa3 (.dK []) = fH3 at fs3 fe3 fr3 ⊢
    refine ⟨(by show 1 ≤ sizeLine; decide), fun fa4 fn4 => ?_⟩
    have fo4 : fa4 ≠ s := fun z => by rw [z, fr3] at fn4; cases fn4
    have fs4 := Same.upd (o := .lst [.int 0]) fn4
    have fe4 : upd fH3 fa4 (.lst [.int 0]) fa4 = some (.lst [.int 0]) := upd_same
    have fr4 := fs4 _ _ fr3
    generalize upd fH3 fa4 (.lst [.int 0]) = fH4 at fs4 fe4 fr4 ⊢
    refine ⟨fa4, 21, _, rfl, rfl, fe4, by decide, by decide, (by show 1 * 21 ≤ sizeLine; decide), fun fa5 fn5 => ?_⟩
    have fo5 : fa5 ≠ s := fun z => by rw [z, fr4] at fn5; cases fn5
    have fs5 := Same.upd (o := .lst (List.replicate (21 : Int).toNat [V.int 0]).flatten) fn5
    have fe5 : upd fH4 fa5 (.lst (List.replicate (21 : Int).toNat [V.int 0]).flatten) fa5 = some (.lst (List.replicate (21 : Int).toNat [V.int 0]).flatten) := upd_same
    have fr5 := fs5 _ _ fr4
    generalize upd fH4 fa5 (.lst (List.replicate (21 : Int).toNat [V.int 0]).flatten) = fH5 at fs5 fe5 fr5 ⊢
    refine ⟨(by show 6 ≤ sizeLine; decide), fun fa6 fn6 => ?_⟩
    have fo6 : fa6 ≠ s := fun z => by rw [z, fr5] at fn6; cases fn6
    have fs6 := Same.upd (o := .lst [(.non : V), (.ref fa1 : V), (.ref fa2 : V), (.ref fa3 : V), (.ref fa5 : V), (.str "01" : V)]) fn6
    have fe6 : upd fH5 fa6 (.lst [(.non : V), (.ref fa1 : V), (.ref fa2 : V), (.ref fa3 : V), (.ref fa5 : V), (.str "01" : V)]) fa6 = some (.lst [(.non : V), (.ref fa1 : V), (.ref fa2 : V), (.ref fa3 : V), (.ref fa5 : V), (.str "01" : V)]) := upd_same
    have fr6 := fs6 _ _ fr5
    generalize upd fH5 fa6 (.lst [(.non : V), (.ref fa1 : V), (.ref fa2 : V), (.ref fa3 : V), (.ref fa5 : V), (.str "01" : V)]) = fH6 at fs6 fe6 fr6 ⊢
    have fS6 := Same.refl fH6
    have fS5 := fs6.trans fS6
    have fS4 := fs5.trans fS5
    have fS3 := fs4.trans fS4
    have fS2 := fs3.trans fS3
    have fS1 := fs2.trans fS2
    have fS0 := fs1.trans fS1
    have fE1 := Dl.at (s := s) (fS1 _ _ fe1) fo1
    have fE2 := Dl.at (s := s) (fS2 _ _ fe2) fo2
    have fE3 := Dl.at (s := s) (fS3 _ _ fe3) fo3
    have fE4 := Dl.at (s := s) (fS4 _ _ fe4) fo4
    have fE5 := Dl.at (s := s) (fS5 _ _ fe5) fo5
    have fE6 := Dl.at (s := s) (fS6 _ _ fe6) fo6
    have src := src.same fS0
    have exA : LamX.ExtN (Dl s _) (Dl s fH6) := Dl.ext (LamX.ExtN.of fS0)
    have bas := bas.ext exA
    have nob := nob.ext exA
    have tabs := Tabs.nl tabs (NL.of fS0)
    have k : ∀ H', Src H' s (n + 5505) → LamX.ExtN (Dl s fH6) (Dl s H') → LamX.Tabs (LT L) H' → Q (.bl true) H' := fun H' x e t => k H' x (exA.trans e) t
    clear exA
    have hbl := fe6
    have g6 : ∀ x ∈ [(.non : V), (.ref fa1 : V), (.ref fa2 : V), (.ref fa3 : V), (.ref fa5 : V), (.str "01" : V)], PatBad (Dl s fH6) 3 x (-1) := fun x hx => by
      simp only [List.mem_cons, List.mem_nil_iff, or_false] at hx
      rcases hx with rfl | rfl | rfl | rfl | rfl | rfl
      · exact .kind .non (by decide)
      · exact .size fE1 (.inl rfl)
      · exact .kind (.tup fE2) (by decide)
      · exact .kind (.dK fE3) (by decide)
      · exact .size fE5 (.inr (by decide))
      · exact .kind (.str _) (by decide)
    have lg6 : [(.non : V), (.ref fa1 : V), (.ref fa2 : V), (.ref fa3 : V), (.ref fa5 : V), (.str "01" : V)].length = 6 := rfl
    generalize [(.non : V), (.ref fa1 : V), (.ref fa2 : V), (.ref fa3 : V), (.ref fa5 : V), (.str "01" : V)] = Lg6 at hbl g6 lg6
    refine ⟨fa6, rfl, ⟨_, SqL.of hbl⟩, for_list (K := K) (a := fa6) (xs := Lg6) (fun i σ Hx => ∃ vv : Option V, σ = [some (.ref s), some (.ref ba52), some (.int (pl : Int)), some (.int (j : Int)), some itm, vv, some odd, some (.ref sv), some (.ref sp), some (.ref spl), none] ∧ LamX.ExtN fH6 Hx ∧ LamX.Tabs (LT L) Hx) ⟨_, rfl, LamX.ExtN.refl _, tabs⟩ (fun i σ Hx _ ⟨_, _, ex, _⟩ => SqL.of (ExtN.lst ex hbl)) ?_ ?_⟩
    · rintro i x σ Hx hxi ⟨vv, rfl, ex, tabs⟩
      have bad := ((g6 x (List.mem_of_getElem? hxi)).ext (Dl.sub s _)).ext ex
      have bas := bas.ext (Dl.ext ex)
      refine ⟨tabs, fun Hw exW txW E N H1 s1 hE hN => ?_⟩
      have ex1 := exW.trans (LamX.ExtN.of s1)
      have bas1 := bas.up.ext ex1
      have bad := bad.ext ex1
      refine ⟨_, rfl, _, rfl, _, rfl, mk_bad hE (nm := "pattern") (i := -1) (.pat rfl bas1.sp_ bas1.br okT59 (by decide) rfl bas1.sv_ bas1.sl okS59 (by decide) (by decide) bad) fun q Hu hq su => ?_⟩
      refine ⟨1, rfl, ?_⟩
      refine ⟨(by show 2 ≤ sizeLine; decide), fun q6 m6 => ?_⟩
      have S6 := Same.upd (o := .tup [.str "pattern", .int (-1)]) m6
      refine ⟨partD "pattern" (-1), partD "pattern" (-1), dpPart (S6 _ _ hq), dpPart upd_same, shPart _ ok_pattern, shPart _ ok_pattern, ?_⟩
      rw [eqPart _ ok_pattern]
      have SS := s1.trans (su.trans S6)
      have exZ := exW.trans (LamX.ExtN.of SS)
      have tabs := Tabs.nl txW (NL.of SS)
      generalize upd Hu q6 (.tup [.str "pattern", .int (-1)]) = HZ at exZ tabs ⊢
      clear SS S6 hE hN
      refine ⟨_, rfl, iteF ?_⟩
      exact ⟨_, rfl, ex.trans exZ, tabs⟩
    rintro σ HE ⟨vv, rfl, exE, tabs⟩
    obtain ⟨vv_g6, hvv⟩ : ∃ u, u = vv := ⟨_, rfl⟩
    rw [← hvv]
    clear hvv
    have src := src.ext exE
    have exA : LamX.ExtN (Dl s _) (Dl s HE) := Dl.ext exE
    have bas := bas.ext exA
    have nob := nob.ext exA
    have k : ∀ H', Src H' s (n + 5505) → LamX.ExtN (Dl s HE) (Dl s H') → LamX.Tabs (LT L) H' → Q (.bl true) H' := fun H' x e t => k H' x (exA.trans e) t
    clear exA
    clear g6
    clear exE
    clear hbl lg6
    obtain ⟨yg, hsg⟩ := src.has
    refine ⟨1, rfl, (by show 1 ≤ sizeLine; decide), fun ga1 gn1 => ?_⟩
    have go1 : ga1 ≠ s := fun z => by rw [z, hsg] at gn1; cases gn1
    have gs1 := Same.upd (o := .lst [.int 1]) gn1
    have ge1 : upd HE ga1 (.lst [.int 1]) ga1 = some (.lst [.int 1]) := upd_same
    have gr1 := gs1 _ _ hsg
    generalize upd HE ga1 (.lst [.int 1]) = gH1 at gs1 ge1 gr1 ⊢
    refine fun ga2 gn2 => ?_
    have go2 : ga2 ≠ s := fun z => by rw [z, gr1] at gn2; cases gn2
    have gs2 := Same.upd (o := .dK []) gn2
    have ge2 : upd gH1 ga2 (.dK []) ga2 = some (.dK []) := upd_same
    have gr2 := gs2 _ _ gr1
    generalize upd gH1 ga2 (.dK []) = gH2 at gs2 ge2 gr2 ⊢
    refine ⟨_, _, rfl, rfl, cp, _, _, rfl, rfl, (by show 8 ≤ sizeLine; decide), fun ga3 gn3 => ?_⟩
    have go3 : ga3 ≠ s := fun z => by rw [z, gr2] at gn3; cases gn3
    have gs3 := Same.upd (o := .lst [(.int 0 : V), (.int (-1) : V), (.bl true : V), (.non : V), (.str "1" : V), (.ref ga1 : V), (.ref ga2 : V), (.int ((10 : Int) ^ (30 : Int).toNat + 1) : V)]) gn3
    have ge3 : upd gH2 ga3 (.lst [(.int 0 : V), (.int (-1) : V), (.bl true : V), (.non : V), (.str "1" : V), (.ref ga1 : V), (.ref ga2 : V), (.int ((10 : Int) ^ (30 : Int).toNat + 1) : V)]) ga3 = some (.lst [(.int 0 : V), (.int (-1) : V), (.bl true : V), (.non : V), (.str "1" : V), (.ref ga1 : V), (.ref ga2 : V), (.int ((10 : Int) ^ (30 : Int).toNat + 1) : V)]) := upd_same
    have gr3 := gs3 _ _ gr2
    generalize upd gH2 ga3 (.lst [(.int 0 : V), (.int (-1) : V), (.bl true : V), (.non : V), (.str "1" : V), (.ref ga1 : V), (.ref ga2 : V), (.int ((10 : Int) ^ (30 : Int).toNat + 1) : V)]) = gH3 at gs3 ge3 gr3 ⊢
    have gS3 := Same.refl gH3
    have gS2 := gs3.trans gS3
    have gS1 := gs2.trans gS2
    have gS0 := gs1.trans gS1
    have gE1 := Dl.at (s := s) (gS1 _ _ ge1) go1
    have gE2 := Dl.at (s := s) (gS2 _ _ ge2) go2
    have gE3 := Dl.at (s := s) (gS3 _ _ ge3) go3
    have src := src.same gS0
    have exA : LamX.ExtN (Dl s _) (Dl s gH3) := Dl.ext (LamX.ExtN.of gS0)
    have bas := bas.ext exA
    have nob := nob.ext exA
    have tabs := Tabs.nl tabs (NL.of gS0)
    have k : ∀ H', Src H' s (n + 5505) → LamX.ExtN (Dl s gH3) (Dl s H') → LamX.Tabs (LT L) H' → Q (.bl true) H' := fun H' x e t => k H' x (exA.trans e) t
    clear exA
    have hbl := ge3
    have g7 : ∀ x ∈ [(.int 0 : V), (.int (-1) : V), (.bl true : V), (.non : V), (.str "1" : V), (.ref ga1 : V), (.ref ga2 : V), (.int ((10 : Int) ^ (30 : Int).toNat + 1) : V)], StpBad (Dl s gH3) x := fun x hx => by
      simp only [List.mem_cons, List.mem_nil_iff, or_false] at hx
      rcases hx with rfl | rfl | rfl | rfl | rfl | rfl | rfl | rfl
      · exact ⟨_, (.int _), by decide⟩
      · exact ⟨_, (.int _), by decide⟩
      · exact ⟨_, (.bl _), by decide⟩
      · exact ⟨_, .non, by decide⟩
      · exact ⟨_, (.str _), by decide⟩
      · exact ⟨_, (.lst gE1), rfl⟩
      · exact ⟨_, (.dK gE2), rfl⟩
      · exact ⟨_, (.int _), by rw [e30]; decide⟩
    have lg7 : [(.int 0 : V), (.int (-1) : V), (.bl true : V), (.non : V), (.str "1" : V), (.ref ga1 : V), (.ref ga2 : V), (.int ((10 : Int) ^ (30 : Int).toNat + 1) : V)].length = 8 := rfl
    generalize [(.int 0 : V), (.int (-1) : V), (.bl true : V), (.non : V), (.str "1" : V), (.ref ga1 : V), (.ref ga2 : V), (.int ((10 : Int) ^ (30 : Int).toNat + 1) : V)] = Lg7 at hbl g7 lg7
    refine ⟨ga3, rfl, ⟨_, SqL.of hbl⟩, for_list (K := K) (a := ga3) (xs := Lg7) (fun i σ Hx => ∃ vv : Option V, σ = [some (.ref s), some (.ref ba52), some (.int (pl : Int)), some (.int (j : Int)), some itm, vv_g6, some odd, some (.ref sv), some (.ref sp), some (.ref spl), vv] ∧ LamX.ExtN gH3 Hx ∧ LamX.Tabs (LT L) Hx) ⟨_, rfl, LamX.ExtN.refl _, tabs⟩ (fun i σ Hx _ ⟨_, _, ex, _⟩ => SqL.of (ExtN.lst ex hbl)) ?_ ?_⟩
    · rintro i x σ Hx hxi ⟨vv, rfl, ex, tabs⟩
      have bad := ((g7 x (List.mem_of_getElem? hxi)).ext (Dl.sub s _)).ext ex
      have bas := bas.ext (Dl.ext ex)
      refine ⟨tabs, fun Hw exW txW E N H1 s1 hE hN => ?_⟩
      have ex1 := exW.trans (LamX.ExtN.of s1)
      have bas1 := bas.up.ext ex1
      have bad := bad.ext ex1
      refine ⟨_, rfl, _, rfl, (by show 2 ≤ sizeLine; decide), fun p1 m1 => ?_⟩
      have t1 := Same.upd (o := .lst [.int 0, .int 1]) m1
      have f1 : upd H1 p1 (.lst [.int 0, .int 1]) p1 = some (.lst (([0, 1] : List Nat).map pnV)) := upd_same
      generalize upd H1 p1 (.lst [.int 0, .int 1]) = U1 at t1 f1 ⊢
      have bas1 := bas1.ext (LamX.ExtN.of t1)
      refine ⟨_, rfl, mk_bad hE (nm := "step") (i := -1) (.stp rfl bas1.sp_ bas1.br okT59 (by decide) rfl bas1.sv_ bas1.sl okS59 (by decide) (by decide) rfl f1 (by decide) (by decide) (by decide) (bad.ext (LamX.ExtN.of t1))) fun q Hu hq su => ?_⟩
      refine ⟨1, rfl, ?_⟩
      refine ⟨(by show 2 ≤ sizeLine; decide), fun q6 m6 => ?_⟩
      have S6 := Same.upd (o := .tup [.str "step", .int (-1)]) m6
      refine ⟨partD "step" (-1), partD "step" (-1), dpPart (S6 _ _ hq), dpPart upd_same, shPart _ ok_step, shPart _ ok_step, ?_⟩
      rw [eqPart _ ok_step]
      have SS := s1.trans (t1.trans (su.trans S6))
      have exZ := exW.trans (LamX.ExtN.of SS)
      have tabs := Tabs.nl txW (NL.of SS)
      generalize upd Hu q6 (.tup [.str "step", .int (-1)]) = HZ at exZ tabs ⊢
      clear SS S6 hE hN
      refine ⟨_, rfl, iteF ?_⟩
      exact ⟨_, rfl, ex.trans exZ, tabs⟩
    rintro σ HE ⟨vv, rfl, exE, tabs⟩
    obtain ⟨vv_g7, hvv⟩ : ∃ u, u = vv := ⟨_, rfl⟩
    rw [← hvv]
    clear hvv
    have src := src.ext exE
    have exA : LamX.ExtN (Dl s _) (Dl s HE) := Dl.ext exE
    have bas := bas.ext exA
    have nob := nob.ext exA
    have k : ∀ H', Src H' s (n + 5505) → LamX.ExtN (Dl s HE) (Dl s H') → LamX.Tabs (LT L) H' → Q (.bl true) H' := fun H' x e t => k H' x (exA.trans e) t
    clear exA
    clear g7
    clear exE
    clear hbl lg7
    refine ⟨tabs, fun Hw exW txW E N H1 s1 hE hN => ?_⟩
    have ex1 := exW.trans (LamX.ExtN.of s1)
    have bas1 := bas.up.ext ex1
    refine ⟨_, rfl, sp, 6, _, rfl, rfl, bas1.sp_, by decide, by decide, (by show 2 * 6 ≤ sizeLine; decide), fun p1 m1 => ?_⟩
    have t1 := Same.upd (o := .lst (List.replicate (6 : Int).toNat [x1, x2]).flatten) m1
    have f1 : upd H1 p1 (.lst (List.replicate (6 : Int).toNat [x1, x2]).flatten) p1 = some (.lst (List.replicate (6 : Int).toNat [x1, x2]).flatten) := upd_same
    generalize upd H1 p1 (.lst (List.replicate (6 : Int).toNat [x1, x2]).flatten) = U1 at t1 f1 ⊢
    refine ⟨_, rfl, sv, 3, _, rfl, rfl, t1 _ _ bas1.sv_, by decide, by decide, (by show 3 * 3 ≤ sizeLine; decide), fun p2 m2 => ?_⟩
    have t2 := Same.upd (o := .lst (List.replicate (3 : Int).toNat [z1, z2, z3]).flatten) m2
    have f2 : upd U1 p2 (.lst (List.replicate (3 : Int).toNat [z1, z2, z3]).flatten) p2 = some (.lst (List.replicate (3 : Int).toNat [z1, z2, z3]).flatten) := upd_same
    generalize upd U1 p2 (.lst (List.replicate (3 : Int).toNat [z1, z2, z3]).flatten) = U2 at t2 f2 ⊢
    refine ⟨_, rfl, 1, rfl, sv, _, rfl, SqL.of (t2 _ _ (t1 _ _ bas1.sv_)), fun p3 m3 => ?_⟩
    have t3 := Same.upd (o := .lst (cutV [z1, z2, z3] none (some 1))) m3
    have f3 : upd U2 p3 (.lst (cutV [z1, z2, z3] none (some 1))) p3 = some (.lst (cutV [z1, z2, z3] none (some 1))) := upd_same
    generalize upd U2 p3 (.lst (cutV [z1, z2, z3] none (some 1))) = U3 at t3 f3 ⊢
    refine ⟨p2, p3, _, _, rfl, rfl, t3 _ _ f2, f3, (by show 10 ≤ sizeLine; decide), fun p4 m4 => ?_⟩
    have t4 := Same.upd (o := .lst ((List.replicate (3 : Int).toNat [z1, z2, z3]).flatten ++ cutV [z1, z2, z3] none (some 1))) m4
    have f4 : upd U3 p4 (.lst ((List.replicate (3 : Int).toNat [z1, z2, z3]).flatten ++ cutV [z1, z2, z3] none (some 1))) p4 = some (.lst ((List.replicate (3 : Int).toNat [z1, z2, z3]).flatten ++ cutV [z1, z2, z3] none (some 1))) := upd_same
    generalize upd U3 p4 (.lst ((List.replicate (3 : Int).toNat [z1, z2, z3]).flatten ++ cutV [z1, z2, z3] none (some 1))) = U4 at t4 f4 ⊢
    refine ⟨(by show 1 ≤ sizeLine; decide), fun p5 m5 => ?_⟩
    have t5 := Same.upd (o := .lst [.int 9]) m5
    have f5 : upd U4 p5 (.lst [.int 9]) p5 = some (.lst [.int 9]) := upd_same
    generalize upd U4 p5 (.lst [.int 9]) = U5 at t5 f5 ⊢
    refine ⟨p5, 20, _, rfl, rfl, f5, by decide, by decide, (by show 1 * 20 ≤ sizeLine; decide), fun p6 m6 => ?_⟩
    have t6 := Same.upd (o := .lst (List.replicate (20 : Int).toNat [V.int 9]).flatten) m6
    have f6 : upd U5 p6 (.lst (List.replicate (20 : Int).toNat [V.int 9]).flatten) p6 = some (.lst (List.replicate (20 : Int).toNat [V.int 9]).flatten) := upd_same
    generalize upd U5 p6 (.lst (List.replicate (20 : Int).toNat [V.int 9]).flatten) = U6 at t6 f6 ⊢
    have tt := ((((t1.trans t2).trans t3).trans t4).trans t5).trans t6
    have bas1 := bas1.ext (LamX.ExtN.of tt)
    refine ⟨_, _, rfl, rfl, cp, fun x dx nx nd ne => ?_⟩
    have SX := mk_same (C := L.c_Routes) nx nd ne
    have hx : upd (upd U6 dx (.own x)) x (.ins L.c_Routes dx []) x = some (.ins L.c_Routes dx []) := upd_same
    generalize upd (upd U6 dx (.own x)) x (.ins L.c_Routes dx []) = U7 at SX hx ⊢
    have bas2 := bas1.ext (LamX.ExtN.of SX)
    have f6 : U6 p6 = some (.lst ((List.replicate 20 9).map pnV)) := f6
    have f1 : U6 p1 = some (.lst [x1, x2, x1, x2, x1, x2, x1, x2, x1, x2, x1, x2]) := t6 _ _ (t5 _ _ (t4 _ _ (t3 _ _ (t2 _ _ f1))))
    have f4 : U6 p4 = some (.lst [z1, z2, z3, z1, z2, z3, z1, z2, z3, z1]) := t6 _ _ (t5 _ _ f4)
    show spRtU L (V.ref x :: ([V.ref p1, V.ref p4, V.ref p6, V.int ((10 : Int) ^ (30 : Int).toNat)] ++ [])) U7 _ E
    rw [e30]
    refine .inl ⟨x, p1, p4, p6, 1000000000000000000000000000000, _, _, T596, S5910, List.replicate 20 9, dx, rfl, hx, SX _ _ f1, bas2.fr, SX _ _ f4, bas2.sls, SX _ _ f6, okR59, fun H' rv kp => ⟨rfl, hN _ _ ?_⟩⟩
    have S8 : Same U6 H' := fun b o e => kp _ _ (ne_of_none e nx) (SX _ _ e)
    have SS := s1.trans (tt.trans S8)
    have exZ := exW.trans (LamX.ExtN.of SS)
    have tabs := Tabs.nl txW (NL.of SS)
    skip
    exact k _ (src.ext exZ) (Dl.ext exZ) tabs
theorem ok_wpartsright (T : LX K mg L) (B : TX base mg L) : Cal P w K mg base "_law_parts_right" 13 L.f__law_parts_right ["_law_source"] (spPrt59 L) := T.d__law_parts_right.cal fun fd F => fn_wpartsright T B F
end
/-! ### k59: routes made and compared -/
theorem all_canP : ∀ ds : List PyData, (∀ d ∈ ds, d.canLay0 = true ∧ d.depth ≤ 10) → PyData.canLayAll0 ds = true ∧ PyData.depthAll ds ≤ 11
  | [], _ => ⟨by simp [PyData.canLayAll0], by simp [PyData.depthAll]⟩
  | d :: ds, h => by
    obtain ⟨h1, h2⟩ := all_canP ds fun d hd => h d (List.mem_cons_of_mem _ hd)
    obtain ⟨h3, h4⟩ := h d (List.mem_cons_self ..)
    refine ⟨?_, ?_⟩
    · rw [PyData.canLayAll0, h1, h3]
      rfl
    · rw [PyData.depthAll]
      omega
theorem lst_shP {ds : List PyData} (h : ∀ d ∈ ds, d.canLay0 = true ∧ d.depth ≤ 10) : SeqAt.shaped (.list ds) = true := by
  obtain ⟨h1, h2⟩ := all_canP ds h
  refine Bool.and_eq_true_iff.mpr ⟨?_, decide_eq_true ?_⟩
  · rw [PyData.canLay0]
    exact h1
  · rw [PyData.depth]
    omega
theorem eqv_allP : ∀ ds : List PyData, (∀ d ∈ ds, PyData.eqv d d = true) → PyData.eqvAll ds ds = true
  | [], _ => by simp [PyData.eqvAll]
  | d :: ds, h => by
    rw [PyData.eqvAll, h d (List.mem_cons_self ..), eqv_allP ds fun d hd => h d (List.mem_cons_of_mem _ hd)]
    rfl
section
variable {X : Cx} {L : LA}
/-- Routes(..) -/
theorem pe_mkRoutes (T : LX X.K X.mg L) (hr : Room 9 X.A) {p pos : Pos} {e : Expr} {es : List Expr} {t : TA} (hg : Gl X "Routes") (ha : PA X (e :: es) t)
    (he : starEach (e :: es) X.env = (false, eval e X.env) :: starEach es X.env := by rfl) (hpl : (backTo pos (starEach es X.env)).any (·.1) = false := by rfl) : PE X (.Call (.Name "Routes" p) (e :: es) [] pos) (tMake L.c_Routes (spRtInit L.c_Routes) [] E0 t) := by
  obtain ⟨fd, F, b⟩ := T.in_Routes
  exact pe_make T.mk_Routes (fn_Routesinit T F) hr hg T.gc_Routes b .nil pass0 ha (by decide) he hpl
end
theorem routes_made {C : Addr} {H : Hp} {Q : Addr → Hp → Prop} {lc ls lp : Addr} {st : Int} {xc xs : List V} {fr : List Tri} {svs : List Svc} {pat : List Nat} (h1 : H lc = some (.lst xc)) (h2 : Brs H xc fr) (h3 : H ls = some (.lst xs)) (h4 : Paired (SlAt H) xs svs) (h5 : H lp = some (.lst (pat.map pnV))) (W : RtOk fr svs pat st)
    (k : ∀ p H', RtV C H' p fr svs pat st → Same H H' → H p = none → Q p H') :
    ∀ x dx, H x = none → H dx = none → dx ≠ x → spRtInit C [.ref x, .ref lc, .ref ls, .ref lp, .int st] (upd (upd H dx (.own x)) x (.ins C dx [])) (fun v H3 => v = .non ∧ Q x H3) E0 := by
  intro x dx hx hd hne
  have s0 : Same H (upd (upd H dx (.own x)) x (.ins C dx [])) := fun b o e => by
    rw [upd_ne (ne_of_none e hx), upd_ne (ne_of_none e hd)]
    exact e
  exact ⟨x, lc, ls, lp, st, xc, xs, fr, svs, pat, dx, rfl, upd_same, s0 _ _ h1, h2.nl (NL.of s0), s0 _ _ h3, L2.Paired.mapP h4 (fun _ _ z => z.same s0), s0 _ _ h5, W, fun H' R kp => ⟨rfl, k x H' R (fun b o e => kp b o (ne_of_none e hx) (s0 b o e)) hx⟩⟩
/-! ### routes as data; routes compared; routes made with named arguments -/
def prI (o : Int × Int) : PyData := .tuple [.int o.1, .int o.2]
def svT (sv : Svc) : PyData := .tuple [.tuple (sv.1.map triD), .tuple (sv.2.map prI)]
def svL (sv : Svc) : PyData := .tuple [.list (sv.1.map triD), .list (sv.2.map prI)]
def pnD (k : Nat) : PyData := .int (k : Int)
theorem ots_dp {K : PySem.W.Frag} {H : Hp} : ∀ {os : List (Int × Int)} {xs : List V}, Ots H xs (outs os) → DpAll K H xs (os.map prI)
  | [], xs, h => by
    have h : Paired (OtAt H) xs [] := h
    cases h
    exact .nil
  | o :: r, xs, h => by
    have h : Paired (OtAt H) xs ((o.1, some o.2) :: outs r) := h
    cases h with
    | cons z t =>
      obtain ⟨a, rfl, hz⟩ := z
      exact .cons (.tup (SqT.of hz) (.cons (.int _) (.cons (.int _) .nil))) (ots_dp t)
theorem svsT_dp {K : PySem.W.Frag} {H : Hp} {xs : List V} {svs : List Svc} (h : Paired (SvAt H) xs svs) : DpAll K H xs (svs.map svT) := by
  induction h with
  | nil => exact .nil
  | cons h _ ih =>
    obtain ⟨a, ab, ao, xb, xo, rfl, h1, h2, h3, h4, h5⟩ := h
    exact .cons (.tup (SqT.of h1) (.cons (.tup (SqT.of h2) h3.dp) (.cons (.tup (SqT.of h4) (ots_dp h5)) .nil))) ih
theorem svsL_dp {K : PySem.W.Frag} {H : Hp} {xs : List V} {svs : List Svc} (h : Paired (SlAt H) xs svs) : DpAll K H xs (svs.map svL) := by
  induction h with
  | nil => exact .nil
  | cons h _ ih =>
    obtain ⟨a, ab, ao, xb, xo, rfl, h1, h2, h3, h4, h5⟩ := h
    exact .cons (.tup (SqT.of h1) (.cons (.lst (SqL.of h2) h3.dp) (.cons (.lst (SqL.of h4) (ots_dp h5)) .nil))) ih
theorem all_canN {n : Nat} : ∀ {ds : List PyData}, (∀ d ∈ ds, d.canLay0 = true ∧ d.depth ≤ n) → PyData.canLayAll0 ds = true ∧ PyData.depthAll ds ≤ n + 1
  | [], _ => ⟨by simp [PyData.canLayAll0], by simp [PyData.depthAll]⟩
  | d :: ds, h => by
    obtain ⟨h1, h2⟩ := all_canN (n := n) (ds := ds) fun d hd => h d (List.mem_cons_of_mem _ hd)
    obtain ⟨h3, h4⟩ := h d (List.mem_cons_self ..)
    refine ⟨?_, ?_⟩
    · rw [PyData.canLayAll0, h1, h3]
      rfl
    · rw [PyData.depthAll]
      omega
def CanN (n : Nat) (d : PyData) : Prop := d.canLay0 = true ∧ d.depth ≤ n
theorem canT {n : Nat} {ds : List PyData} (h : ∀ d ∈ ds, CanN n d) : CanN (n + 2) (.tuple ds) := by
  obtain ⟨h1, h2⟩ := all_canN h
  refine ⟨?_, ?_⟩
  · rw [PyData.canLay0]
    exact h1
  · rw [PyData.depth]
    omega
theorem canL {n : Nat} {ds : List PyData} (h : ∀ d ∈ ds, CanN n d) : CanN (n + 2) (.list ds) := by
  obtain ⟨h1, h2⟩ := all_canN h
  refine ⟨?_, ?_⟩
  · rw [PyData.canLay0]
    exact h1
  · rw [PyData.depth]
    omega
theorem CanN.mono {n m : Nat} {d : PyData} (h : CanN n d) (l : n ≤ m) : CanN m d := ⟨h.1, Nat.le_trans h.2 l⟩
theorem canI (i : Int) : CanN 1 (.int i) := ⟨by simp [PyData.canLay0], by simp [PyData.depth]⟩
theorem canM {α : Type} {n : Nat} {f : α → PyData} {xs : List α} (h : ∀ x, CanN n (f x)) : ∀ d ∈ xs.map f, CanN n d := fun d hd => by
  obtain ⟨x, _, rfl⟩ := List.mem_map.mp hd
  exact h x
theorem can1 {n : Nat} {d : PyData} {ds : List PyData} (h : CanN n d) (t : ∀ e ∈ ds, CanN n e) : ∀ e ∈ d :: ds, CanN n e := fun e he => by
  rcases List.mem_cons.mp he with he | he
  · rw [he]
    exact h
  · exact t e he
theorem can0 {n : Nat} : ∀ e ∈ ([] : List PyData), CanN n e := fun e he => nomatch he
theorem can_tri (t : Tri) : CanN 3 (triD t) := canT (can1 (canI _) (can1 (canI _) (can1 (canI _) can0)))
theorem can_prI (o : Int × Int) : CanN 3 (prI o) := canT (can1 (canI _) (can1 (canI _) can0))
theorem can_svT (sv : Svc) : CanN 7 (svT sv) := canT (can1 (canT (canM can_tri)) (can1 (canT (canM can_prI)) can0))
theorem can_svL (sv : Svc) : CanN 7 (svL sv) := canT (can1 (canL (canM can_tri)) (can1 (canL (canM can_prI)) can0))
theorem can_pn (k : Nat) : CanN 1 (pnD k) := canI _
theorem sh_can {d : PyData} (h : CanN 12 d) : SeqAt.shaped d = true := Bool.and_eq_true_iff.mpr ⟨h.1, decide_eq_true (Nat.le_trans h.2 (by decide))⟩
theorem eqvA {ds : List PyData} (h : ∀ d ∈ ds, PyData.eqv d d = true) : PyData.eqvAll ds ds = true := eqv_allP ds h
theorem eqvT {ds : List PyData} (h : ∀ d ∈ ds, PyData.eqv d d = true) : PyData.eqv (.tuple ds) (.tuple ds) = true := by
  rw [PyData.eqv]
  exact eqvA h
theorem eqvL {ds : List PyData} (h : ∀ d ∈ ds, PyData.eqv d d = true) : PyData.eqv (.list ds) (.list ds) = true := by
  rw [PyData.eqv]
  exact eqvA h
theorem eqvM {α : Type} {f : α → PyData} {xs : List α} (h : ∀ x, PyData.eqv (f x) (f x) = true) : ∀ d ∈ xs.map f, PyData.eqv d d = true := fun d hd => by
  obtain ⟨x, _, rfl⟩ := List.mem_map.mp hd
  exact h x
theorem eqvI (i : Int) : PyData.eqv (.int i) (.int i) = true := by simp [PyData.eqv]
theorem eqv1 {d : PyData} {ds : List PyData} (h : PyData.eqv d d = true) (t : ∀ e ∈ ds, PyData.eqv e e = true) : ∀ e ∈ d :: ds, PyData.eqv e e = true := fun e he => by
  rcases List.mem_cons.mp he with he | he
  · rw [he]
    exact h
  · exact t e he
theorem eqv0 : ∀ e ∈ ([] : List PyData), PyData.eqv e e = true := fun e he => nomatch he
theorem eqv_tri (t : Tri) : PyData.eqv (triD t) (triD t) = true := by rw [triD_eq, decide_eq_true rfl]
theorem eqv_prI (o : Int × Int) : PyData.eqv (prI o) (prI o) = true := eqvT (eqv1 (eqvI _) (eqv1 (eqvI _) eqv0))
theorem eqv_svT (sv : Svc) : PyData.eqv (svT sv) (svT sv) = true := eqvT (eqv1 (eqvT (eqvM eqv_tri)) (eqv1 (eqvT (eqvM eqv_prI)) eqv0))
theorem eqv_svL (sv : Svc) : PyData.eqv (svL sv) (svL sv) = true := eqvT (eqv1 (eqvL (eqvM eqv_tri)) (eqv1 (eqvL (eqvM eqv_prI)) eqv0))
theorem pnD_eq (i j : Nat) : PyData.eqv (pnD i) (pnD j) = decide (i = j) := by
  simp only [pnD, PyData.eqv]
  rw [Bool.eq_iff_iff]
  simp only [beq_iff_eq, decide_eq_true_iff]
  omega
theorem eqvAll_map {α : Type} [DecidableEq α] {f : α → PyData} (h : ∀ a b, PyData.eqv (f a) (f b) = decide (a = b)) : ∀ xs ys : List α, PyData.eqvAll (xs.map f) (ys.map f) = decide (xs = ys)
  | [], [] => by simp [PyData.eqvAll]
  | [], _ :: _ => by simp [PyData.eqvAll]
  | _ :: _, [] => by simp [PyData.eqvAll]
  | t :: ts, u :: us => by
    rw [List.map_cons, List.map_cons, PyData.eqvAll, h, eqvAll_map h ts us, Bool.eq_iff_iff]
    simp
theorem eqvT_map {α : Type} [DecidableEq α] {f : α → PyData} (h : ∀ a b, PyData.eqv (f a) (f b) = decide (a = b)) (xs ys : List α) : PyData.eqv (.tuple (xs.map f)) (.tuple (ys.map f)) = decide (xs = ys) := by
  rw [PyData.eqv]
  exact eqvAll_map h xs ys
theorem prI_eq (a b : Int × Int) : PyData.eqv (prI a) (prI b) = decide (a = b) := by
  obtain ⟨a1, a2⟩ := a
  obtain ⟨b1, b2⟩ := b
  unfold prI
  rw [PyData.eqv, Bool.eq_iff_iff]
  simp [PyData.eqvAll, PyData.eqv]
theorem svT_eq (a b : Svc) : PyData.eqv (svT a) (svT b) = decide (a = b) := by
  obtain ⟨a1, a2⟩ := a
  obtain ⟨b1, b2⟩ := b
  unfold svT
  rw [PyData.eqv, PyData.eqvAll, PyData.eqvAll, PyData.eqvAll, eqvT_map triD_eq, eqvT_map prI_eq, Bool.eq_iff_iff]
  simp
abbrev RDt := List Tri × List Svc × List Nat × Int
instance : DecidableEq Svc := fun a b => inferInstanceAs (Decidable ((a : List (Int × Int × Int) × List (Int × Int)) = b))
instance : DecidableEq RDt := @instDecidableEqProd (List Tri) (List Svc × List Nat × Int) _ (@instDecidableEqProd (List Svc) (List Nat × Int) (@instDecidableEqList Svc _) _)
def RtD (C : Addr) (H : Hp) (v : V) (d : RDt) : Prop := ∃ p, v = .ref p ∧ RtV C H p d.1 d.2.1 d.2.2.1 d.2.2.2
theorem RtD.nl {C : Addr} {H H' : Hp} {v : V} {d : RDt} (h : RtD C H v d) (n : NL H H') : RtD C H' v d := by
  obtain ⟨p, e, h⟩ := h
  exact ⟨p, e, h.nl n⟩
def spRtEqA (C : Addr) : Sp := fun vs H Q _ => ∃ p q, ∃ d : RDt, vs = [.ref p, .ref q] ∧ RtV C H p d.1 d.2.1 d.2.2.1 d.2.2.2 ∧ ((∃ e : RDt, RtV C H q e.1 e.2.1 e.2.2.1 e.2.2.2 ∧ Q (.bl (decide (d = e))) H) ∨ (∃ xs, H q = some (.tup xs) ∧ Q (.bl false) H))
section
variable {P : Program} {w : World} {K : PySem.W.Frag} {mg : Str → Option Value} {base : Heap} {L : LA}
abbrev N_Routeseq : List Str := ["self", "other"]
theorem sc_Routeseq : FnScope N_Routeseq ["self", "other"] (defScope st_Routes_eq) := ⟨rfl, rfl, rfl, by decide +kernel, rfl, by decide +kernel, by decide +kernel⟩
theorem fn_Routeseq (T : LX K mg L) {fd : FuncData} (F : Fun K "__eq__" "Routes.__eq__" st_Routes_eq L.m_Routes_eq fd) : FnOk P w K mg base CX0 1 L.m_Routes_eq fd ["self", "other"] (spRtEqA L.c_Routes) := by
  have M_Routes := T.gc_Routes
  have nd := sc_Routeseq.nd
  refine F.ok sc_Routeseq (fun vs H Q E h => ?_) (fun cdv A outer S H vs Q E hr h => ?_)
  · obtain ⟨p, q, d, rfl, _⟩ := h
    rfl
  · obtain ⟨p, q, d, rfl, RV, alt⟩ := h
    refine ⟨_, (pss_one (ps_ret (pe_and (pe_callB call_isi (by rfl) T.b_isinstance (by decide +kernel) (pa_cons (pv 1) (pa_cons (pe_glob rfl M_Routes rr) pa_nil))) (pe_and (pe_cmpR (op_eqD hr.units) (pe_fld (pv 0) rfl) (pe_fld (pv 1) rfl) (nomark _)) (pe_and (pe_cmpR (op_eqD hr.units) (pe_fld (pv 0) rfl) (pe_fld (pv 1) rfl) (nomark _)) (pe_and (pe_cmpR (op_eqD hr.units) (pe_fld (pv 0) rfl) (pe_fld (pv 1) rfl) (nomark _)) (pe_one (pe_cmpR op_eq (pe_fld (pv 0) rfl) (pe_fld (pv 1) rfl) (nomark _))))))))), ?_⟩
    obtain ⟨fr, svs, pat, st⟩ := d
    obtain ⟨aC, aS, aP, xC, xS, R⟩ := RV
    obtain ⟨dx, hp⟩ := R.ob
    rcases alt with ⟨⟨fr', svs', pat', st'⟩, RV', k⟩ | ⟨xs, hq, k⟩
    rotate_left
    · exact ⟨_, rfl, _, .ref L.c_Routes, _, _, _, rfl, .own L.c_Routes, (Kd.tup hq).ty, T.cf_Routes.kitT (.tup hq), _, rfl, iteF k⟩
    obtain ⟨bC, bS, bP, yC, yS, R'⟩ := RV'
    obtain ⟨dy, hq⟩ := R'.ob
    have fin : ∀ c : Bool, decide (((fr, svs, pat, st) : RDt) = (fr', svs', pat', st')) = c → Q (.bl c) H := fun c e => by rw [← e]; exact k
    refine ⟨_, rfl, _, .ref L.c_Routes, _, _, _, rfl, .own L.c_Routes, T.cf_Routes.tyR hq, if_pos (beq_self_eq_true _), _, rfl, iteT ?_⟩
    refine ⟨_, rfl, p, L.c_Routes, dx, _, _, rfl, hp, T.cf_Routes.cl, T.nf_Routes_common, rtF_c _ _ _ _, _, rfl, q, L.c_Routes, dy, _, _, rfl, hq, T.cf_Routes.cl, T.nf_Routes_common, rtF_c _ _ _ _, .tuple (fr.map triD), .tuple (fr'.map triD), .tup (SqT.of R.hC) R.bC.dp, .tup (SqT.of R'.hC) R'.bC.dp, shT _, shT _, _, rfl, ?_⟩
    rw [eqvT_map triD_eq]
    refine ite2 (fun c1 => ?_) (fun c1 => fin false (decide_eq_false fun e => c1 (decide_eq_true (congrArg (fun z : RDt => z.1) e))))
    refine ⟨_, rfl, p, L.c_Routes, dx, _, _, rfl, hp, T.cf_Routes.cl, T.nf_Routes_services, rtF_s _ _ _ _, _, rfl, q, L.c_Routes, dy, _, _, rfl, hq, T.cf_Routes.cl, T.nf_Routes_services, rtF_s _ _ _ _, .tuple (svs.map svT), .tuple (svs'.map svT), .tup (SqT.of R.hS) (svsT_dp R.sv), .tup (SqT.of R'.hS) (svsT_dp R'.sv), sh_can ((canT (canM can_svT)).mono (by decide)), sh_can ((canT (canM can_svT)).mono (by decide)), _, rfl, ?_⟩
    rw [eqvT_map svT_eq]
    refine ite2 (fun c2 => ?_) (fun c2 => fin false (decide_eq_false fun e => c2 (decide_eq_true (congrArg (fun z : RDt => z.2.1) e))))
    refine ⟨_, rfl, p, L.c_Routes, dx, _, _, rfl, hp, T.cf_Routes.cl, T.nf_Routes_pattern, rtF_p _ _ _ _, _, rfl, q, L.c_Routes, dy, _, _, rfl, hq, T.cf_Routes.cl, T.nf_Routes_pattern, rtF_p _ _ _ _, .tuple (pat.map pnD), .tuple (pat'.map pnD), .tup (SqT.of R.hP) (pns_dp _), .tup (SqT.of R'.hP) (pns_dp _), sh_can ((canT (canM can_pn)).mono (by decide)), sh_can ((canT (canM can_pn)).mono (by decide)), _, rfl, ?_⟩
    rw [eqvT_map pnD_eq]
    refine ite2 (fun c3 => ?_) (fun c3 => fin false (decide_eq_false fun e => c3 (decide_eq_true (congrArg (fun z : RDt => z.2.2.1) e))))
    have c1 := of_decide_eq_true c1
    have c2 := of_decide_eq_true c2
    have c3 := of_decide_eq_true c3
    subst c1 c2 c3
    refine ⟨_, rfl, p, L.c_Routes, dx, _, _, rfl, hp, T.cf_Routes.cl, T.nf_Routes_step, rtF_st _ _ _ _, _, rfl, q, L.c_Routes, dy, _, _, rfl, hq, T.cf_Routes.cl, T.nf_Routes_step, rtF_st _ _ _ _, rfl, fin _ ?_⟩
    rw [Bool.eq_iff_iff, decide_eq_true_iff, decide_eq_true_iff]
    exact ⟨fun h => congrArg (fun z : RDt => V.int z.2.2.2) h, fun h => congrArg (fun z => ((fr, svs, pat, z) : RDt)) (V.int.inj h)⟩
theorem ok_Routeseq (T : LX K mg L) : Met P w K mg base L.c_Routes "__eq__" 1 L.m_Routes_eq ["self", "other"] (spRtEqA L.c_Routes) := T.mm_Routes_eq.met fun fd F => fn_Routeseq T F
end
/-! ### one service, always up -/
theorem wide_w (j : Nat) : rtW [0] j = 0 := by
  unfold rtW
  rw [show j % [0].length = 0 from Nat.mod_one j]
  rfl
theorem wide_good (j : Nat) : rtGood [] [([], [])] [0] 3 j = true := by
  have e : svOf [([], [])] (rtW [0] j) = ([], []) := by rw [wide_w]; rfl
  have r : rtRow [] [([], [])] [0] j = [] := by
    unfold rtRow
    rw [e]
    rfl
  unfold rtGood rtK rtUp
  rw [r, e]
  rfl
theorem wide_G (n : Nat) : rtG [] [([], [])] [0] 3 n 0 = List.replicate n true := by
  unfold rtG
  rw [List.filter_eq_self.mpr (fun j _ => decide_eq_true (wide_w j))]
  refine List.ext_getElem? fun i => ?_
  rw [List.getElem?_map, List.getElem?_replicate]
  by_cases c : i < n
  · rw [List.getElem?_range c, if_pos c]
    exact congrArg some (wide_good i)
  · rw [List.getElem?_eq_none (by rw [List.length_range]; omega), if_neg c]
    rfl
theorem wide_ops (n : Nat) : opsL [] [([], [])] [0] 3 n = [] := by
  unfold opsL
  refine List.flatMap_eq_nil_iff.mpr fun j _ => ?_
  show (rtOp [] [([], [])] [0] 3 j).map _ = []
  unfold rtOp
  rfl
/-! ### services whose lists are apart -/
/-- a service, none of whose lists is s or D -/
def SlA (s D : Addr) (H : Hp) (v : V) (sv : Svc) : Prop := ∃ a ab ao xb xo, v = .ref a ∧ H a = some (.tup [.ref ab, .ref ao]) ∧ H ab = some (.lst xb) ∧ Brs H xb sv.1 ∧ H ao = some (.lst xo) ∧ Ots H xo (outs sv.2) ∧ (ab ≠ s ∧ ab ≠ D) ∧ ao ≠ s ∧ ao ≠ D
theorem SlA.at {s D : Addr} {H : Hp} {v : V} {sv : Svc} : SlA s D H v sv → SlAt H v sv := fun ⟨a, ab, ao, xb, xo, e, h1, h2, h3, h4, h5, _⟩ => ⟨a, ab, ao, xb, xo, e, h1, h2, h3, h4, h5⟩
theorem SlA.mv {s D : Addr} {H H' : Hp} {v : V} {sv : Svc} (n : NL H H') (k : ∀ b o, b ≠ s → b ≠ D → H b = some o → H' b = some o) : SlA s D H v sv → SlA s D H' v sv := fun ⟨a, ab, ao, xb, xo, e, h1, h2, h3, h4, h5, ⟨n1, n2⟩, n3, n4⟩ =>
  ⟨a, ab, ao, xb, xo, e, n _ _ h1 (fun _ z => nomatch z), k _ _ n1 n2 h2, h3.nl n, k _ _ n3 n4 h4, h5.nl n, ⟨n1, n2⟩, n3, n4⟩
/-- a service whose lists are new -/
def SlB (H0 : Hp) (D : Addr) (H : Hp) (v : V) (sv : Svc) : Prop := ∃ a ab ao xb xo, v = .ref a ∧ H a = some (.tup [.ref ab, .ref ao]) ∧ H ab = some (.lst xb) ∧ Brs H xb sv.1 ∧ H ao = some (.lst xo) ∧ Ots H xo (outs sv.2) ∧ ab ≠ D ∧ ao ≠ D ∧ H0 ab = none ∧ H0 ao = none
theorem SlB.mv {H0 H H' : Hp} {D : Addr} {v : V} {sv : Svc} (n : NL H H') (k : ∀ b o, b ≠ D → H b = some o → H' b = some o) : SlB H0 D H v sv → SlB H0 D H' v sv := fun ⟨a, ab, ao, xb, xo, e, h1, h2, h3, h4, h5, n1, n2, m1, m2⟩ =>
  ⟨a, ab, ao, xb, xo, e, n _ _ h1 (fun _ z => nomatch z), k _ _ n1 h2, h3.nl n, k _ _ n2 h4, h5.nl n, n1, n2, m1, m2⟩
theorem SlB.at {H0 H : Hp} {D : Addr} {v : V} {sv : Svc} : SlB H0 D H v sv → SlAt H v sv := fun ⟨a, ab, ao, xb, xo, e, h1, h2, h3, h4, h5, _⟩ => ⟨a, ab, ao, xb, xo, e, h1, h2, h3, h4, h5⟩
/-! ### Routes.parts -/
def spParts (C : Addr) : Sp := fun vs H Q _ => ∃ p fr svs pat st, vs = [.ref p] ∧ RtV C H p fr svs pat st ∧ ∀ T lc ls lp xc xs H', H' T = some (.tup [.ref lc, .ref ls, .ref lp, .int st]) → H' lc = some (.lst xc) → Brs H' xc fr → H' ls = some (.lst xs) → Paired (SlB H ls H') xs svs → H' lp = some (.lst (pat.map pnV)) → Same H H' → H T = none → H lc = none → H ls = none → H lp = none → Q (.ref T) H'
section
variable {P : Program} {w : World} {K : PySem.W.Frag} {mg : Str → Option Value} {base : Heap} {L : LA}
abbrev N_Routesparts : List Str := ["self", "services", "breakers", "outages"]
theorem sc_Routesparts : FnScope N_Routesparts ["self"] (defScope st_Routes_parts) := ⟨rfl, rfl, rfl, by decide +kernel, rfl, by decide +kernel, by decide +kernel⟩
theorem fn_Routesparts (T : LX K mg L) {fd : FuncData} (F : Fun K "parts" "Routes.parts" st_Routes_parts L.m_Routes_parts fd) : FnOk P w K mg base CX0 2 L.m_Routes_parts fd ["self"] (spParts L.c_Routes) := by
  have nd := sc_Routesparts.nd
  refine F.ok sc_Routesparts (fun vs H Q E h => ?_) (fun cdv A outer S H vs Q E hr h => ?_)
  · obtain ⟨p, fr, svs, pat, st, rfl, _⟩ := h
    rfl
  · obtain ⟨p, fr, svs, pat, st, rfl, RV, k⟩ := h
    refine ⟨_, (pss_cons (ps_setLc (i := 1) (own := [("breakers", 2), ("outages", 3)]) (g := gTup K 2 (gCons (gName 2) (gCons (gName 3) (gNil)))) (tt := tYes) rfl nd rfl rfl (sw_true rfl rfl rfl (by decide +kernel)) (pi_tup (pe_fld (pv 0) rfl)) (blkOk_by (own := [("breakers", 2), ("outages", 3)]) (N := N_Routesparts) (sc := defScope st_Routes_parts) (by decide +kernel)) (fun _ _ _ _ _ => pg_tup rfl (pgs_cons (pg_name (i := 2) nd rfl (Or.inl rfl)) (pgs_cons (pg_name (i := 3) nd rfl (Or.inl rfl)) pgs_nil))) (fun _ _ _ _ _ => pts_nil) (fun _ _ _ _ _ => (pe_tup (pa_cons (pe_callTy (call_listK (K := K) rfl) (by rfl) T.b_list (by decide +kernel) (pa_cons (pv 2) pa_nil)) (pa_cons (pe_callTy (call_listK (K := K) rfl) (by rfl) T.b_list (by decide +kernel) (pa_cons (pv 3) pa_nil)) pa_nil)))))
       (pss_one (ps_ret (pe_tup (pa_cons (pe_callTy call_list_of (by rfl) T.b_list (by decide +kernel) (pa_cons (pe_fld (pv 0) rfl) pa_nil)) (pa_cons (pv 1) (pa_cons (pe_callTy call_list_of (by rfl) T.b_list (by decide +kernel) (pa_cons (pe_fld (pv 0) rfl) pa_nil)) (pa_cons (pe_fld (pv 0) rfl) pa_nil)))))))), ?_⟩
    obtain ⟨aC, aS, aP, xC, xS, R⟩ := RV
    obtain ⟨dx, hp⟩ := R.ob
    have sl := paired_len R.sv
    have s10 := R.s1
    refine ⟨_, rfl, p, L.c_Routes, dx, _, _, rfl, hp, T.cf_Routes.cl, T.nf_Routes_services, rtF_s _ _ _ _, aS, rfl, ⟨_, SqT.of R.hS⟩, fun ls hls => ?_⟩
    refine lc_tup (K := K) (a := aS) (xs := xS) (fun j Hx => ∃ xs, Hx ls = some (.lst xs) ∧ xs.length = j ∧ Paired (SlB H ls Hx) xs (svs.take j) ∧ Same H Hx) ⟨[], upd_same, rfl, .nil, Same.upd hls⟩ (fun j Hx _ ⟨_, _, _, _, s⟩ => SqT.of (s _ _ R.hS)) ?_ ?_
    · rintro j x Hx hxj ⟨xs, hDx, xl, hz, sx⟩
      obtain ⟨sv, hsv, a, ab, ao, xb, xo, rfl, h1, h2, h3, h4, h5⟩ := paired_get R.sv hxj
      have hj := (List.getElem?_eq_some_iff.mp hsv).1
      refine ⟨a, _, rfl, SqT.of (sx _ _ h1), rfl, _, _, rfl, _, _, rfl, rfl, rfl, tYes_of ?_⟩
      refine ⟨_, rfl, ab, _, rfl, .inr (SqT.of (sx _ _ h2)), fun l1 hl1 => ⟨_, rfl, ao, _, rfl, .inr (SqT.of ((Same.upd hl1) _ _ (sx _ _ h4))), fun l2 hl2 => ⟨(by show 2 ≤ sizeLine; decide), fun t ht => ?_⟩⟩⟩
      have s1 := Same.upd (o := .lst xb) hl1
      have s2 := Same.upd (o := .lst xo) hl2
      have s3 := Same.upd (o := .tup [.ref l1, .ref l2]) ht
      have s13 := (s1.trans s2).trans s3
      have g1 := s3 _ _ (s2 _ _ (upd_same (H := Hx) (a := l1) (o := .lst xb)))
      have g2 := s3 _ _ (upd_same (H := upd Hx l1 (.lst xb)) (a := l2) (o := .lst xo))
      have g3 : (upd (upd (upd Hx l1 (.lst xb)) l2 (.lst xo)) t (.tup [.ref l1, .ref l2])) t = some (.tup [.ref l1, .ref l2]) := upd_same
      have n1 : l1 ≠ ls := (ne_of_none hDx hl1).symm
      have n2 : l2 ≠ ls := (ne_of_none (s1 _ _ hDx) hl2).symm
      generalize upd (upd (upd Hx l1 (.lst xb)) l2 (.lst xo)) t (.tup [.ref l1, .ref l2]) = Hy at s13 g1 g2 g3 ⊢
      have hDy := s13 _ _ hDx
      have n5 := NL.upd (o := .lst (xs ++ [.ref t])) hDy
      have sxy := sx.trans s13
      refine ⟨xs, hDy, small1 (by omega), xs ++ [.ref t], upd_same, by rw [List.length_append, xl]; rfl, ?_, fun u o e => by rw [upd_ne (ne_of_none e hls)]; exact sxy _ _ e⟩
      rw [List.take_add_one, hsv]
      exact paired_app (L2.Paired.mapP hz fun _ _ z => z.mv ((NL.of s13).trans n5) fun b o m1 e => (upd_ne m1).trans (s13 _ _ e)) (.cons ⟨t, l1, l2, xb, xo, rfl, n5 _ _ g3 (fun _ z => nomatch z), (upd_ne n1).trans g1, (h3.nl (NL.of sxy)).nl n5, (upd_ne n2).trans g2, Ots.nl n5 (Ots.nl (NL.of sxy) h5), n1, n2, none_of sx hl1, none_of (sx.trans s1) hl2⟩ .nil)
    rintro H1 ⟨xs, hls1, xl, hz, s1⟩
    rw [sl, List.take_length] at hz
    refine ⟨_, rfl, p, L.c_Routes, dx, _, _, rfl, s1 _ _ hp, T.cf_Routes.cl, T.nf_Routes_common, rtF_c _ _ _ _, aC, _, rfl, .inr (SqT.of (s1 _ _ R.hC)), fun lc hlc => ?_⟩
    have s2 := Same.upd (o := .lst xC) hlc
    refine ⟨_, rfl, _, rfl, p, L.c_Routes, dx, _, _, rfl, s2 _ _ (s1 _ _ hp), T.cf_Routes.cl, T.nf_Routes_pattern, rtF_p _ _ _ _, aP, _, rfl, .inr (SqT.of (s2 _ _ (s1 _ _ R.hP))), fun lp hlp => ?_⟩
    have s3 := Same.upd (o := .lst (pat.map pnV)) hlp
    refine ⟨_, rfl, p, L.c_Routes, dx, _, _, rfl, s3 _ _ (s2 _ _ (s1 _ _ hp)), T.cf_Routes.cl, T.nf_Routes_step, rtF_st _ _ _ _, (by show 4 ≤ sizeLine; decide), fun T0 hT0 => ?_⟩
    have s4 := Same.upd (o := .tup [.ref lc, .ref ls, .ref lp, .int st]) hT0
    have s24 := (s2.trans s3).trans s4
    have s14 := s1.trans s24
    refine k T0 lc ls lp xC xs _ upd_same (s4 _ _ (s3 _ _ upd_same)) (R.bC.nl (NL.of s14)) (s24 _ _ hls1) ?_ (s4 _ _ upd_same) s14 (none_of (s1.trans (s2.trans s3)) hT0) (none_of s1 hlc) hls (none_of (s1.trans s2) hlp)
    exact L2.Paired.mapP hz fun v sv z => z.mv (NL.of s24) fun _ _ _ e => s24 _ _ e
theorem ok_Routesparts (T : LX K mg L) : Met P w K mg base L.c_Routes "parts" 2 L.m_Routes_parts ["self"] (spParts L.c_Routes) := T.mm_Routes_parts.met fun fd F => fn_Routesparts T F
end
/-! ### k59: kept lambdas in a list, and what is asked of each -/
theorem KeepAt.nl {X : Cx} {Lm : LamY.LamK} {H H' : Hp} {f c' : Addr} (h : LamY.KeepAt X Lm H f c') (k : NL H H') : LamY.KeepAt X Lm H' f c' := by
  obtain ⟨dV, doc, pm, ctv, h1, h2, h3⟩ := h
  refine ⟨dV, doc, pm, ctv, k _ _ h1 (fun xs z => by unfold LamY.FunO at z; cases z), k _ _ h2 (fun xs z => by unfold LamX.CodeO at z; cases z), ?_⟩
  unfold LamY.Dfl at h3 ⊢
  split
  · rename_i e
    rw [e] at h3
    exact h3
  · rename_i i e
    rw [e] at h3
    obtain ⟨t, e1, e2⟩ := h3
    exact ⟨t, e1, k _ _ e2 (fun xs z => nomatch z)⟩
/-- a kept lambda that, when called, ends in the error of a bound -/
def AskR (X : Cx) (K : PySem.W.Frag) (L : LA) (σ : L2.St) (nm : Str) (H : Hp) (x : V) : Prop := ∃ (Lm : LamY.LamK) (f c' : Addr), x = .ref f ∧ LamY.LamOk X 8 Lm ∧ LamY.KeepAt X Lm H f c' ∧
  ∀ (Hy : Hp) (Q N : VK) (E : XK), LamX.ExtN H Hy → (∀ cls d H', RsdR K L cls d H' Q → E cls d H') → (∀ p H', H' p = some (.tup [.str "bound", .str nm]) → Same Hy H' → Q (.ref p) H') → Lm.t E σ Hy N
def Bds (nm : Str) (H : Hp) (xs : List V) : Prop := ∀ x ∈ xs, ∃ p, x = .ref p ∧ H p = some (.tup [.str "bound", .str nm])
theorem asks_rd {X : Cx} {K : PySem.W.Frag} {L : LA} {σ : L2.St} {nm : Str} {H : Hp} {la D : Addr} {xs : List V} {Qd : Hp → Prop} (hw : (L2.wipe σ [13])[13]? = some none) (h6 : ∀ v : V, L2.wipe ((L2.wipe σ [13]).set 13 (some v)) [13] = L2.wipe σ [13]) (hl : H la = some (.lst xs)) (lx : xs.length ≤ 3) (all : ∀ x ∈ xs, AskR X K L σ nm H x) (tabs : LamX.Tabs (LT L) H) (nD : H D = none)
    (k : ∀ ys H', H' D = some (.lst ys) → Bds nm H' ys → ys.length = xs.length → LamX.ExtN H H' → LamX.Tabs (LT L) H' → Qd H') :
    ∃ W : Nat → Nat → Hp → Prop, (∃ m, W 0 m (upd H D (.lst []))) ∧ ∀ i m Hx, W i m Hx →
      ((Itl K la).stop i Hx ∧ Qd Hx) ∨ ((Itl K la).go i Hx ∧ ∃ Nx : Hp → Prop, (∀ H', Nx H' → ∃ m', m' < m ∧ W (i + 1) m' H') ∧ ∀ x H', (Itl K la).yld i Hx x H' → gName 13 x (L2.wipe σ [13]) H' fun σ2 H2 => L2.wipe σ2 [13] = L2.wipe σ [13] ∧ tYes σ2 H2 fun b H3 =>
        if b = true then LamY.tFncB X σ (LamY.LamOk X 8) (TTrsd K L) (tCons (tVar 13) tNil) σ2 H3 fun y H4 => ∃ acc, H4 D = some (.lst acc) ∧ acc.length < sizeLine ∧ Nx (upd H4 D (.lst (acc ++ [y]))) else Nx H3) := by
  have s0 := Same.upd (o := .lst []) nD
  refine lc_list (K := K) (a := la) (xs := xs) (fun j Hy => ∃ ys, Hy D = some (.lst ys) ∧ Bds nm Hy ys ∧ ys.length = j ∧ LamX.ExtN H Hy ∧ LamX.Tabs (LT L) Hy) ⟨[], upd_same, (fun x h => nomatch h), rfl, LamX.ExtN.of s0, Tabs.nl tabs (NL.of s0)⟩ (fun j Hy _ ⟨_, _, _, _, ex, _⟩ => SqL.of (ExtN.lst ex hl)) ?_ ?_
  · rintro j x Hy hxj ⟨ys, hD, ly, yl, ex, tx⟩
    have hj := (List.getElem?_eq_some_iff.mp hxj).1
    obtain ⟨Lm, f, c', rfl, ok, kp, ask⟩ := all x (List.mem_of_getElem? hxj)
    refine ⟨h6 _, tYes_of ⟨_, ?_, Lm, f, c', rfl, ok, kp.ext ex, fun E N H1 s1 hE _ => ask _ _ N E (ex.trans (LamX.ExtN.of s1)) hE fun p H' hp s2 => ?_⟩⟩
    · have lt : 13 < (L2.wipe σ [13]).length := (List.getElem?_eq_some_iff.mp hw).1
      rw [List.getElem?_set_self lt]
    · have s12 := s1.trans s2
      have hD2 := s12 _ _ hD
      refine ⟨ys, hD2, small1 (by omega), ys ++ [.ref p], upd_same, ?_, by rw [List.length_append, yl]; rfl, ?_, ?_⟩
      · intro x hx
        rcases List.mem_append.mp hx with hx | hx
        · obtain ⟨q, rfl, hq⟩ := ly x hx
          have := s12 _ _ hq
          exact ⟨q, rfl, by rw [upd_ne (fun z => by rw [z, hD2] at this; cases this)]; exact this⟩
        · rw [List.mem_singleton.mp hx]
          exact ⟨p, rfl, by rw [upd_ne (fun z => by rw [z, hD2] at hp; cases hp)]; exact hp⟩
      · intro b o e n
        rw [upd_ne (ne_of_none e nD)]
        exact s12 _ _ (ex _ _ e n)
      · refine Tabs.nl tx fun b o e n => ?_
        rw [upd_ne (fun z => by rw [z, hD] at e; exact n _ (Option.some.inj e).symm)]
        exact s12 _ _ e
  · rintro Hy ⟨ys, hD, ly, yl, ex, tx⟩
    exact k ys Hy hD ly yl ex tx
theorem Bds.same {nm : Str} {H H' : Hp} {ys : List V} (h : Bds nm H ys) (s : Same H H') : Bds nm H' ys := fun y hy => by
  obtain ⟨p, rfl, e⟩ := h y hy
  exact ⟨p, rfl, s _ _ e⟩
def bdD (nm : Str) : PyData := .tuple [.str "bound", .str nm]
def bd2 (nm : Str) : PyData := .list [bdD nm, bdD nm]
theorem dpBd {K : PySem.W.Frag} {H : Hp} {p : Addr} {nm : Str} (h : H p = some (.tup [.str "bound", .str nm])) : Dp K H (.ref p) (bdD nm) := .tup (SqT.of h) (.cons (.str _) (.cons (.str _) .nil))
theorem shBd2 {nm : Str} (h : PyData.strOk nm = true) : SeqAt.shaped (bd2 nm) = true := by
  have hb : PyData.strOk "bound" = true := by decide +kernel
  refine Bool.and_eq_true_iff.mpr ⟨by simp [bd2, bdD, PyData.canLay0, PyData.canLayAll0, h, hb], decide_eq_true (by simp [bd2, bdD, PyData.depth, PyData.depthAll])⟩
theorem eqBd2 {nm : Str} (h : PyData.strOk nm = true) : PyData.eqv (bd2 nm) (bd2 nm) = true := SeqAt.eqv_refl _ (Bool.and_eq_true_iff.mp (shBd2 h)).1
theorem dpBd2 {K : PySem.W.Frag} {H : Hp} {D : Addr} {ys : List V} {nm : Str} (h : H D = some (.lst ys)) (ly : Bds nm H ys) (yl : ys.length = 2) : Dp K H (.ref D) (bd2 nm) := by
  match ys, yl with
  | [y1, y2], _ =>
    obtain ⟨p1, rfl, h1⟩ := ly y1 (by simp)
    obtain ⟨p2, rfl, h2⟩ := ly y2 (by simp)
    exact .lst (SqL.of h) (.cons (dpBd h1) (.cons (dpBd h2) .nil))
theorem ok_count : PyData.strOk "count" = true := by decide +kernel
theorem ok_down : PyData.strOk "down" = true := by decide +kernel
/-- the routes of the law, one with one number more each -/
def sv59 (e : Int) (b : List Tri) : List Svc := [([], [(0, e)]), (b, [])]
def D59 : List RDt := [([(2, 5, 1)], sv59 100 [], [0, 0, 1], 1), ([(2, 5, 2)], sv59 100 [], [0, 0, 1], 1), ([(2, 5, 1)], sv59 99 [], [0, 0, 1], 1), ([(2, 5, 1)], sv59 100 [(1, 1, 1)], [0, 0, 1], 1),
  ([(2, 5, 1)], sv59 100 [], [0, 1, 1], 1), ([(2, 5, 1)], sv59 100 [], [0, 1, 0], 1), ([(2, 5, 1)], sv59 100 [], [0, 0, 1], 2)]
theorem D59_ne : ∀ i j : Nat, i < 7 → j < i → ∀ a b, D59[j]? = some a → D59[i]? = some b → a ≠ b := by
  intro i j hi hj a b ha hb
  have pw : D59.Pairwise (· ≠ ·) := by decide +kernel
  have := List.pairwise_iff_getElem.mp pw j i (List.getElem?_eq_some_iff.mp ha).1 (List.getElem?_eq_some_iff.mp hb).1 hj
  rw [(List.getElem?_eq_some_iff.mp ha).2, (List.getElem?_eq_some_iff.mp hb).2] at this
  exact this
theorem okR59' {e : Int} {b : List Tri} {pat : List Nat} {st : Int} (e1 : 0 < e) (e2 : e ≤ 1000000000000000000000000000000) (hb : ∀ t ∈ b, OkT t) (bl : b.length ≤ 12) (p0 : 1 ≤ pat.length) (p1 : pat.length ≤ 20) (pb : ∀ n ∈ pat, n < 2) (s0 : 1 ≤ st) (s1 : st ≤ 1000000000000000000000000000000) (fr : List Tri) (hfr : ∀ t ∈ fr, OkT t) (lfr : fr.length ≤ 12) : RtOk fr (sv59 e b) pat st :=
  ⟨hfr, lfr, fun s h => by
    simp only [sv59, List.mem_cons, List.mem_nil_iff, or_false] at h
    rcases h with rfl | rfl
    · exact ⟨(fun t h => nomatch h), Nat.zero_le _, ⟨Int.le_refl _, e1, e2, trivial⟩, by show 1 ≤ 50; decide⟩
    · exact ⟨hb, bl, trivial, by show 0 ≤ 50; decide⟩, by show 1 ≤ 2; decide, by show 2 ≤ 10; decide, p0, p1, pb, s0, s1⟩
theorem RtV.own {C : Addr} {H : Hp} {p : Addr} {fr : List Tri} {svs : List Svc} {pat : List Nat} {st : Int} (R : RtV C H p fr svs pat st) : ∃ dx fs, H p = some (.ins C dx fs) ∧ fs.lookup ("parts" : Str) = none := by
  obtain ⟨_, _, _, _, _, R⟩ := R
  obtain ⟨dx, hz⟩ := R.ob
  exact ⟨dx, _, hz, rtF_no _ _ _ _ (by decide +kernel) (by decide +kernel) (by decide +kernel) (by decide +kernel)⟩
theorem own_eqR {C : Addr} {H : Hp} {x y : V} {d e : RDt} {g : Bool → Bool} {Q : VK} (hx : RtD C H x d) (hy : RtD C H y e) (k : Q (.bl (g (decide (d = e)))) H) : rOwnEq C (spRtEqA C) E0 g x y H Q := by
  obtain ⟨p, rfl, Rp⟩ := hx
  obtain ⟨q, rfl, Rq⟩ := hy
  obtain ⟨dx, fs, hp, _⟩ := Rp.own
  obtain ⟨dy, gs, hq, _⟩ := Rq.own
  exact ⟨p, dx, _, _, rfl, hp, .ins hq, p, q, d, rfl, Rp, .inl ⟨e, Rq, _, rfl, k⟩⟩
theorem own_eqT {C : Addr} {H : Hp} {x : V} {q : Addr} {d : RDt} {xs : List V} {g : Bool → Bool} {Q : VK} (hx : RtD C H x d) (hq : H q = some (.tup xs)) (k : Q (.bl (g false)) H) : rOwnEq C (spRtEqA C) E0 g x (.ref q) H Q := by
  obtain ⟨p, rfl, Rp⟩ := hx
  obtain ⟨dx, fs, hp, _⟩ := Rp.own
  exact ⟨p, dx, _, _, rfl, hp, .tup hq, p, q, d, rfl, Rp, .inr ⟨xs, hq, _, rfl, k⟩⟩
def nilD : PyData := .list []
theorem shNil : SeqAt.shaped nilD = true := by
  refine Bool.and_eq_true_iff.mpr ⟨by simp [nilD, PyData.canLay0, PyData.canLayAll0], decide_eq_true (by simp [nilD, PyData.depth, PyData.depthAll])⟩
theorem eqNil : PyData.eqv nilD nilD = true := by simp [nilD, PyData.eqv, PyData.eqvAll]
def ctD (n : Nat) : PyData := .list [.tuple [.int (n : Int), .int 0]]
theorem shCt (n : Nat) : SeqAt.shaped (ctD n) = true := by
  refine Bool.and_eq_true_iff.mpr ⟨by simp [ctD, PyData.canLay0, PyData.canLayAll0], decide_eq_true (by simp [ctD, PyData.depth, PyData.depthAll])⟩
theorem eqCt (n : Nat) : PyData.eqv (ctD n) (ctD n) = true := SeqAt.eqv_refl _ (Bool.and_eq_true_iff.mp (shCt n)).1
theorem dpCt {K : PySem.W.Frag} {H : Hp} {l q : Addr} {n : Nat} (h : H l = some (.lst [.ref q])) (hq : H q = some (.tup [.int (n : Int), .int 0])) : Dp K H (.ref l) (ctD n) := .lst (SqL.of h) (.cons (.tup (SqT.of hq) (.cons (.int _) (.cons (.int _) .nil))) .nil)
/-- what the one service has served -/
theorem wide_ct {H : Hp} {l : Addr} {xs : List V} {n : Nat} (hl : H l = some (.lst xs)) (ln : xs.length = ([([], [])] : List Svc).length) (h : ∀ (w : Nat) (x : V), xs[w]? = some x → CtAt H x ((rtG [] [([], [])] [0] 3 n w).count true) ((rtG [] [([], [])] [0] 3 n w).count false)) : ∃ q, H l = some (.lst [.ref q]) ∧ H q = some (.tup [.int (n : Int), .int 0]) := by
  match xs, ln with
  | [x], _ =>
    obtain ⟨q, rfl, hq⟩ := h 0 x rfl
    rw [wide_G, List.count_replicate_self, List.count_replicate] at hq
    exact ⟨q, hl, hq⟩
theorem okWide : RtOk [] [([], [])] [0] 3 := ⟨(fun t h => nomatch h), Nat.zero_le _, fun s h => by rw [List.mem_singleton.mp h]; exact ⟨(fun t h => nomatch h), Nat.zero_le _, trivial, Nat.zero_le _⟩, by decide, by decide, by decide, by decide, by decide, by decide, by decide⟩
/-! ### k59: the law -/
def spLawT (K : PySem.W.Frag) (L : LA) : Sp := fun vs H Q _ => ∃ (a : Addr) (ns : List Int), vs = [.ref a] ∧ SqL K H a (ns.map V.int) ∧ ns.length ≤ 63 ∧ LamX.Tabs (LT L) H ∧ ∀ H', Q (.bl true) H'
section
variable {P : Program} {w : World} {K : PySem.W.Frag} {mg : Str → Option Value} {base : Heap} {L : LA}
abbrev N_law : List Str := ["_law_script", "_law_cell", "_law_source", "_law_common", "_law_calls", "_law_some", "_law_pattern", "_law_step", "_law_k", "_law_wide", "_law_count", "_law_down", "_law_routes", "_law_call", "_law_j"]
theorem sc_law : FnScope N_law ["_law_script"] (defScope st_law) := ⟨rfl, rfl, rfl, by decide +kernel, rfl, by decide +kernel, by decide +kernel⟩
theorem ok_law {aLaw : Addr} {fd : FuncData} (F : FunT K "law" "law" st_law aLaw L.k_law fd) (T : LX K mg L) (B : TX base mg L) : FnOk P w K mg base CX0 14 aLaw fd ["_law_script"] (spLawT K L) := by
  have G_wsourceof := ok_wsourceof (P := P) (w := w) (base := base) T
  have G_wone := ok_wone (P := P) (w := w) (base := base) T
  have G_Routeseq := ok_Routeseq (P := P) (w := w) (base := base) T
  have G_wcellat := ok_wcellat (P := P) (w := w) (base := base) T
  have G_wpartsright := ok_wpartsright (P := P) (w := w) (base := base) T B
  have G_Routesparts := ok_Routesparts (P := P) (w := w) (base := base) T
  have G_served := ok_served (P := P) (w := w) (base := base) T
  have G_commonopenings := ok_commonopenings (P := P) (w := w) (base := base) T
  have G_longestfailure := ok_longestfailure (P := P) (w := w) (base := base) T
  have G_firstopening := ok_firstopening (P := P) (w := w) (base := base) T
  have nd := sc_law.nd
  refine F.ok sc_law (fun vs H Q E h => ?_) (fun A outer S H vs Q E hr h => ?_)
  · obtain ⟨a, ns, rfl, _⟩ := h
    rfl
  · obtain ⟨a, ns, rfl, hS, ln, tabs, k⟩ := h
    refine ⟨_, (pss_cons (ps_for PassesOwn.never rfl (pi_list (pe_op op_cat (pe_lst (pa_cons (pe_c G_wcellat (hr.mono (by decide)) rfl (pa_cons (pv 0) (pa_cons pe_int pa_nil))) pa_nil)) (pe_slice (r := rSlL K) sl_list (pv 0) (po_some pe_int) (po_some pe_int)))) (pg_name (i := 1) nd rfl (Or.inl rfl)) (pss_cons (ps_set (i := 2) nd rfl (Or.inl rfl) (pe_c G_wsourceof (hr.mono (by decide)) rfl (pa_cons (pv 1) pa_nil)))
       (pss_cons (ps_if (pt_not (pt_val (pe_c G_wpartsright (hr.mono (by decide)) rfl (pa_cons (pv 2) pa_nil)))) (pss_one (ps_ret pe_bl)) pss_nil)
       (pss_cons (ps_set (i := 3) nd rfl (Or.inl rfl) (pe_c G_wone (hr.mono (by decide)) rfl (pa_cons (pv 2) (pa_cons (pe_lst (pa_cons (pe_lst (pa_cons (pe_tup (pa_cons pe_int (pa_cons pe_int (pa_cons pe_int pa_nil)))) pa_nil)) (pa_cons (pe_lst pa_nil) pa_nil))) pa_nil))))
       (pss_cons (ps_set (i := 12) nd rfl (Or.inr rfl) (pe_mkRoutes T (hr.mono (by decide)) rfl (pa_cons (pv 3) (pa_cons (pe_lst (pa_cons (pe_tup (pa_cons (pe_lst pa_nil) (pa_cons (pe_lst (pa_cons (pe_tup (pa_cons pe_int (pa_cons pe_int pa_nil))) pa_nil)) pa_nil))) (pa_cons (pe_tup (pa_cons (pe_lst pa_nil) (pa_cons (pe_lst pa_nil) pa_nil))) pa_nil))) (pa_cons (pe_lst (pa_cons pe_int (pa_cons pe_int (pa_cons pe_int pa_nil)))) (pa_cons pe_int pa_nil))))))
       (pss_cons (ps_for PassesOwn.never rfl (pi_list (pe_lst (pa_cons pe_non (pa_cons (pe_un un_neg pe_int) (pa_cons pe_bl (pa_cons pe_str (pa_cons (pe_lst (pa_cons pe_int pa_nil)) (pa_cons pe_dnewK (pa_cons pe_int (pa_cons (pe_op op_pow pe_int pe_int) pa_nil)))))))))) (pg_name (i := 10) nd rfl (Or.inr rfl)) (pss_cons (ps_set (i := 4) nd rfl (Or.inl rfl) (pe_lst (pa_cons (LamY.pe_lamL0 (k := 8) (T := LT L) (c := L.k_law) (P := L.t_law) B.b_law rfl (lt_mem_law T) (lt_one_law T) (LamY.lamS_by (N := N_law) (sc := defScope st_law) (by decide +kernel)) rfl (fun _ _ _ _ _ _ => rfl) (fun A outer s H E f c2 hr => by exact (pe_cX (EX.ok_served (P := P) (w := w) (base := base) T) (hr.mono (by decide)) rfl (fun σ => passAt (takes_of rfl rfl rfl rfl) σ) (pa_cons (pv 12) (pa_cons (pv 10) pa_nil))))) (pa_cons (LamY.pe_lamL1 (k := 8) (T := LT L) (c := L.k_law) (P := L.t_law) (i := 0) (a := "_law_of") B.b_law rfl (lt_mem_law T) (lt_one_law T) (LamY.lamS_by (N := N_law) (sc := defScope st_law) (by decide +kernel)) rfl rfl pe_int rfl (fun _ _ _ _ _ _ _ _ _ _ _ h1 h2 => .of_defaults rfl h1 h2 rfl rfl) (fun A outer s H E f c2 hr => by exact (pe_cX (EX.ok_commonopenings (P := P) (w := w) (base := base) T) (hr.mono (by decide)) rfl (fun σ => passAt (takes_of rfl rfl rfl rfl) σ) (pa_cons (pv 12) (pa_cons (pv 10) pa_nil))))) pa_nil))))
       (pss_one (ps_if (pt_cmpR (op_neD hr.units) (LcK.pe_lcK (own := [("_law_call", 13)]) (g := gName 13) (tt := tYes) rfl nd (pi_list (pv 4)) (blkOk_by (own := [("_law_call", 13)]) (N := N_law) (sc := defScope st_law) (by decide +kernel)) (fun _ _ _ _ _ => pg_name (i := 13) nd rfl (Or.inl rfl)) (fun _ _ _ _ _ => pts_nil) (fun pins σ s H C cl fp I0 hf => LamY.pe_fncB (k := 8) (TT := TTrsd K L) (Ok := LamY.LamOk _ 8) I0 hf T.d__law_raised sc_wraised rfl (Or.inl rfl) (fun _ => rsd_gives T (hr.mono (by decide))) (hr.mono (by decide)) (fun _ h => h) (pa_cons (pv 13) pa_nil) rfl)) (pe_op op_rep (pe_lst (pa_cons (pe_tup (pa_cons pe_str (pa_cons pe_str pa_nil))) pa_nil)) pe_int) (nomark _)) (pss_one (ps_ret pe_bl)) pss_nil))))
       (pss_cons (ps_for PassesOwn.never rfl (pi_list (pe_lst (pa_cons pe_non (pa_cons (pe_tup (pa_cons pe_int pa_nil)) (pa_cons (pe_lst (pa_cons pe_int (pa_cons pe_int pa_nil))) (pa_cons (pe_lst (pa_cons pe_int (pa_cons pe_int pa_nil))) (pa_cons (pe_lst (pa_cons pe_int pa_nil)) (pa_cons (pe_lst (pa_cons (pe_un un_neg pe_int) pa_nil)) (pa_cons (pe_lst (pa_cons pe_bl pa_nil)) (pa_cons (pe_lst (pa_cons pe_str pa_nil)) (pa_cons (pe_lst (pa_cons pe_non pa_nil)) (pa_cons pe_dnewK (pa_cons pe_int (pa_cons (pe_lst (pa_cons (pe_lst pa_nil) pa_nil)) (pa_cons (pe_lst (pa_cons pe_bl pa_nil)) pa_nil))))))))))))))) (pg_name (i := 11) nd rfl (Or.inr rfl)) (pss_cons (ps_set (i := 4) nd rfl (Or.inl rfl) (pe_lst (pa_cons (LamY.pe_lamL0 (k := 8) (T := LT L) (c := L.k_law) (P := L.t_law) B.b_law rfl (lt_mem_law T) (lt_one_law T) (LamY.lamS_by (N := N_law) (sc := defScope st_law) (by decide +kernel)) rfl (fun _ _ _ _ _ _ => rfl) (fun A outer s H E f c2 hr => by exact (pe_cX (EX.ok_longestfailure (P := P) (w := w) (base := base) T) (hr.mono (by decide)) rfl (fun σ => passAt (takes_of rfl rfl rfl rfl) σ) (pa_cons (pv 12) (pa_cons (pv 11) pa_nil))))) (pa_cons (LamY.pe_lamL1 (k := 8) (T := LT L) (c := L.k_law) (P := L.t_law) (i := 0) (a := "_law_of") B.b_law rfl (lt_mem_law T) (lt_one_law T) (LamY.lamS_by (N := N_law) (sc := defScope st_law) (by decide +kernel)) rfl rfl pe_int rfl (fun _ _ _ _ _ _ _ _ _ _ _ h1 h2 => .of_defaults rfl h1 h2 rfl rfl) (fun A outer s H E f c2 hr => by exact (pe_cX (EX.ok_firstopening (P := P) (w := w) (base := base) T) (hr.mono (by decide)) rfl (fun σ => passAt (takes_of rfl rfl rfl rfl) σ) (pa_cons (pv 12) (pa_cons (pv 11) pa_nil))))) pa_nil))))
       (pss_one (ps_if (pt_cmpR (op_neD hr.units) (LcK.pe_lcK (own := [("_law_call", 13)]) (g := gName 13) (tt := tYes) rfl nd (pi_list (pv 4)) (blkOk_by (own := [("_law_call", 13)]) (N := N_law) (sc := defScope st_law) (by decide +kernel)) (fun _ _ _ _ _ => pg_name (i := 13) nd rfl (Or.inl rfl)) (fun _ _ _ _ _ => pts_nil) (fun pins σ s H C cl fp I0 hf => LamY.pe_fncB (k := 8) (TT := TTrsd K L) (Ok := LamY.LamOk _ 8) I0 hf T.d__law_raised sc_wraised rfl (Or.inl rfl) (fun _ => rsd_gives T (hr.mono (by decide))) (hr.mono (by decide)) (fun _ h => h) (pa_cons (pv 13) pa_nil) rfl)) (pe_op op_rep (pe_lst (pa_cons (pe_tup (pa_cons pe_str (pa_cons pe_str pa_nil))) pa_nil)) pe_int) (nomark _)) (pss_one (ps_ret pe_bl)) pss_nil))))
       (pss_cons (ps_set (i := 5) nd rfl (Or.inr rfl) (pe_lst (pa_cons (pe_mkRoutes T (hr.mono (by decide)) rfl (pa_cons (pe_lst (pa_cons (pe_tup (pa_cons pe_int (pa_cons pe_int (pa_cons pe_int pa_nil)))) pa_nil)) (pa_cons (pe_lst (pa_cons (pe_tup (pa_cons (pe_lst pa_nil) (pa_cons (pe_lst (pa_cons (pe_tup (pa_cons pe_int (pa_cons pe_int pa_nil))) pa_nil)) pa_nil))) (pa_cons (pe_tup (pa_cons (pe_lst pa_nil) (pa_cons (pe_lst pa_nil) pa_nil))) pa_nil))) (pa_cons (pe_lst (pa_cons pe_int (pa_cons pe_int (pa_cons pe_int pa_nil)))) (pa_cons pe_int pa_nil))))) pa_nil)))
       (pss_cons (ps_expr (pe_bm PySem.F.plainAttrs_list PySem.F.slot_list_append PySem.F.type_list_append mt_append (pv 5) (pa_cons (pe_mkRoutes T (hr.mono (by decide)) rfl (pa_cons (pe_lst (pa_cons (pe_tup (pa_cons pe_int (pa_cons pe_int (pa_cons pe_int pa_nil)))) pa_nil)) (pa_cons (pe_lst (pa_cons (pe_tup (pa_cons (pe_lst pa_nil) (pa_cons (pe_lst (pa_cons (pe_tup (pa_cons pe_int (pa_cons pe_int pa_nil))) pa_nil)) pa_nil))) (pa_cons (pe_tup (pa_cons (pe_lst pa_nil) (pa_cons (pe_lst pa_nil) pa_nil))) pa_nil))) (pa_cons (pe_lst (pa_cons pe_int (pa_cons pe_int (pa_cons pe_int pa_nil)))) (pa_cons pe_int pa_nil))))) pa_nil)))
       (pss_cons (ps_set (i := 5) nd rfl (Or.inr rfl) (pe_op op_cat (pv 5) (pe_lst (pa_cons (pe_mkRoutes T (hr.mono (by decide)) rfl (pa_cons (pe_lst (pa_cons (pe_tup (pa_cons pe_int (pa_cons pe_int (pa_cons pe_int pa_nil)))) pa_nil)) (pa_cons (pe_lst (pa_cons (pe_tup (pa_cons (pe_lst pa_nil) (pa_cons (pe_lst (pa_cons (pe_tup (pa_cons pe_int (pa_cons pe_int pa_nil))) pa_nil)) pa_nil))) (pa_cons (pe_tup (pa_cons (pe_lst pa_nil) (pa_cons (pe_lst pa_nil) pa_nil))) pa_nil))) (pa_cons (pe_lst (pa_cons pe_int (pa_cons pe_int (pa_cons pe_int pa_nil)))) (pa_cons pe_int pa_nil))))) pa_nil))))
       (pss_cons (ps_set (i := 5) nd rfl (Or.inr rfl) (pe_op op_cat (pv 5) (pe_lst (pa_cons (pe_mkRoutes T (hr.mono (by decide)) rfl (pa_cons (pe_lst (pa_cons (pe_tup (pa_cons pe_int (pa_cons pe_int (pa_cons pe_int pa_nil)))) pa_nil)) (pa_cons (pe_lst (pa_cons (pe_tup (pa_cons (pe_lst pa_nil) (pa_cons (pe_lst (pa_cons (pe_tup (pa_cons pe_int (pa_cons pe_int pa_nil))) pa_nil)) pa_nil))) (pa_cons (pe_tup (pa_cons (pe_lst (pa_cons (pe_tup (pa_cons pe_int (pa_cons pe_int (pa_cons pe_int pa_nil)))) pa_nil)) (pa_cons (pe_lst pa_nil) pa_nil))) pa_nil))) (pa_cons (pe_lst (pa_cons pe_int (pa_cons pe_int (pa_cons pe_int pa_nil)))) (pa_cons pe_int pa_nil))))) pa_nil))))
       (pss_cons (ps_for PassesOwn.never rfl (pi_list (pe_lst (pa_cons (pe_tup (pa_cons (pe_lst (pa_cons pe_int (pa_cons pe_int (pa_cons pe_int pa_nil)))) (pa_cons pe_int pa_nil))) (pa_cons (pe_tup (pa_cons (pe_lst (pa_cons pe_int (pa_cons pe_int (pa_cons pe_int pa_nil)))) (pa_cons pe_int pa_nil))) (pa_cons (pe_tup (pa_cons (pe_lst (pa_cons pe_int (pa_cons pe_int (pa_cons pe_int pa_nil)))) (pa_cons pe_int pa_nil))) pa_nil))))) (pg_tup rfl (pgs_cons (pg_name (i := 6) nd rfl (Or.inl rfl)) (pgs_cons (pg_name (i := 7) nd rfl (Or.inl rfl)) pgs_nil))) (pss_one (ps_expr (pe_bm PySem.F.plainAttrs_list PySem.F.slot_list_append PySem.F.type_list_append mt_append (pv 5) (pa_cons (pe_mkRoutes T (hr.mono (by decide)) rfl (pa_cons (pe_lst (pa_cons (pe_tup (pa_cons pe_int (pa_cons pe_int (pa_cons pe_int pa_nil)))) pa_nil)) (pa_cons (pe_lst (pa_cons (pe_tup (pa_cons (pe_lst pa_nil) (pa_cons (pe_lst (pa_cons (pe_tup (pa_cons pe_int (pa_cons pe_int pa_nil))) pa_nil)) pa_nil))) (pa_cons (pe_tup (pa_cons (pe_lst pa_nil) (pa_cons (pe_lst pa_nil) pa_nil))) pa_nil))) (pa_cons (pv 6) (pa_cons (pv 7) pa_nil))))) pa_nil)))))
       (pss_one (ps_for PassesOwn.never rfl (pi_range1 rfl T.b_range (pa_cons (pe_callB call_len_seq (by rfl) T.b_len PySem.boot_len (pa_cons (pv 5) pa_nil)) pa_nil)) (pg_name (i := 8) nd rfl (Or.inr rfl)) (pss_cons (ps_if (pt_cmpR (op_neD hr.units) (pe_lc (own := [("_law_j", 14)]) (g := gName 14) rfl nd (pi_range1 rfl T.b_range (pa_cons (pv 8) pa_nil)) (blkOk_by (own := [("_law_j", 14)]) (N := N_law) (sc := defScope st_law) (by decide +kernel)) (fun _ _ _ _ _ => pg_name (i := 14) nd rfl (Or.inl rfl)) (fun _ _ _ _ _ => pts_one (PW.pt (pw_or (pt_cmpR (G_Routeseq.op_eq (hr.mono (by decide))) (pe_ix (r := rIxL K) ix_list (pv 5) (pv 14) (fun _ _ => rfl)) (pe_ix (r := rIxL K) ix_list (pv 5) (pv 8) (fun _ _ => rfl)) (nomark _)) (pw_or1 (pt_not (pt_cmpR (G_Routeseq.op_ne (hr.mono (by decide)) T.cf_Routes.om T.cf_Routes.ne) (pe_ix (r := rIxL K) ix_list (pv 5) (pv 8) (fun _ _ => rfl)) (pe_ix (r := rIxL K) ix_list (pv 5) (pv 14) (fun _ _ => rfl)) (nomark _))))))) (fun _ _ _ _ _ => pe_int)) (pe_lst pa_nil) (nomark _)) (pss_one (ps_ret pe_bl)) pss_nil)
       (pss_one (ps_if (pt_cmpR (G_Routeseq.op_eq (hr.mono (by decide))) (pe_ix (r := rIxL K) ix_list (pv 5) (pv 8) (fun _ _ => rfl)) (G_Routesparts.p_m0 T.cf_Routes.cl (hr.mono (by decide)) (pe_ix (r := rIxL K) ix_list (pv 5) (pv 8) (fun _ _ => rfl))) (nomark _)) (pss_one (ps_ret pe_bl)) pss_nil)))))))))))))))))
       (pss_cons (ps_set (i := 9) nd rfl (Or.inl rfl) (pe_mkRoutes T (hr.mono (by decide)) rfl (pa_cons (pe_lst pa_nil) (pa_cons (pe_lst (pa_cons (pe_tup (pa_cons (pe_lst pa_nil) (pa_cons (pe_lst pa_nil) pa_nil))) pa_nil)) (pa_cons (pe_lst (pa_cons pe_int pa_nil)) (pa_cons pe_int pa_nil))))))
       (pss_cons (ps_if (PW.pt (pw_or (pt_cmpR (op_neD hr.units) (pe_c G_served (hr.mono (by decide)) rfl (pa_cons (pv 9) (pa_cons pe_int pa_nil))) (pe_lst (pa_cons (pe_tup (pa_cons pe_int (pa_cons pe_int pa_nil))) pa_nil)) (nomark _)) (pw_or (pt_cmpR (op_neD hr.units) (pe_c G_served (hr.mono (by decide)) rfl (pa_cons (pv 9) (pa_cons pe_int pa_nil))) (pe_lst (pa_cons (pe_tup (pa_cons pe_int (pa_cons pe_int pa_nil))) pa_nil)) (nomark _)) (pw_or1 (pt_cmpR (op_neD hr.units) (pe_c G_served (hr.mono (by decide)) rfl (pa_cons (pv 9) (pa_cons pe_int pa_nil))) (pe_lst (pa_cons (pe_tup (pa_cons pe_int (pa_cons pe_int pa_nil))) pa_nil)) (nomark _)))))) (pss_one (ps_ret pe_bl)) pss_nil)
       (pss_one (ps_ret (pe_and (pe_cmpR (op_eqD hr.units) (pe_c G_served (hr.mono (by decide)) rfl (pa_cons (pv 9) (pa_cons pe_int pa_nil))) (pe_lst (pa_cons (pe_tup (pa_cons pe_int (pa_cons pe_int pa_nil))) pa_nil)) (nomark _)) (pe_one (pe_cmpR (op_eqD hr.units) (pe_c G_commonopenings (hr.mono (by decide)) rfl (pa_cons (pv 9) (pa_cons pe_int pa_nil))) (pe_lst pa_nil) (nomark _))))))))), ?_⟩
    have e20 : (10 : Int) ^ (20 : Int).toNat = 100000000000000000000 := by decide +kernel
    have cp : CPow 10 20 := ⟨by decide, by decide, by decide⟩
    refine ⟨_, rfl, a, ns, 0, rfl, hS, Int.le_refl _, fun z => ⟨(by show 1 ≤ sizeLine; decide), fun l1 hl1 => ?_⟩⟩
    have z1 : Same H (upd H l1 (.lst [.int z])) := Same.upd hl1
    refine ⟨_, rfl, 1, rfl, 6, rfl, a, ns.map V.int, rfl, z1.seq hS, fun l2 hl2 => ?_⟩
    refine ⟨l1, l2, _, _, rfl, rfl, (Same.upd hl2) _ _ upd_same, upd_same, small2 (by have := cutV_length (ns.map V.int) (some 1) (some 6); rw [List.length_map] at this; show 1 + _ ≤ 100000; omega), fun l3 hl3 => ?_⟩
    have items : ∀ v ∈ [V.int z] ++ cutV (ns.map V.int) (some 1) (some 6), ∃ c, v = .int c := fun v hv => by
      rcases List.mem_append.mp hv with hv | hv
      · exact ⟨z, by simpa using hv⟩
      · obtain ⟨c, _, e⟩ := List.mem_map.mp (List.mem_of_mem_drop (List.mem_of_mem_take hv))
        exact ⟨c, e.symm⟩
    have sI : Same H (upd (upd (upd H l1 (.lst [.int z])) l2 (.lst (cutV (ns.map V.int) (some 1) (some 6)))) l3 (.lst ([.int z] ++ cutV (ns.map V.int) (some 1) (some 6)))) := (z1.trans (Same.upd hl2)).trans (Same.upd hl3)
    generalize hit : [V.int z] ++ cutV (ns.map V.int) (some 1) (some 6) = its at items sI ⊢
    refine ⟨l3, rfl, ⟨_, SqL.of upd_same⟩, ?_⟩
    refine for_list (K := K) (a := l3) (xs := its) (fun i σ H2 => ∃ v1 v2 v3 v4 v5 v6 v7 v8 v9 v10 v11 v12 : Option V, σ = [some (.ref a), v1, v2, v3, v4, v5, v6, v7, v8, v9, v10, v11, v12, none, none] ∧ H2 l3 = some (.lst its) ∧ LamX.Tabs (LT L) H2)
      ⟨none, none, none, none, none, none, none, none, none, none, none, none, rfl, by rw [upd_same], Tabs.nl tabs (NL.of sI)⟩ (fun i σ H2 _ ⟨_, _, _, _, _, _, _, _, _, _, _, _, _, e, _⟩ => SqL.of e) ?_ ?_
    rotate_left
    · rintro σ H2 ⟨_, v2, v3, v4, v5, v6, v7, v8, v9, v10, v11, v12, rfl, hL, tabs⟩
      refine ⟨(by show 0 ≤ sizeLine; decide), fun ua1 un1 => ?_⟩
      have uo1 : ua1 ≠ l3 := fun z => by rw [z, hL] at un1; cases un1
      have us1 := Same.upd (o := .lst []) un1
      have ue1 : upd H2 ua1 (.lst []) ua1 = some (.lst []) := upd_same
      have ur1 := us1 _ _ hL
      generalize upd H2 ua1 (.lst []) = uH1 at us1 ue1 ur1 ⊢
      refine ⟨(by show 0 ≤ sizeLine; decide), fun ua2 un2 => ?_⟩
      have uo2 : ua2 ≠ l3 := fun z => by rw [z, ur1] at un2; cases un2
      have us2 := Same.upd (o := .lst []) un2
      have ue2 : upd uH1 ua2 (.lst []) ua2 = some (.lst []) := upd_same
      have ur2 := us2 _ _ ur1
      generalize upd uH1 ua2 (.lst []) = uH2 at us2 ue2 ur2 ⊢
      refine ⟨(by show 0 ≤ sizeLine; decide), fun ua3 un3 => ?_⟩
      have uo3 : ua3 ≠ l3 := fun z => by rw [z, ur2] at un3; cases un3
      have us3 := Same.upd (o := .lst []) un3
      have ue3 : upd uH2 ua3 (.lst []) ua3 = some (.lst []) := upd_same
      have ur3 := us3 _ _ ur2
      generalize upd uH2 ua3 (.lst []) = uH3 at us3 ue3 ur3 ⊢
      refine ⟨(by show 2 ≤ sizeLine; decide), fun ua4 un4 => ?_⟩
      have uo4 : ua4 ≠ l3 := fun z => by rw [z, ur3] at un4; cases un4
      have us4 := Same.upd (o := .tup [.ref ua2, .ref ua3]) un4
      have ue4 : upd uH3 ua4 (.tup [.ref ua2, .ref ua3]) ua4 = some (.tup [.ref ua2, .ref ua3]) := upd_same
      have ur4 := us4 _ _ ur3
      generalize upd uH3 ua4 (.tup [.ref ua2, .ref ua3]) = uH4 at us4 ue4 ur4 ⊢
      refine ⟨(by show 1 ≤ sizeLine; decide), fun ua5 un5 => ?_⟩
      have uo5 : ua5 ≠ l3 := fun z => by rw [z, ur4] at un5; cases un5
      have us5 := Same.upd (o := .lst [.ref ua4]) un5
      have ue5 : upd uH4 ua5 (.lst [.ref ua4]) ua5 = some (.lst [.ref ua4]) := upd_same
      have ur5 := us5 _ _ ur4
      generalize upd uH4 ua5 (.lst [.ref ua4]) = uH5 at us5 ue5 ur5 ⊢
      refine ⟨(by show 1 ≤ sizeLine; decide), fun ua6 un6 => ?_⟩
      have uo6 : ua6 ≠ l3 := fun z => by rw [z, ur5] at un6; cases un6
      have us6 := Same.upd (o := .lst [.int 0]) un6
      have ue6 : upd uH5 ua6 (.lst [.int 0]) ua6 = some (.lst [.int 0]) := upd_same
      have ur6 := us6 _ _ ur5
      generalize upd uH5 ua6 (.lst [.int 0]) = uH6 at us6 ue6 ur6 ⊢
      have uS6 := Same.refl uH6
      have uS5 := us6.trans uS6
      have uS4 := us5.trans uS5
      have uS3 := us4.trans uS4
      have uS2 := us3.trans uS3
      have uS1 := us2.trans uS2
      have uS0 := us1.trans uS1
      have uE1 := uS1 _ _ ue1
      have uE2 := uS2 _ _ ue2
      have uE3 := uS3 _ _ ue3
      have uE4 := uS4 _ _ ue4
      have uE5 := uS5 _ _ ue5
      have uE6 := uS6 _ _ ue6
      refine routes_made (fr := []) (svs := [([], [])]) uE1 .nil uE5 (.cons ⟨_, _, _, _, _, rfl, uE4, uE2, .nil, uE3, .nil⟩ .nil) (pat := [0]) uE6 okWide fun rt H4 RV s4 n4 => ?_
      refine ⟨_, rfl, rt, [], [([], [])], [0], 3, 7, rfl, RV, by decide, fun l xs H5 hl ln h s5 n5 => ?_⟩
      obtain ⟨q, hl, hq⟩ := wide_ct hl ln h
      have RV := RV.nl (NL.of s5)
      refine ⟨(by show 2 ≤ sizeLine; decide), fun q6 m6 => ⟨(by show 1 ≤ sizeLine; decide), fun q7 m7 => ?_⟩⟩
      have S6 := Same.upd (o := .tup [.int 7, .int 0]) m6
      have S7 := Same.upd (o := .lst [.ref q6]) m7
      have h6 := S7 _ _ (upd_same (H := H5) (a := q6) (o := .tup [.int 7, .int 0]))
      have h7 := upd_same (H := upd H5 q6 (.tup [.int 7, .int 0])) (a := q7) (o := .lst [.ref q6])
      have S67 := S6.trans S7
      generalize upd (upd H5 q6 (.tup [.int 7, .int 0])) q7 (.lst [.ref q6]) = H7 at S67 h6 h7 ⊢
      clear S6 S7
      refine ⟨ctD 7, ctD 7, dpCt (S67 _ _ hl) (S67 _ _ hq), dpCt h7 h6, shCt _, shCt _, ?_⟩
      rw [eqCt]
      have RV := RV.nl (NL.of S67)
      clear S67 h6 h7 hl hq s5
      refine ⟨_, rfl, iteF ?_⟩
      refine ⟨_, rfl, rt, [], [([], [])], [0], 3, 10000, rfl, RV, by decide, fun l xs H5 hl ln h s5 n5 => ?_⟩
      obtain ⟨q, hl, hq⟩ := wide_ct hl ln h
      have RV := RV.nl (NL.of s5)
      refine ⟨(by show 2 ≤ sizeLine; decide), fun q6 m6 => ⟨(by show 1 ≤ sizeLine; decide), fun q7 m7 => ?_⟩⟩
      have S6 := Same.upd (o := .tup [.int 10000, .int 0]) m6
      have S7 := Same.upd (o := .lst [.ref q6]) m7
      have h6 := S7 _ _ (upd_same (H := H5) (a := q6) (o := .tup [.int 10000, .int 0]))
      have h7 := upd_same (H := upd H5 q6 (.tup [.int 10000, .int 0])) (a := q7) (o := .lst [.ref q6])
      have S67 := S6.trans S7
      generalize upd (upd H5 q6 (.tup [.int 10000, .int 0])) q7 (.lst [.ref q6]) = H7 at S67 h6 h7 ⊢
      clear S6 S7
      refine ⟨ctD 10000, ctD 10000, dpCt (S67 _ _ hl) (S67 _ _ hq), dpCt h7 h6, shCt _, shCt _, ?_⟩
      rw [eqCt]
      have RV := RV.nl (NL.of S67)
      clear S67 h6 h7 hl hq s5
      refine ⟨_, rfl, iteF ?_⟩
      refine ⟨_, rfl, rt, [], [([], [])], [0], 3, 7, rfl, RV, by decide, fun l xs H5 hl ln h s5 n5 => ?_⟩
      obtain ⟨q, hl, hq⟩ := wide_ct hl ln h
      have RV := RV.nl (NL.of s5)
      refine ⟨(by show 2 ≤ sizeLine; decide), fun q6 m6 => ⟨(by show 1 ≤ sizeLine; decide), fun q7 m7 => ?_⟩⟩
      have S6 := Same.upd (o := .tup [.int 7, .int 0]) m6
      have S7 := Same.upd (o := .lst [.ref q6]) m7
      have h6 := S7 _ _ (upd_same (H := H5) (a := q6) (o := .tup [.int 7, .int 0]))
      have h7 := upd_same (H := upd H5 q6 (.tup [.int 7, .int 0])) (a := q7) (o := .lst [.ref q6])
      have S67 := S6.trans S7
      generalize upd (upd H5 q6 (.tup [.int 7, .int 0])) q7 (.lst [.ref q6]) = H7 at S67 h6 h7 ⊢
      clear S6 S7
      refine ⟨ctD 7, ctD 7, dpCt (S67 _ _ hl) (S67 _ _ hq), dpCt h7 h6, shCt _, shCt _, ?_⟩
      rw [eqCt]
      have RV := RV.nl (NL.of S67)
      clear S67 h6 h7 hl hq s5
      refine ⟨_, rfl, iteF ?_⟩
      refine ⟨_, rfl, rt, [], [([], [])], [0], 3, 0, rfl, RV, by decide, fun l xs H5 hl ln h s5 n5 => ?_⟩
      obtain ⟨q, hl, hq⟩ := wide_ct hl ln h
      have RV := RV.nl (NL.of s5)
      refine ⟨(by show 2 ≤ sizeLine; decide), fun q6 m6 => ⟨(by show 1 ≤ sizeLine; decide), fun q7 m7 => ?_⟩⟩
      have S6 := Same.upd (o := .tup [.int 0, .int 0]) m6
      have S7 := Same.upd (o := .lst [.ref q6]) m7
      have h6 := S7 _ _ (upd_same (H := H5) (a := q6) (o := .tup [.int 0, .int 0]))
      have h7 := upd_same (H := upd H5 q6 (.tup [.int 0, .int 0])) (a := q7) (o := .lst [.ref q6])
      have S67 := S6.trans S7
      generalize upd (upd H5 q6 (.tup [.int 0, .int 0])) q7 (.lst [.ref q6]) = H7 at S67 h6 h7 ⊢
      clear S6 S7
      refine ⟨ctD 0, ctD 0, dpCt (S67 _ _ hl) (S67 _ _ hq), dpCt h7 h6, shCt _, shCt _, ?_⟩
      rw [eqCt]
      have RV := RV.nl (NL.of S67)
      clear S67 h6 h7 hl hq s5
      refine ⟨_, rfl, iteT ?_⟩
      refine ⟨_, rfl, rt, [], [([], [])], [0], 3, 0, rfl, RV, by decide, fun l xs H8 hl ho s8 n8 => ?_⟩
      rw [wide_ops] at ho
      cases ho
      refine ⟨(by show 0 ≤ sizeLine; decide), fun q9 m9 => ?_⟩
      have S9 := Same.upd (o := .lst []) m9
      refine ⟨nilD, nilD, .lst (SqL.of (S9 _ _ hl)) .nil, .lst (SqL.of upd_same) .nil, shNil, shNil, ?_⟩
      rw [eqNil]
      exact k _
    rintro i v σ H0 hi ⟨v1, v2, v3, v4, v5, v6, v7, v8, v9, v10, v11, v12, rfl, hL, tabs⟩
    obtain ⟨cc, rfl⟩ := items v (List.mem_of_getElem? hi)
    refine ⟨_, rfl, cc, rfl, fun s H1 hs0 y1 src1 => ?_⟩
    have nls : l3 ≠ s := ne_of_none hL hs0
    have hL := y1 _ _ hL
    have tabs := Tabs.nl tabs (NL.of y1)
    refine ⟨_, rfl, s, 0, rfl, src1, by decide, tabs, fun H2 src2 k2 tabs => ⟨_, rfl, iteF ?_⟩⟩
    have hL : H2 l3 = some (.lst its) := Dl.sub s H2 _ _ (k2 _ _ (Dl.at hL nls) fun _ z => nomatch z) fun _ z => nomatch z
    obtain ⟨ys2, hs2⟩ := src2.has
    refine ⟨_, rfl, (by show 3 ≤ sizeLine; decide), fun ua1 un1 => ?_⟩
    have uo1 : ua1 ≠ s := fun z => by rw [z, hs2] at un1; cases un1
    have us1 := Same.upd (o := .tup [.int 2, .int 5, .int 1]) un1
    have ue1 : upd H2 ua1 (.tup [.int 2, .int 5, .int 1]) ua1 = some (.tup [.int 2, .int 5, .int 1]) := upd_same
    have ur1 := us1 _ _ hs2
    generalize upd H2 ua1 (.tup [.int 2, .int 5, .int 1]) = uH1 at us1 ue1 ur1 ⊢
    refine ⟨(by show 1 ≤ sizeLine; decide), fun ua2 un2 => ?_⟩
    have uo2 : ua2 ≠ s := fun z => by rw [z, ur1] at un2; cases un2
    have us2 := Same.upd (o := .lst [.ref ua1]) un2
    have ue2 : upd uH1 ua2 (.lst [.ref ua1]) ua2 = some (.lst [.ref ua1]) := upd_same
    have ur2 := us2 _ _ ur1
    generalize upd uH1 ua2 (.lst [.ref ua1]) = uH2 at us2 ue2 ur2 ⊢
    refine ⟨(by show 0 ≤ sizeLine; decide), fun ua3 un3 => ?_⟩
    have uo3 : ua3 ≠ s := fun z => by rw [z, ur2] at un3; cases un3
    have us3 := Same.upd (o := .lst []) un3
    have ue3 : upd uH2 ua3 (.lst []) ua3 = some (.lst []) := upd_same
    have ur3 := us3 _ _ ur2
    generalize upd uH2 ua3 (.lst []) = uH3 at us3 ue3 ur3 ⊢
    refine ⟨(by show 2 ≤ sizeLine; decide), fun ua4 un4 => ?_⟩
    have uo4 : ua4 ≠ s := fun z => by rw [z, ur3] at un4; cases un4
    have us4 := Same.upd (o := .lst [(.ref ua2 : V), (.ref ua3 : V)]) un4
    have ue4 : upd uH3 ua4 (.lst [(.ref ua2 : V), (.ref ua3 : V)]) ua4 = some (.lst [(.ref ua2 : V), (.ref ua3 : V)]) := upd_same
    have ur4 := us4 _ _ ur3
    generalize upd uH3 ua4 (.lst [(.ref ua2 : V), (.ref ua3 : V)]) = uH4 at us4 ue4 ur4 ⊢
    have uS4 := Same.refl uH4
    have uS3 := us4.trans uS4
    have uS2 := us3.trans uS3
    have uS1 := us2.trans uS2
    have uS0 := us1.trans uS1
    have uE1 := uS1 _ _ ue1
    have uE2 := uS2 _ _ ue2
    have uE3 := uS3 _ _ ue3
    have uE4 := uS4 _ _ ue4
    refine ⟨s, ua4, _, 5505, rfl, uo4.symm, uE4, Nat.zero_lt_succ _, Nat.le_of_ble_eq_true rfl, src2.same uS0, by omega, fun com H3 hcom src3 kA => ?_⟩
    have hL := kA _ _ nls (uS0 _ _ hL)
    have tabs := Tabs.nl (Tabs.nl tabs (NL.of uS0)) (Kp.nl kA ur4)
    obtain ⟨lc, xc, fr, rfl, hlc, hbc, okc, lnc⟩ : ∃ lc xc fr, com = .ref lc ∧ H3 lc = some (.lst xc) ∧ Brs H3 xc fr ∧ (∀ t ∈ fr, OkT t) ∧ fr.length ≤ 12 := by
      simp only [List.mem_cons, List.mem_nil_iff, or_false] at hcom
      rcases hcom with rfl | rfl
      · exact ⟨_, _, [(2, 5, 1)], rfl, kA _ _ uo2 uE2, .cons ⟨_, rfl, kA _ _ uo1 uE1⟩ .nil, fun t h => by rw [List.mem_singleton.mp h]; exact ⟨by decide, by decide, by decide, by decide, by decide, by decide⟩, by decide⟩
      · exact ⟨_, _, [], rfl, kA _ _ uo3 uE3, .nil, (fun t h => nomatch h), by decide⟩
    refine ⟨_, rfl, (by show 0 ≤ sizeLine; decide), fun va1 vn1 => ?_⟩
    have vo1 : va1 ≠ l3 := fun z => by rw [z, hL] at vn1; cases vn1
    have vs1 := Same.upd (o := .lst []) vn1
    have ve1 : upd H3 va1 (.lst []) va1 = some (.lst []) := upd_same
    have vr1 := vs1 _ _ hL
    generalize upd H3 va1 (.lst []) = vH1 at vs1 ve1 vr1 ⊢
    refine ⟨(by show 2 ≤ sizeLine; decide), fun va2 vn2 => ?_⟩
    have vo2 : va2 ≠ l3 := fun z => by rw [z, vr1] at vn2; cases vn2
    have vs2 := Same.upd (o := .tup [.int 0, .int 100]) vn2
    have ve2 : upd vH1 va2 (.tup [.int 0, .int 100]) va2 = some (.tup [.int 0, .int 100]) := upd_same
    have vr2 := vs2 _ _ vr1
    generalize upd vH1 va2 (.tup [.int 0, .int 100]) = vH2 at vs2 ve2 vr2 ⊢
    refine ⟨(by show 1 ≤ sizeLine; decide), fun va3 vn3 => ?_⟩
    have vo3 : va3 ≠ l3 := fun z => by rw [z, vr2] at vn3; cases vn3
    have vs3 := Same.upd (o := .lst [.ref va2]) vn3
    have ve3 : upd vH2 va3 (.lst [.ref va2]) va3 = some (.lst [.ref va2]) := upd_same
    have vr3 := vs3 _ _ vr2
    generalize upd vH2 va3 (.lst [.ref va2]) = vH3 at vs3 ve3 vr3 ⊢
    refine ⟨(by show 2 ≤ sizeLine; decide), fun va4 vn4 => ?_⟩
    have vo4 : va4 ≠ l3 := fun z => by rw [z, vr3] at vn4; cases vn4
    have vs4 := Same.upd (o := .tup [.ref va1, .ref va3]) vn4
    have ve4 : upd vH3 va4 (.tup [.ref va1, .ref va3]) va4 = some (.tup [.ref va1, .ref va3]) := upd_same
    have vr4 := vs4 _ _ vr3
    generalize upd vH3 va4 (.tup [.ref va1, .ref va3]) = vH4 at vs4 ve4 vr4 ⊢
    refine ⟨(by show 0 ≤ sizeLine; decide), fun va5 vn5 => ?_⟩
    have vo5 : va5 ≠ l3 := fun z => by rw [z, vr4] at vn5; cases vn5
    have vs5 := Same.upd (o := .lst []) vn5
    have ve5 : upd vH4 va5 (.lst []) va5 = some (.lst []) := upd_same
    have vr5 := vs5 _ _ vr4
    generalize upd vH4 va5 (.lst []) = vH5 at vs5 ve5 vr5 ⊢
    refine ⟨(by show 0 ≤ sizeLine; decide), fun va6 vn6 => ?_⟩
    have vo6 : va6 ≠ l3 := fun z => by rw [z, vr5] at vn6; cases vn6
    have vs6 := Same.upd (o := .lst []) vn6
    have ve6 : upd vH5 va6 (.lst []) va6 = some (.lst []) := upd_same
    have vr6 := vs6 _ _ vr5
    generalize upd vH5 va6 (.lst []) = vH6 at vs6 ve6 vr6 ⊢
    refine ⟨(by show 2 ≤ sizeLine; decide), fun va7 vn7 => ?_⟩
    have vo7 : va7 ≠ l3 := fun z => by rw [z, vr6] at vn7; cases vn7
    have vs7 := Same.upd (o := .tup [.ref va5, .ref va6]) vn7
    have ve7 : upd vH6 va7 (.tup [.ref va5, .ref va6]) va7 = some (.tup [.ref va5, .ref va6]) := upd_same
    have vr7 := vs7 _ _ vr6
    generalize upd vH6 va7 (.tup [.ref va5, .ref va6]) = vH7 at vs7 ve7 vr7 ⊢
    refine ⟨(by show 2 ≤ sizeLine; decide), fun va8 vn8 => ?_⟩
    have vo8 : va8 ≠ l3 := fun z => by rw [z, vr7] at vn8; cases vn8
    have vs8 := Same.upd (o := .lst [.ref va4, .ref va7]) vn8
    have ve8 : upd vH7 va8 (.lst [.ref va4, .ref va7]) va8 = some (.lst [.ref va4, .ref va7]) := upd_same
    have vr8 := vs8 _ _ vr7
    generalize upd vH7 va8 (.lst [.ref va4, .ref va7]) = vH8 at vs8 ve8 vr8 ⊢
    refine ⟨(by show 3 ≤ sizeLine; decide), fun va9 vn9 => ?_⟩
    have vo9 : va9 ≠ l3 := fun z => by rw [z, vr8] at vn9; cases vn9
    have vs9 := Same.upd (o := .lst [.int 0, .int 0, .int 1]) vn9
    have ve9 : upd vH8 va9 (.lst [.int 0, .int 0, .int 1]) va9 = some (.lst [.int 0, .int 0, .int 1]) := upd_same
    have vr9 := vs9 _ _ vr8
    generalize upd vH8 va9 (.lst [.int 0, .int 0, .int 1]) = vH9 at vs9 ve9 vr9 ⊢
    have vS9 := Same.refl vH9
    have vS8 := vs9.trans vS9
    have vS7 := vs8.trans vS8
    have vS6 := vs7.trans vS7
    have vS5 := vs6.trans vS6
    have vS4 := vs5.trans vS5
    have vS3 := vs4.trans vS4
    have vS2 := vs3.trans vS3
    have vS1 := vs2.trans vS2
    have vS0 := vs1.trans vS1
    have vE1 := vS1 _ _ ve1
    have vE2 := vS2 _ _ ve2
    have vE3 := vS3 _ _ ve3
    have vE4 := vS4 _ _ ve4
    have vE5 := vS5 _ _ ve5
    have vE6 := vS6 _ _ ve6
    have vE7 := vS7 _ _ ve7
    have vE8 := vS8 _ _ ve8
    have vE9 := vS9 _ _ ve9
    refine routes_made (vS0 _ _ hlc) (hbc.nl (NL.of vS0)) vE8 (.cons ⟨_, _, _, _, _, rfl, vE4, vE1, .nil, vE3, .cons ⟨_, rfl, vE2⟩ .nil⟩ (.cons ⟨_, _, _, _, _, rfl, vE7, vE5, .nil, vE6, .nil⟩ .nil)) (pat := [0, 0, 1]) vE9 (okR59' (e := 100) (b := []) (by decide) (by decide) (fun t h => nomatch h) (by decide) (by decide) (by decide) (by decide) (by decide) (by decide) fr okc lnc) fun rt H4 RV s4 n4 => ?_
    have hL := s4 _ _ (vS0 _ _ hL)
    have tabs := Tabs.nl tabs (NL.of (vS0.trans s4))
    refine ⟨1, rfl, (by show 1 ≤ sizeLine; decide), fun pa1 pn1 => ?_⟩
    have po1 : pa1 ≠ l3 := fun z => by rw [z, hL] at pn1; cases pn1
    have ps1 := Same.upd (o := .lst [.int 5]) pn1
    have pe1 : upd H4 pa1 (.lst [.int 5]) pa1 = some (.lst [.int 5]) := upd_same
    have pr1 := ps1 _ _ hL
    generalize upd H4 pa1 (.lst [.int 5]) = pH1 at ps1 pe1 pr1 ⊢
    refine fun pa2 pn2 => ?_
    have po2 : pa2 ≠ l3 := fun z => by rw [z, pr1] at pn2; cases pn2
    have ps2 := Same.upd (o := .dK []) pn2
    have pe2 : upd pH1 pa2 (.dK []) pa2 = some (.dK []) := upd_same
    have pr2 := ps2 _ _ pr1
    generalize upd pH1 pa2 (.dK []) = pH2 at ps2 pe2 pr2 ⊢
    refine ⟨_, _, rfl, rfl, cp, (by show 8 ≤ sizeLine; decide), fun pa3 pn3 => ?_⟩
    have po3 : pa3 ≠ l3 := fun z => by rw [z, pr2] at pn3; cases pn3
    have ps3 := Same.upd (o := .lst [(.non : V), (.int (-1) : V), (.bl true : V), (.str "5" : V), (.ref pa1 : V), (.ref pa2 : V), (.int 10001 : V), (.int ((10 : Int) ^ (20 : Int).toNat) : V)]) pn3
    have pe3 : upd pH2 pa3 (.lst [(.non : V), (.int (-1) : V), (.bl true : V), (.str "5" : V), (.ref pa1 : V), (.ref pa2 : V), (.int 10001 : V), (.int ((10 : Int) ^ (20 : Int).toNat) : V)]) pa3 = some (.lst [(.non : V), (.int (-1) : V), (.bl true : V), (.str "5" : V), (.ref pa1 : V), (.ref pa2 : V), (.int 10001 : V), (.int ((10 : Int) ^ (20 : Int).toNat) : V)]) := upd_same
    have pr3 := ps3 _ _ pr2
    generalize upd pH2 pa3 (.lst [(.non : V), (.int (-1) : V), (.bl true : V), (.str "5" : V), (.ref pa1 : V), (.ref pa2 : V), (.int 10001 : V), (.int ((10 : Int) ^ (20 : Int).toNat) : V)]) = pH3 at ps3 pe3 pr3 ⊢
    have pS3 := Same.refl pH3
    have pS2 := ps3.trans pS3
    have pS1 := ps2.trans pS2
    have pS0 := ps1.trans pS1
    have pE1 := pS1 _ _ pe1
    have pE2 := pS2 _ _ pe2
    have pE3 := pS3 _ _ pe3
    have hL := pS0 _ _ hL
    have tabs := Tabs.nl tabs (NL.of pS0)
    have RV := RV.nl (NL.of pS0)
    have hbl := pE3
    have g1 : ∀ x ∈ [(.non : V), (.int (-1) : V), (.bl true : V), (.str "5" : V), (.ref pa1 : V), (.ref pa2 : V), (.int 10001 : V), (.int ((10 : Int) ^ (20 : Int).toNat) : V)], CtBad pH3 x := fun x hx => by
      simp only [List.mem_cons, List.mem_nil_iff, or_false] at hx
      rcases hx with rfl | rfl | rfl | rfl | rfl | rfl | rfl | rfl
      · exact ⟨_, .non, by decide⟩
      · exact ⟨_, (.int _), by decide⟩
      · exact ⟨_, (.bl _), by decide⟩
      · exact ⟨_, (.str _), by decide⟩
      · exact ⟨_, (.lst pE1), rfl⟩
      · exact ⟨_, (.dK pE2), rfl⟩
      · exact ⟨_, (.int _), by decide⟩
      · exact ⟨_, (.int _), by rw [e20]; decide⟩
    generalize [(.non : V), (.int (-1) : V), (.bl true : V), (.str "5" : V), (.ref pa1 : V), (.ref pa2 : V), (.int 10001 : V), (.int ((10 : Int) ^ (20 : Int).toNat) : V)] = Lg1 at hbl g1
    refine ⟨pa3, rfl, ⟨_, SqL.of hbl⟩, for_list (K := K) (a := pa3) (xs := Lg1) (fun i σ Hx => ∃ v4 vv : Option V, σ = [some (.ref a), some (.int cc), some (.ref s), some (.ref lc), v4, v5, v6, v7, v8, v9, vv, v11, some (.ref rt), none, none] ∧ LamX.ExtN pH3 Hx ∧ LamX.Tabs (LT L) Hx) ⟨_, _, rfl, LamX.ExtN.refl _, tabs⟩ (fun i σ Hx _ ⟨_, _, _, ex, _⟩ => SqL.of (ExtN.lst ex hbl)) ?_ ?_⟩
    · rintro i x σ Hx hxi ⟨v4, vv, rfl, ex, tx⟩
      have bad := (g1 x (List.mem_of_getElem? hxi)).ext ex
      have RV := RV.ext ex
      refine ⟨tx, fun K1 f1 c1 H1 ok1 t1 ex1 tx1 kp1 => ⟨tx1, fun K2 f2 c2 H2 ok2 t2 ex2 tx2 kp2 => ⟨(by show 2 ≤ sizeLine; decide), fun la nla => ?_⟩⟩⟩
      have Sl := Same.upd (o := .lst [.ref f1, .ref f2]) nla
      have el := upd_same (H := H2) (a := la) (o := .lst [.ref f1, .ref f2])
      have tl := Tabs.nl tx2 (NL.of Sl)
      generalize upd H2 la (.lst [.ref f1, .ref f2]) = H2' at Sl el tl ⊢
      have ex12 := ex2.trans (LamX.ExtN.of Sl)
      have exA := ex1.trans ex12
      have badA := bad.ext exA
      have RVA := RV.ext exA
      refine ⟨_, rfl, la, rfl, ⟨_, SqL.of el⟩, fun D nD => asks_rd (L := L) (nm := "count") (σ := [some (.ref a), some (.int cc), some (.ref s), some (.ref lc), some (.ref la), v5, v6, v7, v8, v9, some x, v11, some (.ref rt), none, none]) rfl (fun _ => rfl) el (Nat.le_of_ble_eq_true rfl) (fun x hx => ?_) tl nD fun ys H5 hD ly yl ex5 tx5 => ?_⟩
      · rcases List.mem_cons.mp hx with rfl | hx
        · exact ⟨K1, f1, c1, rfl, ok1, kp1.ext ex12, fun Hy Q N E eH hE kk => by
            rw [t1]
            exact ⟨_, rfl, _, rfl, _, _, rfl, badA.ext eH, rsd_bound hE kk⟩⟩
        · rw [List.mem_singleton.mp hx]
          exact ⟨K2, f2, c2, rfl, ok2, kp2.ext (LamX.ExtN.of Sl), fun Hy Q N E eH hE kk => by
            rw [t2]
            exact ⟨_, rfl, _, rfl, _, _, rfl, badA.ext eH, rsd_bound hE kk⟩⟩
      refine ⟨(by show 2 ≤ sizeLine; decide), fun q6 m6 => ⟨(by show 1 ≤ sizeLine; decide), fun q7 m7 => ⟨q7, 2, [.ref q6], rfl, rfl, upd_same, by decide, by decide, (by show 1 * 2 ≤ sizeLine; decide), fun q8 m8 => ?_⟩⟩⟩
      have S6 := Same.upd (o := .tup [.str "bound", .str "count"]) m6
      have S7 := Same.upd (o := .lst [.ref q6]) m7
      have S8 := Same.upd (o := .lst (List.replicate (2 : Int).toNat [V.ref q6]).flatten) m8
      have SS := (S6.trans S7).trans S8
      have h6 := S8 _ _ (S7 _ _ (upd_same (H := H5) (a := q6) (o := .tup [.str "bound", .str "count"])))
      refine ⟨bd2 "count", bd2 "count", dpBd2 (SS _ _ hD) (ly.same SS) yl, .lst (SqL.of upd_same) (.cons (dpBd h6) (.cons (dpBd h6) .nil)), shBd2 ok_count, shBd2 ok_count, ?_⟩
      rw [eqBd2 ok_count]
      exact ⟨_, rfl, iteF ⟨_, _, rfl, (ex.trans exA).trans (ex5.trans (LamX.ExtN.of SS)), Tabs.nl tx5 (NL.of SS)⟩⟩
    rintro σ HE1 ⟨v4, vv1, rfl, exE, tabs⟩
    have hL := ExtN.lst exE hL
    have RV := RV.ext exE
    clear exE hbl g1
    refine ⟨(by show 1 ≤ sizeLine; decide), fun qa1 qn1 => ?_⟩
    have qo1 : qa1 ≠ l3 := fun z => by rw [z, hL] at qn1; cases qn1
    have qs1 := Same.upd (o := .tup [.int 0]) qn1
    have qe1 : upd HE1 qa1 (.tup [.int 0]) qa1 = some (.tup [.int 0]) := upd_same
    have qr1 := qs1 _ _ hL
    generalize upd HE1 qa1 (.tup [.int 0]) = qH1 at qs1 qe1 qr1 ⊢
    refine ⟨(by show 2 ≤ sizeLine; decide), fun qa2 qn2 => ?_⟩
    have qo2 : qa2 ≠ l3 := fun z => by rw [z, qr1] at qn2; cases qn2
    have qs2 := Same.upd (o := .lst [.int 1, .int 0]) qn2
    have qe2 : upd qH1 qa2 (.lst [.int 1, .int 0]) qa2 = some (.lst [.int 1, .int 0]) := upd_same
    have qr2 := qs2 _ _ qr1
    generalize upd qH1 qa2 (.lst [.int 1, .int 0]) = qH2 at qs2 qe2 qr2 ⊢
    refine ⟨(by show 2 ≤ sizeLine; decide), fun qa3 qn3 => ?_⟩
    have qo3 : qa3 ≠ l3 := fun z => by rw [z, qr2] at qn3; cases qn3
    have qs3 := Same.upd (o := .lst [.int 0, .int 0]) qn3
    have qe3 : upd qH2 qa3 (.lst [.int 0, .int 0]) qa3 = some (.lst [.int 0, .int 0]) := upd_same
    have qr3 := qs3 _ _ qr2
    generalize upd qH2 qa3 (.lst [.int 0, .int 0]) = qH3 at qs3 qe3 qr3 ⊢
    refine ⟨(by show 1 ≤ sizeLine; decide), fun qa4 qn4 => ?_⟩
    have qo4 : qa4 ≠ l3 := fun z => by rw [z, qr3] at qn4; cases qn4
    have qs4 := Same.upd (o := .lst [.int 2]) qn4
    have qe4 : upd qH3 qa4 (.lst [.int 2]) qa4 = some (.lst [.int 2]) := upd_same
    have qr4 := qs4 _ _ qr3
    generalize upd qH3 qa4 (.lst [.int 2]) = qH4 at qs4 qe4 qr4 ⊢
    refine ⟨1, rfl, (by show 1 ≤ sizeLine; decide), fun qa5 qn5 => ?_⟩
    have qo5 : qa5 ≠ l3 := fun z => by rw [z, qr4] at qn5; cases qn5
    have qs5 := Same.upd (o := .lst [.int (-1)]) qn5
    have qe5 : upd qH4 qa5 (.lst [.int (-1)]) qa5 = some (.lst [.int (-1)]) := upd_same
    have qr5 := qs5 _ _ qr4
    generalize upd qH4 qa5 (.lst [.int (-1)]) = qH5 at qs5 qe5 qr5 ⊢
    refine ⟨(by show 1 ≤ sizeLine; decide), fun qa6 qn6 => ?_⟩
    have qo6 : qa6 ≠ l3 := fun z => by rw [z, qr5] at qn6; cases qn6
    have qs6 := Same.upd (o := .lst [.bl true]) qn6
    have qe6 : upd qH5 qa6 (.lst [.bl true]) qa6 = some (.lst [.bl true]) := upd_same
    have qr6 := qs6 _ _ qr5
    generalize upd qH5 qa6 (.lst [.bl true]) = qH6 at qs6 qe6 qr6 ⊢
    refine ⟨(by show 1 ≤ sizeLine; decide), fun qa7 qn7 => ?_⟩
    have qo7 : qa7 ≠ l3 := fun z => by rw [z, qr6] at qn7; cases qn7
    have qs7 := Same.upd (o := .lst [.str "0"]) qn7
    have qe7 : upd qH6 qa7 (.lst [.str "0"]) qa7 = some (.lst [.str "0"]) := upd_same
    have qr7 := qs7 _ _ qr6
    generalize upd qH6 qa7 (.lst [.str "0"]) = qH7 at qs7 qe7 qr7 ⊢
    refine ⟨(by show 1 ≤ sizeLine; decide), fun qa8 qn8 => ?_⟩
    have qo8 : qa8 ≠ l3 := fun z => by rw [z, qr7] at qn8; cases qn8
    have qs8 := Same.upd (o := .lst [.non]) qn8
    have qe8 : upd qH7 qa8 (.lst [.non]) qa8 = some (.lst [.non]) := upd_same
    have qr8 := qs8 _ _ qr7
    generalize upd qH7 qa8 (.lst [.non]) = qH8 at qs8 qe8 qr8 ⊢
    refine fun qa9 qn9 => ?_
    have qo9 : qa9 ≠ l3 := fun z => by rw [z, qr8] at qn9; cases qn9
    have qs9 := Same.upd (o := .dK []) qn9
    have qe9 : upd qH8 qa9 (.dK []) qa9 = some (.dK []) := upd_same
    have qr9 := qs9 _ _ qr8
    generalize upd qH8 qa9 (.dK []) = qH9 at qs9 qe9 qr9 ⊢
    refine ⟨(by show 0 ≤ sizeLine; decide), fun qa10 qn10 => ?_⟩
    have qo10 : qa10 ≠ l3 := fun z => by rw [z, qr9] at qn10; cases qn10
    have qs10 := Same.upd (o := .lst []) qn10
    have qe10 : upd qH9 qa10 (.lst []) qa10 = some (.lst []) := upd_same
    have qr10 := qs10 _ _ qr9
    generalize upd qH9 qa10 (.lst []) = qH10 at qs10 qe10 qr10 ⊢
    refine ⟨(by show 1 ≤ sizeLine; decide), fun qa11 qn11 => ?_⟩
    have qo11 : qa11 ≠ l3 := fun z => by rw [z, qr10] at qn11; cases qn11
    have qs11 := Same.upd (o := .lst [.ref qa10]) qn11
    have qe11 : upd qH10 qa11 (.lst [.ref qa10]) qa11 = some (.lst [.ref qa10]) := upd_same
    have qr11 := qs11 _ _ qr10
    generalize upd qH10 qa11 (.lst [.ref qa10]) = qH11 at qs11 qe11 qr11 ⊢
    refine ⟨(by show 1 ≤ sizeLine; decide), fun qa12 qn12 => ?_⟩
    have qo12 : qa12 ≠ l3 := fun z => by rw [z, qr11] at qn12; cases qn12
    have qs12 := Same.upd (o := .lst [.bl false]) qn12
    have qe12 : upd qH11 qa12 (.lst [.bl false]) qa12 = some (.lst [.bl false]) := upd_same
    have qr12 := qs12 _ _ qr11
    generalize upd qH11 qa12 (.lst [.bl false]) = qH12 at qs12 qe12 qr12 ⊢
    refine ⟨(by show 13 ≤ sizeLine; decide), fun qa13 qn13 => ?_⟩
    have qo13 : qa13 ≠ l3 := fun z => by rw [z, qr12] at qn13; cases qn13
    have qs13 := Same.upd (o := .lst [(.non : V), (.ref qa1 : V), (.ref qa2 : V), (.ref qa3 : V), (.ref qa4 : V), (.ref qa5 : V), (.ref qa6 : V), (.ref qa7 : V), (.ref qa8 : V), (.ref qa9 : V), (.int 0 : V), (.ref qa11 : V), (.ref qa12 : V)]) qn13
    have qe13 : upd qH12 qa13 (.lst [(.non : V), (.ref qa1 : V), (.ref qa2 : V), (.ref qa3 : V), (.ref qa4 : V), (.ref qa5 : V), (.ref qa6 : V), (.ref qa7 : V), (.ref qa8 : V), (.ref qa9 : V), (.int 0 : V), (.ref qa11 : V), (.ref qa12 : V)]) qa13 = some (.lst [(.non : V), (.ref qa1 : V), (.ref qa2 : V), (.ref qa3 : V), (.ref qa4 : V), (.ref qa5 : V), (.ref qa6 : V), (.ref qa7 : V), (.ref qa8 : V), (.ref qa9 : V), (.int 0 : V), (.ref qa11 : V), (.ref qa12 : V)]) := upd_same
    have qr13 := qs13 _ _ qr12
    generalize upd qH12 qa13 (.lst [(.non : V), (.ref qa1 : V), (.ref qa2 : V), (.ref qa3 : V), (.ref qa4 : V), (.ref qa5 : V), (.ref qa6 : V), (.ref qa7 : V), (.ref qa8 : V), (.ref qa9 : V), (.int 0 : V), (.ref qa11 : V), (.ref qa12 : V)]) = qH13 at qs13 qe13 qr13 ⊢
    have qS13 := Same.refl qH13
    have qS12 := qs13.trans qS13
    have qS11 := qs12.trans qS12
    have qS10 := qs11.trans qS11
    have qS9 := qs10.trans qS10
    have qS8 := qs9.trans qS9
    have qS7 := qs8.trans qS8
    have qS6 := qs7.trans qS7
    have qS5 := qs6.trans qS6
    have qS4 := qs5.trans qS5
    have qS3 := qs4.trans qS4
    have qS2 := qs3.trans qS3
    have qS1 := qs2.trans qS2
    have qS0 := qs1.trans qS1
    have qE1 := qS1 _ _ qe1
    have qE2 := qS2 _ _ qe2
    have qE3 := qS3 _ _ qe3
    have qE4 := qS4 _ _ qe4
    have qE5 := qS5 _ _ qe5
    have qE6 := qS6 _ _ qe6
    have qE7 := qS7 _ _ qe7
    have qE8 := qS8 _ _ qe8
    have qE9 := qS9 _ _ qe9
    have qE10 := qS10 _ _ qe10
    have qE11 := qS11 _ _ qe11
    have qE12 := qS12 _ _ qe12
    have qE13 := qS13 _ _ qe13
    have hL := qS0 _ _ hL
    have tabs := Tabs.nl tabs (NL.of qS0)
    have RV := RV.nl (NL.of qS0)
    have hbl := qE13
    have g2 : ∀ x ∈ [(.non : V), (.ref qa1 : V), (.ref qa2 : V), (.ref qa3 : V), (.ref qa4 : V), (.ref qa5 : V), (.ref qa6 : V), (.ref qa7 : V), (.ref qa8 : V), (.ref qa9 : V), (.int 0 : V), (.ref qa11 : V), (.ref qa12 : V)], DnBad qH13 2 x := fun x hx => by
      simp only [List.mem_cons, List.mem_nil_iff, or_false] at hx
      rcases hx with rfl | rfl | rfl | rfl | rfl | rfl | rfl | rfl | rfl | rfl | rfl | rfl | rfl
      · exact .kind .non (by decide)
      · exact .kind (.tup qE1) (by decide)
      · exact .low qE2 (by decide) (by decide) (.int _) (by decide)
      · exact .low qE3 (by decide) (by decide) (.int _) (by decide)
      · exact .first qE4 (.int _) (by decide)
      · exact .first qE5 (.int _) (by decide)
      · exact .first qE6 (.bl _) (by decide)
      · exact .first qE7 (.str _) (by decide)
      · exact .first qE8 .non (by decide)
      · exact .kind (.dK qE9) (by decide)
      · exact .kind (.int _) (by decide)
      · exact .first qE11 (.lst qE10) rfl
      · exact .first qE12 (.bl _) (by decide)
    generalize [(.non : V), (.ref qa1 : V), (.ref qa2 : V), (.ref qa3 : V), (.ref qa4 : V), (.ref qa5 : V), (.ref qa6 : V), (.ref qa7 : V), (.ref qa8 : V), (.ref qa9 : V), (.int 0 : V), (.ref qa11 : V), (.ref qa12 : V)] = Lg2 at hbl g2
    refine ⟨qa13, rfl, ⟨_, SqL.of hbl⟩, for_list (K := K) (a := qa13) (xs := Lg2) (fun i σ Hx => ∃ v4 vv : Option V, σ = [some (.ref a), some (.int cc), some (.ref s), some (.ref lc), v4, v5, v6, v7, v8, v9, vv1, vv, some (.ref rt), none, none] ∧ LamX.ExtN qH13 Hx ∧ LamX.Tabs (LT L) Hx) ⟨_, _, rfl, LamX.ExtN.refl _, tabs⟩ (fun i σ Hx _ ⟨_, _, _, ex, _⟩ => SqL.of (ExtN.lst ex hbl)) ?_ ?_⟩
    · rintro i x σ Hx hxi ⟨v4, vv, rfl, ex, tx⟩
      have bad := (g2 x (List.mem_of_getElem? hxi)).ext ex
      have RV := RV.ext ex
      refine ⟨tx, fun K1 f1 c1 H1 ok1 t1 ex1 tx1 kp1 => ⟨tx1, fun K2 f2 c2 H2 ok2 t2 ex2 tx2 kp2 => ⟨(by show 2 ≤ sizeLine; decide), fun la nla => ?_⟩⟩⟩
      have Sl := Same.upd (o := .lst [.ref f1, .ref f2]) nla
      have el := upd_same (H := H2) (a := la) (o := .lst [.ref f1, .ref f2])
      have tl := Tabs.nl tx2 (NL.of Sl)
      generalize upd H2 la (.lst [.ref f1, .ref f2]) = H2' at Sl el tl ⊢
      have ex12 := ex2.trans (LamX.ExtN.of Sl)
      have exA := ex1.trans ex12
      have badA := bad.ext exA
      have RVA := RV.ext exA
      refine ⟨_, rfl, la, rfl, ⟨_, SqL.of el⟩, fun D nD => asks_rd (L := L) (nm := "down") (σ := [some (.ref a), some (.int cc), some (.ref s), some (.ref lc), some (.ref la), v5, v6, v7, v8, v9, vv1, some x, some (.ref rt), none, none]) rfl (fun _ => rfl) el (Nat.le_of_ble_eq_true rfl) (fun x hx => ?_) tl nD fun ys H5 hD ly yl ex5 tx5 => ?_⟩
      · rcases List.mem_cons.mp hx with rfl | hx
        · exact ⟨K1, f1, c1, rfl, ok1, kp1.ext ex12, fun Hy Q N E eH hE kk => by
            rw [t1]
            exact ⟨_, rfl, _, rfl, _, _, _, _, _, _, rfl, RVA.ext eH, badA.ext eH, rsd_bound hE kk⟩⟩
        · rw [List.mem_singleton.mp hx]
          exact ⟨K2, f2, c2, rfl, ok2, kp2.ext (LamX.ExtN.of Sl), fun Hy Q N E eH hE kk => by
            rw [t2]
            exact ⟨_, rfl, _, rfl, _, _, _, _, _, _, rfl, RVA.ext eH, badA.ext eH, rsd_bound hE kk⟩⟩
      refine ⟨(by show 2 ≤ sizeLine; decide), fun q6 m6 => ⟨(by show 1 ≤ sizeLine; decide), fun q7 m7 => ⟨q7, 2, [.ref q6], rfl, rfl, upd_same, by decide, by decide, (by show 1 * 2 ≤ sizeLine; decide), fun q8 m8 => ?_⟩⟩⟩
      have S6 := Same.upd (o := .tup [.str "bound", .str "down"]) m6
      have S7 := Same.upd (o := .lst [.ref q6]) m7
      have S8 := Same.upd (o := .lst (List.replicate (2 : Int).toNat [V.ref q6]).flatten) m8
      have SS := (S6.trans S7).trans S8
      have h6 := S8 _ _ (S7 _ _ (upd_same (H := H5) (a := q6) (o := .tup [.str "bound", .str "down"])))
      refine ⟨bd2 "down", bd2 "down", dpBd2 (SS _ _ hD) (ly.same SS) yl, .lst (SqL.of upd_same) (.cons (dpBd h6) (.cons (dpBd h6) .nil)), shBd2 ok_down, shBd2 ok_down, ?_⟩
      rw [eqBd2 ok_down]
      exact ⟨_, rfl, iteF ⟨_, _, rfl, (ex.trans exA).trans (ex5.trans (LamX.ExtN.of SS)), Tabs.nl tx5 (NL.of SS)⟩⟩
    rintro σ HE2 ⟨v4, vv2, rfl, exE, tabs⟩
    have hL := ExtN.lst exE hL
    have RV := RV.ext exE
    clear exE hbl g2
    refine ⟨(by show 3 ≤ sizeLine; decide), fun r1_a1 r1_n1 => ?_⟩
    have r1_o1 : r1_a1 ≠ l3 := fun z => by rw [z, hL] at r1_n1; cases r1_n1
    have r1_s1 := Same.upd (o := .tup [.int 2, .int 5, .int 1]) r1_n1
    have r1_e1 : upd HE2 r1_a1 (.tup [.int 2, .int 5, .int 1]) r1_a1 = some (.tup [.int 2, .int 5, .int 1]) := upd_same
    have r1_r1 := r1_s1 _ _ hL
    generalize upd HE2 r1_a1 (.tup [.int 2, .int 5, .int 1]) = r1_H1 at r1_s1 r1_e1 r1_r1 ⊢
    refine ⟨(by show 1 ≤ sizeLine; decide), fun r1_a2 r1_n2 => ?_⟩
    have r1_o2 : r1_a2 ≠ l3 := fun z => by rw [z, r1_r1] at r1_n2; cases r1_n2
    have r1_s2 := Same.upd (o := .lst [.ref r1_a1]) r1_n2
    have r1_e2 : upd r1_H1 r1_a2 (.lst [.ref r1_a1]) r1_a2 = some (.lst [.ref r1_a1]) := upd_same
    have r1_r2 := r1_s2 _ _ r1_r1
    generalize upd r1_H1 r1_a2 (.lst [.ref r1_a1]) = r1_H2 at r1_s2 r1_e2 r1_r2 ⊢
    refine ⟨(by show 0 ≤ sizeLine; decide), fun r1_a3 r1_n3 => ?_⟩
    have r1_o3 : r1_a3 ≠ l3 := fun z => by rw [z, r1_r2] at r1_n3; cases r1_n3
    have r1_s3 := Same.upd (o := .lst []) r1_n3
    have r1_e3 : upd r1_H2 r1_a3 (.lst []) r1_a3 = some (.lst []) := upd_same
    have r1_r3 := r1_s3 _ _ r1_r2
    generalize upd r1_H2 r1_a3 (.lst []) = r1_H3 at r1_s3 r1_e3 r1_r3 ⊢
    refine ⟨(by show 2 ≤ sizeLine; decide), fun r1_a4 r1_n4 => ?_⟩
    have r1_o4 : r1_a4 ≠ l3 := fun z => by rw [z, r1_r3] at r1_n4; cases r1_n4
    have r1_s4 := Same.upd (o := .tup [.int 0, .int 100]) r1_n4
    have r1_e4 : upd r1_H3 r1_a4 (.tup [.int 0, .int 100]) r1_a4 = some (.tup [.int 0, .int 100]) := upd_same
    have r1_r4 := r1_s4 _ _ r1_r3
    generalize upd r1_H3 r1_a4 (.tup [.int 0, .int 100]) = r1_H4 at r1_s4 r1_e4 r1_r4 ⊢
    refine ⟨(by show 1 ≤ sizeLine; decide), fun r1_a5 r1_n5 => ?_⟩
    have r1_o5 : r1_a5 ≠ l3 := fun z => by rw [z, r1_r4] at r1_n5; cases r1_n5
    have r1_s5 := Same.upd (o := .lst [.ref r1_a4]) r1_n5
    have r1_e5 : upd r1_H4 r1_a5 (.lst [.ref r1_a4]) r1_a5 = some (.lst [.ref r1_a4]) := upd_same
    have r1_r5 := r1_s5 _ _ r1_r4
    generalize upd r1_H4 r1_a5 (.lst [.ref r1_a4]) = r1_H5 at r1_s5 r1_e5 r1_r5 ⊢
    refine ⟨(by show 2 ≤ sizeLine; decide), fun r1_a6 r1_n6 => ?_⟩
    have r1_o6 : r1_a6 ≠ l3 := fun z => by rw [z, r1_r5] at r1_n6; cases r1_n6
    have r1_s6 := Same.upd (o := .tup [.ref r1_a3, .ref r1_a5]) r1_n6
    have r1_e6 : upd r1_H5 r1_a6 (.tup [.ref r1_a3, .ref r1_a5]) r1_a6 = some (.tup [.ref r1_a3, .ref r1_a5]) := upd_same
    have r1_r6 := r1_s6 _ _ r1_r5
    generalize upd r1_H5 r1_a6 (.tup [.ref r1_a3, .ref r1_a5]) = r1_H6 at r1_s6 r1_e6 r1_r6 ⊢
    refine ⟨(by show 0 ≤ sizeLine; decide), fun r1_a7 r1_n7 => ?_⟩
    have r1_o7 : r1_a7 ≠ l3 := fun z => by rw [z, r1_r6] at r1_n7; cases r1_n7
    have r1_s7 := Same.upd (o := .lst []) r1_n7
    have r1_e7 : upd r1_H6 r1_a7 (.lst []) r1_a7 = some (.lst []) := upd_same
    have r1_r7 := r1_s7 _ _ r1_r6
    generalize upd r1_H6 r1_a7 (.lst []) = r1_H7 at r1_s7 r1_e7 r1_r7 ⊢
    refine ⟨(by show 0 ≤ sizeLine; decide), fun r1_a8 r1_n8 => ?_⟩
    have r1_o8 : r1_a8 ≠ l3 := fun z => by rw [z, r1_r7] at r1_n8; cases r1_n8
    have r1_s8 := Same.upd (o := .lst []) r1_n8
    have r1_e8 : upd r1_H7 r1_a8 (.lst []) r1_a8 = some (.lst []) := upd_same
    have r1_r8 := r1_s8 _ _ r1_r7
    generalize upd r1_H7 r1_a8 (.lst []) = r1_H8 at r1_s8 r1_e8 r1_r8 ⊢
    refine ⟨(by show 2 ≤ sizeLine; decide), fun r1_a9 r1_n9 => ?_⟩
    have r1_o9 : r1_a9 ≠ l3 := fun z => by rw [z, r1_r8] at r1_n9; cases r1_n9
    have r1_s9 := Same.upd (o := .tup [.ref r1_a7, .ref r1_a8]) r1_n9
    have r1_e9 : upd r1_H8 r1_a9 (.tup [.ref r1_a7, .ref r1_a8]) r1_a9 = some (.tup [.ref r1_a7, .ref r1_a8]) := upd_same
    have r1_r9 := r1_s9 _ _ r1_r8
    generalize upd r1_H8 r1_a9 (.tup [.ref r1_a7, .ref r1_a8]) = r1_H9 at r1_s9 r1_e9 r1_r9 ⊢
    refine ⟨(by show 2 ≤ sizeLine; decide), fun r1_a10 r1_n10 => ?_⟩
    have r1_o10 : r1_a10 ≠ l3 := fun z => by rw [z, r1_r9] at r1_n10; cases r1_n10
    have r1_s10 := Same.upd (o := .lst [.ref r1_a6, .ref r1_a9]) r1_n10
    have r1_e10 : upd r1_H9 r1_a10 (.lst [.ref r1_a6, .ref r1_a9]) r1_a10 = some (.lst [.ref r1_a6, .ref r1_a9]) := upd_same
    have r1_r10 := r1_s10 _ _ r1_r9
    generalize upd r1_H9 r1_a10 (.lst [.ref r1_a6, .ref r1_a9]) = r1_H10 at r1_s10 r1_e10 r1_r10 ⊢
    refine ⟨(by show 3 ≤ sizeLine; decide), fun r1_a11 r1_n11 => ?_⟩
    have r1_o11 : r1_a11 ≠ l3 := fun z => by rw [z, r1_r10] at r1_n11; cases r1_n11
    have r1_s11 := Same.upd (o := .lst [.int 0, .int 0, .int 1]) r1_n11
    have r1_e11 : upd r1_H10 r1_a11 (.lst [.int 0, .int 0, .int 1]) r1_a11 = some (.lst [.int 0, .int 0, .int 1]) := upd_same
    have r1_r11 := r1_s11 _ _ r1_r10
    generalize upd r1_H10 r1_a11 (.lst [.int 0, .int 0, .int 1]) = r1_H11 at r1_s11 r1_e11 r1_r11 ⊢
    have r1_S11 := Same.refl r1_H11
    have r1_S10 := r1_s11.trans r1_S11
    have r1_S9 := r1_s10.trans r1_S10
    have r1_S8 := r1_s9.trans r1_S9
    have r1_S7 := r1_s8.trans r1_S8
    have r1_S6 := r1_s7.trans r1_S7
    have r1_S5 := r1_s6.trans r1_S6
    have r1_S4 := r1_s5.trans r1_S5
    have r1_S3 := r1_s4.trans r1_S4
    have r1_S2 := r1_s3.trans r1_S3
    have r1_S1 := r1_s2.trans r1_S2
    have r1_S0 := r1_s1.trans r1_S1
    have r1_E1 := r1_S1 _ _ r1_e1
    have r1_E2 := r1_S2 _ _ r1_e2
    have r1_E3 := r1_S3 _ _ r1_e3
    have r1_E4 := r1_S4 _ _ r1_e4
    have r1_E5 := r1_S5 _ _ r1_e5
    have r1_E6 := r1_S6 _ _ r1_e6
    have r1_E7 := r1_S7 _ _ r1_e7
    have r1_E8 := r1_S8 _ _ r1_e8
    have r1_E9 := r1_S9 _ _ r1_e9
    have r1_E10 := r1_S10 _ _ r1_e10
    have r1_E11 := r1_S11 _ _ r1_e11
    refine routes_made (fr := [(2, 5, 1)]) (svs := sv59 100 []) r1_E2 (.cons ⟨_, rfl, r1_E1⟩ .nil) r1_E10 (.cons ⟨_, _, _, _, _, rfl, r1_E6, r1_E3, .nil, r1_E5, .cons ⟨_, rfl, r1_E4⟩ .nil⟩ (.cons ⟨_, _, _, _, _, rfl, r1_E9, r1_E7, .nil, r1_E8, .nil⟩ .nil)) (pat := [0, 0, 1]) r1_E11 (okR59' (e := 100) (b := []) (by decide) (by decide) (fun t h => nomatch h) (by decide) (by decide) (by decide) (by decide) (by decide) (by decide) [(2, 5, 1)] (fun t h => by rw [List.mem_singleton.mp h]; exact ⟨by decide, by decide, by decide, by decide, by decide, by decide⟩) (by decide)) fun r1 HR1 R1 sr1 nr1 => ?_
    have sm1 := r1_S0.trans sr1
    have hL := sm1 _ _ hL
    have tabs := Tabs.nl tabs (NL.of sm1)
    refine ⟨(by show 1 ≤ sizeLine; decide), fun q1 nq1 => ?_⟩
    have sq1 := Same.upd (o := .lst [.ref r1]) nq1
    have hq1 : upd HR1 q1 (.lst [.ref r1]) q1 = some (.lst [.ref r1]) := upd_same
    have nl1 : l3 ≠ q1 := ne_of_none hL nq1
    generalize upd HR1 q1 (.lst [.ref r1]) = HQ1 at sq1 hq1 ⊢
    have hL := sq1 _ _ hL
    have tabs := Tabs.nl tabs (NL.of sq1)
    have R1 := R1.nl (NL.of sq1)
    refine ⟨_, rfl, .inl ⟨rfl, _, SqL.of hq1⟩, (by show 3 ≤ sizeLine; decide), fun r2_a1 r2_n1 => ?_⟩
    have r2_o1 : r2_a1 ≠ l3 := fun z => by rw [z, hL] at r2_n1; cases r2_n1
    have r2_s1 := Same.upd (o := .tup [.int 2, .int 5, .int 2]) r2_n1
    have r2_e1 : upd HQ1 r2_a1 (.tup [.int 2, .int 5, .int 2]) r2_a1 = some (.tup [.int 2, .int 5, .int 2]) := upd_same
    have r2_r1 := r2_s1 _ _ hL
    generalize upd HQ1 r2_a1 (.tup [.int 2, .int 5, .int 2]) = r2_H1 at r2_s1 r2_e1 r2_r1 ⊢
    refine ⟨(by show 1 ≤ sizeLine; decide), fun r2_a2 r2_n2 => ?_⟩
    have r2_o2 : r2_a2 ≠ l3 := fun z => by rw [z, r2_r1] at r2_n2; cases r2_n2
    have r2_s2 := Same.upd (o := .lst [.ref r2_a1]) r2_n2
    have r2_e2 : upd r2_H1 r2_a2 (.lst [.ref r2_a1]) r2_a2 = some (.lst [.ref r2_a1]) := upd_same
    have r2_r2 := r2_s2 _ _ r2_r1
    generalize upd r2_H1 r2_a2 (.lst [.ref r2_a1]) = r2_H2 at r2_s2 r2_e2 r2_r2 ⊢
    refine ⟨(by show 0 ≤ sizeLine; decide), fun r2_a3 r2_n3 => ?_⟩
    have r2_o3 : r2_a3 ≠ l3 := fun z => by rw [z, r2_r2] at r2_n3; cases r2_n3
    have r2_s3 := Same.upd (o := .lst []) r2_n3
    have r2_e3 : upd r2_H2 r2_a3 (.lst []) r2_a3 = some (.lst []) := upd_same
    have r2_r3 := r2_s3 _ _ r2_r2
    generalize upd r2_H2 r2_a3 (.lst []) = r2_H3 at r2_s3 r2_e3 r2_r3 ⊢
    refine ⟨(by show 2 ≤ sizeLine; decide), fun r2_a4 r2_n4 => ?_⟩
    have r2_o4 : r2_a4 ≠ l3 := fun z => by rw [z, r2_r3] at r2_n4; cases r2_n4
    have r2_s4 := Same.upd (o := .tup [.int 0, .int 100]) r2_n4
    have r2_e4 : upd r2_H3 r2_a4 (.tup [.int 0, .int 100]) r2_a4 = some (.tup [.int 0, .int 100]) := upd_same
    have r2_r4 := r2_s4 _ _ r2_r3
    generalize upd r2_H3 r2_a4 (.tup [.int 0, .int 100]) = r2_H4 at r2_s4 r2_e4 r2_r4 ⊢
    refine ⟨(by show 1 ≤ sizeLine; decide), fun r2_a5 r2_n5 => ?_⟩
    have r2_o5 : r2_a5 ≠ l3 := fun z => by rw [z, r2_r4] at r2_n5; cases r2_n5
    have r2_s5 := Same.upd (o := .lst [.ref r2_a4]) r2_n5
    have r2_e5 : upd r2_H4 r2_a5 (.lst [.ref r2_a4]) r2_a5 = some (.lst [.ref r2_a4]) := upd_same
    have r2_r5 := r2_s5 _ _ r2_r4
    generalize upd r2_H4 r2_a5 (.lst [.ref r2_a4]) = r2_H5 at r2_s5 r2_e5 r2_r5 ⊢
    refine ⟨(by show 2 ≤ sizeLine; decide), fun r2_a6 r2_n6 => ?_⟩
    have r2_o6 : r2_a6 ≠ l3 := fun z => by rw [z, r2_r5] at r2_n6; cases r2_n6
    have r2_s6 := Same.upd (o := .tup [.ref r2_a3, .ref r2_a5]) r2_n6
    have r2_e6 : upd r2_H5 r2_a6 (.tup [.ref r2_a3, .ref r2_a5]) r2_a6 = some (.tup [.ref r2_a3, .ref r2_a5]) := upd_same
    have r2_r6 := r2_s6 _ _ r2_r5
    generalize upd r2_H5 r2_a6 (.tup [.ref r2_a3, .ref r2_a5]) = r2_H6 at r2_s6 r2_e6 r2_r6 ⊢
    refine ⟨(by show 0 ≤ sizeLine; decide), fun r2_a7 r2_n7 => ?_⟩
    have r2_o7 : r2_a7 ≠ l3 := fun z => by rw [z, r2_r6] at r2_n7; cases r2_n7
    have r2_s7 := Same.upd (o := .lst []) r2_n7
    have r2_e7 : upd r2_H6 r2_a7 (.lst []) r2_a7 = some (.lst []) := upd_same
    have r2_r7 := r2_s7 _ _ r2_r6
    generalize upd r2_H6 r2_a7 (.lst []) = r2_H7 at r2_s7 r2_e7 r2_r7 ⊢
    refine ⟨(by show 0 ≤ sizeLine; decide), fun r2_a8 r2_n8 => ?_⟩
    have r2_o8 : r2_a8 ≠ l3 := fun z => by rw [z, r2_r7] at r2_n8; cases r2_n8
    have r2_s8 := Same.upd (o := .lst []) r2_n8
    have r2_e8 : upd r2_H7 r2_a8 (.lst []) r2_a8 = some (.lst []) := upd_same
    have r2_r8 := r2_s8 _ _ r2_r7
    generalize upd r2_H7 r2_a8 (.lst []) = r2_H8 at r2_s8 r2_e8 r2_r8 ⊢
    refine ⟨(by show 2 ≤ sizeLine; decide), fun r2_a9 r2_n9 => ?_⟩
    have r2_o9 : r2_a9 ≠ l3 := fun z => by rw [z, r2_r8] at r2_n9; cases r2_n9
    have r2_s9 := Same.upd (o := .tup [.ref r2_a7, .ref r2_a8]) r2_n9
    have r2_e9 : upd r2_H8 r2_a9 (.tup [.ref r2_a7, .ref r2_a8]) r2_a9 = some (.tup [.ref r2_a7, .ref r2_a8]) := upd_same
    have r2_r9 := r2_s9 _ _ r2_r8
    generalize upd r2_H8 r2_a9 (.tup [.ref r2_a7, .ref r2_a8]) = r2_H9 at r2_s9 r2_e9 r2_r9 ⊢
    refine ⟨(by show 2 ≤ sizeLine; decide), fun r2_a10 r2_n10 => ?_⟩
    have r2_o10 : r2_a10 ≠ l3 := fun z => by rw [z, r2_r9] at r2_n10; cases r2_n10
    have r2_s10 := Same.upd (o := .lst [.ref r2_a6, .ref r2_a9]) r2_n10
    have r2_e10 : upd r2_H9 r2_a10 (.lst [.ref r2_a6, .ref r2_a9]) r2_a10 = some (.lst [.ref r2_a6, .ref r2_a9]) := upd_same
    have r2_r10 := r2_s10 _ _ r2_r9
    generalize upd r2_H9 r2_a10 (.lst [.ref r2_a6, .ref r2_a9]) = r2_H10 at r2_s10 r2_e10 r2_r10 ⊢
    refine ⟨(by show 3 ≤ sizeLine; decide), fun r2_a11 r2_n11 => ?_⟩
    have r2_o11 : r2_a11 ≠ l3 := fun z => by rw [z, r2_r10] at r2_n11; cases r2_n11
    have r2_s11 := Same.upd (o := .lst [.int 0, .int 0, .int 1]) r2_n11
    have r2_e11 : upd r2_H10 r2_a11 (.lst [.int 0, .int 0, .int 1]) r2_a11 = some (.lst [.int 0, .int 0, .int 1]) := upd_same
    have r2_r11 := r2_s11 _ _ r2_r10
    generalize upd r2_H10 r2_a11 (.lst [.int 0, .int 0, .int 1]) = r2_H11 at r2_s11 r2_e11 r2_r11 ⊢
    have r2_S11 := Same.refl r2_H11
    have r2_S10 := r2_s11.trans r2_S11
    have r2_S9 := r2_s10.trans r2_S10
    have r2_S8 := r2_s9.trans r2_S9
    have r2_S7 := r2_s8.trans r2_S8
    have r2_S6 := r2_s7.trans r2_S7
    have r2_S5 := r2_s6.trans r2_S6
    have r2_S4 := r2_s5.trans r2_S5
    have r2_S3 := r2_s4.trans r2_S4
    have r2_S2 := r2_s3.trans r2_S3
    have r2_S1 := r2_s2.trans r2_S2
    have r2_S0 := r2_s1.trans r2_S1
    have r2_E1 := r2_S1 _ _ r2_e1
    have r2_E2 := r2_S2 _ _ r2_e2
    have r2_E3 := r2_S3 _ _ r2_e3
    have r2_E4 := r2_S4 _ _ r2_e4
    have r2_E5 := r2_S5 _ _ r2_e5
    have r2_E6 := r2_S6 _ _ r2_e6
    have r2_E7 := r2_S7 _ _ r2_e7
    have r2_E8 := r2_S8 _ _ r2_e8
    have r2_E9 := r2_S9 _ _ r2_e9
    have r2_E10 := r2_S10 _ _ r2_e10
    have r2_E11 := r2_S11 _ _ r2_e11
    refine routes_made (fr := [(2, 5, 2)]) (svs := sv59 100 []) r2_E2 (.cons ⟨_, rfl, r2_E1⟩ .nil) r2_E10 (.cons ⟨_, _, _, _, _, rfl, r2_E6, r2_E3, .nil, r2_E5, .cons ⟨_, rfl, r2_E4⟩ .nil⟩ (.cons ⟨_, _, _, _, _, rfl, r2_E9, r2_E7, .nil, r2_E8, .nil⟩ .nil)) (pat := [0, 0, 1]) r2_E11 (okR59' (e := 100) (b := []) (by decide) (by decide) (fun t h => nomatch h) (by decide) (by decide) (by decide) (by decide) (by decide) (by decide) [(2, 5, 2)] (fun t h => by rw [List.mem_singleton.mp h]; exact ⟨by decide, by decide, by decide, by decide, by decide, by decide⟩) (by decide)) fun r2 HR2 R2 sr2 nr2 => ?_
    have sm2 := r2_S0.trans sr2
    have hL := sm2 _ _ hL
    have tabs := Tabs.nl tabs (NL.of sm2)
    have R1 := R1.nl (NL.of sm2)
    have hq1 := sm2 _ _ hq1
    refine ⟨q1, _, _, rfl, rfl, hq1, (by show 1 < sizeLine; decide), ?_⟩
    have na := NL.upd (o := .lst ([.ref r1] ++ [.ref r2])) hq1
    have ha : upd HR2 q1 (.lst ([.ref r1] ++ [.ref r2])) q1 = some (.lst ([.ref r1] ++ [.ref r2])) := upd_same
    have hL : upd HR2 q1 (.lst ([.ref r1] ++ [.ref r2])) l3 = some (.lst its) := by rw [upd_ne nl1]; exact hL
    generalize upd HR2 q1 (.lst ([.ref r1] ++ [.ref r2])) = HA at na ha hL ⊢
    have tabs := Tabs.nl tabs na
    have R1 := R1.nl na
    have R2 := R2.nl na
    refine ⟨_, rfl, (by show 3 ≤ sizeLine; decide), fun r3_a1 r3_n1 => ?_⟩
    have r3_o1 : r3_a1 ≠ l3 := fun z => by rw [z, hL] at r3_n1; cases r3_n1
    have r3_s1 := Same.upd (o := .tup [.int 2, .int 5, .int 1]) r3_n1
    have r3_e1 : upd HA r3_a1 (.tup [.int 2, .int 5, .int 1]) r3_a1 = some (.tup [.int 2, .int 5, .int 1]) := upd_same
    have r3_r1 := r3_s1 _ _ hL
    generalize upd HA r3_a1 (.tup [.int 2, .int 5, .int 1]) = r3_H1 at r3_s1 r3_e1 r3_r1 ⊢
    refine ⟨(by show 1 ≤ sizeLine; decide), fun r3_a2 r3_n2 => ?_⟩
    have r3_o2 : r3_a2 ≠ l3 := fun z => by rw [z, r3_r1] at r3_n2; cases r3_n2
    have r3_s2 := Same.upd (o := .lst [.ref r3_a1]) r3_n2
    have r3_e2 : upd r3_H1 r3_a2 (.lst [.ref r3_a1]) r3_a2 = some (.lst [.ref r3_a1]) := upd_same
    have r3_r2 := r3_s2 _ _ r3_r1
    generalize upd r3_H1 r3_a2 (.lst [.ref r3_a1]) = r3_H2 at r3_s2 r3_e2 r3_r2 ⊢
    refine ⟨(by show 0 ≤ sizeLine; decide), fun r3_a3 r3_n3 => ?_⟩
    have r3_o3 : r3_a3 ≠ l3 := fun z => by rw [z, r3_r2] at r3_n3; cases r3_n3
    have r3_s3 := Same.upd (o := .lst []) r3_n3
    have r3_e3 : upd r3_H2 r3_a3 (.lst []) r3_a3 = some (.lst []) := upd_same
    have r3_r3 := r3_s3 _ _ r3_r2
    generalize upd r3_H2 r3_a3 (.lst []) = r3_H3 at r3_s3 r3_e3 r3_r3 ⊢
    refine ⟨(by show 2 ≤ sizeLine; decide), fun r3_a4 r3_n4 => ?_⟩
    have r3_o4 : r3_a4 ≠ l3 := fun z => by rw [z, r3_r3] at r3_n4; cases r3_n4
    have r3_s4 := Same.upd (o := .tup [.int 0, .int 99]) r3_n4
    have r3_e4 : upd r3_H3 r3_a4 (.tup [.int 0, .int 99]) r3_a4 = some (.tup [.int 0, .int 99]) := upd_same
    have r3_r4 := r3_s4 _ _ r3_r3
    generalize upd r3_H3 r3_a4 (.tup [.int 0, .int 99]) = r3_H4 at r3_s4 r3_e4 r3_r4 ⊢
    refine ⟨(by show 1 ≤ sizeLine; decide), fun r3_a5 r3_n5 => ?_⟩
    have r3_o5 : r3_a5 ≠ l3 := fun z => by rw [z, r3_r4] at r3_n5; cases r3_n5
    have r3_s5 := Same.upd (o := .lst [.ref r3_a4]) r3_n5
    have r3_e5 : upd r3_H4 r3_a5 (.lst [.ref r3_a4]) r3_a5 = some (.lst [.ref r3_a4]) := upd_same
    have r3_r5 := r3_s5 _ _ r3_r4
    generalize upd r3_H4 r3_a5 (.lst [.ref r3_a4]) = r3_H5 at r3_s5 r3_e5 r3_r5 ⊢
    refine ⟨(by show 2 ≤ sizeLine; decide), fun r3_a6 r3_n6 => ?_⟩
    have r3_o6 : r3_a6 ≠ l3 := fun z => by rw [z, r3_r5] at r3_n6; cases r3_n6
    have r3_s6 := Same.upd (o := .tup [.ref r3_a3, .ref r3_a5]) r3_n6
    have r3_e6 : upd r3_H5 r3_a6 (.tup [.ref r3_a3, .ref r3_a5]) r3_a6 = some (.tup [.ref r3_a3, .ref r3_a5]) := upd_same
    have r3_r6 := r3_s6 _ _ r3_r5
    generalize upd r3_H5 r3_a6 (.tup [.ref r3_a3, .ref r3_a5]) = r3_H6 at r3_s6 r3_e6 r3_r6 ⊢
    refine ⟨(by show 0 ≤ sizeLine; decide), fun r3_a7 r3_n7 => ?_⟩
    have r3_o7 : r3_a7 ≠ l3 := fun z => by rw [z, r3_r6] at r3_n7; cases r3_n7
    have r3_s7 := Same.upd (o := .lst []) r3_n7
    have r3_e7 : upd r3_H6 r3_a7 (.lst []) r3_a7 = some (.lst []) := upd_same
    have r3_r7 := r3_s7 _ _ r3_r6
    generalize upd r3_H6 r3_a7 (.lst []) = r3_H7 at r3_s7 r3_e7 r3_r7 ⊢
    refine ⟨(by show 0 ≤ sizeLine; decide), fun r3_a8 r3_n8 => ?_⟩
    have r3_o8 : r3_a8 ≠ l3 := fun z => by rw [z, r3_r7] at r3_n8; cases r3_n8
    have r3_s8 := Same.upd (o := .lst []) r3_n8
    have r3_e8 : upd r3_H7 r3_a8 (.lst []) r3_a8 = some (.lst []) := upd_same
    have r3_r8 := r3_s8 _ _ r3_r7
    generalize upd r3_H7 r3_a8 (.lst []) = r3_H8 at r3_s8 r3_e8 r3_r8 ⊢
    refine ⟨(by show 2 ≤ sizeLine; decide), fun r3_a9 r3_n9 => ?_⟩
    have r3_o9 : r3_a9 ≠ l3 := fun z => by rw [z, r3_r8] at r3_n9; cases r3_n9
    have r3_s9 := Same.upd (o := .tup [.ref r3_a7, .ref r3_a8]) r3_n9
    have r3_e9 : upd r3_H8 r3_a9 (.tup [.ref r3_a7, .ref r3_a8]) r3_a9 = some (.tup [.ref r3_a7, .ref r3_a8]) := upd_same
    have r3_r9 := r3_s9 _ _ r3_r8
    generalize upd r3_H8 r3_a9 (.tup [.ref r3_a7, .ref r3_a8]) = r3_H9 at r3_s9 r3_e9 r3_r9 ⊢
    refine ⟨(by show 2 ≤ sizeLine; decide), fun r3_a10 r3_n10 => ?_⟩
    have r3_o10 : r3_a10 ≠ l3 := fun z => by rw [z, r3_r9] at r3_n10; cases r3_n10
    have r3_s10 := Same.upd (o := .lst [.ref r3_a6, .ref r3_a9]) r3_n10
    have r3_e10 : upd r3_H9 r3_a10 (.lst [.ref r3_a6, .ref r3_a9]) r3_a10 = some (.lst [.ref r3_a6, .ref r3_a9]) := upd_same
    have r3_r10 := r3_s10 _ _ r3_r9
    generalize upd r3_H9 r3_a10 (.lst [.ref r3_a6, .ref r3_a9]) = r3_H10 at r3_s10 r3_e10 r3_r10 ⊢
    refine ⟨(by show 3 ≤ sizeLine; decide), fun r3_a11 r3_n11 => ?_⟩
    have r3_o11 : r3_a11 ≠ l3 := fun z => by rw [z, r3_r10] at r3_n11; cases r3_n11
    have r3_s11 := Same.upd (o := .lst [.int 0, .int 0, .int 1]) r3_n11
    have r3_e11 : upd r3_H10 r3_a11 (.lst [.int 0, .int 0, .int 1]) r3_a11 = some (.lst [.int 0, .int 0, .int 1]) := upd_same
    have r3_r11 := r3_s11 _ _ r3_r10
    generalize upd r3_H10 r3_a11 (.lst [.int 0, .int 0, .int 1]) = r3_H11 at r3_s11 r3_e11 r3_r11 ⊢
    have r3_S11 := Same.refl r3_H11
    have r3_S10 := r3_s11.trans r3_S11
    have r3_S9 := r3_s10.trans r3_S10
    have r3_S8 := r3_s9.trans r3_S9
    have r3_S7 := r3_s8.trans r3_S8
    have r3_S6 := r3_s7.trans r3_S7
    have r3_S5 := r3_s6.trans r3_S6
    have r3_S4 := r3_s5.trans r3_S5
    have r3_S3 := r3_s4.trans r3_S4
    have r3_S2 := r3_s3.trans r3_S3
    have r3_S1 := r3_s2.trans r3_S2
    have r3_S0 := r3_s1.trans r3_S1
    have r3_E1 := r3_S1 _ _ r3_e1
    have r3_E2 := r3_S2 _ _ r3_e2
    have r3_E3 := r3_S3 _ _ r3_e3
    have r3_E4 := r3_S4 _ _ r3_e4
    have r3_E5 := r3_S5 _ _ r3_e5
    have r3_E6 := r3_S6 _ _ r3_e6
    have r3_E7 := r3_S7 _ _ r3_e7
    have r3_E8 := r3_S8 _ _ r3_e8
    have r3_E9 := r3_S9 _ _ r3_e9
    have r3_E10 := r3_S10 _ _ r3_e10
    have r3_E11 := r3_S11 _ _ r3_e11
    refine routes_made (fr := [(2, 5, 1)]) (svs := sv59 99 []) r3_E2 (.cons ⟨_, rfl, r3_E1⟩ .nil) r3_E10 (.cons ⟨_, _, _, _, _, rfl, r3_E6, r3_E3, .nil, r3_E5, .cons ⟨_, rfl, r3_E4⟩ .nil⟩ (.cons ⟨_, _, _, _, _, rfl, r3_E9, r3_E7, .nil, r3_E8, .nil⟩ .nil)) (pat := [0, 0, 1]) r3_E11 (okR59' (e := 99) (b := []) (by decide) (by decide) (fun t h => nomatch h) (by decide) (by decide) (by decide) (by decide) (by decide) (by decide) [(2, 5, 1)] (fun t h => by rw [List.mem_singleton.mp h]; exact ⟨by decide, by decide, by decide, by decide, by decide, by decide⟩) (by decide)) fun r3 HR3 R3 sr3 nr3 => ?_
    have sm3 := r3_S0.trans sr3
    have hL := sm3 _ _ hL
    have tabs := Tabs.nl tabs (NL.of sm3)
    have R1 := R1.nl (NL.of sm3)
    have R2 := R2.nl (NL.of sm3)
    have ha := sm3 _ _ ha
    refine ⟨(by show 1 ≤ sizeLine; decide), fun q3 nq3 => ?_⟩
    have sq3 := Same.upd (o := .lst [.ref r3]) nq3
    have hq3 : upd HR3 q3 (.lst [.ref r3]) q3 = some (.lst [.ref r3]) := upd_same
    have nl3 : l3 ≠ q3 := ne_of_none hL nq3
    generalize upd HR3 q3 (.lst [.ref r3]) = HQ3 at sq3 hq3 ⊢
    have hL := sq3 _ _ hL
    have tabs := Tabs.nl tabs (NL.of sq3)
    have R1 := R1.nl (NL.of sq3)
    have R2 := R2.nl (NL.of sq3)
    have R3 := R3.nl (NL.of sq3)
    have ha := sq3 _ _ ha
    refine ⟨q1, q3, _, _, rfl, rfl, ha, hq3, (by show 3 ≤ sizeLine; decide), fun q4 nq4 => ?_⟩
    have sq4 := Same.upd (o := .lst ([.ref r1] ++ [.ref r2] ++ [.ref r3])) nq4
    have hq4 : upd HQ3 q4 (.lst ([.ref r1] ++ [.ref r2] ++ [.ref r3])) q4 = some (.lst ([.ref r1] ++ [.ref r2] ++ [.ref r3])) := upd_same
    have nl4 : l3 ≠ q4 := ne_of_none hL nq4
    generalize upd HQ3 q4 (.lst ([.ref r1] ++ [.ref r2] ++ [.ref r3])) = HQ4 at sq4 hq4 ⊢
    have hL := sq4 _ _ hL
    have tabs := Tabs.nl tabs (NL.of sq4)
    have R1 := R1.nl (NL.of sq4)
    have R2 := R2.nl (NL.of sq4)
    have R3 := R3.nl (NL.of sq4)
    have ha := sq4 _ _ ha
    have hq3 := sq4 _ _ hq3
    refine ⟨_, rfl, (by show 3 ≤ sizeLine; decide), fun r4_a1 r4_n1 => ?_⟩
    have r4_o1 : r4_a1 ≠ l3 := fun z => by rw [z, hL] at r4_n1; cases r4_n1
    have r4_s1 := Same.upd (o := .tup [.int 2, .int 5, .int 1]) r4_n1
    have r4_e1 : upd HQ4 r4_a1 (.tup [.int 2, .int 5, .int 1]) r4_a1 = some (.tup [.int 2, .int 5, .int 1]) := upd_same
    have r4_r1 := r4_s1 _ _ hL
    generalize upd HQ4 r4_a1 (.tup [.int 2, .int 5, .int 1]) = r4_H1 at r4_s1 r4_e1 r4_r1 ⊢
    refine ⟨(by show 1 ≤ sizeLine; decide), fun r4_a2 r4_n2 => ?_⟩
    have r4_o2 : r4_a2 ≠ l3 := fun z => by rw [z, r4_r1] at r4_n2; cases r4_n2
    have r4_s2 := Same.upd (o := .lst [.ref r4_a1]) r4_n2
    have r4_e2 : upd r4_H1 r4_a2 (.lst [.ref r4_a1]) r4_a2 = some (.lst [.ref r4_a1]) := upd_same
    have r4_r2 := r4_s2 _ _ r4_r1
    generalize upd r4_H1 r4_a2 (.lst [.ref r4_a1]) = r4_H2 at r4_s2 r4_e2 r4_r2 ⊢
    refine ⟨(by show 0 ≤ sizeLine; decide), fun r4_a3 r4_n3 => ?_⟩
    have r4_o3 : r4_a3 ≠ l3 := fun z => by rw [z, r4_r2] at r4_n3; cases r4_n3
    have r4_s3 := Same.upd (o := .lst []) r4_n3
    have r4_e3 : upd r4_H2 r4_a3 (.lst []) r4_a3 = some (.lst []) := upd_same
    have r4_r3 := r4_s3 _ _ r4_r2
    generalize upd r4_H2 r4_a3 (.lst []) = r4_H3 at r4_s3 r4_e3 r4_r3 ⊢
    refine ⟨(by show 2 ≤ sizeLine; decide), fun r4_a4 r4_n4 => ?_⟩
    have r4_o4 : r4_a4 ≠ l3 := fun z => by rw [z, r4_r3] at r4_n4; cases r4_n4
    have r4_s4 := Same.upd (o := .tup [.int 0, .int 100]) r4_n4
    have r4_e4 : upd r4_H3 r4_a4 (.tup [.int 0, .int 100]) r4_a4 = some (.tup [.int 0, .int 100]) := upd_same
    have r4_r4 := r4_s4 _ _ r4_r3
    generalize upd r4_H3 r4_a4 (.tup [.int 0, .int 100]) = r4_H4 at r4_s4 r4_e4 r4_r4 ⊢
    refine ⟨(by show 1 ≤ sizeLine; decide), fun r4_a5 r4_n5 => ?_⟩
    have r4_o5 : r4_a5 ≠ l3 := fun z => by rw [z, r4_r4] at r4_n5; cases r4_n5
    have r4_s5 := Same.upd (o := .lst [.ref r4_a4]) r4_n5
    have r4_e5 : upd r4_H4 r4_a5 (.lst [.ref r4_a4]) r4_a5 = some (.lst [.ref r4_a4]) := upd_same
    have r4_r5 := r4_s5 _ _ r4_r4
    generalize upd r4_H4 r4_a5 (.lst [.ref r4_a4]) = r4_H5 at r4_s5 r4_e5 r4_r5 ⊢
    refine ⟨(by show 2 ≤ sizeLine; decide), fun r4_a6 r4_n6 => ?_⟩
    have r4_o6 : r4_a6 ≠ l3 := fun z => by rw [z, r4_r5] at r4_n6; cases r4_n6
    have r4_s6 := Same.upd (o := .tup [.ref r4_a3, .ref r4_a5]) r4_n6
    have r4_e6 : upd r4_H5 r4_a6 (.tup [.ref r4_a3, .ref r4_a5]) r4_a6 = some (.tup [.ref r4_a3, .ref r4_a5]) := upd_same
    have r4_r6 := r4_s6 _ _ r4_r5
    generalize upd r4_H5 r4_a6 (.tup [.ref r4_a3, .ref r4_a5]) = r4_H6 at r4_s6 r4_e6 r4_r6 ⊢
    refine ⟨(by show 3 ≤ sizeLine; decide), fun r4_a7 r4_n7 => ?_⟩
    have r4_o7 : r4_a7 ≠ l3 := fun z => by rw [z, r4_r6] at r4_n7; cases r4_n7
    have r4_s7 := Same.upd (o := .tup [.int 1, .int 1, .int 1]) r4_n7
    have r4_e7 : upd r4_H6 r4_a7 (.tup [.int 1, .int 1, .int 1]) r4_a7 = some (.tup [.int 1, .int 1, .int 1]) := upd_same
    have r4_r7 := r4_s7 _ _ r4_r6
    generalize upd r4_H6 r4_a7 (.tup [.int 1, .int 1, .int 1]) = r4_H7 at r4_s7 r4_e7 r4_r7 ⊢
    refine ⟨(by show 1 ≤ sizeLine; decide), fun r4_a8 r4_n8 => ?_⟩
    have r4_o8 : r4_a8 ≠ l3 := fun z => by rw [z, r4_r7] at r4_n8; cases r4_n8
    have r4_s8 := Same.upd (o := .lst [.ref r4_a7]) r4_n8
    have r4_e8 : upd r4_H7 r4_a8 (.lst [.ref r4_a7]) r4_a8 = some (.lst [.ref r4_a7]) := upd_same
    have r4_r8 := r4_s8 _ _ r4_r7
    generalize upd r4_H7 r4_a8 (.lst [.ref r4_a7]) = r4_H8 at r4_s8 r4_e8 r4_r8 ⊢
    refine ⟨(by show 0 ≤ sizeLine; decide), fun r4_a9 r4_n9 => ?_⟩
    have r4_o9 : r4_a9 ≠ l3 := fun z => by rw [z, r4_r8] at r4_n9; cases r4_n9
    have r4_s9 := Same.upd (o := .lst []) r4_n9
    have r4_e9 : upd r4_H8 r4_a9 (.lst []) r4_a9 = some (.lst []) := upd_same
    have r4_r9 := r4_s9 _ _ r4_r8
    generalize upd r4_H8 r4_a9 (.lst []) = r4_H9 at r4_s9 r4_e9 r4_r9 ⊢
    refine ⟨(by show 2 ≤ sizeLine; decide), fun r4_a10 r4_n10 => ?_⟩
    have r4_o10 : r4_a10 ≠ l3 := fun z => by rw [z, r4_r9] at r4_n10; cases r4_n10
    have r4_s10 := Same.upd (o := .tup [.ref r4_a8, .ref r4_a9]) r4_n10
    have r4_e10 : upd r4_H9 r4_a10 (.tup [.ref r4_a8, .ref r4_a9]) r4_a10 = some (.tup [.ref r4_a8, .ref r4_a9]) := upd_same
    have r4_r10 := r4_s10 _ _ r4_r9
    generalize upd r4_H9 r4_a10 (.tup [.ref r4_a8, .ref r4_a9]) = r4_H10 at r4_s10 r4_e10 r4_r10 ⊢
    refine ⟨(by show 2 ≤ sizeLine; decide), fun r4_a11 r4_n11 => ?_⟩
    have r4_o11 : r4_a11 ≠ l3 := fun z => by rw [z, r4_r10] at r4_n11; cases r4_n11
    have r4_s11 := Same.upd (o := .lst [.ref r4_a6, .ref r4_a10]) r4_n11
    have r4_e11 : upd r4_H10 r4_a11 (.lst [.ref r4_a6, .ref r4_a10]) r4_a11 = some (.lst [.ref r4_a6, .ref r4_a10]) := upd_same
    have r4_r11 := r4_s11 _ _ r4_r10
    generalize upd r4_H10 r4_a11 (.lst [.ref r4_a6, .ref r4_a10]) = r4_H11 at r4_s11 r4_e11 r4_r11 ⊢
    refine ⟨(by show 3 ≤ sizeLine; decide), fun r4_a12 r4_n12 => ?_⟩
    have r4_o12 : r4_a12 ≠ l3 := fun z => by rw [z, r4_r11] at r4_n12; cases r4_n12
    have r4_s12 := Same.upd (o := .lst [.int 0, .int 0, .int 1]) r4_n12
    have r4_e12 : upd r4_H11 r4_a12 (.lst [.int 0, .int 0, .int 1]) r4_a12 = some (.lst [.int 0, .int 0, .int 1]) := upd_same
    have r4_r12 := r4_s12 _ _ r4_r11
    generalize upd r4_H11 r4_a12 (.lst [.int 0, .int 0, .int 1]) = r4_H12 at r4_s12 r4_e12 r4_r12 ⊢
    have r4_S12 := Same.refl r4_H12
    have r4_S11 := r4_s12.trans r4_S12
    have r4_S10 := r4_s11.trans r4_S11
    have r4_S9 := r4_s10.trans r4_S10
    have r4_S8 := r4_s9.trans r4_S9
    have r4_S7 := r4_s8.trans r4_S8
    have r4_S6 := r4_s7.trans r4_S7
    have r4_S5 := r4_s6.trans r4_S6
    have r4_S4 := r4_s5.trans r4_S5
    have r4_S3 := r4_s4.trans r4_S4
    have r4_S2 := r4_s3.trans r4_S3
    have r4_S1 := r4_s2.trans r4_S2
    have r4_S0 := r4_s1.trans r4_S1
    have r4_E1 := r4_S1 _ _ r4_e1
    have r4_E2 := r4_S2 _ _ r4_e2
    have r4_E3 := r4_S3 _ _ r4_e3
    have r4_E4 := r4_S4 _ _ r4_e4
    have r4_E5 := r4_S5 _ _ r4_e5
    have r4_E6 := r4_S6 _ _ r4_e6
    have r4_E7 := r4_S7 _ _ r4_e7
    have r4_E8 := r4_S8 _ _ r4_e8
    have r4_E9 := r4_S9 _ _ r4_e9
    have r4_E10 := r4_S10 _ _ r4_e10
    have r4_E11 := r4_S11 _ _ r4_e11
    have r4_E12 := r4_S12 _ _ r4_e12
    refine routes_made (fr := [(2, 5, 1)]) (svs := sv59 100 [(1, 1, 1)]) r4_E2 (.cons ⟨_, rfl, r4_E1⟩ .nil) r4_E11 (.cons ⟨_, _, _, _, _, rfl, r4_E6, r4_E3, .nil, r4_E5, .cons ⟨_, rfl, r4_E4⟩ .nil⟩ (.cons ⟨_, _, _, _, _, rfl, r4_E10, r4_E8, (.cons ⟨_, rfl, r4_E7⟩ .nil), r4_E9, .nil⟩ .nil)) (pat := [0, 0, 1]) r4_E12 (okR59' (e := 100) (b := [(1, 1, 1)]) (by decide) (by decide) (fun t h => by rw [List.mem_singleton.mp h]; exact ⟨by decide, by decide, by decide, by decide, by decide, by decide⟩) (by decide) (by decide) (by decide) (by decide) (by decide) (by decide) [(2, 5, 1)] (fun t h => by rw [List.mem_singleton.mp h]; exact ⟨by decide, by decide, by decide, by decide, by decide, by decide⟩) (by decide)) fun r4 HR4 R4 sr4 nr4 => ?_
    have sm4 := r4_S0.trans sr4
    have hL := sm4 _ _ hL
    have tabs := Tabs.nl tabs (NL.of sm4)
    have R1 := R1.nl (NL.of sm4)
    have R2 := R2.nl (NL.of sm4)
    have R3 := R3.nl (NL.of sm4)
    have hq4 := sm4 _ _ hq4
    refine ⟨(by show 1 ≤ sizeLine; decide), fun q5 nq5 => ?_⟩
    have sq5 := Same.upd (o := .lst [.ref r4]) nq5
    have hq5 : upd HR4 q5 (.lst [.ref r4]) q5 = some (.lst [.ref r4]) := upd_same
    have nl5 : l3 ≠ q5 := ne_of_none hL nq5
    generalize upd HR4 q5 (.lst [.ref r4]) = HQ5 at sq5 hq5 ⊢
    have hL := sq5 _ _ hL
    have tabs := Tabs.nl tabs (NL.of sq5)
    have R1 := R1.nl (NL.of sq5)
    have R2 := R2.nl (NL.of sq5)
    have R3 := R3.nl (NL.of sq5)
    have R4 := R4.nl (NL.of sq5)
    have hq4 := sq5 _ _ hq4
    refine ⟨q4, q5, _, _, rfl, rfl, hq4, hq5, (by show 4 ≤ sizeLine; decide), fun q6 nq6 => ?_⟩
    have sq6 := Same.upd (o := .lst ([.ref r1] ++ [.ref r2] ++ [.ref r3] ++ [.ref r4])) nq6
    have hq6 : upd HQ5 q6 (.lst ([.ref r1] ++ [.ref r2] ++ [.ref r3] ++ [.ref r4])) q6 = some (.lst ([.ref r1] ++ [.ref r2] ++ [.ref r3] ++ [.ref r4])) := upd_same
    have nl6 : l3 ≠ q6 := ne_of_none hL nq6
    generalize upd HQ5 q6 (.lst ([.ref r1] ++ [.ref r2] ++ [.ref r3] ++ [.ref r4])) = HQ6 at sq6 hq6 ⊢
    have hL := sq6 _ _ hL
    have tabs := Tabs.nl tabs (NL.of sq6)
    have R1 := R1.nl (NL.of sq6)
    have R2 := R2.nl (NL.of sq6)
    have R3 := R3.nl (NL.of sq6)
    have R4 := R4.nl (NL.of sq6)
    have hq4 := sq6 _ _ hq4
    have hq5 := sq6 _ _ hq5
    refine ⟨(by show 3 ≤ sizeLine; decide), fun za1 zn1 => ?_⟩
    have zo1 : za1 ≠ l3 := fun z => by rw [z, hL] at zn1; cases zn1
    have zs1 := Same.upd (o := .lst [.int 0, .int 1, .int 1]) zn1
    have ze1 : upd HQ6 za1 (.lst [.int 0, .int 1, .int 1]) za1 = some (.lst [.int 0, .int 1, .int 1]) := upd_same
    have zr1 := zs1 _ _ hL
    generalize upd HQ6 za1 (.lst [.int 0, .int 1, .int 1]) = zH1 at zs1 ze1 zr1 ⊢
    refine ⟨(by show 2 ≤ sizeLine; decide), fun za2 zn2 => ?_⟩
    have zo2 : za2 ≠ l3 := fun z => by rw [z, zr1] at zn2; cases zn2
    have zs2 := Same.upd (o := .tup [.ref za1, .int 1]) zn2
    have ze2 : upd zH1 za2 (.tup [.ref za1, .int 1]) za2 = some (.tup [.ref za1, .int 1]) := upd_same
    have zr2 := zs2 _ _ zr1
    generalize upd zH1 za2 (.tup [.ref za1, .int 1]) = zH2 at zs2 ze2 zr2 ⊢
    refine ⟨(by show 3 ≤ sizeLine; decide), fun za3 zn3 => ?_⟩
    have zo3 : za3 ≠ l3 := fun z => by rw [z, zr2] at zn3; cases zn3
    have zs3 := Same.upd (o := .lst [.int 0, .int 1, .int 0]) zn3
    have ze3 : upd zH2 za3 (.lst [.int 0, .int 1, .int 0]) za3 = some (.lst [.int 0, .int 1, .int 0]) := upd_same
    have zr3 := zs3 _ _ zr2
    generalize upd zH2 za3 (.lst [.int 0, .int 1, .int 0]) = zH3 at zs3 ze3 zr3 ⊢
    refine ⟨(by show 2 ≤ sizeLine; decide), fun za4 zn4 => ?_⟩
    have zo4 : za4 ≠ l3 := fun z => by rw [z, zr3] at zn4; cases zn4
    have zs4 := Same.upd (o := .tup [.ref za3, .int 1]) zn4
    have ze4 : upd zH3 za4 (.tup [.ref za3, .int 1]) za4 = some (.tup [.ref za3, .int 1]) := upd_same
    have zr4 := zs4 _ _ zr3
    generalize upd zH3 za4 (.tup [.ref za3, .int 1]) = zH4 at zs4 ze4 zr4 ⊢
    refine ⟨(by show 3 ≤ sizeLine; decide), fun za5 zn5 => ?_⟩
    have zo5 : za5 ≠ l3 := fun z => by rw [z, zr4] at zn5; cases zn5
    have zs5 := Same.upd (o := .lst [.int 0, .int 0, .int 1]) zn5
    have ze5 : upd zH4 za5 (.lst [.int 0, .int 0, .int 1]) za5 = some (.lst [.int 0, .int 0, .int 1]) := upd_same
    have zr5 := zs5 _ _ zr4
    generalize upd zH4 za5 (.lst [.int 0, .int 0, .int 1]) = zH5 at zs5 ze5 zr5 ⊢
    refine ⟨(by show 2 ≤ sizeLine; decide), fun za6 zn6 => ?_⟩
    have zo6 : za6 ≠ l3 := fun z => by rw [z, zr5] at zn6; cases zn6
    have zs6 := Same.upd (o := .tup [.ref za5, .int 2]) zn6
    have ze6 : upd zH5 za6 (.tup [.ref za5, .int 2]) za6 = some (.tup [.ref za5, .int 2]) := upd_same
    have zr6 := zs6 _ _ zr5
    generalize upd zH5 za6 (.tup [.ref za5, .int 2]) = zH6 at zs6 ze6 zr6 ⊢
    refine ⟨(by show 3 ≤ sizeLine; decide), fun za7 zn7 => ?_⟩
    have zo7 : za7 ≠ l3 := fun z => by rw [z, zr6] at zn7; cases zn7
    have zs7 := Same.upd (o := .lst [(.ref za2 : V), (.ref za4 : V), (.ref za6 : V)]) zn7
    have ze7 : upd zH6 za7 (.lst [(.ref za2 : V), (.ref za4 : V), (.ref za6 : V)]) za7 = some (.lst [(.ref za2 : V), (.ref za4 : V), (.ref za6 : V)]) := upd_same
    have zr7 := zs7 _ _ zr6
    generalize upd zH6 za7 (.lst [(.ref za2 : V), (.ref za4 : V), (.ref za6 : V)]) = zH7 at zs7 ze7 zr7 ⊢
    have zS7 := Same.refl zH7
    have zS6 := zs7.trans zS7
    have zS5 := zs6.trans zS6
    have zS4 := zs5.trans zS5
    have zS3 := zs4.trans zS4
    have zS2 := zs3.trans zS3
    have zS1 := zs2.trans zS2
    have zS0 := zs1.trans zS1
    have zE1 := zS1 _ _ ze1
    have zE2 := zS2 _ _ ze2
    have zE3 := zS3 _ _ ze3
    have zE4 := zS4 _ _ ze4
    have zE5 := zS5 _ _ ze5
    have zE6 := zS6 _ _ ze6
    have zE7 := zS7 _ _ ze7
    have hbl := zE7
    have gz : ∀ (i : Nat) x, [(.ref za2 : V), (.ref za4 : V), (.ref za6 : V)][i]? = some x → ∃ b lp pat st, x = .ref b ∧ zH7 b = some (.tup [.ref lp, .int st]) ∧ zH7 lp = some (.lst (pat.map pnV)) ∧ D59[4 + i]? = some ([(2, 5, 1)], sv59 100 [], pat, st) ∧ lp ≠ q6 ∧ b ≠ q6 ∧ 1 ≤ pat.length ∧ pat.length ≤ 20 ∧ (∀ n ∈ pat, n < 2) ∧ 1 ≤ st ∧ st ≤ 1000000000000000000000000000000 := by
      intro i x h
      match i, h with
      | 0, h => cases h; exact ⟨_, _, [0, 1, 1], 1, rfl, zE2, zE1, rfl, (ne_of_none hq6 zn1).symm, (ne_of_none (zs1 _ _ hq6) zn2).symm, by decide, by decide, by decide, by decide, by decide⟩
      | 1, h => cases h; exact ⟨_, _, [0, 1, 0], 1, rfl, zE4, zE3, rfl, (ne_of_none (zs2 _ _ (zs1 _ _ hq6)) zn3).symm, (ne_of_none (zs3 _ _ (zs2 _ _ (zs1 _ _ hq6))) zn4).symm, by decide, by decide, by decide, by decide, by decide⟩
      | 2, h => cases h; exact ⟨_, _, [0, 0, 1], 2, rfl, zE6, zE5, rfl, (ne_of_none (zs4 _ _ (zs3 _ _ (zs2 _ _ (zs1 _ _ hq6)))) zn5).symm, (ne_of_none (zs5 _ _ (zs4 _ _ (zs3 _ _ (zs2 _ _ (zs1 _ _ hq6))))) zn6).symm, by decide, by decide, by decide, by decide, by decide⟩
      | n + 3, h => cases h
    have lz : [(.ref za2 : V), (.ref za4 : V), (.ref za6 : V)].length = 3 := rfl
    generalize [(.ref za2 : V), (.ref za4 : V), (.ref za6 : V)] = Lz at hbl gz lz
    have nbl : za7 ≠ q6 := (ne_of_none (zs6 _ _ (zs5 _ _ (zs4 _ _ (zs3 _ _ (zs2 _ _ (zs1 _ _ hq6)))))) zn7).symm
    have hL := zS0 _ _ hL
    have tabs := Tabs.nl tabs (NL.of zS0)
    have R1 := R1.nl (NL.of zS0)
    have R2 := R2.nl (NL.of zS0)
    have R3 := R3.nl (NL.of zS0)
    have R4 := R4.nl (NL.of zS0)
    have hq6 := zS0 _ _ hq6
    have hD : Paired (RtD L.c_Routes zH7) [.ref r1, .ref r2, .ref r3, .ref r4] (D59.take 4) := .cons ⟨_, rfl, R1⟩ (.cons ⟨_, rfl, R2⟩ (.cons ⟨_, rfl, R3⟩ (.cons ⟨_, rfl, R4⟩ .nil)))
    refine ⟨za7, rfl, ⟨_, SqL.of hbl⟩, for_list (K := K) (a := za7) (xs := Lz) (fun i σ Hx => ∃ (v6 v7 : Option V) (ys : List V), σ = [some (.ref a), some (.int cc), some (.ref s), some (.ref lc), v4, some (.ref q6), v6, v7, v8, v9, vv1, vv2, some (.ref rt), none, none] ∧ Hx q6 = some (.lst ys) ∧ Paired (RtD L.c_Routes Hx) ys (D59.take (4 + i)) ∧ Kp q6 zH7 Hx ∧ LamX.Tabs (LT L) Hx) ⟨_, _, _, rfl, hq6, hD, fun b o _ e => e, tabs⟩ (fun i σ Hx _ ⟨_, _, _, _, _, _, kx, _⟩ => SqL.of (kx _ _ nbl hbl)) ?_ ?_⟩
    · rintro i x σ Hx hxi ⟨v6, v7, ys, rfl, hq6, hD, kx, tabs⟩
      obtain ⟨b, lp, pat, st, rfl, hb, hlp, hd, nlp, nb, p0, p1, pb, t0, t1⟩ := gz i x hxi
      have hb := kx _ _ nb hb
      have hlp := kx _ _ nlp hlp
      have hL := kx _ _ nl6 hL
      have yl := paired_len hD
      have tl : (D59.take (4 + i)).length ≤ 7 := Nat.le_trans (List.length_take_le _ _) (by have := (List.getElem?_eq_some_iff.mp hxi).1; omega)
      refine ⟨b, _, rfl, SqT.of hb, rfl, _, _, rfl, _, _, rfl, rfl, ?_⟩
      refine ⟨_, rfl, .inl ⟨rfl, _, SqL.of hq6⟩, (by show 3 ≤ sizeLine; decide), fun r7_a1 r7_n1 => ?_⟩
      have r7_o1 : r7_a1 ≠ l3 := fun z => by rw [z, hL] at r7_n1; cases r7_n1
      have r7_s1 := Same.upd (o := .tup [.int 2, .int 5, .int 1]) r7_n1
      have r7_e1 : upd Hx r7_a1 (.tup [.int 2, .int 5, .int 1]) r7_a1 = some (.tup [.int 2, .int 5, .int 1]) := upd_same
      have r7_r1 := r7_s1 _ _ hL
      generalize upd Hx r7_a1 (.tup [.int 2, .int 5, .int 1]) = r7_H1 at r7_s1 r7_e1 r7_r1 ⊢
      refine ⟨(by show 1 ≤ sizeLine; decide), fun r7_a2 r7_n2 => ?_⟩
      have r7_o2 : r7_a2 ≠ l3 := fun z => by rw [z, r7_r1] at r7_n2; cases r7_n2
      have r7_s2 := Same.upd (o := .lst [.ref r7_a1]) r7_n2
      have r7_e2 : upd r7_H1 r7_a2 (.lst [.ref r7_a1]) r7_a2 = some (.lst [.ref r7_a1]) := upd_same
      have r7_r2 := r7_s2 _ _ r7_r1
      generalize upd r7_H1 r7_a2 (.lst [.ref r7_a1]) = r7_H2 at r7_s2 r7_e2 r7_r2 ⊢
      refine ⟨(by show 0 ≤ sizeLine; decide), fun r7_a3 r7_n3 => ?_⟩
      have r7_o3 : r7_a3 ≠ l3 := fun z => by rw [z, r7_r2] at r7_n3; cases r7_n3
      have r7_s3 := Same.upd (o := .lst []) r7_n3
      have r7_e3 : upd r7_H2 r7_a3 (.lst []) r7_a3 = some (.lst []) := upd_same
      have r7_r3 := r7_s3 _ _ r7_r2
      generalize upd r7_H2 r7_a3 (.lst []) = r7_H3 at r7_s3 r7_e3 r7_r3 ⊢
      refine ⟨(by show 2 ≤ sizeLine; decide), fun r7_a4 r7_n4 => ?_⟩
      have r7_o4 : r7_a4 ≠ l3 := fun z => by rw [z, r7_r3] at r7_n4; cases r7_n4
      have r7_s4 := Same.upd (o := .tup [.int 0, .int 100]) r7_n4
      have r7_e4 : upd r7_H3 r7_a4 (.tup [.int 0, .int 100]) r7_a4 = some (.tup [.int 0, .int 100]) := upd_same
      have r7_r4 := r7_s4 _ _ r7_r3
      generalize upd r7_H3 r7_a4 (.tup [.int 0, .int 100]) = r7_H4 at r7_s4 r7_e4 r7_r4 ⊢
      refine ⟨(by show 1 ≤ sizeLine; decide), fun r7_a5 r7_n5 => ?_⟩
      have r7_o5 : r7_a5 ≠ l3 := fun z => by rw [z, r7_r4] at r7_n5; cases r7_n5
      have r7_s5 := Same.upd (o := .lst [.ref r7_a4]) r7_n5
      have r7_e5 : upd r7_H4 r7_a5 (.lst [.ref r7_a4]) r7_a5 = some (.lst [.ref r7_a4]) := upd_same
      have r7_r5 := r7_s5 _ _ r7_r4
      generalize upd r7_H4 r7_a5 (.lst [.ref r7_a4]) = r7_H5 at r7_s5 r7_e5 r7_r5 ⊢
      refine ⟨(by show 2 ≤ sizeLine; decide), fun r7_a6 r7_n6 => ?_⟩
      have r7_o6 : r7_a6 ≠ l3 := fun z => by rw [z, r7_r5] at r7_n6; cases r7_n6
      have r7_s6 := Same.upd (o := .tup [.ref r7_a3, .ref r7_a5]) r7_n6
      have r7_e6 : upd r7_H5 r7_a6 (.tup [.ref r7_a3, .ref r7_a5]) r7_a6 = some (.tup [.ref r7_a3, .ref r7_a5]) := upd_same
      have r7_r6 := r7_s6 _ _ r7_r5
      generalize upd r7_H5 r7_a6 (.tup [.ref r7_a3, .ref r7_a5]) = r7_H6 at r7_s6 r7_e6 r7_r6 ⊢
      refine ⟨(by show 0 ≤ sizeLine; decide), fun r7_a7 r7_n7 => ?_⟩
      have r7_o7 : r7_a7 ≠ l3 := fun z => by rw [z, r7_r6] at r7_n7; cases r7_n7
      have r7_s7 := Same.upd (o := .lst []) r7_n7
      have r7_e7 : upd r7_H6 r7_a7 (.lst []) r7_a7 = some (.lst []) := upd_same
      have r7_r7 := r7_s7 _ _ r7_r6
      generalize upd r7_H6 r7_a7 (.lst []) = r7_H7 at r7_s7 r7_e7 r7_r7 ⊢
      refine ⟨(by show 0 ≤ sizeLine; decide), fun r7_a8 r7_n8 => ?_⟩
      have r7_o8 : r7_a8 ≠ l3 := fun z => by rw [z, r7_r7] at r7_n8; cases r7_n8
      have r7_s8 := Same.upd (o := .lst []) r7_n8
      have r7_e8 : upd r7_H7 r7_a8 (.lst []) r7_a8 = some (.lst []) := upd_same
      have r7_r8 := r7_s8 _ _ r7_r7
      generalize upd r7_H7 r7_a8 (.lst []) = r7_H8 at r7_s8 r7_e8 r7_r8 ⊢
      refine ⟨(by show 2 ≤ sizeLine; decide), fun r7_a9 r7_n9 => ?_⟩
      have r7_o9 : r7_a9 ≠ l3 := fun z => by rw [z, r7_r8] at r7_n9; cases r7_n9
      have r7_s9 := Same.upd (o := .tup [.ref r7_a7, .ref r7_a8]) r7_n9
      have r7_e9 : upd r7_H8 r7_a9 (.tup [.ref r7_a7, .ref r7_a8]) r7_a9 = some (.tup [.ref r7_a7, .ref r7_a8]) := upd_same
      have r7_r9 := r7_s9 _ _ r7_r8
      generalize upd r7_H8 r7_a9 (.tup [.ref r7_a7, .ref r7_a8]) = r7_H9 at r7_s9 r7_e9 r7_r9 ⊢
      refine ⟨(by show 2 ≤ sizeLine; decide), fun r7_a10 r7_n10 => ?_⟩
      have r7_o10 : r7_a10 ≠ l3 := fun z => by rw [z, r7_r9] at r7_n10; cases r7_n10
      have r7_s10 := Same.upd (o := .lst [.ref r7_a6, .ref r7_a9]) r7_n10
      have r7_e10 : upd r7_H9 r7_a10 (.lst [.ref r7_a6, .ref r7_a9]) r7_a10 = some (.lst [.ref r7_a6, .ref r7_a9]) := upd_same
      have r7_r10 := r7_s10 _ _ r7_r9
      generalize upd r7_H9 r7_a10 (.lst [.ref r7_a6, .ref r7_a9]) = r7_H10 at r7_s10 r7_e10 r7_r10 ⊢
      refine ⟨_, rfl, _, rfl, ?_⟩
      have r7_S10 := Same.refl r7_H10
      have r7_S9 := r7_s10.trans r7_S10
      have r7_S8 := r7_s9.trans r7_S9
      have r7_S7 := r7_s8.trans r7_S8
      have r7_S6 := r7_s7.trans r7_S7
      have r7_S5 := r7_s6.trans r7_S6
      have r7_S4 := r7_s5.trans r7_S5
      have r7_S3 := r7_s4.trans r7_S4
      have r7_S2 := r7_s3.trans r7_S3
      have r7_S1 := r7_s2.trans r7_S2
      have r7_S0 := r7_s1.trans r7_S1
      have r7_E1 := r7_S1 _ _ r7_e1
      have r7_E2 := r7_S2 _ _ r7_e2
      have r7_E3 := r7_S3 _ _ r7_e3
      have r7_E4 := r7_S4 _ _ r7_e4
      have r7_E5 := r7_S5 _ _ r7_e5
      have r7_E6 := r7_S6 _ _ r7_e6
      have r7_E7 := r7_S7 _ _ r7_e7
      have r7_E8 := r7_S8 _ _ r7_e8
      have r7_E9 := r7_S9 _ _ r7_e9
      have r7_E10 := r7_S10 _ _ r7_e10
      refine routes_made (fr := [(2, 5, 1)]) (svs := sv59 100 []) r7_E2 (.cons ⟨_, rfl, r7_E1⟩ .nil) r7_E10 (.cons ⟨_, _, _, _, _, rfl, r7_E6, r7_E3, .nil, r7_E5, .cons ⟨_, rfl, r7_E4⟩ .nil⟩ (.cons ⟨_, _, _, _, _, rfl, r7_E9, r7_E7, .nil, r7_E8, .nil⟩ .nil)) (pat := pat) (r7_S0 _ _ hlp) (okR59' (e := 100) (b := []) (by decide) (by decide) (fun t h => nomatch h) (by decide) p0 p1 pb t0 t1 [(2, 5, 1)] (fun t h => by rw [List.mem_singleton.mp h]; exact ⟨by decide, by decide, by decide, by decide, by decide, by decide⟩) (by decide)) fun r7 HR7 R7 sr7 nr7 => ?_
      have sm7 := r7_S0.trans sr7
      have hL := sm7 _ _ hL
      have tabs := Tabs.nl tabs (NL.of sm7)
      have hq6 := sm7 _ _ hq6
      refine ⟨q6, _, _, rfl, rfl, hq6, small1 (by omega), ?_⟩
      have na := NL.upd (o := .lst (ys ++ [.ref r7])) hq6
      refine ⟨_, _, ys ++ [.ref r7], rfl, upd_same, ?_, ?_, Tabs.nl tabs na⟩
      · have hd2 : D59.take (4 + (i + 1)) = D59.take (4 + i) ++ [([(2, 5, 1)], sv59 100 [], pat, st)] := by
          rw [show 4 + (i + 1) = (4 + i) + 1 from rfl, List.take_add_one, hd]
          rfl
        rw [hd2]
        exact paired_app (L2.Paired.mapP hD fun _ _ z => (z.nl (NL.of sm7)).nl na) (.cons ⟨_, rfl, R7.nl na⟩ .nil)
      · intro b o n e
        rw [upd_ne n]
        exact sm7 _ _ (kx _ _ n e)
    rintro σ HF ⟨v6, v7, ys, rfl, hq6, hD, kx, tabs⟩
    have hL := kx _ _ nl6 hL
    have hD : Paired (RtD L.c_Routes HF) ys D59 := by
      rw [lz] at hD
      exact hD
    have yl : ys.length = 7 := paired_len hD
    clear kx gz hbl R1 R2 R3 R4
    refine ⟨_, rfl, q6, ys, rfl, .inl (SqL.of hq6), _, rfl, by omega, by omega, ?_⟩
    refine for_range (lo := 0) (n := (((ys.length : Nat) : Int)).toNat) (fun i σ Hx => ∃ v8 : Option V, σ = [some (.ref a), some (.int cc), some (.ref s), some (.ref lc), v4, some (.ref q6), v6, v7, v8, v9, vv1, vv2, some (.ref rt), none, none] ∧ Same HF Hx) ⟨_, rfl, Same.refl _⟩ ?_ ?_
    · rintro i σ Hx hi ⟨v8, rfl, sx⟩
      have hi7 : i < 7 := by omega
      have hqx := sx _ _ hq6
      have hDx : Paired (RtD L.c_Routes Hx) ys D59 := L2.Paired.mapP hD fun _ _ z => z.nl (NL.of sx)
      obtain ⟨yi, hyi⟩ : ∃ yi, ys[i]? = some yi := ⟨_, List.getElem?_eq_getElem (by omega)⟩
      obtain ⟨di, hdi, Ri⟩ := paired_get hDx hyi
      refine ⟨_, rfl, _, rfl, by omega, by omega, fun D nD => ?_⟩
      refine lc_range (lo := 0) (n := ((0 : Int) + (i : Nat)).toNat) (fun j Hy => Hy D = some (.lst []) ∧ Same Hx Hy) ⟨upd_same, Same.upd nD⟩ ?_ ?_
      · rintro j Hy hj ⟨hDy, sy⟩
        have hji : j < i := by omega
        obtain ⟨yj, hyj⟩ : ∃ yj, ys[j]? = some yj := ⟨_, List.getElem?_eq_getElem (by omega)⟩
        obtain ⟨dj, hdj, Rj⟩ := paired_get hDx hyj
        have ne := D59_ne i j hi7 hji dj di hdj hdi
        have Riy := Ri.nl (NL.of sy)
        have Rjy := Rj.nl (NL.of sy)
        have hqy := sy _ _ hqx
        have ai : atI ys ((0 : Int) + (i : Nat)) = some yi := by rw [Int.zero_add]; exact atI_nat hyi
        have aj : atI ys ((0 : Int) + (j : Nat)) = some yj := by rw [Int.zero_add]; exact atI_nat hyj
        refine ⟨rfl, _, rfl, _, rfl, q6, ys, _, yj, rfl, rfl, SqL.of hqy, aj, _, rfl, _, rfl, q6, ys, _, yi, rfl, rfl, SqL.of hqy, ai, own_eqR Rjy Riy ⟨_, rfl, ?_⟩⟩
        rw [decide_eq_false ne]
        refine iteF ⟨_, rfl, _, rfl, q6, ys, _, yi, rfl, rfl, SqL.of hqy, ai, _, rfl, _, rfl, q6, ys, _, yj, rfl, rfl, SqL.of hqy, aj, own_eqR Riy Rjy ⟨_, rfl, ?_⟩⟩
        rw [decide_eq_false (fun e => ne e.symm)]
        exact iteF ⟨hDy, sy⟩
      · rintro Hy ⟨hDy, sy⟩
        refine ⟨(by show 0 ≤ sizeLine; decide), fun q9 m9 => ?_⟩
        have S9 := Same.upd (o := .lst []) m9
        refine ⟨nilD, nilD, .lst (SqL.of (S9 _ _ hDy)) .nil, .lst (SqL.of upd_same) .nil, shNil, shNil, ?_⟩
        rw [eqNil]
        have sz := sy.trans S9
        have Rz := Ri.nl (NL.of sz)
        have hqz := sz _ _ hqx
        generalize upd Hy q9 (.lst []) = Hz at sz Rz hqz ⊢
        have ai : atI ys ((0 : Int) + (i : Nat)) = some yi := by rw [Int.zero_add]; exact atI_nat hyi
        obtain ⟨p, rfl, Rp⟩ := Rz
        obtain ⟨dx, fs, hp, hlk⟩ := Rp.own
        refine ⟨_, rfl, iteF ⟨_, rfl, _, rfl, q6, ys, _, _, rfl, rfl, SqL.of hqz, ai, _, rfl, _, rfl, q6, ys, _, _, rfl, rfl, SqL.of hqz, ai, p, dx, fs, rfl, hp, hlk, p, di.1, di.2.1, di.2.2.1, di.2.2.2, rfl, Rp, fun T0 lc2 ls2 lp2 xc2 xs2 HT hT _ _ _ _ _ sT _ _ _ _ => ?_⟩⟩
        exact own_eqT ⟨p, rfl, Rp.nl (NL.of sT)⟩ hT ⟨_, rfl, iteF ⟨_, rfl, sx.trans (sz.trans sT)⟩⟩
    rintro σ HG ⟨v8, rfl, sg⟩
    exact ⟨_, _, _, _, _, _, _, _, _, _, _, _, rfl, sg _ _ hL, Tabs.nl tabs (NL.of sg)⟩
end
/-! ### the end -/
theorem bn_q0 (kV doc pm : Value) (an : Option Addr) (cdv ct : Value) (us : List Value) (hl : us.length = (["value"] : List Str).length) : bindArgs (PySem.W.fnOf "is_integer" "is_integer" (defArgs st_is_integer) (defBody st_is_integer) (defScope st_is_integer) .none kV doc pm an cdv ct) ⟨us, []⟩ = pure ((["value"] : List Str).zip us) :=
  match us, hl with | [_], _ => rfl
theorem bn_q1 (kV doc pm : Value) (an : Option Addr) (cdv ct : Value) (us : List Value) (hl : us.length = (["value", "least"] : List Str).length) : bindArgs (PySem.W.fnOf "is_at_least" "is_at_least" (defArgs st_is_at_least) (defBody st_is_at_least) (defScope st_is_at_least) .none kV doc pm an cdv ct) ⟨us, []⟩ = pure ((["value", "least"] : List Str).zip us) :=
  match us, hl with | [_, _], _ => rfl
theorem bn_q2 (kV doc pm : Value) (an : Option Addr) (cdv ct : Value) (us : List Value) (hl : us.length = (["value", "least", "most"] : List Str).length) : bindArgs (PySem.W.fnOf "is_within" "is_within" (defArgs st_is_within) (defBody st_is_within) (defScope st_is_within) .none kV doc pm an cdv ct) ⟨us, []⟩ = pure ((["value", "least", "most"] : List Str).zip us) :=
  match us, hl with | [_, _, _], _ => rfl
theorem bn_q3 (kV doc pm : Value) (an : Option Addr) (cdv ct : Value) (us : List Value) (hl : us.length = (["value"] : List Str).length) : bindArgs (PySem.W.fnOf "is_breaker" "is_breaker" (defArgs st_is_breaker) (defBody st_is_breaker) (defScope st_is_breaker) .none kV doc pm an cdv ct) ⟨us, []⟩ = pure ((["value"] : List Str).zip us) :=
  match us, hl with | [_], _ => rfl
theorem bn_q4 (kV doc pm : Value) (an : Option Addr) (cdv ct : Value) (us : List Value) (hl : us.length = (["breakers", "part"] : List Str).length) : bindArgs (PySem.W.fnOf "check_breakers" "check_breakers" (defArgs st_check_breakers) (defBody st_check_breakers) (defScope st_check_breakers) .none kV doc pm an cdv ct) ⟨us, []⟩ = pure ((["breakers", "part"] : List Str).zip us) :=
  match us, hl with | [_, _], _ => rfl
theorem bn_q5 (kV doc pm : Value) (an : Option Addr) (cdv ct : Value) (us : List Value) (hl : us.length = (["step"] : List Str).length) : bindArgs (PySem.W.fnOf "check_step" "check_step" (defArgs st_check_step) (defBody st_check_step) (defScope st_check_step) .none kV doc pm an cdv ct) ⟨us, []⟩ = pure ((["step"] : List Str).zip us) :=
  match us, hl with | [_], _ => rfl
theorem bn_q6 (kV doc pm : Value) (an : Option Addr) (cdv ct : Value) (us : List Value) (hl : us.length = (["number"] : List Str).length) : bindArgs (PySem.W.fnOf "closed_states" "closed_states" (defArgs st_closed_states) (defBody st_closed_states) (defScope st_closed_states) .none kV doc pm an cdv ct) ⟨us, []⟩ = pure ((["number"] : List Str).zip us) :=
  match us, hl with | [_], _ => rfl
theorem bn_q7 (kV doc pm : Value) (an : Option Addr) (cdv ct : Value) (us : List Value) (hl : us.length = (["breaker", "state", "time"] : List Str).length) : bindArgs (PySem.W.fnOf "passes" "passes" (defArgs st_passes) (defBody st_passes) (defScope st_passes) .none kV doc pm an cdv ct) ⟨us, []⟩ = pure ((["breaker", "state", "time"] : List Str).zip us) :=
  match us, hl with | [_, _, _], _ => rfl
theorem bn_q8 (kV doc pm : Value) (an : Option Addr) (cdv ct : Value) (us : List Value) (hl : us.length = (["breaker", "state", "time", "succeeded"] : List Str).length) : bindArgs (PySem.W.fnOf "state_behind" "state_behind" (defArgs st_state_behind) (defBody st_state_behind) (defScope st_state_behind) .none kV doc pm an cdv ct) ⟨us, []⟩ = pure ((["breaker", "state", "time", "succeeded"] : List Str).zip us) :=
  match us, hl with | [_, _, _, _], _ => rfl
theorem bn_q9 (kV doc pm : Value) (an : Option Addr) (cdv ct : Value) (us : List Value) (hl : us.length = (["breakers", "states", "time", "up"] : List Str).length) : bindArgs (PySem.W.fnOf "sent" "sent" (defArgs st_sent) (defBody st_sent) (defScope st_sent) .none kV doc pm an cdv ct) ⟨us, []⟩ = pure ((["breakers", "states", "time", "up"] : List Str).zip us) :=
  match us, hl with | [_, _, _, _], _ => rfl
theorem bn_q10 (kV doc pm : Value) (an : Option Addr) (cdv ct : Value) (us : List Value) (hl : us.length = (["outages"] : List Str).length) : bindArgs (PySem.W.fnOf "check_outages" "check_outages" (defArgs st_check_outages) (defBody st_check_outages) (defScope st_check_outages) .none kV doc pm an cdv ct) ⟨us, []⟩ = pure ((["outages"] : List Str).zip us) :=
  match us, hl with | [_], _ => rfl
theorem bn_q11 (kV doc pm : Value) (an : Option Addr) (cdv ct : Value) (us : List Value) (hl : us.length = (["value"] : List Str).length) : bindArgs (PySem.W.fnOf "is_outage" "is_outage" (defArgs st_is_outage) (defBody st_is_outage) (defScope st_is_outage) .none kV doc pm an cdv ct) ⟨us, []⟩ = pure ((["value"] : List Str).zip us) :=
  match us, hl with | [_], _ => rfl
theorem bn_q12 (kV doc pm : Value) (an : Option Addr) (cdv ct : Value) (us : List Value) (hl : us.length = (["value"] : List Str).length) : bindArgs (PySem.W.fnOf "is_service" "is_service" (defArgs st_is_service) (defBody st_is_service) (defScope st_is_service) .none kV doc pm an cdv ct) ⟨us, []⟩ = pure ((["value"] : List Str).zip us) :=
  match us, hl with | [_], _ => rfl
theorem bn_q13 (kV doc pm : Value) (an : Option Addr) (cdv ct : Value) (us : List Value) (hl : us.length = (["services"] : List Str).length) : bindArgs (PySem.W.fnOf "check_services" "check_services" (defArgs st_check_services) (defBody st_check_services) (defScope st_check_services) .none kV doc pm an cdv ct) ⟨us, []⟩ = pure ((["services"] : List Str).zip us) :=
  match us, hl with | [_], _ => rfl
theorem bn_q14 (kV doc pm : Value) (an : Option Addr) (cdv ct : Value) (us : List Value) (hl : us.length = (["pattern", "number"] : List Str).length) : bindArgs (PySem.W.fnOf "check_pattern" "check_pattern" (defArgs st_check_pattern) (defBody st_check_pattern) (defScope st_check_pattern) .none kV doc pm an cdv ct) ⟨us, []⟩ = pure ((["pattern", "number"] : List Str).zip us) :=
  match us, hl with | [_, _], _ => rfl
theorem bn_q15 (kV doc pm : Value) (an : Option Addr) (cdv ct : Value) (us : List Value) (hl : us.length = (["outages", "time"] : List Str).length) : bindArgs (PySem.W.fnOf "is_up" "is_up" (defArgs st_is_up) (defBody st_is_up) (defScope st_is_up) .none kV doc pm an cdv ct) ⟨us, []⟩ = pure ((["outages", "time"] : List Str).zip us) :=
  match us, hl with | [_, _], _ => rfl
theorem bn_q16 (kV doc pm : Value) (an : Option Addr) (cdv ct : Value) (us : List Value) (hl : us.length = (["routes", "count"] : List Str).length) : bindArgs (PySem.W.fnOf "sent_requests" "sent_requests" (defArgs st_sent_requests) (defBody st_sent_requests) (defScope st_sent_requests) .none kV doc pm an cdv ct) ⟨us, []⟩ = pure ((["routes", "count"] : List Str).zip us) :=
  match us, hl with | [_, _], _ => rfl
theorem bn_q17 (kV doc pm : Value) (an : Option Addr) (cdv ct : Value) (us : List Value) (hl : us.length = (["routes", "count"] : List Str).length) : bindArgs (PySem.W.fnOf "served" "served" (defArgs st_served) (defBody st_served) (defScope st_served) .none kV doc pm an cdv ct) ⟨us, []⟩ = pure ((["routes", "count"] : List Str).zip us) :=
  match us, hl with | [_, _], _ => rfl
theorem bn_q18 (kV doc pm : Value) (an : Option Addr) (cdv ct : Value) (us : List Value) (hl : us.length = (["routes", "count"] : List Str).length) : bindArgs (PySem.W.fnOf "common_openings" "common_openings" (defArgs st_common_openings) (defBody st_common_openings) (defScope st_common_openings) .none kV doc pm an cdv ct) ⟨us, []⟩ = pure ((["routes", "count"] : List Str).zip us) :=
  match us, hl with | [_, _], _ => rfl
theorem bn_q19 (kV doc pm : Value) (an : Option Addr) (cdv ct : Value) (us : List Value) (hl : us.length = (["routes", "down"] : List Str).length) : bindArgs (PySem.W.fnOf "check_down" "check_down" (defArgs st_check_down) (defBody st_check_down) (defScope st_check_down) .none kV doc pm an cdv ct) ⟨us, []⟩ = pure ((["routes", "down"] : List Str).zip us) :=
  match us, hl with | [_, _], _ => rfl
theorem bn_q20 (kV doc pm : Value) (an : Option Addr) (cdv ct : Value) (us : List Value) (hl : us.length = (["routes", "down"] : List Str).length) : bindArgs (PySem.W.fnOf "failing_runs" "failing_runs" (defArgs st_failing_runs) (defBody st_failing_runs) (defScope st_failing_runs) .none kV doc pm an cdv ct) ⟨us, []⟩ = pure ((["routes", "down"] : List Str).zip us) :=
  match us, hl with | [_, _], _ => rfl
theorem bn_q21 (kV doc pm : Value) (an : Option Addr) (cdv ct : Value) (us : List Value) (hl : us.length = (["routes", "down"] : List Str).length) : bindArgs (PySem.W.fnOf "longest_failure" "longest_failure" (defArgs st_longest_failure) (defBody st_longest_failure) (defScope st_longest_failure) .none kV doc pm an cdv ct) ⟨us, []⟩ = pure ((["routes", "down"] : List Str).zip us) :=
  match us, hl with | [_, _], _ => rfl
theorem bn_q22 (kV doc pm : Value) (an : Option Addr) (cdv ct : Value) (us : List Value) (hl : us.length = (["routes", "down"] : List Str).length) : bindArgs (PySem.W.fnOf "first_opening" "first_opening" (defArgs st_first_opening) (defBody st_first_opening) (defScope st_first_opening) .none kV doc pm an cdv ct) ⟨us, []⟩ = pure ((["routes", "down"] : List Str).zip us) :=
  match us, hl with | [_, _], _ => rfl
theorem bn_q23 (kV doc pm : Value) (an : Option Addr) (cdv ct : Value) (us : List Value) (hl : us.length = (["_law_cell"] : List Str).length) : bindArgs (PySem.W.fnOf "_law_source_of" "_law_source_of" (defArgs st__law_source_of) (defBody st__law_source_of) (defScope st__law_source_of) .none kV doc pm an cdv ct) ⟨us, []⟩ = pure ((["_law_cell"] : List Str).zip us) :=
  match us, hl with | [_], _ => rfl
theorem bn_q24 (kV doc pm : Value) (an : Option Addr) (cdv ct : Value) (us : List Value) (hl : us.length = (["_law_source", "_law_many"] : List Str).length) : bindArgs (PySem.W.fnOf "_law_next" "_law_next" (defArgs st__law_next) (defBody st__law_next) (defScope st__law_next) .none kV doc pm an cdv ct) ⟨us, []⟩ = pure ((["_law_source", "_law_many"] : List Str).zip us) :=
  match us, hl with | [_, _], _ => rfl
theorem bn_q25 (kV doc pm : Value) (an : Option Addr) (cdv ct : Value) (us : List Value) (hl : us.length = (["_law_source", "_law_options"] : List Str).length) : bindArgs (PySem.W.fnOf "_law_one" "_law_one" (defArgs st__law_one) (defBody st__law_one) (defScope st__law_one) .none kV doc pm an cdv ct) ⟨us, []⟩ = pure ((["_law_source", "_law_options"] : List Str).zip us) :=
  match us, hl with | [_, _], _ => rfl
theorem bn_q26 (kV doc pm : Value) (an : Option Addr) (cdv ct : Value) (us : List Value) (hl : us.length = (["_law_script", "_law_k"] : List Str).length) : bindArgs (PySem.W.fnOf "_law_cell_at" "_law_cell_at" (defArgs st__law_cell_at) (defBody st__law_cell_at) (defScope st__law_cell_at) .none kV doc pm an cdv ct) ⟨us, []⟩ = pure ((["_law_script", "_law_k"] : List Str).zip us) :=
  match us, hl with | [_, _], _ => rfl
theorem bn_q27 (kV doc pm : Value) (an : Option Addr) (cdv ct : Value) (us : List Value) (hl : us.length = (["_law_call"] : List Str).length) : bindArgs (PySem.W.fnOf "_law_raised" "_law_raised" (defArgs st__law_raised) (defBody st__law_raised) (defScope st__law_raised) .none kV doc pm an cdv ct) ⟨us, []⟩ = pure ((["_law_call"] : List Str).zip us) :=
  match us, hl with | [_], _ => rfl
theorem bn_q28 (kV doc pm : Value) (an : Option Addr) (cdv ct : Value) (us : List Value) (hl : us.length = (["_law_source"] : List Str).length) : bindArgs (PySem.W.fnOf "_law_parts_right" "_law_parts_right" (defArgs st__law_parts_right) (defBody st__law_parts_right) (defScope st__law_parts_right) .none kV doc pm an cdv ct) ⟨us, []⟩ = pure ((["_law_source"] : List Str).zip us) :=
  match us, hl with | [_], _ => rfl
theorem bn_NRoutes (kV doc pm : Value) (an : Option Addr) (cdv ct : Value) (us : List Value) (hl : us.length = (["self", "common", "services", "pattern", "step"] : List Str).length) : bindArgs (PySem.W.fnOf "__init__" "Routes.__init__" (defArgs st_Routes_init) (defBody st_Routes_init) (defScope st_Routes_init) .none kV doc pm an cdv ct) ⟨us, []⟩ = pure ((["self", "common", "services", "pattern", "step"] : List Str).zip us) :=
  match us, hl with | [_, _, _, _, _], _ => rfl
theorem bn_q29 (kV doc pm : Value) (an : Option Addr) (cdv ct : Value) (us : List Value) (hl : us.length = (["self"] : List Str).length) : bindArgs (PySem.W.fnOf "parts" "Routes.parts" (defArgs st_Routes_parts) (defBody st_Routes_parts) (defScope st_Routes_parts) .none kV doc pm an cdv ct) ⟨us, []⟩ = pure ((["self"] : List Str).zip us) :=
  match us, hl with | [_], _ => rfl
theorem bn_q30 (kV doc pm : Value) (an : Option Addr) (cdv ct : Value) (us : List Value) (hl : us.length = (["self", "other"] : List Str).length) : bindArgs (PySem.W.fnOf "__eq__" "Routes.__eq__" (defArgs st_Routes_eq) (defBody st_Routes_eq) (defScope st_Routes_eq) .none kV doc pm an cdv ct) ⟨us, []⟩ = pure ((["self", "other"] : List Str).zip us) :=
  match us, hl with | [_, _], _ => rfl
theorem bn_NInvalidRow (kV doc pm : Value) (an : Option Addr) (cdv ct : Value) (us : List Value) (hl : us.length = (["self", "part", "at"] : List Str).length) : bindArgs (PySem.W.fnOf "__init__" "InvalidRow.__init__" (defArgs st_InvalidRow_init) (defBody st_InvalidRow_init) (defScope st_InvalidRow_init) .none kV doc pm an cdv ct) ⟨us, []⟩ = pure ((["self", "part", "at"] : List Str).zip us) :=
  match us, hl with | [_, _, _], _ => rfl
theorem bn_NInvalidOutages (kV doc pm : Value) (an : Option Addr) (cdv ct : Value) (us : List Value) (hl : us.length = (["self", "at"] : List Str).length) : bindArgs (PySem.W.fnOf "__init__" "InvalidOutages.__init__" (defArgs st_InvalidOutages_init) (defBody st_InvalidOutages_init) (defScope st_InvalidOutages_init) .none kV doc pm an cdv ct) ⟨us, []⟩ = pure ((["self", "at"] : List Str).zip us) :=
  match us, hl with | [_, _], _ => rfl
theorem bn_NInvalidBound (kV doc pm : Value) (an : Option Addr) (cdv ct : Value) (us : List Value) (hl : us.length = (["self", "part"] : List Str).length) : bindArgs (PySem.W.fnOf "__init__" "InvalidBound.__init__" (defArgs st_InvalidBound_init) (defBody st_InvalidBound_init) (defScope st_InvalidBound_init) .none kV doc pm an cdv ct) ⟨us, []⟩ = pure ((["self", "part"] : List Str).zip us) :=
  match us, hl with | [_, _], _ => rfl
theorem mk_dfn {K : PySem.W.Frag} {h : Heap} {mg : Str → Option Value} {x : Str} {st : Stmt} {f : Addr} {ps : List Str} {oc : Value} {od an : Option Addr} {sl : Array (Option Value)} {kV dc pm cd ct : Value} (X : K.In h) (G : h.Ns mainGlobals mg) (a : PySem.W.nsIn K mainGlobals x = some (some (.ref f)))
    (l : K.lookup f = some ⟨oc, od, .func (PySem.W.fnOf x x (defArgs st) (defBody st) (defScope st) .none kV dc pm an cd ct), sl⟩) (c : PySem.W.codeIn K cd x = true) (k : PySem.W.keepIn K (.ref f) = true)
    (hb : ∀ (kV doc pm : Value) (an : Option Addr) (cdv ct : Value) (us : List Value), us.length = ps.length → bindArgs (PySem.W.fnOf x x (defArgs st) (defBody st) (defScope st) .none kV doc pm an cdv ct) ⟨us, []⟩ = pure (ps.zip us)) : Dfn K mg x st f ps :=
  ⟨⟨_, fun_mk l c k, (fun_mk l c k).binds hb⟩, PySem.W.mg_of X G a⟩
theorem mk_mth {K : PySem.W.Frag} {C : Addr} {x q : Str} {st : Stmt} {f : Addr} {ps : List Str} {oc : Value} {od an : Option Addr} {sl : Array (Option Value)} {kV dc pm cd ct : Value} (a : PySem.W.findIn K (.ref C) x = some (some (.ref f))) (i : PySem.W.isFn K (.ref f) = true) (fk : PySem.W.fnIn K f = true)
    (l : K.lookup f = some ⟨oc, od, .func (PySem.W.fnOf x q (defArgs st) (defBody st) (defScope st) .none kV dc pm an cd ct), sl⟩) (c : PySem.W.codeIn K cd q = true) (k : PySem.W.keepIn K (.ref f) = true)
    (hb : ∀ (kV doc pm : Value) (an : Option Addr) (cdv ct : Value) (us : List Value), us.length = ps.length → bindArgs (PySem.W.fnOf x q (defArgs st) (defBody st) (defScope st) .none kV doc pm an cdv ct) ⟨us, []⟩ = pure (ps.zip us)) : Mth K C x q st f ps :=
  ⟨⟨_, fun_mk l c k, (fun_mk l c k).binds hb⟩, a, i, fk⟩
set_option maxHeartbeats 16000000 in
theorem all_mk {P : Program} {w : World} {K : PySem.W.Frag} {h : Heap} {mg : Str → Option Value} {lv : List (Str × PySem.W.WData)} {fa aLaw aTSERVED aTFAILED fq0 fq1 fq2 fq3 fq4 fq5 fq6 fq7 fq8 fq9 fq10 fq11 fq12 fq13 fq14 fq15 fq16 fq17 fq18 fq19 fq20 fq21 fq22 fq23 fq24 fq25 fq26 fq27 fq28 kcq28 ktq28 kcY ktY CRoutes aIRoutes fq29 fq30 EBreakerError EInvalidRow EInvalidOutages EInvalidBound aIInvalidRow aIInvalidOutages aIInvalidBound : Addr} {nmInvalidRow qnInvalidRow : Str} {nnInvalidRow : Addr} {bsInvalidRow sbInvalidRow : List Value} {snInvalidRow : List Str} {abInvalidRow : Bool} {coInvalidRow : Option Bool} {ddInvalidRow : Option Addr} {u0InvalidRow u1InvalidRow u2InvalidRow u3InvalidRow u5InvalidRow : Option Value} {nmInvalidOutages qnInvalidOutages : Str} {nnInvalidOutages : Addr} {bsInvalidOutages sbInvalidOutages : List Value} {snInvalidOutages : List Str} {abInvalidOutages : Bool} {coInvalidOutages : Option Bool} {ddInvalidOutages : Option Addr} {u0InvalidOutages u1InvalidOutages u2InvalidOutages u3InvalidOutages u5InvalidOutages : Option Value} {nmInvalidBound qnInvalidBound : Str} {nnInvalidBound : Addr} {bsInvalidBound sbInvalidBound : List Value} {snInvalidBound : List Str} {abInvalidBound : Bool} {coInvalidBound : Option Bool} {ddInvalidBound : Option Addr} {u0InvalidBound u1InvalidBound u2InvalidBound u3InvalidBound u5InvalidBound : Option Value} {tkTSERVED0 tkTFAILED0 tNMOST_BREAKERS tNMOST_REQUESTS tNMOST_OUTAGES tNMOST_SERVICES tNMOST_PLACES : Tok} {nTSERVED nTFAILED : Nat} {odq0 anq0 odq1 anq1 odq2 anq2 odq3 anq3 odq4 anq4 odq5 anq5 odq6 anq6 odq7 anq7 odq8 anq8 odq9 anq9 odq10 anq10 odq11 anq11 odq12 anq12 odq13 anq13 odq14 anq14 odq15 anq15 odq16 anq16 odq17 anq17 odq18 anq18 odq19 anq19 odq20 anq20 odq21 anq21 odq22 anq22 odq23 anq23 odq24 anq24 odq25 anq25 odq26 anq26 odq27 anq27 odq28 anq28 odq29 anq29 odq30 anq30 odY anY odTSERVED odTFAILED odNRoutes anNRoutes odNInvalidRow anNInvalidRow odNInvalidOutages anNInvalidOutages odNInvalidBound anNInvalidBound : Option Addr} {slq0 slq1 slq2 slq3 slq4 slq5 slq6 slq7 slq8 slq9 slq10 slq11 slq12 slq13 slq14 slq15 slq16 slq17 slq18 slq19 slq20 slq21 slq22 slq23 slq24 slq25 slq26 slq27 slq28 slq29 slq30 slY slTSERVED slTFAILED slNRoutes slNInvalidRow slNInvalidOutages slNInvalidBound : Array (Option Value)} {ocq0 kVq0 dcq0 pmq0 cdq0 ctq0 ocq1 kVq1 dcq1 pmq1 cdq1 ctq1 ocq2 kVq2 dcq2 pmq2 cdq2 ctq2 ocq3 kVq3 dcq3 pmq3 cdq3 ctq3 ocq4 kVq4 dcq4 pmq4 cdq4 ctq4 ocq5 kVq5 dcq5 pmq5 cdq5 ctq5 ocq6 kVq6 dcq6 pmq6 cdq6 ctq6 ocq7 kVq7 dcq7 pmq7 cdq7 ctq7 ocq8 kVq8 dcq8 pmq8 cdq8 ctq8 ocq9 kVq9 dcq9 pmq9 cdq9 ctq9 ocq10 kVq10 dcq10 pmq10 cdq10 ctq10 ocq11 kVq11 dcq11 pmq11 cdq11 ctq11 ocq12 kVq12 dcq12 pmq12 cdq12 ctq12 ocq13 kVq13 dcq13 pmq13 cdq13 ctq13 ocq14 kVq14 dcq14 pmq14 cdq14 ctq14 ocq15 kVq15 dcq15 pmq15 cdq15 ctq15 ocq16 kVq16 dcq16 pmq16 cdq16 ctq16 ocq17 kVq17 dcq17 pmq17 cdq17 ctq17 ocq18 kVq18 dcq18 pmq18 cdq18 ctq18 ocq19 kVq19 dcq19 pmq19 cdq19 ctq19 ocq20 kVq20 dcq20 pmq20 cdq20 ctq20 ocq21 kVq21 dcq21 pmq21 cdq21 ctq21 ocq22 kVq22 dcq22 pmq22 cdq22 ctq22 ocq23 kVq23 dcq23 pmq23 cdq23 ctq23 ocq24 kVq24 dcq24 pmq24 cdq24 ctq24 ocq25 kVq25 dcq25 pmq25 cdq25 ctq25 ocq26 kVq26 dcq26 pmq26 cdq26 ctq26 ocq27 kVq27 dcq27 pmq27 cdq27 ctq27 ocq28 kVq28 dcq28 pmq28 ctq28 ocq29 kVq29 dcq29 pmq29 cdq29 ctq29 ocq30 kVq30 dcq30 pmq30 cdq30 ctq30 ocY kVY dcY pmY ctY ocNRoutes dcNRoutes pmNRoutes cdNRoutes ctNRoutes kVNRoutes ocNInvalidRow kVNInvalidRow dcNInvalidRow pmNInvalidRow cdNInvalidRow ctNInvalidRow ocNInvalidOutages kVNInvalidOutages dcNInvalidOutages pmNInvalidOutages cdNInvalidOutages ctNInvalidOutages ocNInvalidBound kVNInvalidBound dcNInvalidBound pmNInvalidBound cdNInvalidBound ctNInvalidBound : Value}
    (X : K.In h) (G : h.Ns mainGlobals mg) (LL : PySem.W.LooseAre lv mg h) (hLMOST_COUNT : (("MOST_COUNT" : Str), PySem.W.WData.int 1000000000000) ∈ lv) (hLMOST_TIME : (("MOST_TIME" : Str), PySem.W.WData.int 1000000000000000000000000000000) ∈ lv) (hfa : mg "law" = some (.ref fa))
    (gTSERVED : PySem.W.nsIn K mainGlobals "SERVED" = some (some (.ref aTSERVED)))
    (lTSERVED : K.lookup aTSERVED = some ⟨.type "tuple", odTSERVED, .seq #[.str "served" tkTSERVED0] nTSERVED, slTSERVED⟩)
    (gTFAILED : PySem.W.nsIn K mainGlobals "FAILED" = some (some (.ref aTFAILED)))
    (lTFAILED : K.lookup aTFAILED = some ⟨.type "tuple", odTFAILED, .seq #[.str "failed" tkTFAILED0] nTFAILED, slTFAILED⟩)
    (aq0 : PySem.W.nsIn K mainGlobals "is_integer" = some (some (.ref fq0)))
    (lq0 : K.lookup fq0 = some ⟨ocq0, odq0, .func (PySem.W.fnOf "is_integer" "is_integer" (defArgs st_is_integer) (defBody st_is_integer) (defScope st_is_integer) .none kVq0 dcq0 pmq0 anq0 cdq0 ctq0), slq0⟩)
    (cq0 : PySem.W.codeIn K cdq0 "is_integer" = true)
    (kq0 : PySem.W.keepIn K (.ref fq0) = true)
    (aq1 : PySem.W.nsIn K mainGlobals "is_at_least" = some (some (.ref fq1)))
    (lq1 : K.lookup fq1 = some ⟨ocq1, odq1, .func (PySem.W.fnOf "is_at_least" "is_at_least" (defArgs st_is_at_least) (defBody st_is_at_least) (defScope st_is_at_least) .none kVq1 dcq1 pmq1 anq1 cdq1 ctq1), slq1⟩)
    (cq1 : PySem.W.codeIn K cdq1 "is_at_least" = true)
    (kq1 : PySem.W.keepIn K (.ref fq1) = true)
    (aq2 : PySem.W.nsIn K mainGlobals "is_within" = some (some (.ref fq2)))
    (lq2 : K.lookup fq2 = some ⟨ocq2, odq2, .func (PySem.W.fnOf "is_within" "is_within" (defArgs st_is_within) (defBody st_is_within) (defScope st_is_within) .none kVq2 dcq2 pmq2 anq2 cdq2 ctq2), slq2⟩)
    (cq2 : PySem.W.codeIn K cdq2 "is_within" = true)
    (kq2 : PySem.W.keepIn K (.ref fq2) = true)
    (aq3 : PySem.W.nsIn K mainGlobals "is_breaker" = some (some (.ref fq3)))
    (lq3 : K.lookup fq3 = some ⟨ocq3, odq3, .func (PySem.W.fnOf "is_breaker" "is_breaker" (defArgs st_is_breaker) (defBody st_is_breaker) (defScope st_is_breaker) .none kVq3 dcq3 pmq3 anq3 cdq3 ctq3), slq3⟩)
    (cq3 : PySem.W.codeIn K cdq3 "is_breaker" = true)
    (kq3 : PySem.W.keepIn K (.ref fq3) = true)
    (aq4 : PySem.W.nsIn K mainGlobals "check_breakers" = some (some (.ref fq4)))
    (lq4 : K.lookup fq4 = some ⟨ocq4, odq4, .func (PySem.W.fnOf "check_breakers" "check_breakers" (defArgs st_check_breakers) (defBody st_check_breakers) (defScope st_check_breakers) .none kVq4 dcq4 pmq4 anq4 cdq4 ctq4), slq4⟩)
    (cq4 : PySem.W.codeIn K cdq4 "check_breakers" = true)
    (kq4 : PySem.W.keepIn K (.ref fq4) = true)
    (aq5 : PySem.W.nsIn K mainGlobals "check_step" = some (some (.ref fq5)))
    (lq5 : K.lookup fq5 = some ⟨ocq5, odq5, .func (PySem.W.fnOf "check_step" "check_step" (defArgs st_check_step) (defBody st_check_step) (defScope st_check_step) .none kVq5 dcq5 pmq5 anq5 cdq5 ctq5), slq5⟩)
    (cq5 : PySem.W.codeIn K cdq5 "check_step" = true)
    (kq5 : PySem.W.keepIn K (.ref fq5) = true)
    (aq6 : PySem.W.nsIn K mainGlobals "closed_states" = some (some (.ref fq6)))
    (lq6 : K.lookup fq6 = some ⟨ocq6, odq6, .func (PySem.W.fnOf "closed_states" "closed_states" (defArgs st_closed_states) (defBody st_closed_states) (defScope st_closed_states) .none kVq6 dcq6 pmq6 anq6 cdq6 ctq6), slq6⟩)
    (cq6 : PySem.W.codeIn K cdq6 "closed_states" = true)
    (kq6 : PySem.W.keepIn K (.ref fq6) = true)
    (aq7 : PySem.W.nsIn K mainGlobals "passes" = some (some (.ref fq7)))
    (lq7 : K.lookup fq7 = some ⟨ocq7, odq7, .func (PySem.W.fnOf "passes" "passes" (defArgs st_passes) (defBody st_passes) (defScope st_passes) .none kVq7 dcq7 pmq7 anq7 cdq7 ctq7), slq7⟩)
    (cq7 : PySem.W.codeIn K cdq7 "passes" = true)
    (kq7 : PySem.W.keepIn K (.ref fq7) = true)
    (aq8 : PySem.W.nsIn K mainGlobals "state_behind" = some (some (.ref fq8)))
    (lq8 : K.lookup fq8 = some ⟨ocq8, odq8, .func (PySem.W.fnOf "state_behind" "state_behind" (defArgs st_state_behind) (defBody st_state_behind) (defScope st_state_behind) .none kVq8 dcq8 pmq8 anq8 cdq8 ctq8), slq8⟩)
    (cq8 : PySem.W.codeIn K cdq8 "state_behind" = true)
    (kq8 : PySem.W.keepIn K (.ref fq8) = true)
    (aq9 : PySem.W.nsIn K mainGlobals "sent" = some (some (.ref fq9)))
    (lq9 : K.lookup fq9 = some ⟨ocq9, odq9, .func (PySem.W.fnOf "sent" "sent" (defArgs st_sent) (defBody st_sent) (defScope st_sent) .none kVq9 dcq9 pmq9 anq9 cdq9 ctq9), slq9⟩)
    (cq9 : PySem.W.codeIn K cdq9 "sent" = true)
    (kq9 : PySem.W.keepIn K (.ref fq9) = true)
    (aq10 : PySem.W.nsIn K mainGlobals "check_outages" = some (some (.ref fq10)))
    (lq10 : K.lookup fq10 = some ⟨ocq10, odq10, .func (PySem.W.fnOf "check_outages" "check_outages" (defArgs st_check_outages) (defBody st_check_outages) (defScope st_check_outages) .none kVq10 dcq10 pmq10 anq10 cdq10 ctq10), slq10⟩)
    (cq10 : PySem.W.codeIn K cdq10 "check_outages" = true)
    (kq10 : PySem.W.keepIn K (.ref fq10) = true)
    (aq11 : PySem.W.nsIn K mainGlobals "is_outage" = some (some (.ref fq11)))
    (lq11 : K.lookup fq11 = some ⟨ocq11, odq11, .func (PySem.W.fnOf "is_outage" "is_outage" (defArgs st_is_outage) (defBody st_is_outage) (defScope st_is_outage) .none kVq11 dcq11 pmq11 anq11 cdq11 ctq11), slq11⟩)
    (cq11 : PySem.W.codeIn K cdq11 "is_outage" = true)
    (kq11 : PySem.W.keepIn K (.ref fq11) = true)
    (aq12 : PySem.W.nsIn K mainGlobals "is_service" = some (some (.ref fq12)))
    (lq12 : K.lookup fq12 = some ⟨ocq12, odq12, .func (PySem.W.fnOf "is_service" "is_service" (defArgs st_is_service) (defBody st_is_service) (defScope st_is_service) .none kVq12 dcq12 pmq12 anq12 cdq12 ctq12), slq12⟩)
    (cq12 : PySem.W.codeIn K cdq12 "is_service" = true)
    (kq12 : PySem.W.keepIn K (.ref fq12) = true)
    (aq13 : PySem.W.nsIn K mainGlobals "check_services" = some (some (.ref fq13)))
    (lq13 : K.lookup fq13 = some ⟨ocq13, odq13, .func (PySem.W.fnOf "check_services" "check_services" (defArgs st_check_services) (defBody st_check_services) (defScope st_check_services) .none kVq13 dcq13 pmq13 anq13 cdq13 ctq13), slq13⟩)
    (cq13 : PySem.W.codeIn K cdq13 "check_services" = true)
    (kq13 : PySem.W.keepIn K (.ref fq13) = true)
    (aq14 : PySem.W.nsIn K mainGlobals "check_pattern" = some (some (.ref fq14)))
    (lq14 : K.lookup fq14 = some ⟨ocq14, odq14, .func (PySem.W.fnOf "check_pattern" "check_pattern" (defArgs st_check_pattern) (defBody st_check_pattern) (defScope st_check_pattern) .none kVq14 dcq14 pmq14 anq14 cdq14 ctq14), slq14⟩)
    (cq14 : PySem.W.codeIn K cdq14 "check_pattern" = true)
    (kq14 : PySem.W.keepIn K (.ref fq14) = true)
    (aq15 : PySem.W.nsIn K mainGlobals "is_up" = some (some (.ref fq15)))
    (lq15 : K.lookup fq15 = some ⟨ocq15, odq15, .func (PySem.W.fnOf "is_up" "is_up" (defArgs st_is_up) (defBody st_is_up) (defScope st_is_up) .none kVq15 dcq15 pmq15 anq15 cdq15 ctq15), slq15⟩)
    (cq15 : PySem.W.codeIn K cdq15 "is_up" = true)
    (kq15 : PySem.W.keepIn K (.ref fq15) = true)
    (aq16 : PySem.W.nsIn K mainGlobals "sent_requests" = some (some (.ref fq16)))
    (lq16 : K.lookup fq16 = some ⟨ocq16, odq16, .func (PySem.W.fnOf "sent_requests" "sent_requests" (defArgs st_sent_requests) (defBody st_sent_requests) (defScope st_sent_requests) .none kVq16 dcq16 pmq16 anq16 cdq16 ctq16), slq16⟩)
    (cq16 : PySem.W.codeIn K cdq16 "sent_requests" = true)
    (kq16 : PySem.W.keepIn K (.ref fq16) = true)
    (aq17 : PySem.W.nsIn K mainGlobals "served" = some (some (.ref fq17)))
    (lq17 : K.lookup fq17 = some ⟨ocq17, odq17, .func (PySem.W.fnOf "served" "served" (defArgs st_served) (defBody st_served) (defScope st_served) .none kVq17 dcq17 pmq17 anq17 cdq17 ctq17), slq17⟩)
    (cq17 : PySem.W.codeIn K cdq17 "served" = true)
    (kq17 : PySem.W.keepIn K (.ref fq17) = true)
    (aq18 : PySem.W.nsIn K mainGlobals "common_openings" = some (some (.ref fq18)))
    (lq18 : K.lookup fq18 = some ⟨ocq18, odq18, .func (PySem.W.fnOf "common_openings" "common_openings" (defArgs st_common_openings) (defBody st_common_openings) (defScope st_common_openings) .none kVq18 dcq18 pmq18 anq18 cdq18 ctq18), slq18⟩)
    (cq18 : PySem.W.codeIn K cdq18 "common_openings" = true)
    (kq18 : PySem.W.keepIn K (.ref fq18) = true)
    (aq19 : PySem.W.nsIn K mainGlobals "check_down" = some (some (.ref fq19)))
    (lq19 : K.lookup fq19 = some ⟨ocq19, odq19, .func (PySem.W.fnOf "check_down" "check_down" (defArgs st_check_down) (defBody st_check_down) (defScope st_check_down) .none kVq19 dcq19 pmq19 anq19 cdq19 ctq19), slq19⟩)
    (cq19 : PySem.W.codeIn K cdq19 "check_down" = true)
    (kq19 : PySem.W.keepIn K (.ref fq19) = true)
    (aq20 : PySem.W.nsIn K mainGlobals "failing_runs" = some (some (.ref fq20)))
    (lq20 : K.lookup fq20 = some ⟨ocq20, odq20, .func (PySem.W.fnOf "failing_runs" "failing_runs" (defArgs st_failing_runs) (defBody st_failing_runs) (defScope st_failing_runs) .none kVq20 dcq20 pmq20 anq20 cdq20 ctq20), slq20⟩)
    (cq20 : PySem.W.codeIn K cdq20 "failing_runs" = true)
    (kq20 : PySem.W.keepIn K (.ref fq20) = true)
    (aq21 : PySem.W.nsIn K mainGlobals "longest_failure" = some (some (.ref fq21)))
    (lq21 : K.lookup fq21 = some ⟨ocq21, odq21, .func (PySem.W.fnOf "longest_failure" "longest_failure" (defArgs st_longest_failure) (defBody st_longest_failure) (defScope st_longest_failure) .none kVq21 dcq21 pmq21 anq21 cdq21 ctq21), slq21⟩)
    (cq21 : PySem.W.codeIn K cdq21 "longest_failure" = true)
    (kq21 : PySem.W.keepIn K (.ref fq21) = true)
    (aq22 : PySem.W.nsIn K mainGlobals "first_opening" = some (some (.ref fq22)))
    (lq22 : K.lookup fq22 = some ⟨ocq22, odq22, .func (PySem.W.fnOf "first_opening" "first_opening" (defArgs st_first_opening) (defBody st_first_opening) (defScope st_first_opening) .none kVq22 dcq22 pmq22 anq22 cdq22 ctq22), slq22⟩)
    (cq22 : PySem.W.codeIn K cdq22 "first_opening" = true)
    (kq22 : PySem.W.keepIn K (.ref fq22) = true)
    (aq23 : PySem.W.nsIn K mainGlobals "_law_source_of" = some (some (.ref fq23)))
    (lq23 : K.lookup fq23 = some ⟨ocq23, odq23, .func (PySem.W.fnOf "_law_source_of" "_law_source_of" (defArgs st__law_source_of) (defBody st__law_source_of) (defScope st__law_source_of) .none kVq23 dcq23 pmq23 anq23 cdq23 ctq23), slq23⟩)
    (cq23 : PySem.W.codeIn K cdq23 "_law_source_of" = true)
    (kq23 : PySem.W.keepIn K (.ref fq23) = true)
    (aq24 : PySem.W.nsIn K mainGlobals "_law_next" = some (some (.ref fq24)))
    (lq24 : K.lookup fq24 = some ⟨ocq24, odq24, .func (PySem.W.fnOf "_law_next" "_law_next" (defArgs st__law_next) (defBody st__law_next) (defScope st__law_next) .none kVq24 dcq24 pmq24 anq24 cdq24 ctq24), slq24⟩)
    (cq24 : PySem.W.codeIn K cdq24 "_law_next" = true)
    (kq24 : PySem.W.keepIn K (.ref fq24) = true)
    (aq25 : PySem.W.nsIn K mainGlobals "_law_one" = some (some (.ref fq25)))
    (lq25 : K.lookup fq25 = some ⟨ocq25, odq25, .func (PySem.W.fnOf "_law_one" "_law_one" (defArgs st__law_one) (defBody st__law_one) (defScope st__law_one) .none kVq25 dcq25 pmq25 anq25 cdq25 ctq25), slq25⟩)
    (cq25 : PySem.W.codeIn K cdq25 "_law_one" = true)
    (kq25 : PySem.W.keepIn K (.ref fq25) = true)
    (aq26 : PySem.W.nsIn K mainGlobals "_law_cell_at" = some (some (.ref fq26)))
    (lq26 : K.lookup fq26 = some ⟨ocq26, odq26, .func (PySem.W.fnOf "_law_cell_at" "_law_cell_at" (defArgs st__law_cell_at) (defBody st__law_cell_at) (defScope st__law_cell_at) .none kVq26 dcq26 pmq26 anq26 cdq26 ctq26), slq26⟩)
    (cq26 : PySem.W.codeIn K cdq26 "_law_cell_at" = true)
    (kq26 : PySem.W.keepIn K (.ref fq26) = true)
    (aq27 : PySem.W.nsIn K mainGlobals "_law_raised" = some (some (.ref fq27)))
    (lq27 : K.lookup fq27 = some ⟨ocq27, odq27, .func (PySem.W.fnOf "_law_raised" "_law_raised" (defArgs st__law_raised) (defBody st__law_raised) (defScope st__law_raised) .none kVq27 dcq27 pmq27 anq27 cdq27 ctq27), slq27⟩)
    (cq27 : PySem.W.codeIn K cdq27 "_law_raised" = true)
    (kq27 : PySem.W.keepIn K (.ref fq27) = true)
    (aq28 : PySem.W.nsIn K mainGlobals "_law_parts_right" = some (some (.ref fq28)))
    (lq28 : K.lookup fq28 = some ⟨ocq28, odq28, .func (PySem.W.fnOf "_law_parts_right" "_law_parts_right" (defArgs st__law_parts_right) (defBody st__law_parts_right) (defScope st__law_parts_right) .none kVq28 dcq28 pmq28 anq28 (.ref kcq28) ctq28), slq28⟩)
    (cq28 : PySem.W.codeIn K (.ref kcq28) "_law_parts_right" = true)
    (kq28 : PySem.W.keepIn K (.ref fq28) = true)
    (gcRoutes : PySem.W.nsIn K mainGlobals "Routes" = some (some (.ref CRoutes)))
    (gRoutes0 : PySem.W.plainGet K CRoutes Str.empty = true)
    (gRoutes1 : PySem.W.hasDictIn K CRoutes = true)
    (gRoutes2 : PySem.W.plainOver K CRoutes = true)
    (gRoutes3 : PySem.W.findIn K (.ref CRoutes) "__setattr__" = some (some (.builtin "object.__setattr__")))
    (gRoutes4 : PySem.W.makesIn K CRoutes = true)
    (gRoutes5 : PySem.W.keepIn K (.ref CRoutes) = true)
    (gRoutes6 : PySem.W.isClsIn K CRoutes = true)
    (gRoutes7 : PySem.W.typeIn K (.ref CRoutes) = some (.type "type"))
    (gRoutes8 : PySem.W.findIn K (.ref CRoutes) "__class__" = some (some (.builtin "object.__class__")))
    (gRoutes9 : PySem.W.mroIn K CRoutes (.type "object") = some true)
    (gRoutes10 : PySem.W.selfFirst K CRoutes = true)
    (gRoutes11 : PySem.W.findIn K (.ref CRoutes) "__ne__" = some (some (.builtin "object.__ne__")))
    (gO1 : PySem.W.specialIn K (.builtin "object.__class__") "__get__" = some (some (.builtin "getset_descriptor.__get__")))
    (gO2 : PySem.W.takesIn K (.builtin "object.__class__") = some true)
    (nfRoutes_common : PySem.W.findIn K (.ref CRoutes) "common" = some none)
    (nfRoutes_services : PySem.W.findIn K (.ref CRoutes) "services" = some none)
    (nfRoutes_pattern : PySem.W.findIn K (.ref CRoutes) "pattern" = some none)
    (nfRoutes_step : PySem.W.findIn K (.ref CRoutes) "step" = some none)
    (aNRoutes : PySem.W.findIn K (.ref CRoutes) "__init__" = some (some (.ref aIRoutes)))
    (iNRoutes : PySem.W.isFn K (.ref aIRoutes) = true)
    (lNRoutes : K.lookup aIRoutes = some ⟨ocNRoutes, odNRoutes, .func (PySem.W.fnOf "__init__" "Routes.__init__" (defArgs st_Routes_init) (defBody st_Routes_init) (defScope st_Routes_init) .none kVNRoutes dcNRoutes pmNRoutes anNRoutes cdNRoutes ctNRoutes), slNRoutes⟩)
    (cNRoutes : PySem.W.codeIn K cdNRoutes "Routes.__init__" = true)
    (kNRoutes : PySem.W.keepIn K (.ref aIRoutes) = true)
    (aq29 : PySem.W.findIn K (.ref CRoutes) "parts" = some (some (.ref fq29)))
    (iq29 : PySem.W.isFn K (.ref fq29) = true)
    (nq29 : PySem.W.fnIn K fq29 = true)
    (lq29 : K.lookup fq29 = some ⟨ocq29, odq29, .func (PySem.W.fnOf "parts" "Routes.parts" (defArgs st_Routes_parts) (defBody st_Routes_parts) (defScope st_Routes_parts) .none kVq29 dcq29 pmq29 anq29 cdq29 ctq29), slq29⟩)
    (cq29 : PySem.W.codeIn K cdq29 "Routes.parts" = true)
    (kq29 : PySem.W.keepIn K (.ref fq29) = true)
    (aq30 : PySem.W.findIn K (.ref CRoutes) "__eq__" = some (some (.ref fq30)))
    (iq30 : PySem.W.isFn K (.ref fq30) = true)
    (nq30 : PySem.W.fnIn K fq30 = true)
    (lq30 : K.lookup fq30 = some ⟨ocq30, odq30, .func (PySem.W.fnOf "__eq__" "Routes.__eq__" (defArgs st_Routes_eq) (defBody st_Routes_eq) (defScope st_Routes_eq) .none kVq30 dcq30 pmq30 anq30 cdq30 ctq30), slq30⟩)
    (cq30 : PySem.W.codeIn K cdq30 "Routes.__eq__" = true)
    (kq30 : PySem.W.keepIn K (.ref fq30) = true)
    (geBreakerError : PySem.W.nsIn K mainGlobals "BreakerError" = some (some (.ref EBreakerError)))
    (xaBreakerError : PySem.W.findIn K (.ref EBreakerError) "__getattribute__" = some (some (.builtin "BaseException.__getattribute__")))
    (xbBreakerError : PySem.W.findIn K (.ref EBreakerError) "__getattr__" = some none)
    (xcBreakerError : PySem.W.subIn K (.ref EBreakerError) (.type "BaseException") = some true)
    (xdBreakerError : PySem.W.hasDictIn K EBreakerError = true)
    (xeBreakerError : PySem.W.typeIn K (.ref EBreakerError) = some (.type "type"))
    (geInvalidRow : PySem.W.nsIn K mainGlobals "InvalidRow" = some (some (.ref EInvalidRow)))
    (xaInvalidRow : PySem.W.findIn K (.ref EInvalidRow) "__getattribute__" = some (some (.builtin "BaseException.__getattribute__")))
    (xbInvalidRow : PySem.W.findIn K (.ref EInvalidRow) "__getattr__" = some none)
    (xcInvalidRow : PySem.W.subIn K (.ref EInvalidRow) (.type "BaseException") = some true)
    (xdInvalidRow : PySem.W.hasDictIn K EInvalidRow = true)
    (xeInvalidRow : PySem.W.typeIn K (.ref EInvalidRow) = some (.type "type"))
    (geInvalidOutages : PySem.W.nsIn K mainGlobals "InvalidOutages" = some (some (.ref EInvalidOutages)))
    (xaInvalidOutages : PySem.W.findIn K (.ref EInvalidOutages) "__getattribute__" = some (some (.builtin "BaseException.__getattribute__")))
    (xbInvalidOutages : PySem.W.findIn K (.ref EInvalidOutages) "__getattr__" = some none)
    (xcInvalidOutages : PySem.W.subIn K (.ref EInvalidOutages) (.type "BaseException") = some true)
    (xdInvalidOutages : PySem.W.hasDictIn K EInvalidOutages = true)
    (xeInvalidOutages : PySem.W.typeIn K (.ref EInvalidOutages) = some (.type "type"))
    (geInvalidBound : PySem.W.nsIn K mainGlobals "InvalidBound" = some (some (.ref EInvalidBound)))
    (xaInvalidBound : PySem.W.findIn K (.ref EInvalidBound) "__getattribute__" = some (some (.builtin "BaseException.__getattribute__")))
    (xbInvalidBound : PySem.W.findIn K (.ref EInvalidBound) "__getattr__" = some none)
    (xcInvalidBound : PySem.W.subIn K (.ref EInvalidBound) (.type "BaseException") = some true)
    (xdInvalidBound : PySem.W.hasDictIn K EInvalidBound = true)
    (xeInvalidBound : PySem.W.typeIn K (.ref EInvalidBound) = some (.type "type"))
    (xoInvalidRow : K.lookup EInvalidRow = some (excClassObj nmInvalidRow qnInvalidRow EInvalidRow nnInvalidRow bsInvalidRow [.ref EBreakerError, .type "ArithmeticError", .type "Exception", .type "BaseException", .type "object"] true snInvalidRow sbInvalidRow abInvalidRow coInvalidRow ddInvalidRow u0InvalidRow u1InvalidRow u2InvalidRow u3InvalidRow u5InvalidRow "ArithmeticError.__new__"))
    (xsInvalidRow : PySem.W.findIn K (.ref EInvalidRow) "__setattr__" = some (some (.builtin "object.__setattr__")))
    (xkInvalidRow : PySem.W.keepIn K (.ref EInvalidRow) = true)
    (aNInvalidRow : PySem.W.findIn K (.ref EInvalidRow) "__init__" = some (some (.ref aIInvalidRow)))
    (tNInvalidRow : PySem.W.typeIn K (.ref aIInvalidRow) = some (.type "function"))
    (lNInvalidRow : K.lookup aIInvalidRow = some ⟨ocNInvalidRow, odNInvalidRow, .func (PySem.W.fnOf "__init__" "InvalidRow.__init__" (defArgs st_InvalidRow_init) (defBody st_InvalidRow_init) (defScope st_InvalidRow_init) .none kVNInvalidRow dcNInvalidRow pmNInvalidRow anNInvalidRow cdNInvalidRow ctNInvalidRow), slNInvalidRow⟩)
    (cNInvalidRow : PySem.W.codeIn K cdNInvalidRow "InvalidRow.__init__" = true)
    (kNInvalidRow : PySem.W.keepIn K (.ref aIInvalidRow) = true)
    (neInvalidRow_part : PySem.W.findIn K (.ref EInvalidRow) "part" = some none)
    (neInvalidRow_at : PySem.W.findIn K (.ref EInvalidRow) "at" = some none)
    (xlInvalidRow : PySem.W.findIn K (.ref EInvalidRow) "__class__" = some (some (.builtin "object.__class__")))
    (xmInvalidRow : PySem.W.mroIn K EInvalidRow (.type "object") = some true)
    (seInvalidRow_BreakerError : PySem.W.subIn K (.ref EInvalidRow) (.ref EBreakerError) = some true)
    (seInvalidRow_InvalidRow : PySem.W.subIn K (.ref EInvalidRow) (.ref EInvalidRow) = some true)
    (seInvalidRow_InvalidOutages : PySem.W.subIn K (.ref EInvalidRow) (.ref EInvalidOutages) = some false)
    (seInvalidRow_InvalidBound : PySem.W.subIn K (.ref EInvalidRow) (.ref EInvalidBound) = some false)
    (saInvalidRow : PySem.W.subIn K (.ref EInvalidRow) (.type "ArithmeticError") = some true)
    (xoInvalidOutages : K.lookup EInvalidOutages = some (excClassObj nmInvalidOutages qnInvalidOutages EInvalidOutages nnInvalidOutages bsInvalidOutages [.ref EBreakerError, .type "ArithmeticError", .type "Exception", .type "BaseException", .type "object"] true snInvalidOutages sbInvalidOutages abInvalidOutages coInvalidOutages ddInvalidOutages u0InvalidOutages u1InvalidOutages u2InvalidOutages u3InvalidOutages u5InvalidOutages "ArithmeticError.__new__"))
    (xsInvalidOutages : PySem.W.findIn K (.ref EInvalidOutages) "__setattr__" = some (some (.builtin "object.__setattr__")))
    (xkInvalidOutages : PySem.W.keepIn K (.ref EInvalidOutages) = true)
    (aNInvalidOutages : PySem.W.findIn K (.ref EInvalidOutages) "__init__" = some (some (.ref aIInvalidOutages)))
    (tNInvalidOutages : PySem.W.typeIn K (.ref aIInvalidOutages) = some (.type "function"))
    (lNInvalidOutages : K.lookup aIInvalidOutages = some ⟨ocNInvalidOutages, odNInvalidOutages, .func (PySem.W.fnOf "__init__" "InvalidOutages.__init__" (defArgs st_InvalidOutages_init) (defBody st_InvalidOutages_init) (defScope st_InvalidOutages_init) .none kVNInvalidOutages dcNInvalidOutages pmNInvalidOutages anNInvalidOutages cdNInvalidOutages ctNInvalidOutages), slNInvalidOutages⟩)
    (cNInvalidOutages : PySem.W.codeIn K cdNInvalidOutages "InvalidOutages.__init__" = true)
    (kNInvalidOutages : PySem.W.keepIn K (.ref aIInvalidOutages) = true)
    (neInvalidOutages_part : PySem.W.findIn K (.ref EInvalidOutages) "part" = some none)
    (neInvalidOutages_at : PySem.W.findIn K (.ref EInvalidOutages) "at" = some none)
    (xlInvalidOutages : PySem.W.findIn K (.ref EInvalidOutages) "__class__" = some (some (.builtin "object.__class__")))
    (xmInvalidOutages : PySem.W.mroIn K EInvalidOutages (.type "object") = some true)
    (seInvalidOutages_BreakerError : PySem.W.subIn K (.ref EInvalidOutages) (.ref EBreakerError) = some true)
    (seInvalidOutages_InvalidRow : PySem.W.subIn K (.ref EInvalidOutages) (.ref EInvalidRow) = some false)
    (seInvalidOutages_InvalidOutages : PySem.W.subIn K (.ref EInvalidOutages) (.ref EInvalidOutages) = some true)
    (seInvalidOutages_InvalidBound : PySem.W.subIn K (.ref EInvalidOutages) (.ref EInvalidBound) = some false)
    (saInvalidOutages : PySem.W.subIn K (.ref EInvalidOutages) (.type "ArithmeticError") = some true)
    (xoInvalidBound : K.lookup EInvalidBound = some (excClassObj nmInvalidBound qnInvalidBound EInvalidBound nnInvalidBound bsInvalidBound [.ref EBreakerError, .type "ArithmeticError", .type "Exception", .type "BaseException", .type "object"] true snInvalidBound sbInvalidBound abInvalidBound coInvalidBound ddInvalidBound u0InvalidBound u1InvalidBound u2InvalidBound u3InvalidBound u5InvalidBound "ArithmeticError.__new__"))
    (xsInvalidBound : PySem.W.findIn K (.ref EInvalidBound) "__setattr__" = some (some (.builtin "object.__setattr__")))
    (xkInvalidBound : PySem.W.keepIn K (.ref EInvalidBound) = true)
    (aNInvalidBound : PySem.W.findIn K (.ref EInvalidBound) "__init__" = some (some (.ref aIInvalidBound)))
    (tNInvalidBound : PySem.W.typeIn K (.ref aIInvalidBound) = some (.type "function"))
    (lNInvalidBound : K.lookup aIInvalidBound = some ⟨ocNInvalidBound, odNInvalidBound, .func (PySem.W.fnOf "__init__" "InvalidBound.__init__" (defArgs st_InvalidBound_init) (defBody st_InvalidBound_init) (defScope st_InvalidBound_init) .none kVNInvalidBound dcNInvalidBound pmNInvalidBound anNInvalidBound cdNInvalidBound ctNInvalidBound), slNInvalidBound⟩)
    (cNInvalidBound : PySem.W.codeIn K cdNInvalidBound "InvalidBound.__init__" = true)
    (kNInvalidBound : PySem.W.keepIn K (.ref aIInvalidBound) = true)
    (neInvalidBound_part : PySem.W.findIn K (.ref EInvalidBound) "part" = some none)
    (neInvalidBound_at : PySem.W.findIn K (.ref EInvalidBound) "at" = some none)
    (xlInvalidBound : PySem.W.findIn K (.ref EInvalidBound) "__class__" = some (some (.builtin "object.__class__")))
    (xmInvalidBound : PySem.W.mroIn K EInvalidBound (.type "object") = some true)
    (seInvalidBound_BreakerError : PySem.W.subIn K (.ref EInvalidBound) (.ref EBreakerError) = some true)
    (seInvalidBound_InvalidRow : PySem.W.subIn K (.ref EInvalidBound) (.ref EInvalidRow) = some false)
    (seInvalidBound_InvalidOutages : PySem.W.subIn K (.ref EInvalidBound) (.ref EInvalidOutages) = some false)
    (seInvalidBound_InvalidBound : PySem.W.subIn K (.ref EInvalidBound) (.ref EInvalidBound) = some true)
    (saInvalidBound : PySem.W.subIn K (.ref EInvalidBound) (.type "ArithmeticError") = some true)
    (gNMOST_BREAKERS : PySem.W.nsIn K mainGlobals "MOST_BREAKERS" = some (some (.int 12 tNMOST_BREAKERS)))
    (gNMOST_REQUESTS : PySem.W.nsIn K mainGlobals "MOST_REQUESTS" = some (some (.int 10000 tNMOST_REQUESTS)))
    (gNMOST_OUTAGES : PySem.W.nsIn K mainGlobals "MOST_OUTAGES" = some (some (.int 50 tNMOST_OUTAGES)))
    (gNMOST_SERVICES : PySem.W.nsIn K mainGlobals "MOST_SERVICES" = some (some (.int 10 tNMOST_SERVICES)))
    (gNMOST_PLACES : PySem.W.nsIn K mainGlobals "MOST_PLACES" = some (some (.int 20 tNMOST_PLACES)))
    (aY : PySem.W.nsIn K mainGlobals "law" = some (some (.ref aLaw)))
    (lY : K.lookup aLaw = some ⟨ocY, odY, .func (PySem.W.fnOf "law" "law" (defArgs st_law) (defBody st_law) (defScope st_law) .none kVY dcY pmY anY (.ref kcY) ctY), slY⟩)
    (cY : PySem.W.codeIn K (.ref kcY) "law" = true)
    (kY : PySem.W.keepIn K (.ref aLaw) = true)
    (z_ArithmeticError : PySem.W.nsIn K mainGlobals "ArithmeticError" = some none)
    (z_bool : PySem.W.nsIn K mainGlobals "bool" = some none)
    (z_enumerate : PySem.W.nsIn K mainGlobals "enumerate" = some none)
    (z_int : PySem.W.nsIn K mainGlobals "int" = some none)
    (z_isinstance : PySem.W.nsIn K mainGlobals "isinstance" = some none)
    (z_len : PySem.W.nsIn K mainGlobals "len" = some none)
    (z_list : PySem.W.nsIn K mainGlobals "list" = some none)
    (z_max : PySem.W.nsIn K mainGlobals "max" = some none)
    (z_min : PySem.W.nsIn K mainGlobals "min" = some none)
    (z_range : PySem.W.nsIn K mainGlobals "range" = some none)
    (z_tuple : PySem.W.nsIn K mainGlobals "tuple" = some none)
    (z_zip : PySem.W.nsIn K mainGlobals "zip" = some none)
    (tbq28 : TabE K h kcq28 ktq28)
    (tbY : TabE K h kcY ktY)
    (ntq28_Y : ktq28 ≠ ktY) :
    ∃ (fd : FuncData) (cs : List (Addr × Addr)) (sp : Sp), (∀ p ∈ cs, TabE K h p.1 p.2) ∧ (∀ (s : Shared) (v : Value), BindsTo s fd ⟨[v], []⟩ [("_law_script", v)]) ∧ (∀ (H : Hp) (a : Addr) (ns : List Int), ns.length ≤ 63 → (∀ z ∈ ns, Builtin.Int.intBits z ≤ 1048576) → (∀ p ∈ cs, H p.2 = some (.tbl #[])) → SqL K H a (ns.map V.int) → sp [.ref a] H (fun v _ => v = .bl true) fun _ _ _ => False) ∧ ∀ base : Heap, K.In base → base.Ns mainGlobals mg → (∀ p ∈ cs, LamX.TabB base mg p.1 p.2) → FnOk P w K mg base CX0 14 fa fd ["_law_script"] sp := by
  have e := hfa.symm.trans (PySem.W.mg_of X G aY)
  cases e
  obtain ⟨vMOST_COUNT, hvMOST_COUNT, rMOST_COUNT⟩ := LL.val _ hLMOST_COUNT
  obtain ⟨tMOST_COUNT, rfl, -⟩ := PySem.W.readsW_int_inv rMOST_COUNT
  obtain ⟨vMOST_TIME, hvMOST_TIME, rMOST_TIME⟩ := LL.val _ hLMOST_TIME
  obtain ⟨tMOST_TIME, rfl, -⟩ := PySem.W.readsW_int_inv rMOST_TIME
  have T : LX K mg ⟨fq0, fq1, fq2, fq3, fq4, fq5, fq6, fq7, fq8, fq9, fq10, fq11, fq12, fq13, fq14, fq15, fq16, fq17, fq18, fq19, fq20, fq21, fq22, fq23, fq24, fq25, fq26, fq27, fq28, kcq28, ktq28, kcY, ktY, CRoutes, aIRoutes, fq29, fq30, EBreakerError, EInvalidRow, EInvalidOutages, EInvalidBound, aIInvalidRow, aIInvalidOutages, aIInvalidBound⟩ := ⟨PySem.W.mg_none_of X G z_ArithmeticError,
    PySem.W.mg_none_of X G z_bool,
    PySem.W.mg_none_of X G z_enumerate,
    PySem.W.mg_none_of X G z_int,
    PySem.W.mg_none_of X G z_isinstance,
    PySem.W.mg_none_of X G z_len,
    PySem.W.mg_none_of X G z_list,
    PySem.W.mg_none_of X G z_max,
    PySem.W.mg_none_of X G z_min,
    PySem.W.mg_none_of X G z_range,
    PySem.W.mg_none_of X G z_tuple,
    PySem.W.mg_none_of X G z_zip,
    ⟨_, PySem.W.mg_of X G gNMOST_BREAKERS⟩,
    ⟨_, hvMOST_COUNT⟩,
    ⟨_, hvMOST_TIME⟩,
    ⟨_, PySem.W.mg_of X G gNMOST_REQUESTS⟩,
    ⟨_, PySem.W.mg_of X G gNMOST_OUTAGES⟩,
    ⟨_, PySem.W.mg_of X G gNMOST_SERVICES⟩,
    ⟨_, PySem.W.mg_of X G gNMOST_PLACES⟩,
    ⟨_, PySem.W.mg_of X G gTSERVED, fun _ => .inr ⟨_, _, _, lTSERVED, rfl, rfl, (by show 1 ≤ sizeLine; decide), .cons ⟨_, rfl⟩ (.nil)⟩⟩,
    ⟨_, PySem.W.mg_of X G gTFAILED, fun _ => .inr ⟨_, _, _, lTFAILED, rfl, rfl, (by show 1 ≤ sizeLine; decide), .cons ⟨_, rfl⟩ (.nil)⟩⟩,
    mk_dfn X G aq0 lq0 cq0 kq0 bn_q0,
    mk_dfn X G aq1 lq1 cq1 kq1 bn_q1,
    mk_dfn X G aq2 lq2 cq2 kq2 bn_q2,
    mk_dfn X G aq3 lq3 cq3 kq3 bn_q3,
    mk_dfn X G aq4 lq4 cq4 kq4 bn_q4,
    mk_dfn X G aq5 lq5 cq5 kq5 bn_q5,
    mk_dfn X G aq6 lq6 cq6 kq6 bn_q6,
    mk_dfn X G aq7 lq7 cq7 kq7 bn_q7,
    mk_dfn X G aq8 lq8 cq8 kq8 bn_q8,
    mk_dfn X G aq9 lq9 cq9 kq9 bn_q9,
    mk_dfn X G aq10 lq10 cq10 kq10 bn_q10,
    mk_dfn X G aq11 lq11 cq11 kq11 bn_q11,
    mk_dfn X G aq12 lq12 cq12 kq12 bn_q12,
    mk_dfn X G aq13 lq13 cq13 kq13 bn_q13,
    mk_dfn X G aq14 lq14 cq14 kq14 bn_q14,
    mk_dfn X G aq15 lq15 cq15 kq15 bn_q15,
    mk_dfn X G aq16 lq16 cq16 kq16 bn_q16,
    mk_dfn X G aq17 lq17 cq17 kq17 bn_q17,
    mk_dfn X G aq18 lq18 cq18 kq18 bn_q18,
    mk_dfn X G aq19 lq19 cq19 kq19 bn_q19,
    mk_dfn X G aq20 lq20 cq20 kq20 bn_q20,
    mk_dfn X G aq21 lq21 cq21 kq21 bn_q21,
    mk_dfn X G aq22 lq22 cq22 kq22 bn_q22,
    mk_dfn X G aq23 lq23 cq23 kq23 bn_q23,
    mk_dfn X G aq24 lq24 cq24 kq24 bn_q24,
    mk_dfn X G aq25 lq25 cq25 kq25 bn_q25,
    mk_dfn X G aq26 lq26 cq26 kq26 bn_q26,
    mk_dfn X G aq27 lq27 cq27 kq27 bn_q27,
    mk_dfnT X G aq28 lq28 cq28 kq28 bn_q28,
    ntq28_Y,
    PySem.W.mg_of X G gcRoutes,
    ⟨⟨gRoutes0, gRoutes1, gRoutes2, gRoutes3⟩, gRoutes6, gRoutes7, gRoutes8, gO1, gO2, gRoutes9, gRoutes10, gRoutes11⟩,
    ⟨gRoutes4, aNRoutes, iNRoutes, gRoutes5⟩,
    nfRoutes_common,
    nfRoutes_services,
    nfRoutes_pattern,
    nfRoutes_step,
    ⟨_, fun_mk lNRoutes cNRoutes kNRoutes, (fun_mk lNRoutes cNRoutes kNRoutes).binds bn_NRoutes⟩,
    mk_mth aq29 iq29 nq29 lq29 cq29 kq29 bn_q29,
    mk_mth aq30 iq30 nq30 lq30 cq30 kq30 bn_q30,
    PySem.W.mg_of X G geBreakerError,
    ⟨xaBreakerError, xbBreakerError, xcBreakerError, xdBreakerError⟩,
    xeBreakerError,
    PySem.W.mg_of X G geInvalidRow,
    ⟨xaInvalidRow, xbInvalidRow, xcInvalidRow, xdInvalidRow⟩,
    xeInvalidRow,
    PySem.W.mg_of X G geInvalidOutages,
    ⟨xaInvalidOutages, xbInvalidOutages, xcInvalidOutages, xdInvalidOutages⟩,
    xeInvalidOutages,
    PySem.W.mg_of X G geInvalidBound,
    ⟨xaInvalidBound, xbInvalidBound, xcInvalidBound, xdInvalidBound⟩,
    xeInvalidBound,
    ⟨⟨_, _, _, _, _, _, _, _, _, _, _, _, _, _, _, xoInvalidRow, by rfl⟩, xsInvalidRow, xcInvalidRow, xeInvalidRow, xkInvalidRow⟩,
    aNInvalidRow,
    tNInvalidRow,
    ⟨_, fun_mk lNInvalidRow cNInvalidRow kNInvalidRow, (fun_mk lNInvalidRow cNInvalidRow kNInvalidRow).binds bn_NInvalidRow⟩,
    neInvalidRow_part,
    neInvalidRow_at,
    ⟨xaInvalidRow, xbInvalidRow, xcInvalidRow, xdInvalidRow, xlInvalidRow, gO1, gO2, xmInvalidRow⟩,
    seInvalidRow_BreakerError,
    seInvalidRow_InvalidRow,
    seInvalidRow_InvalidOutages,
    seInvalidRow_InvalidBound,
    saInvalidRow,
    ⟨⟨_, _, _, _, _, _, _, _, _, _, _, _, _, _, _, xoInvalidOutages, by rfl⟩, xsInvalidOutages, xcInvalidOutages, xeInvalidOutages, xkInvalidOutages⟩,
    aNInvalidOutages,
    tNInvalidOutages,
    ⟨_, fun_mk lNInvalidOutages cNInvalidOutages kNInvalidOutages, (fun_mk lNInvalidOutages cNInvalidOutages kNInvalidOutages).binds bn_NInvalidOutages⟩,
    neInvalidOutages_part,
    neInvalidOutages_at,
    ⟨xaInvalidOutages, xbInvalidOutages, xcInvalidOutages, xdInvalidOutages, xlInvalidOutages, gO1, gO2, xmInvalidOutages⟩,
    seInvalidOutages_BreakerError,
    seInvalidOutages_InvalidRow,
    seInvalidOutages_InvalidOutages,
    seInvalidOutages_InvalidBound,
    saInvalidOutages,
    ⟨⟨_, _, _, _, _, _, _, _, _, _, _, _, _, _, _, xoInvalidBound, by rfl⟩, xsInvalidBound, xcInvalidBound, xeInvalidBound, xkInvalidBound⟩,
    aNInvalidBound,
    tNInvalidBound,
    ⟨_, fun_mk lNInvalidBound cNInvalidBound kNInvalidBound, (fun_mk lNInvalidBound cNInvalidBound kNInvalidBound).binds bn_NInvalidBound⟩,
    neInvalidBound_part,
    neInvalidBound_at,
    ⟨xaInvalidBound, xbInvalidBound, xcInvalidBound, xdInvalidBound, xlInvalidBound, gO1, gO2, xmInvalidBound⟩,
    seInvalidBound_BreakerError,
    seInvalidBound_InvalidRow,
    seInvalidBound_InvalidOutages,
    seInvalidBound_InvalidBound,
    saInvalidBound⟩
  have tbs : ∀ p ∈ [(kcq28, ktq28), (kcY, ktY)], TabE K h p.1 p.2 := by
    intro p hp
    simp only [List.mem_cons, List.mem_nil_iff, or_false] at hp
    rcases hp with rfl | rfl
    · exact tbq28
    · exact tbY
  refine ⟨_, [(kcq28, ktq28), (kcY, ktY)], spLawT K _, tbs, fun s v => .of_eq rfl, fun H a ns hl _ hH hS => ⟨a, ns, rfl, hS, hl, ?_, fun _ => rfl⟩, fun base _ _ hB => ok_law ⟨⟨_, _, _, _, _, _, _, _, rfl, lY, cY⟩, kY⟩ T ⟨hB (kcq28, ktq28) (.head _), hB (kcY, ktY) (.tail _ (.head _))⟩⟩
  intro p hp
  simp only [LT, List.mem_cons, List.mem_nil_iff, or_false] at hp
  rcases hp with rfl | rfl
  · exact LamX.TabS.nil (hH (kcq28, ktq28) (.head _))
  · exact LamX.TabS.nil (hH (kcY, ktY) (.tail _ (.head _)))
/-- the end, with tables of code objects and what the loose names hold -/
theorem walk_tabs {l : PySem.W.OpenLaw} {q p : Program} {lv : List (Str × PySem.W.WData)} {loose : List Str} {YP : World → Heap → Prop} {d : DefRec} {K : Params → PySem.W.Frag} (hn : l.most = some 63) (hd : d.params.defaults = []) (hY : ∀ (w : World) (h : Heap), YP w h → (K w.params).In h)
    (F : ∀ (w : World) (mg : Str → Option Value) (fa : Addr) (h : Heap), YP w h → (K w.params).In h → h.Ns mainGlobals mg → PySem.W.LooseAre lv mg h → mg d.name = some (.ref fa) →
      ∃ (fd : FuncData) (cs : List (Addr × Addr)) (sp : Sp), (∀ p ∈ cs, TabE (K w.params) h p.1 p.2) ∧ (∀ (s : Shared) (v : Value), BindsTo s fd ⟨[v], []⟩ [("_law_script", v)]) ∧ (∀ (H : Hp) (a : Addr) (ns : List Int), ns.length ≤ 63 → (∀ z ∈ ns, Builtin.Int.intBits z ≤ 1048576) → (∀ p ∈ cs, H p.2 = some (.tbl #[])) → SqL (K w.params) H a (ns.map V.int) → sp [.ref a] H (fun v _ => v = .bl true) fun _ _ _ => False) ∧ ∀ base : Heap, (K w.params).In base → base.Ns mainGlobals mg → (∀ p ∈ cs, LamX.TabB base mg p.1 p.2) → FnOk l.prog w (K w.params) mg base CX0 14 fa fd ["_law_script"] sp) :
    PySem.W.WalkO q loose (PySem.W.XL p lv) YP l.row.toRowW d [] (fun f vs => PySem.call f vs) := Att.attach_callB hn hd fun w _ s₁ mg mb fa _ _ _ _ a vs ns G Y _ _ _ hmg hobj hints hlen hbits hg => by
  obtain ⟨fd, cs, sp, hT, hb, hsp, hF⟩ := F w mg fa s₁.heap Y (hY w s₁.heap Y) G.T.g G.X.2 hmg
  exact LamX.law_callTs (hY w s₁.heap Y) G.T.g G.T.b G.T.builtins G.T.nolimit hg (fun p hp => (hT p hp).1) (fun p hp => (hT p hp).2.2) (fun p hp => PySem.W.codeHd_of_K (hY w s₁.heap Y) (hT p hp).2.1) G.T.bmain hobj hints (Nat.le_trans hlen (by decide)) ⟨rfl, by decide, by decide⟩ hF hb (fun H hH hS => hsp H a ns hlen hbits hH hS) fun _ _ _ z => z

end Toy
open PySem PySem.W PyProof.Rows
set_option maxRecDepth 100000 in
set_option maxHeartbeats 0 in
theorem PySem.Challenge.cw_breakerrow_k59_invalid_routes_holds : PySem.Challenge.rw_breakerrow_k59_invalid_routes.Holds := by
  w_on; o_law; k_head; (case hw => w_witness2)
  k_fill
  refine Toy.walk_tabs (l := PySem.Challenge.rw_breakerrow_k59_invalid_routes) rfl rfl (fun w h Y => PySem.W.km_in_of Y) ?F
  intro w mg fa h Y KX G LL hmg
  have hT := PySem.W.km_tabs_of Y
  refine' Toy.all_mk KX G LL (by first | exact .head _ | exact .tail _ (.head _) | exact .tail _ (.tail _ (.head _)) | exact .tail _ (.tail _ (.tail _ (.head _))) | exact .tail _ (.tail _ (.tail _ (.tail _ (.head _)))) | exact .tail _ (.tail _ (.tail _ (.tail _ (.tail _ (.head _))))) | exact .tail _ (.tail _ (.tail _ (.tail _ (.tail _ (.tail _ (.head _)))))) | exact .tail _ (.tail _ (.tail _ (.tail _ (.tail _ (.tail _ (.tail _ (.head _))))))) | exact .tail _ (.tail _ (.tail _ (.tail _ (.tail _ (.tail _ (.tail _ (.tail _ (.head _)))))))) | exact .tail _ (.tail _ (.tail _ (.tail _ (.tail _ (.tail _ (.tail _ (.tail _ (.tail _ (.head _)))))))))) (by first | exact .head _ | exact .tail _ (.head _) | exact .tail _ (.tail _ (.head _)) | exact .tail _ (.tail _ (.tail _ (.head _))) | exact .tail _ (.tail _ (.tail _ (.tail _ (.head _)))) | exact .tail _ (.tail _ (.tail _ (.tail _ (.tail _ (.head _))))) | exact .tail _ (.tail _ (.tail _ (.tail _ (.tail _ (.tail _ (.head _)))))) | exact .tail _ (.tail _ (.tail _ (.tail _ (.tail _ (.tail _ (.tail _ (.head _))))))) | exact .tail _ (.tail _ (.tail _ (.tail _ (.tail _ (.tail _ (.tail _ (.tail _ (.head _)))))))) | exact .tail _ (.tail _ (.tail _ (.tail _ (.tail _ (.tail _ (.tail _ (.tail _ (.tail _ (.head _)))))))))) hmg ?gTSERVED ?lTSERVED ?gTFAILED ?lTFAILED ?aq0 ?lq0 ?cq0 ?kq0 ?aq1 ?lq1 ?cq1 ?kq1 ?aq2 ?lq2 ?cq2 ?kq2 ?aq3 ?lq3 ?cq3 ?kq3 ?aq4 ?lq4 ?cq4 ?kq4 ?aq5 ?lq5 ?cq5 ?kq5 ?aq6 ?lq6 ?cq6 ?kq6 ?aq7 ?lq7 ?cq7 ?kq7 ?aq8 ?lq8 ?cq8 ?kq8 ?aq9 ?lq9 ?cq9 ?kq9 ?aq10 ?lq10 ?cq10 ?kq10 ?aq11 ?lq11 ?cq11 ?kq11 ?aq12 ?lq12 ?cq12 ?kq12 ?aq13 ?lq13 ?cq13 ?kq13 ?aq14 ?lq14 ?cq14 ?kq14 ?aq15 ?lq15 ?cq15 ?kq15 ?aq16 ?lq16 ?cq16 ?kq16 ?aq17 ?lq17 ?cq17 ?kq17 ?aq18 ?lq18 ?cq18 ?kq18 ?aq19 ?lq19 ?cq19 ?kq19 ?aq20 ?lq20 ?cq20 ?kq20 ?aq21 ?lq21 ?cq21 ?kq21 ?aq22 ?lq22 ?cq22 ?kq22 ?aq23 ?lq23 ?cq23 ?kq23 ?aq24 ?lq24 ?cq24 ?kq24 ?aq25 ?lq25 ?cq25 ?kq25 ?aq26 ?lq26 ?cq26 ?kq26 ?aq27 ?lq27 ?cq27 ?kq27 ?aq28 ?lq28 ?cq28 ?kq28 ?gcRoutes ?gRoutes0 ?gRoutes1 ?gRoutes2 ?gRoutes3 ?gRoutes4 ?gRoutes5 ?gRoutes6 ?gRoutes7 ?gRoutes8 ?gRoutes9 ?gRoutes10 ?gRoutes11 ?gO1 ?gO2 ?nfRoutes_common ?nfRoutes_services ?nfRoutes_pattern ?nfRoutes_step ?aNRoutes ?iNRoutes ?lNRoutes ?cNRoutes ?kNRoutes ?aq29 ?iq29 ?nq29 ?lq29 ?cq29 ?kq29 ?aq30 ?iq30 ?nq30 ?lq30 ?cq30 ?kq30 ?geBreakerError ?xaBreakerError ?xbBreakerError ?xcBreakerError ?xdBreakerError ?xeBreakerError ?geInvalidRow ?xaInvalidRow ?xbInvalidRow ?xcInvalidRow ?xdInvalidRow ?xeInvalidRow ?geInvalidOutages ?xaInvalidOutages ?xbInvalidOutages ?xcInvalidOutages ?xdInvalidOutages ?xeInvalidOutages ?geInvalidBound ?xaInvalidBound ?xbInvalidBound ?xcInvalidBound ?xdInvalidBound ?xeInvalidBound ?xoInvalidRow ?xsInvalidRow ?xkInvalidRow ?aNInvalidRow ?tNInvalidRow ?lNInvalidRow ?cNInvalidRow ?kNInvalidRow ?neInvalidRow_part ?neInvalidRow_at ?xlInvalidRow ?xmInvalidRow ?seInvalidRow_BreakerError ?seInvalidRow_InvalidRow ?seInvalidRow_InvalidOutages ?seInvalidRow_InvalidBound ?saInvalidRow ?xoInvalidOutages ?xsInvalidOutages ?xkInvalidOutages ?aNInvalidOutages ?tNInvalidOutages ?lNInvalidOutages ?cNInvalidOutages ?kNInvalidOutages ?neInvalidOutages_part ?neInvalidOutages_at ?xlInvalidOutages ?xmInvalidOutages ?seInvalidOutages_BreakerError ?seInvalidOutages_InvalidRow ?seInvalidOutages_InvalidOutages ?seInvalidOutages_InvalidBound ?saInvalidOutages ?xoInvalidBound ?xsInvalidBound ?xkInvalidBound ?aNInvalidBound ?tNInvalidBound ?lNInvalidBound ?cNInvalidBound ?kNInvalidBound ?neInvalidBound_part ?neInvalidBound_at ?xlInvalidBound ?xmInvalidBound ?seInvalidBound_BreakerError ?seInvalidBound_InvalidRow ?seInvalidBound_InvalidOutages ?seInvalidBound_InvalidBound ?saInvalidBound ?gNMOST_BREAKERS ?gNMOST_REQUESTS ?gNMOST_OUTAGES ?gNMOST_SERVICES ?gNMOST_PLACES ?aY ?lY ?cY ?kY ?z_ArithmeticError ?z_bool ?z_enumerate ?z_int ?z_isinstance ?z_len ?z_list ?z_max ?z_min ?z_range ?z_tuple ?z_zip ?tbq28 ?tbY ?ntq28_Y
  (case gTSERVED => k_is)
  (case lTSERVED => k_is)
  (case gTFAILED => k_is)
  (case lTFAILED => k_is)
  (case aq0 => k_is)
  (case lq0 => k_is)
  (case cq0 => k_is)
  (case kq0 => k_is)
  (case aq1 => k_is)
  (case lq1 => k_is)
  (case cq1 => k_is)
  (case kq1 => k_is)
  (case aq2 => k_is)
  (case lq2 => k_is)
  (case cq2 => k_is)
  (case kq2 => k_is)
  (case aq3 => k_is)
  (case lq3 => k_is)
  (case cq3 => k_is)
  (case kq3 => k_is)
  (case aq4 => k_is)
  (case lq4 => k_is)
  (case cq4 => k_is)
  (case kq4 => k_is)
  (case aq5 => k_is)
  (case lq5 => k_is)
  (case cq5 => k_is)
  (case kq5 => k_is)
  (case aq6 => k_is)
  (case lq6 => k_is)
  (case cq6 => k_is)
  (case kq6 => k_is)
  (case aq7 => k_is)
  (case lq7 => k_is)
  (case cq7 => k_is)
  (case kq7 => k_is)
  (case aq8 => k_is)
  (case lq8 => k_is)
  (case cq8 => k_is)
  (case kq8 => k_is)
  (case aq9 => k_is)
  (case lq9 => k_is)
  (case cq9 => k_is)
  (case kq9 => k_is)
  (case aq10 => k_is)
  (case lq10 => k_is)
  (case cq10 => k_is)
  (case kq10 => k_is)
  (case aq11 => k_is)
  (case lq11 => k_is)
  (case cq11 => k_is)
  (case kq11 => k_is)
  (case aq12 => k_is)
  (case lq12 => k_is)
  (case cq12 => k_is)
  (case kq12 => k_is)
  (case aq13 => k_is)
  (case lq13 => k_is)
  (case cq13 => k_is)
  (case kq13 => k_is)
  (case aq14 => k_is)
  (case lq14 => k_is)
  (case cq14 => k_is)
  (case kq14 => k_is)
  (case aq15 => k_is)
  (case lq15 => k_is)
  (case cq15 => k_is)
  (case kq15 => k_is)
  (case aq16 => k_is)
  (case lq16 => k_is)
  (case cq16 => k_is)
  (case kq16 => k_is)
  (case aq17 => k_is)
  (case lq17 => k_is)
  (case cq17 => k_is)
  (case kq17 => k_is)
  (case aq18 => k_is)
  (case lq18 => k_is)
  (case cq18 => k_is)
  (case kq18 => k_is)
  (case aq19 => k_is)
  (case lq19 => k_is)
  (case cq19 => k_is)
  (case kq19 => k_is)
  (case aq20 => k_is)
  (case lq20 => k_is)
  (case cq20 => k_is)
  (case kq20 => k_is)
  (case aq21 => k_is)
  (case lq21 => k_is)
  (case cq21 => k_is)
  (case kq21 => k_is)
  (case aq22 => k_is)
  (case lq22 => k_is)
  (case cq22 => k_is)
  (case kq22 => k_is)
  (case aq23 => k_is)
  (case lq23 => k_is)
  (case cq23 => k_is)
  (case kq23 => k_is)
  (case aq24 => k_is)
  (case lq24 => k_is)
  (case cq24 => k_is)
  (case kq24 => k_is)
  (case aq25 => k_is)
  (case lq25 => k_is)
  (case cq25 => k_is)
  (case kq25 => k_is)
  (case aq26 => k_is)
  (case lq26 => k_is)
  (case cq26 => k_is)
  (case kq26 => k_is)
  (case aq27 => k_is)
  (case lq27 => k_is)
  (case cq27 => k_is)
  (case kq27 => k_is)
  (case aq28 => k_is)
  (case lq28 => k_is)
  (case cq28 => k_is)
  (case kq28 => k_is)
  (case gcRoutes => k_is)
  (case gRoutes0 => k_is)
  (case gRoutes1 => k_is)
  (case gRoutes2 => k_is)
  (case gRoutes3 => k_is)
  (case gRoutes4 => k_is)
  (case gRoutes5 => k_is)
  (case gRoutes6 => k_is)
  (case gRoutes7 => k_is)
  (case gRoutes8 => k_is)
  (case gRoutes9 => k_is)
  (case gRoutes10 => k_is)
  (case gRoutes11 => k_is)
  (case gO1 => k_is)
  (case gO2 => k_is)
  (case nfRoutes_common => k_is)
  (case nfRoutes_services => k_is)
  (case nfRoutes_pattern => k_is)
  (case nfRoutes_step => k_is)
  (case aNRoutes => k_is)
  (case iNRoutes => k_is)
  (case lNRoutes => k_is)
  (case cNRoutes => k_is)
  (case kNRoutes => k_is)
  (case aq29 => k_is)
  (case iq29 => k_is)
  (case nq29 => k_is)
  (case lq29 => k_is)
  (case cq29 => k_is)
  (case kq29 => k_is)
  (case aq30 => k_is)
  (case iq30 => k_is)
  (case nq30 => k_is)
  (case lq30 => k_is)
  (case cq30 => k_is)
  (case kq30 => k_is)
  (case geBreakerError => k_is)
  (case xaBreakerError => k_is)
  (case xbBreakerError => k_is)
  (case xcBreakerError => k_is)
  (case xdBreakerError => k_is)
  (case xeBreakerError => k_is)
  (case geInvalidRow => k_is)
  (case xaInvalidRow => k_is)
  (case xbInvalidRow => k_is)
  (case xcInvalidRow => k_is)
  (case xdInvalidRow => k_is)
  (case xeInvalidRow => k_is)
  (case geInvalidOutages => k_is)
  (case xaInvalidOutages => k_is)
  (case xbInvalidOutages => k_is)
  (case xcInvalidOutages => k_is)
  (case xdInvalidOutages => k_is)
  (case xeInvalidOutages => k_is)
  (case geInvalidBound => k_is)
  (case xaInvalidBound => k_is)
  (case xbInvalidBound => k_is)
  (case xcInvalidBound => k_is)
  (case xdInvalidBound => k_is)
  (case xeInvalidBound => k_is)
  (case xoInvalidRow => k_is)
  (case xsInvalidRow => k_is)
  (case xkInvalidRow => k_is)
  (case aNInvalidRow => k_is)
  (case tNInvalidRow => k_is)
  (case lNInvalidRow => k_is)
  (case cNInvalidRow => k_is)
  (case kNInvalidRow => k_is)
  (case neInvalidRow_part => k_is)
  (case neInvalidRow_at => k_is)
  (case xlInvalidRow => k_is)
  (case xmInvalidRow => k_is)
  (case seInvalidRow_BreakerError => k_is)
  (case seInvalidRow_InvalidRow => k_is)
  (case seInvalidRow_InvalidOutages => k_is)
  (case seInvalidRow_InvalidBound => k_is)
  (case saInvalidRow => k_is)
  (case xoInvalidOutages => k_is)
  (case xsInvalidOutages => k_is)
  (case xkInvalidOutages => k_is)
  (case aNInvalidOutages => k_is)
  (case tNInvalidOutages => k_is)
  (case lNInvalidOutages => k_is)
  (case cNInvalidOutages => k_is)
  (case kNInvalidOutages => k_is)
  (case neInvalidOutages_part => k_is)
  (case neInvalidOutages_at => k_is)
  (case xlInvalidOutages => k_is)
  (case xmInvalidOutages => k_is)
  (case seInvalidOutages_BreakerError => k_is)
  (case seInvalidOutages_InvalidRow => k_is)
  (case seInvalidOutages_InvalidOutages => k_is)
  (case seInvalidOutages_InvalidBound => k_is)
  (case saInvalidOutages => k_is)
  (case xoInvalidBound => k_is)
  (case xsInvalidBound => k_is)
  (case xkInvalidBound => k_is)
  (case aNInvalidBound => k_is)
  (case tNInvalidBound => k_is)
  (case lNInvalidBound => k_is)
  (case cNInvalidBound => k_is)
  (case kNInvalidBound => k_is)
  (case neInvalidBound_part => k_is)
  (case neInvalidBound_at => k_is)
  (case xlInvalidBound => k_is)
  (case xmInvalidBound => k_is)
  (case seInvalidBound_BreakerError => k_is)
  (case seInvalidBound_InvalidRow => k_is)
  (case seInvalidBound_InvalidOutages => k_is)
  (case seInvalidBound_InvalidBound => k_is)
  (case saInvalidBound => k_is)
  (case gNMOST_BREAKERS => k_is)
  (case gNMOST_REQUESTS => k_is)
  (case gNMOST_OUTAGES => k_is)
  (case gNMOST_SERVICES => k_is)
  (case gNMOST_PLACES => k_is)
  (case aY => k_is)
  (case lY => k_is)
  (case cY => k_is)
  (case kY => k_is)
  (case z_ArithmeticError => k_is)
  (case z_bool => k_is)
  (case z_enumerate => k_is)
  (case z_int => k_is)
  (case z_isinstance => k_is)
  (case z_len => k_is)
  (case z_list => k_is)
  (case z_max => k_is)
  (case z_min => k_is)
  (case z_range => k_is)
  (case z_tuple => k_is)
  (case z_zip => k_is)
  (case tbq28 => first | exact Toy.tabE_of (hT _ (.head _)) (by kernel_rfl) (by kernel_rfl))
  (case tbY => first | exact Toy.tabE_of (hT _ (.tail _ (.head _))) (by kernel_rfl) (by kernel_rfl))
  (case ntq28_Y => decide)
