import PyProof.Rows.All
import Wide.All
import OpenK.AllK
import Wide.FinOn
import HandS.ForMost
import HandS.IsInst
import HandS.Wide
import HandS.Style
import HandS.Defaults
import HandS.MakeKwOnly
import HandS.Zip
import HandS.SortRule
import HandS.TupAny
import HandS.Lambda
import KE.GoesEnum
import HandS.Flow
import HandS.Codes
import HandS.WideBits
import HandS.OwnEq
import HandS.TryOnly
import HandS.TupLe
import HandS.SetFor
import KE.DataMinMax
import HandS.Conv
import KE.DataFind
import PyProof.Rows.CallKwBuiltin
import PyProof.LongRange
import HandS.ExcInit
import KE.KExcInit
import HandS.WordsExc
import HandS.ExcField
import KE.KExcIs
import HandS.RaiseMore
import HandS.EndTab
import KE.KNestM
import KE.KDflt
import PyProof.ReprRoads
import PyProof.ReprHeads
import PyProof.ReprDict
import PySem.Challenge.RW_breakerrow_k41_invalid_orders_and_waits
set_option Elab.async false
set_option linter.all false
set_option maxRecDepth 100000
set_option maxHeartbeats 4000000
namespace Own
open PySem PySem.Spec PyProof.Rows L2
open Builtin

section
variable {X : Cx} {CX : CXT} {k : Nat} {f C : Addr} {fd : FuncData} {ps : List Str} {sp : Sp} {E : XK}

theorem rr {p : Addr} : L2.RelV (.ref p) (.ref p) := rfl
/-- a promise used under any frame below the body -/
theorem run_at {A : Around} {pins : List (Addr × Obj)} {σ : L2.St} {H : Hp} {s : Shared} {Q : VK} {us : List Value} {vs : List V} (F : FnOk X.prog X.w X.K X.mg X.base CX k f fd ps sp) (hr : Room k A) (hA : A.frames = X.A.frames)
    (hb : Binds X.K fd ps []) (hx : Passes CX X E) (I : Inv X pins σ H s) (r : Vals vs us) (h : sp vs H Q E) : wpAny (model X.prog X.w) A (call (.ref f) us) (EP X pins σ Q) X.xe s := by
  have hl : us.length = ps.length := by rw [← r.length]; exact F.len _ _ _ _ h
  have e0 : Env0 X.prog X.w X.K X.mg X.base A X.stack s H := by
    have e := I.env0
    exact ⟨by rw [hA]; exact e.frames, e.mod, e.bs, e.bsz, e.funs, e.frf, e.hok, e.bare⟩
  have hB : BindsTo s fd ⟨us, []⟩ (ps.zip us) := by
    have := hb s us I.kIn (by rw [List.append_nil]; exact hl)
    rwa [List.append_nil] at this
  refine wpAny_call (codeAny_mono (F.run A X.stack s H ⟨us, []⟩ us vs Q E hr e0 hB r h) fun r s' hq => ?_)
  cases r with
  | error e => exact hx pins σ H s e s' I hq
  | ok fl =>
    cases fl with
    | ret u => exact I.after hq
    | next => exact False.elim hq
    | brk => exact False.elim hq
    | cont => exact False.elim hq

theorem inst_of {pins : List (Addr × Obj)} {σ : L2.St} {H : Hp} {s : Shared} {p dx : Addr} {fs : List (Str × V)} (I : Inv X pins σ H s) (e : H p = some (.ins C dx fs)) : ∃ od, PySem.W.InstAt s.heap p (PySem.W.instObj C dx) C od := by
  obtain ⟨mA, O, _⟩ := ins_get I.hok e
  obtain ⟨od, J, _⟩ := O.look
  exact ⟨_, J⟩

/-- a bool is wanted of the method -/
def BlQ (Q : VK) (g : Bool → Bool) : VK := fun v H' => ∃ b, v = .bl b ∧ Q (.bl (g b)) H'
def rOwnIn (C : Addr) (sp : Sp) (E : XK) (g : Bool → Bool) : R2 := fun x y H Q => ∃ p dx fs, y = .ref p ∧ H p = some (.ins C dx fs) ∧ sp [.ref p, x] H (BlQ Q g) E
theorem op_own_in (F : FnOk X.prog X.w X.K X.mg X.base CX k f fd ps sp) (hr : Room k X.A) (hs : PySem.W.findIn X.K (.ref C) "__contains__" = some (some (.ref f))) (hf : PySem.W.isFn X.K (.ref f) = true) (hb : Binds X.K fd ps []) (hx : Passes CX X E) :
    OpR X (compareOp .In) (rOwnIn C sp E id) := by
  intro pins s σ H x y v u Q I rx ry h
  obtain ⟨p, dx, fs, rfl, hp, q⟩ := h
  cases ry
  obtain ⟨od, J⟩ := inst_of I hp
  obtain ⟨m, hF⟩ := I.fr
  refine PySem.W.in_K hF I.ok.mod.kin J hs hf (thn (run_at F hr rfl hb hx I (.cons rr (.cons rx .nil)) q) fun r s' hh => ?_)
  obtain ⟨z, H', I', rz, b, ez, q'⟩ := hh
  subst ez
  cases rz
  exact wpAny_truthy_bool ⟨.bl b, H', I', rfl, q'⟩
theorem op_own_notin (F : FnOk X.prog X.w X.K X.mg X.base CX k f fd ps sp) (hr : Room k X.A) (hs : PySem.W.findIn X.K (.ref C) "__contains__" = some (some (.ref f))) (hf : PySem.W.isFn X.K (.ref f) = true) (hb : Binds X.K fd ps []) (hx : Passes CX X E) :
    OpR X (compareOp .NotIn) (rOwnIn C sp E not) := by
  intro pins s σ H x y v u Q I rx ry h
  obtain ⟨p, dx, fs, rfl, hp, q⟩ := h
  cases ry
  obtain ⟨od, J⟩ := inst_of I hp
  obtain ⟨m, hF⟩ := I.fr
  refine PySem.W.notIn_K hF I.ok.mod.kin J hs hf (thn (run_at F hr rfl hb hx I (.cons rr (.cons rx .nil)) q) fun r s' hh => ?_)
  obtain ⟨z, H', I', rz, b, ez, q'⟩ := hh
  subst ez
  cases rz
  exact wpAny_truthy_bool ⟨.bl (!b), H', I', rfl, q'⟩
/-- len(o) -/
def rOwnLen (C : Addr) (sp : Sp) (E : XK) : List V → Hp → VK → Prop := fun xs H Q => ∃ p dx fs, xs = [.ref p] ∧ H p = some (.ins C dx fs) ∧ sp [.ref p] H (fun v H' => ∃ n : Int, v = .int n ∧ 0 ≤ n ∧ n < 2 ^ 63 ∧ Q (.int n) H') E
theorem call_own_len (F : FnOk X.prog X.w X.K X.mg X.base CX k f fd ps sp) (hr : Room (k + 1) X.A) (hs : PySem.W.findIn X.K (.ref C) "__len__" = some (some (.ref f))) (hf : PySem.W.isFn X.K (.ref f) = true) (hb : Binds X.K fd ps []) (hx : Passes CX X E) :
    CallR X (.builtin "len") (rOwnLen C sp E) := by
  intro pins s σ H xs us Q I r h
  obtain ⟨p, dx, fs, rfl, hp, q⟩ := h
  obtain ⟨u, rfl, ru⟩ := vals1 r
  cases ru
  obtain ⟨od, J⟩ := inst_of I hp
  obtain ⟨m, hF⟩ := I.fr
  refine PySem.W.len_K hF I.ok.mod.kin J hs hf (thn (run_at F hr.in1 rfl hb hx I (.cons rr .nil) q) fun r s' hh => ?_)
  obtain ⟨z, H', I', rz, n, ez, h0, h1, q'⟩ := hh
  subst ez
  obtain ⟨t, rfl⟩ := rz
  exact ⟨⟨h0, h1⟩, ⟨.int n, H', I'.tok _, ⟨_, rfl⟩, q'⟩⟩
/-- o + p, both of the class -/
def rOwnAdd (C : Addr) (sp : Sp) (E : XK) : R2 := fun x y H Q => ∃ p dx fs q dy gs, x = .ref p ∧ H p = some (.ins C dx fs) ∧ y = .ref q ∧ H q = some (.ins C dy gs) ∧ sp [.ref p, .ref q] H (fun v H' => (∃ a, v = .ref a) ∧ Q v H') E
theorem op_own_add (F : FnOk X.prog X.w X.K X.mg X.base CX k f fd ps sp) (hr : Room k X.A) (hc : PySem.W.selfFirst X.K C = true) (hs : PySem.W.findIn X.K (.ref C) "__add__" = some (some (.ref f))) (hf : PySem.W.isFn X.K (.ref f) = true) (hb : Binds X.K fd ps []) (hx : Passes CX X E) :
    OpR X (binaryOp .Add) (rOwnAdd C sp E) := by
  intro pins s σ H x y v u Q I rx ry h
  obtain ⟨p, dx, fs, q, dy, gs, rfl, hp, rfl, hq, hh⟩ := h
  cases rx
  cases ry
  obtain ⟨od, J⟩ := inst_of I hp
  obtain ⟨od', J'⟩ := inst_of I hq
  obtain ⟨m, hF⟩ := I.fr
  refine PySem.W.binop_K hF I.ok.mod.kin J J'.type hc hs hf (thn (run_at F hr rfl hb hx I (.cons rr (.cons rr .nil)) hh) fun r s' hh => ?_)
  obtain ⟨z, H', I', rz, ⟨a, ez⟩, q'⟩ := hh
  subst ez
  cases rz
  exact ⟨.ref a, H', I', rfl, q'⟩
/-- o[i] -/
def rOwnIx (C : Addr) (sp : Sp) (E : XK) : R2 := fun x y H Q => ∃ p dx fs, x = .ref p ∧ H p = some (.ins C dx fs) ∧ sp [.ref p, y] H Q E
theorem pe_own_ix {a b : Expr} {ta tb : TE} {pos : Pos} (F : FnOk X.prog X.w X.K X.mg X.base CX k f fd ps sp) (hr : Room (k + 1) X.A) (hs : PySem.W.findIn X.K (.ref C) "__getitem__" = some (some (.ref f))) (hfn : PySem.W.fnIn X.K f = true) (hf : PySem.W.isFn X.K (.ref f) = true)
    (hb : Binds X.K fd ps []) (hx : Passes CX X E) (ha : PE X a ta) (hb' : PE X b tb) (hsl : ∀ o i, subscripted b true o i = runValue (.builtin "lifetime.subscript" ⟨[o, i], []⟩) := by exact fun _ _ => rfl) :
    PE X (.Subscript a b pos) (tOp (rOwnIx C sp E) ta tb) := by
  refine ⟨fun pins s σ H Q I h => ?_⟩
  refine Subscript_ (binT ha hb' I h fun v u s2 x y H2 I2 rx ry q => ?_)
  obtain ⟨p, dx, fs, rfl, hp, q⟩ := q
  cases rx
  obtain ⟨od, J⟩ := inst_of I2 hp
  obtain ⟨m, hF⟩ := I2.fr
  exact PySem.W.sub_K hF I2.ok.mod.kin J hs hfn hf (run_at F hr.in1 rfl hb hx I2 (.cons rr (.cons ry .nil)) q) (hsl _ _)

/-! ### own == and the != that comes with it -/
theorem sub_ty {K : PySem.W.Frag} {C : Addr} {T : String} {l : List String} (e : fastBuiltinMro T = some (l.map Value.type)) : PySem.W.subIn K (.type T) (.ref C) = some false := by
  show (fastBuiltinMro T).map (·.contains (.ref C)) = some false
  rw [e]
  have : ∀ l : List String, (l.map Value.type).contains (Value.ref C) = false := by
    intro l
    induction l with
    | nil => rfl
    | cons a r ih =>
      rw [List.map_cons, List.contains_cons, ih]
      rfl
  rw [Option.map_some, this]
/-- a value's type, not one below the class C -/
inductive TyN (H : Hp) (C : Addr) : V → Value → Prop where
  | non : TyN H C .non (.type "NoneType")
  | bl (x : Bool) : TyN H C (.bl x) (.type "bool")
  | int (i : Int) : TyN H C (.int i) (.type "int")
  | str (x : Str) : TyN H C (.str x) (.type "str")
  | lst {a : Addr} {xs : List V} (e : H a = some (.lst xs)) : TyN H C (.ref a) (.type "list")
  | tup {a : Addr} {xs : List V} (e : H a = some (.tup xs)) : TyN H C (.ref a) (.type "tuple")
  | ins {a dx : Addr} {fs : List (Str × V)} (e : H a = some (.ins C dx fs)) : TyN H C (.ref a) (.ref C)
theorem TyN.notFirst {K : PySem.W.Frag} {H : Hp} {x : V} {t : Value} (h : TyN H C x t) : PySem.W.notFirst K C t = true := by
  cases h with
  | non => exact Bool.or_eq_true_iff.mpr (.inr (beq_iff_eq.mpr (sub_ty (l := ["NoneType", "object"]) (by decide +kernel))))
  | bl _ => exact Bool.or_eq_true_iff.mpr (.inr (beq_iff_eq.mpr (sub_ty (l := ["bool", "int", "object"]) (by decide +kernel))))
  | int _ => exact Bool.or_eq_true_iff.mpr (.inr (beq_iff_eq.mpr (sub_ty (l := ["int", "object"]) (by decide +kernel))))
  | str _ => exact Bool.or_eq_true_iff.mpr (.inr (beq_iff_eq.mpr (sub_ty (l := ["str", "object"]) (by decide +kernel))))
  | lst _ => exact Bool.or_eq_true_iff.mpr (.inr (beq_iff_eq.mpr (sub_ty (l := ["list", "object"]) (by decide +kernel))))
  | tup _ => exact Bool.or_eq_true_iff.mpr (.inr (beq_iff_eq.mpr (sub_ty (l := ["tuple", "object"]) (by decide +kernel))))
  | ins _ => exact Bool.or_eq_true_iff.mpr (.inl (by simp))
theorem looks_obj {M : Model} {h : Heap} {a : Addr} {o : Obj} (e : h.get? a = some o) : PySem.W.Looks M h (typeOf (.ref a)) o.cls := fun A Q E s kp q => PySem.wpAny_typeOf_ref (kp _ _ e) q
theorem TyN.looks {M : Model} {pins : List (Addr × Obj)} {σ : L2.St} {H : Hp} {s : Shared} {x : V} {u t : Value} (I : Inv X pins σ H s) (r : RelV x u) (h : TyN H C x t) : PySem.W.Looks M s.heap (typeOf u) t := by
  cases h with
  | non => cases r; exact PySem.W.Looks.of_pure rfl
  | bl _ => cases r; exact PySem.W.Looks.of_pure rfl
  | int _ => obtain ⟨_, rfl⟩ := r; exact PySem.W.Looks.of_pure rfl
  | str _ => obtain ⟨_, rfl⟩ := r; exact PySem.W.Looks.of_pure rfl
  | @lst a xs e =>
    cases r
    obtain ⟨_, _, n, _, h1⟩ := (show ObjOk X.prog X.w H s.heap a (.lst xs) from I.hok a _ e)
    exact looks_obj h1
  | @tup a xs e =>
    cases r
    obtain ⟨_, _, _, o, h1, h2, _⟩ := (show ObjOk X.prog X.w H s.heap a (.tup xs) from I.hok a _ e)
    have := looks_obj (M := M) h1
    rw [h2] at this
    exact this
  | ins e =>
    cases r
    obtain ⟨od, J⟩ := inst_of I e
    exact J.type
def rOwnEq (C : Addr) (sp : Sp) (E : XK) (g : Bool → Bool) : R2 := fun x y H Q => ∃ p dx fs t, x = .ref p ∧ H p = some (.ins C dx fs) ∧ TyN H C y t ∧ sp [.ref p, y] H (BlQ Q g) E
theorem op_own_eq (F : FnOk X.prog X.w X.K X.mg X.base CX k f fd ps sp) (hr : Room k X.A) (hs : PySem.W.findIn X.K (.ref C) "__eq__" = some (some (.ref f))) (hf : PySem.W.isFn X.K (.ref f) = true) (hb : Binds X.K fd ps []) (hx : Passes CX X E) :
    OpR X (compareOp .Eq) (rOwnEq C sp E id) := by
  intro pins s σ H x y v u Q I rx ry h
  obtain ⟨p, dx, fs, t, rfl, hp, ty, q⟩ := h
  cases rx
  obtain ⟨od, J⟩ := inst_of I hp
  obtain ⟨m, hF⟩ := I.fr
  show wpAny (model X.prog X.w) X.A (richCompare .Eq (.ref p) u) (EP X pins σ Q) X.xe s
  refine PySem.W.cmp_K (op := .Eq) hr.units0 hF I.ok.mod.kin J (ty.looks I ry) ty.notFirst hs hf (thn (run_at F hr rfl hb hx I (.cons rr (.cons ry .nil)) q) fun r s' hh => ?_)
  obtain ⟨z, H', I', rz, b, ez, q'⟩ := hh
  subst ez
  cases rz
  exact ⟨.bl b, H', I', rfl, q'⟩
section
variable {prog : Program} {w : World} {A : Around} {E' : Value → Shared → Prop} {s : Shared} {K : PySem.W.Frag} {x : Addr} {ox : Obj} {od : Option Obj} {b : Value}
theorem objNe_entry (hX : K.In s.heap) (I : PySem.W.InstAt s.heap x ox C od) (hs : PySem.W.findIn K (.ref C) "__eq__" = some (some (.ref f))) (hf : PySem.W.isFn K (.ref f) = true) (hu : A.units < cLine) {Q : Fin → Shared → Prop}
    (hcall : wpAny (model prog w) A (call (.ref f) [.ref x, b]) (fun v s' => ∃ k, v = .bool k ∧ Q (.done (.ret (.bool (!k)))) s') E' s) :
    wpAny (model prog w) A (Builtin.«object.__ne__» ⟨[.ref x, b], []⟩) Q E' s := by
  unfold Builtin.«object.__ne__»
  repeat (first
    | with_reducible refine wpAny_cRoomFor hu ?_
    | (refine wpAny_bind (m := callSpecialIfBound? (.ref x) (Str.ofString "__eq__") [b])
        (PySem.W.ifBound_K hX I hs hf (wpAny_mono hcall (fun r s' hr => by
          obtain ⟨k, rfl, hq⟩ := hr
          repeat (first | exact hq | exact wpAny_pure hq | exact wpAny_truthy_bool hq | (refine wpAny_bind (m := truthy (.bool _)) (wpAny_truthy_bool ?_)) | wp_step)) fun _ _ e => e)))
    | wp_step)
theorem call_objNe (hX : K.In s.heap) (I : PySem.W.InstAt s.heap x ox C od) (hm : PySem.W.mroIn K C (.type "object") = some true) (hs : PySem.W.findIn K (.ref C) "__eq__" = some (some (.ref f))) (hf : PySem.W.isFn K (.ref f) = true) (hu : A.units + 1 < cLine) {Q : Value → Shared → Prop}
    (hcall : wpAny (model prog w) A.in1 (call (.ref f) [.ref x, b]) (fun v s' => ∃ k, v = .bool k ∧ Q (.bool (!k)) s') E' s) :
    wpAny (model prog w) A (call (.builtin "object.__ne__") [.ref x, b]) Q E' s :=
  wpAny_call (codeAny_call_builtin PySem.F.cmp_object.ne.plain PySem.F.cmpEntry_ne (PySem.W.check_slot PySem.F.cmpKind_ne PySem.F.cmpSplit_ne (I.type.andThen (PySem.W.looks_mroIn hX hm)) (PySem.F.cmpArgs_ne _ _)
    (objNe_entry (A := A.in1) hX I hs hf hu (wpAny_mono hcall (fun v s' hv => by
      obtain ⟨k, e, hq⟩ := hv
      exact ⟨k, e, hq⟩) fun _ _ e => e))))
theorem ifBound_objNe {M : Model} {args : List Value} {Q : Option Value → Shared → Prop} (hX : K.In s.heap) (I : PySem.W.InstAt s.heap x ox C od) (hs : PySem.W.findIn K (.ref C) "__ne__" = some (some (.builtin "object.__ne__")))
    (h : wpAny M A (call (.builtin "object.__ne__") (.ref x :: args)) (fun v => Q (some v)) E' s) : wpAny M A (callSpecialIfBound? (.ref x) "__ne__" args) Q E' s := by
  simp only [callSpecialIfBound?, bindSpecialIfBound?]
  refine wpAny_holding (wpAny_bind (wpAny_bind (wpAny_bind (I.type.here ((PySem.W.looks_findIn hX hs).here ?_)))))
  refine wpAny_bind (wpAny_askSetting (wpAny_ite ?_))
  have fin : wpAny M A (call (.builtin "object.__ne__") ([.ref x] ++ args) >>= fun v => pure (some v)) Q E' s := wpAny_bind (wpAny_mono h (fun v s' h' => wpAny_pure h') fun _ _ h' => h')
  split
  · exact wpAny_bind (wpAny_of_eq (PySem.F.cmp_object.ne.bind _) (wpAny_pure (by exact fin)))
  · exact wpAny_tryCatch (wpAny_bind (wpAny_of_eq (PySem.F.cmp_object.ne.bind _) (wpAny_pure (by exact fin))))
theorem rc_ne {tb : Value} {Q : Value → Shared → Prop} (hu : A.units + 1 < cLine) (hX : K.In s.heap) (I : PySem.W.InstAt s.heap x ox C od) (hb : PySem.W.Looks (model prog w) s.heap (typeOf b) tb) (hn : PySem.W.notFirst K C tb = true)
    (hm : PySem.W.mroIn K C (.type "object") = some true) (hne : PySem.W.findIn K (.ref C) "__ne__" = some (some (.builtin "object.__ne__"))) (hs : PySem.W.findIn K (.ref C) "__eq__" = some (some (.ref f))) (hf : PySem.W.isFn K (.ref f) = true)
    (hcall : wpAny (model prog w) A.in1 (call (.ref f) [.ref x, b]) (fun v s' => ∃ k, v = .bool k ∧ Q (.bool (!k)) s') E' s) : wpAny (model prog w) A (richCompare .NotEq (.ref x) b) Q E' s := by
  have one : wpAny (model prog w) A (tryCompare (.ref x) "__ne__" b) (fun r s' => ∃ v, r = some v ∧ Q v s') E' s := by
    unfold tryCompare
    refine wpAny_bind (ifBound_objNe hX I hne (call_objNe hX I hm hs hf hu (wpAny_mono hcall (fun v s' hv => ?_) fun _ _ e => e)))
    obtain ⟨k, rfl, hq⟩ := hv
    exact ⟨k, rfl, wpAny_pure ⟨_, rfl, hq⟩⟩
  unfold richCompare
  simp only [oneThing_ref, cmpInfo_NotEq]
  refine wpAny_holding (wpAny_bind (wpAny_cRoomFor (Nat.lt_of_succ_lt hu) ?_))
  refine wpAny_bind (I.type.here (wpAny_bind (hb.here ?_)))
  split
  · rename_i q
    have e : PySem.W.subIn K tb (.ref C) = some false := by
      rcases Bool.or_eq_true_iff.mp hn with e | e
      · rw [beq_iff_eq.mp e] at q; simp at q
      · exact beq_iff_eq.mp e
    refine wpAny_bind ((PySem.W.looks_subIn hX e).here ?_)
    simp only [Bool.false_eq_true, if_false]
    refine wpAny_bind (wpAny_mono one (fun r s' z => ?_) fun _ _ e => e)
    obtain ⟨v, rfl, hq⟩ := z
    exact wpAny_pure hq
  · refine wpAny_bind (wpAny_pure ?_)
    simp only [Bool.false_eq_true, if_false]
    refine wpAny_bind (wpAny_mono one (fun r s' z => ?_) fun _ _ e => e)
    obtain ⟨v, rfl, hq⟩ := z
    exact wpAny_pure hq
end
theorem op_own_ne (F : FnOk X.prog X.w X.K X.mg X.base CX k f fd ps sp) (hr : Room (k + 1) X.A) (hm : PySem.W.mroIn X.K C (.type "object") = some true) (hne : PySem.W.findIn X.K (.ref C) "__ne__" = some (some (.builtin "object.__ne__")))
    (hs : PySem.W.findIn X.K (.ref C) "__eq__" = some (some (.ref f))) (hf : PySem.W.isFn X.K (.ref f) = true) (hb : Binds X.K fd ps []) (hx : Passes CX X E) :
    OpR X (compareOp .NotEq) (rOwnEq C sp E not) := by
  intro pins s σ H x y v u Q I rx ry h
  obtain ⟨p, dx, fs, t, rfl, hp, ty, q⟩ := h
  cases rx
  obtain ⟨od, J⟩ := inst_of I hp
  show wpAny (model X.prog X.w) X.A (richCompare .NotEq (.ref p) u) (EP X pins σ Q) X.xe s
  refine rc_ne (hu_of hr) I.kIn J (ty.looks I ry) ty.notFirst hm hne hs hf (thn (run_at F hr.in1 rfl hb hx I (.cons rr (.cons ry .nil)) q) fun r s' hh => ?_)
  obtain ⟨z, H', I', rz, b, ez, q'⟩ := hh
  subst ez
  cases rz
  exact ⟨b, rfl, .bl (!b), H', I', rfl, q'⟩
end
end Own

namespace Toy
open PySem L2 Own
/-! ### exceptions of the text's own, over ArithmeticError, with fields of their own -/
abbrev aeT : List Value := [.type "ArithmeticError", .type "Exception", .type "BaseException", .type "object"]
theorem no_taker {K : PySem.W.Frag} {C : Addr} {f : Str} (h : PySem.W.findIn K (.ref C) f = some none) : PySem.W.takerIn K C f = some none := by
  unfold PySem.W.takerIn
  rw [h]
  rfl
section
variable {prog : Program} {w : World} {A : Around} {R : Result → Shared → Prop} {hp : Heap} {g : Array GenState} {d : Drawn} {t : Nat} {os : OsState}
/-- the first field -/
theorem ae_first {K : PySem.W.Frag} {f : Str} {tk : Tok} {u : Value} {x C : Addr} {fv : Array Value} {cd : ClassData} (X : K.In hp) (hx : hp.get? x = some { cls := .ref C, data := .fields fv }) (hc : PySem.W.clsIn K C = some cd) (hd : cd.hasDict = true)
    (over : PySem.W.excOver K C aeT = true) (no : PySem.W.findIn K (.ref C) f = some none)
    (k : ∀ h' tk' dx, (∀ b o, b ≠ x → hp.get? b = some o → h'.get? b = some o) → hp.objs.size ≤ dx → dx ≠ x → h'.get? x = some { cls := .ref C, dict := some dx, data := .fields fv } → h'.Ns1 dx (fun y => if y = f then some u else none) → R (.ok (.ret .none)) ⟨h', g, d, tk', os⟩) :
    codeAny (model prog w) A (.call (.builtin "object.__setattr__") ⟨[.ref x, .str f tk, u], []⟩) R ⟨hp, g, d, t, os⟩ := by
  have I : PySem.W.InstAt hp x { cls := .ref C, data := .fields fv } C none := ⟨hx, rfl, rfl, trivial⟩
  refine PySem.W.osa_openX PySem.F.store_ArithmeticError X I over (no_taker no) fun b => ?_
  have look : PySem.W.Looks (model prog w) hp (classData C) cd := PySem.W.looks_clsIn X hc
  have old : x ≠ hp.objs.size := Nat.ne_of_lt (Heap.lt_size hx)
  obtain ⟨nm, bs, mro, ns, qn, hdd, sn, sb, ab, col, dl⟩ := cd
  dsimp only at hd
  subst hd
  dsimp only
  unfold Builtin.ObjectAttr.storeInOwnDict Builtin.ObjectAttr.ownDictForStores
  repeat (first
    | with_reducible refine look.at ?_
    | with_reducible refine wpAny_loadPart_at hx ?_
    | with_reducible refine PySem.HandSPX.store_in_new ?_ ?_
    | wp_step)
  · exact ⟨_, #[], _, (Heap.get?_update_ne _ _ _ _ old.symm).trans (Heap.get?_push_at rfl rfl), rfl, (fun e he => absurd he (by simp)), fun _ => rfl⟩
  · intro h' tk' n1 sb'
    have hx' : (hp.push { cls := .type "dict", data := .dict #[] }).get? x = some { cls := .ref C, data := .fields fv } := Heap.get?_push_of_some _ hx
    refine k h' tk' hp.objs.size (fun b o nb e => ?_) (Nat.le_refl _) old.symm ((sb'.2 x old).trans (Heap.get?_update_self _ hx' rfl)) n1
    rw [sb'.2 b (Nat.ne_of_lt (Heap.lt_size e)), Heap.get?_update_ne _ _ _ _ nb]
    exact Heap.get?_push_of_some _ e
/-- a further one -/
theorem ae_more {K : PySem.W.Frag} {f : Str} {tk : Tok} {u : Value} {x C dx : Addr} {fv : Array Value} {cd : ClassData} {m0 : Str → Option Value} {nl : List Str} (X : K.In hp) (hx : hp.get? x = some { cls := .ref C, dict := some dx, data := .fields fv }) (hn : hp.Ns1 dx m0) (hw : Within m0 nl) (hz : nl.length ≤ 1000)
    (hc : PySem.W.clsIn K C = some cd) (hd : cd.hasDict = true) (over : PySem.W.excOver K C aeT = true) (no : PySem.W.findIn K (.ref C) f = some none)
    (k : ∀ h' tk', (∀ b o, b ≠ dx → hp.get? b = some o → h'.get? b = some o) → h'.Ns1 dx (fun y => if y = f then some u else m0 y) → R (.ok (.ret .none)) ⟨h', g, d, tk', os⟩) :
    codeAny (model prog w) A (.call (.builtin "object.__setattr__") ⟨[.ref x, .str f tk, u], []⟩) R ⟨hp, g, d, t, os⟩ := by
  obtain ⟨oD, _, _, hoD, _, _⟩ := hn.count hw
  have I : PySem.W.InstAt hp x { cls := .ref C, dict := some dx, data := .fields fv } C (some oD) := ⟨hx, rfl, rfl, hoD⟩
  refine PySem.W.osa_openX PySem.F.store_ArithmeticError X I over (no_taker no) fun b => ?_
  have look : PySem.W.Looks (model prog w) hp (classData C) cd := PySem.W.looks_clsIn X hc
  obtain ⟨nm, bs, mro, ns, qn, hdd, sn, sb, ab, col, dl⟩ := cd
  dsimp only at hd
  subst hd
  dsimp only
  unfold Builtin.ObjectAttr.storeInOwnDict Builtin.ObjectAttr.ownDictForStores
  repeat (first
    | with_reducible refine look.at ?_
    | with_reducible refine wpAny_loadPart_at hx ?_
    | with_reducible refine PySem.OEX.store_in_old hn hw hz ?_
    | wp_step)
  intro h' tk' n1 sb'
  exact k h' tk' (fun b o nb e => (sb'.2 b nb).trans e) n1
end
/-- what the text has written of such a class -/
structure AeC (K : PySem.W.Frag) (C : Addr) : Prop where
  obj : ∃ nm q N bs bm sn sub ab col dd k0 k1 k2 k3 k5, K.lookup C = some (excClassObj nm q C N bs bm true sn sub ab col dd k0 k1 k2 k3 k5 "ArithmeticError.__new__") ∧ PySem.W.excTail aeT bm = true
  sa : PySem.W.findIn K (.ref C) "__setattr__" = some (some (.builtin "object.__setattr__"))
  ex : PySem.W.subIn K (.ref C) (.type "BaseException") = some true
  ty : PySem.W.typeIn K (.ref C) = some (.type "type")
  kp : PySem.W.keepIn K (.ref C) = true
theorem AeC.cd {K : PySem.W.Frag} {C : Addr} (T : AeC K C) : ∃ cd, PySem.W.clsIn K C = some cd ∧ cd.hasDict = true ∧ PySem.W.excOver K C aeT = true := by
  obtain ⟨nm, q, N, bs, bm, sn, sub, ab, col, dd, k0, k1, k2, k3, k5, hC, ht⟩ := T.obj
  have hc : PySem.W.clsIn K C = some { name := nm, bases := bs, mro := .ref C :: bm, ns := N, qualname := q, hasDict := true, slotNames := sn, subclasses := sub, abstract := ab, collection := col, hasDel := false } := by
    unfold PySem.W.clsIn
    rw [hC] <;> rfl
  refine ⟨_, hc, rfl, ?_⟩
  unfold PySem.W.excOver
  rw [hc]
  show (C == C && PySem.W.excTail aeT bm) = true
  rw [ht, beq_self_eq_true] <;> rfl
section
variable {X : Cx} {pins : List (Addr × Obj)} {σ : L2.St} {H : Hp} {s : Shared} {a C dx : Addr} {f : Str} {y : V} {u : Value} {fs : List (Str × V)} {Q : Unit → Shared → Prop} {E : Value → Shared → Prop} {A : Around}
theorem ast_first (T : AeC X.K C) (I : L2.Inv X pins σ H s) (e : H a = some (L2.exo a C none)) (no : PySem.W.findIn X.K (.ref C) f = some none) (ry : L2.RelV y u)
    (k : ∀ dx s', H dx = none → dx ≠ a → L2.Inv X pins σ (upd (upd H dx (L2.exd dx [(f, y)])) a (L2.exo a C (some dx))) s' → Q () s') : wpAny (model X.prog X.w) A (setAttr (.ref a) f u) Q E s := by
  obtain ⟨cd, hc, hd, over⟩ := T.cd
  obtain ⟨t1, ho⟩ := L2.exo_at I.hok e
  obtain ⟨hp, g, d, t, os⟩ := s
  refine PySem.W.set_plain I.kIn (ox := { cls := .ref C, dict := none, data := .fields #[.ref t1, .none, .none, .none, .bool false, .none] }) (od := none) ⟨ho, rfl, rfl, trivial⟩ T.sa ?_
  refine ae_first I.kIn ho hc hd over no fun h' tk' dx keep big ne hx n1 => ?_
  -- between the two there is a heap with the dict, and the exception still without it
  let G := h'.update a fun _ => { cls := .ref C, dict := none, data := .fields #[.ref t1, .none, .none, .none, .bool false, .none] }
  have ga : G.get? a = some { cls := .ref C, dict := none, data := .fields #[.ref t1, .none, .none, .none, .bool false, .none] } := Heap.get?_update_self _ hx rfl
  have gb : ∀ b, b ≠ a → G.get? b = h'.get? b := fun b nb => Heap.get?_update_ne _ _ _ _ nb
  have hdx : H dx = none := I.hok.fresh big
  have I1 := I.laid (t' := tk') (a := dx) (o := L2.exd dx [(f, y)]) (h' := G) (fun b o q => by
    by_cases c : b = a
    · subst c
      rw [ga]
      exact ho.symm.trans q
    · rw [gb b c]
      exact keep b o c q) big (L2.exd_ok (n1.at fun o q => (gb dx ne).trans q) (L2.relO_put (fs := []) ry fun _ => True.intro))
  have ea : (upd H dx (L2.exd dx [(f, y)])) a = some (L2.exo a C none) := by rw [upd_ne ne.symm, e]
  have I2 := I1.write (t' := tk') (x := a) (e := a) (o := L2.exo a C (some dx)) (h' := h') (by rw [ea]; exact True.intro) (.inl rfl) (fun b o nb q => (gb b nb).symm.trans q) ⟨_, hx⟩ (L2.exo_ok hx)
  exact k dx _ hdx ne I2
theorem ast_more (T : AeC X.K C) (I : L2.Inv X pins σ H s) (e : H a = some (L2.exo a C (some dx))) (ed : H dx = some (L2.exd dx fs)) (hl : fs.length ≤ 900) (no : PySem.W.findIn X.K (.ref C) f = some none) (ry : L2.RelV y u)
    (k : ∀ s', L2.Inv X pins σ (upd H dx (L2.exd dx ((f, y) :: fs))) s' → Q () s') : wpAny (model X.prog X.w) A (setAttr (.ref a) f u) Q E s := by
  obtain ⟨cd, hc, hd, over⟩ := T.cd
  obtain ⟨t1, ho⟩ := L2.exo_at I.hok e
  obtain ⟨mA, n1, rel⟩ := L2.exd_at I.hok ed
  have hw := L2.within_of rel
  obtain ⟨hp, g, d, t, os⟩ := s
  obtain ⟨oD, _, _, hoD, _, _⟩ := n1.count hw
  refine PySem.W.set_plain I.kIn (ox := { cls := .ref C, dict := some dx, data := .fields #[.ref t1, .none, .none, .none, .bool false, .none] }) (od := some oD) ⟨ho, rfl, rfl, hoD⟩ T.sa ?_
  refine ae_more I.kIn ho n1 hw (by rw [List.length_map]; omega) hc hd over no fun h' tk' keep n2 => ?_
  have there : ∃ o, h'.get? dx = some o := by
    obtain ⟨o, _, _, q, _⟩ := n2
    exact ⟨o, q⟩
  exact k _ (I.write (t' := tk') (x := dx) (e := dx) (o := L2.exd dx ((f, y) :: fs)) (by rw [ed]; exact True.intro) (.inl rfl) keep there (L2.exd_ok n2 (L2.relO_put ry rel)))
end
/-- o.f = e, o such an exception that is being made -/
def sAe (K : PySem.W.Frag) (f : Str) (to te : TE) : TS := fun D σ H => te σ H fun y H1 => to σ H1 fun x H2 => ∃ a C : Addr, x = .ref a ∧ AeC K C ∧ PySem.W.findIn K (.ref C) f = some none ∧
  ((H2 a = some (L2.exo a C none) ∧ ∀ dx, H2 dx = none → dx ≠ a → D.nx σ (upd (upd H2 dx (L2.exd dx [(f, y)])) a (L2.exo a C (some dx)))) ∨
    ∃ (dx : Addr) (fs : List (Str × V)), H2 a = some (L2.exo a C (some dx)) ∧ H2 dx = some (L2.exd dx fs) ∧ fs.length ≤ 900 ∧ D.nx σ (upd H2 dx (L2.exd dx ((f, y) :: fs))))
theorem ps_ae {X : Cx} {o e : Expr} {to te : TE} {f : Str} {p' pos : Pos} (ho : PE X o to) (he : PE X e te) (hs : swapsWith e (some (.Attribute o f p')) pos.line X.env = pure false := by rfl) : PS X (.Assign [.Attribute o f p'] e pos) (sAe X.K f to te) := by
  refine ⟨fun pins s σ H D I h => plainObj_wpAny_Assign_Attribute (L2.thn (he.run pins s σ H _ I h) fun v s1 ⟨y, H1, I1, r1, q1⟩ => L2.thn (ho.run pins s1 σ H1 _ I1 q1) fun z s2 ⟨x, H2, I2, r2, a, C, ex, T, no, q⟩ => ?_) hs⟩
  subst ex
  obtain rfl : z = Value.ref a := r2
  rcases q with ⟨ea, q⟩ | ⟨dx, fs, ea, ed, hl, q⟩
  · exact ast_first T I2 ea no r1 fun dx s' n ne J => ⟨σ, _, J, q dx n ne⟩
  · exact ast_more T I2 ea ed hl no r1 fun s' J => ⟨σ, _, J, q⟩
/-- C(e, ..): C's own __init__ keeps sp -/
theorem pmk_ae {X : Cx} {CX : CXT} {x : Str} {C f : Addr} {k : Nat} {fd : FuncData} {ps : List Str} {sp : Sp} {ds : List Value} {dvs : List V} {e : Expr} {es : List Expr} {ta : TA} {p pos : Pos} (T : AeC X.K C) (hi : PySem.W.findIn X.K (.ref C) "__init__" = some (some (.ref f))) (ht : PySem.W.typeIn X.K (.ref f) = some (.type "function"))
    (F : FnOk X.prog X.w X.K X.mg X.base CX k f fd ps sp) (hr : Room (k + 1) X.A) (hb : Binds X.K fd ps ds) (hd : L2.Vals dvs ds) (hx : Passes CX X fun _ _ _ => False) (hg : Gl X x) (hm : X.mg x = some (.ref C)) (ha : PA X (e :: es) ta)
    (hdb : (x == ("__debug__" : Str)) = false := by decide) (he : starEach (e :: es) X.env = (false, eval e X.env) :: starEach es X.env := by rfl) (hpl : (backTo pos (starEach es X.env)).any (·.1) = false := by rfl) :
    L2.PMk X (.Call (.Name x p) (e :: es) [] pos) (L2.tMkO C sp dvs ta) := by
  rintro pins s σ H Q I h
  obtain ⟨nm, q, N, bs, bm, sn, sub, ab, col, dd, k0, k1, k2, k3, k5, hC, hbm⟩ := T.obj
  refine wpAny_Call_Name_kw (L2.ld_glob I hg hm ?_ hdb)
  refine PySem.W.callWith_K (h₀ := X.base) I.ok.mod.kin T.kp (L2.thn (ha.run pos pins s σ H _ I h) fun us s1 ⟨vs, H1, I1, r1, hz, q1⟩ => ⟨I1.kIn, ?_⟩) he hpl
  obtain ⟨hp, g, dr, tk, os⟩ := s1
  have up : hp.objs.size ≤ hp.objs.size + 1 := Nat.le_succ _
  have fresh : H1 (hp.objs.size + 1) = none := I1.hok.fresh up
  have prom := q1 _ fresh
  have keep : ∀ b o, hp.get? b = some o → ((hp.push (PySem.W.kdv_tup us)).push (PySem.HandSPX.excO C hp.objs.size)).get? b = some o := fun b o z => Heap.get?_push_of_some _ (Heap.get?_push_of_some _ z)
  have at_ : ((hp.push (PySem.W.kdv_tup us)).push (PySem.HandSPX.excO C hp.objs.size)).get? (hp.objs.size + 1) = some (PySem.HandSPX.excO C hp.objs.size) := by heap_get
  have I2 := I1.laid (t' := tk) (a := hp.objs.size + 1) (o := L2.exo (hp.objs.size + 1) C none) keep up (L2.exo_ok at_)
  have rel : L2.Vals (V.ref (hp.objs.size + 1) :: (vs ++ dvs)) (Value.ref (hp.objs.size + 1) :: (us ++ ds)) := .cons rfl (r1.append hd)
  have len := rel.length
  rw [F.len _ _ _ _ prom] at len
  have small : us.length ≤ sizeLine := by
    rw [← r1.length, sizeLine_eq]
    omega
  have body := F.run _ X.stack _ _ ⟨Value.ref (hp.objs.size + 1) :: us, []⟩ (Value.ref (hp.objs.size + 1) :: (us ++ ds)) _ _ (fun _ _ _ => False) (hr.make C us []) (I2.env0.make C us []) (hb _ (Value.ref (hp.objs.size + 1) :: us) I2.kIn len.symm) rel prom
  refine wpAny_call (PySem.HandSPX.call_own PySem.F.excBase_ArithmeticError (fun Y => PySem.W.excTail_contains Y bm hbm) (I1.kIn _ _ hC) (PySem.W.looks_findIn I1.kIn hi) (fun self => PySem.W.bind_fn I1.kIn self ht) small (codeAny_mono body ?_))
  rintro (er | fl) s' hq
  · exact hx pins σ _ _ er s' I2 hq
  · cases fl with
    | ret u =>
      obtain ⟨v, H2, os2, bare2, un2, hok2, rv, ev, d, fs, ea, ed, hd1, q2⟩ := hq
      subst ev
      obtain ⟨h2, g2, d2, t2, os'⟩ := s'
      exact ⟨rv, L2.mk_end (L2.raises_own T.ex T.ty) I1 up keep un2 hok2 os2 bare2 ea ed hd1 q2⟩
    | next => exact False.elim hq
    | brk => exact False.elim hq
    | cont => exact False.elim hq
/-- what is needed for isinstance(e, ..), e such an exception -/
structure IsC (K : PySem.W.Frag) (D : Addr) : Prop where
  hg : PySem.W.findIn K (.ref D) "__getattribute__" = some (some (.builtin "BaseException.__getattribute__"))
  hk : PySem.W.findIn K (.ref D) "__getattr__" = some none
  hs : PySem.W.subIn K (.ref D) (.type "BaseException") = some true
  hd : PySem.W.hasDictIn K D = true
  ha : PySem.W.findIn K (.ref D) "__class__" = some (some (.builtin "object.__class__"))
  hn : PySem.W.specialIn K (.builtin "object.__class__") "__get__" = some (some (.builtin "getset_descriptor.__get__"))
  ht : PySem.W.takesIn K (.builtin "object.__class__") = some true
  hm : PySem.W.mroIn K D (.type "object") = some true
def rIsX (K : PySem.W.Frag) (D a d : Addr) : List V → Hp → VK → Prop := fun xs H Q => ∃ (c : V) (cv : Value) (b : Bool) (fs : List (Str × V)), xs = [.ref a, c] ∧ H d = some (.xd fs) ∧ (∀ u, L2.RelV c u → u = cv) ∧ PySem.W.kitOne K (.ref D) cv = some b ∧ Q (.bl b) H
/-- isinstance(e, c), e the caught exception with its fields in a dict at d -/
theorem call_isX {X : Cx} {a D d : Addr} {oe : Obj} {pn : List (Addr × Obj)} (T : IsC X.K D) (hz : L2.Zc (.ref D) (some d) oe) (hf : ∃ vs, oe.data = .fields vs) : CallR (X.suite a ((a, oe) :: pn)) (.builtin "isinstance") (rIsX X.K D a d) := by
  rintro pins s σ H xs us Q I r ⟨c, cv, b, fs, rfl, hdd, hcv, e, q⟩
  match us, r with
  | [_, _], .cons rx (.cons rt .nil) =>
    cases rx
    have ec := hcv _ rt
    subst ec
    obtain ⟨hget, _⟩ := I.pin (a, oe) (List.mem_append.mpr (.inl List.mem_cons_self))
    obtain ⟨vs, hv⟩ := hf
    have hx : ObjOk X.prog X.w H s.heap d (.xd fs) := I.hok d _ hdd
    obtain ⟨mA, hns, _⟩ := hx
    obtain ⟨od, ho, _⟩ := lookIn_ns hns
    have J : PySem.W.InstAt s.heap a oe D (some od) := by
      refine ⟨hget, hz.1, by unfold PySem.W.notCls; rw [hv] <;> rfl, ?_⟩
      rw [hz.2]
      exact ho
    have hcl : (PySem.W.clsIn X.K D).isSome = true := by
      obtain ⟨cd, hc, _⟩ := PySem.W.any_some T.hd
      rw [hc] <;> rfl
    exact PySem.W.kia_one (PySem.W.kitx_exc hcl T.hg T.hk T.hs T.ha T.hn T.ht T.hm) I.kIn J e (fun z => nomatch z) fun tk => ⟨.bl b, H, I.kept (t' := tk) fun _ _ z => z, rfl, q⟩
/-- the same where the suite is told of any error -/
def rIsY (K : PySem.W.Frag) (D a : Addr) (cls : Value) (d : Option Addr) : List V → Hp → VK → Prop := fun xs H Q => cls = .ref D ∧ ∃ dd, d = some dd ∧ rIsX K D a dd xs H Q
theorem call_isY {X : Cx} {a D : Addr} {cls : Value} {d : Option Addr} {oe : Obj} {pn : List (Addr × Obj)} (T : IsC X.K D) (hz : L2.Zc cls d oe) (hf : ∃ vs, oe.data = .fields vs) : CallR (X.suite a ((a, oe) :: pn)) (.builtin "isinstance") (rIsY X.K D a cls d) := by
  rintro pins s σ H xs us Q I r ⟨rfl, dd, rfl, h⟩
  exact call_isX T hz hf pins s σ H xs us Q I r h
/-- isinstance(e, (C1, ..)), the tuple new or not -/
def rIsT (K : PySem.W.Frag) (D a : Addr) (cls : Value) (d : Option Addr) : List V → Hp → VK → Prop := fun xs H Q => cls = .ref D ∧ ∃ (dd t : Addr) (cs : List Addr) (fs : List (Str × V)), d = some dd ∧ H dd = some (.xd fs) ∧ xs = [.ref a, .ref t] ∧ H t = some (.tup (cs.map V.ref)) ∧ PySem.W.kitAny K (.ref D) (cs.map Value.ref) = some false ∧ Q (.bl false) H
theorem refs_vals : ∀ {cs : List Addr} {us : List Value}, L2.Vals (cs.map V.ref) us → us = cs.map Value.ref
  | [], _, r => by cases r; rfl
  | c :: cs, _, r => by
    cases r with
    | cons h t =>
      have e : _ = Value.ref c := h
      rw [e, refs_vals t]
      rfl
theorem call_isT {X : Cx} {a D : Addr} {cls : Value} {d : Option Addr} {oe : Obj} {pn : List (Addr × Obj)} (T : IsC X.K D) (hz : L2.Zc cls d oe) (hf : ∃ vs, oe.data = .fields vs) : CallR (X.suite a ((a, oe) :: pn)) (.builtin "isinstance") (rIsT X.K D a cls d) := by
  rintro pins s σ H xs us Q I r ⟨rfl, dd, t, cs, fs, rfl, hdd, rfl, ht, e, q⟩
  match us, r with
  | [_, _], .cons rx (.cons rt .nil) =>
    cases rx
    cases rt
    obtain ⟨hget, _⟩ := I.pin (a, oe) (List.mem_append.mpr (.inl List.mem_cons_self))
    obtain ⟨vs, hv⟩ := hf
    have hx : ObjOk X.prog X.w H s.heap dd (.xd fs) := I.hok dd _ hdd
    obtain ⟨mA, hns, _⟩ := hx
    obtain ⟨od, ho, _⟩ := lookIn_ns hns
    have J : PySem.W.InstAt s.heap a oe D (some od) := by
      refine ⟨hget, hz.1, by unfold PySem.W.notCls; rw [hv] <;> rfl, ?_⟩
      rw [hz.2]
      exact ho
    have hcl : (PySem.W.clsIn X.K D).isSome = true := by
      obtain ⟨cd, hc, _⟩ := PySem.W.any_some T.hd
      rw [hc] <;> rfl
    obtain ⟨its, rv, htp, _⟩ := I.tuple (SqT.of ht)
    have ei := refs_vals rv
    subst ei
    obtain ⟨⟨tc, tdd, tda, tsl⟩, hto, htc, n, htd⟩ := htp
    dsimp only at htc htd
    subst htc htd
    exact PySem.W.kia_tup (PySem.W.kitx_exc hcl T.hg T.hk T.hs T.ha T.hn T.ht T.hm) I.kIn J hto e (fun z => nomatch z) fun tk => ⟨.bl false, H, I.kept (t' := tk) fun _ _ z => z, rfl, q⟩
/-! ### defs in which lambdas are made: what the text says of them -/
/-- a def of the text whose code object stands at c -/
structure FunT (K : PySem.W.Frag) (x q : Str) (st : Stmt) (f c : Addr) (fd : FuncData) : Prop where
  ex : ∃ (oc : Value) (od : Option Addr) (kV doc pm : Value) (an : Option Addr) (ct : Value) (osl : Array (Option Value)), fd = PySem.W.fnOf x q (defArgs st) (defBody st) (defScope st) .none kV doc pm an (.ref c) ct ∧ K.lookup f = some ⟨oc, od, .func fd, osl⟩ ∧ PySem.W.codeIn K (.ref c) q = true
  kp : PySem.W.keepIn K (.ref f) = true
theorem FunT.ok {P : Program} {w : World} {K : PySem.W.Frag} {mg : Str → Option Value} {base : Heap} {x q : Str} {st : Stmt} {f c : Addr} {fd : FuncData} {N ps : List Str} {k : Nat} {sp : Sp} (F : FunT K x q st f c fd) (S : FnScope N ps (defScope st)) (len : ∀ vs H Q E, sp vs H Q E → vs.length = ps.length)
    (hbody : ∀ (A : Around) (outer : List Env) (s : Shared) (H : Hp) (vs : List V) (Q : VK) (E : XK), Room k (A.deeper (PyProof.Rows.envOfC q (defScope st) s.heap.objs.size f (.ref c))) → sp vs H Q E →
      ∃ t, PSs (cxOf CX0 P w K mg base N q (defScope st) f (.ref c) A outer s H E).nox (defBody st) t ∧ t { nx := fun _ H' => Q .non H', rt := Q } (start N vs) H) : FnOk P w K mg base CX0 (k + 1) f fd ps sp := by
  obtain ⟨oc, od, kV, doc, pm, an, ct, osl, rfl, lk, hcd⟩ := F.ex
  refine fn_of lk hcd S len fun A outer s H vs Q E hr hsp => ?_
  obtain ⟨t, h, z⟩ := hbody A outer s H vs Q E hr hsp
  exact ⟨t, h.nox, z⟩
structure DfnT (K : PySem.W.Frag) (mg : Str → Option Value) (x : Str) (st : Stmt) (f c : Addr) (ps : List Str) : Prop where
  ex : ∃ fd, FunT K x x st f c fd ∧ Binds K fd ps []
  g : mg x = some (.ref f)
/-! ### the text by places -/
def top (i : Nat) : Stmt := PySem.Challenge.pw_breakerrow_k41_invalid_orders_and_waits.main.body.getD i (.Pass ⟨0, 0, 0, 0⟩)
abbrev st_InvalidRow_init : Stmt := inClass (top 2) 0
abbrev st_InvalidIndex_init : Stmt := inClass (top 3) 0
abbrev st_InvalidBound_init : Stmt := inClass (top 4) 0
abbrev st_LimitExceeded_init : Stmt := inClass (top 5) 0
abbrev st_is_integer : Stmt := top 7
abbrev st_is_at_least : Stmt := top 8
abbrev st_is_within : Stmt := top 9
abbrev st_steps_to : Stmt := top 10
abbrev st_rounded_up : Stmt := top 11
abbrev st_Row_init : Stmt := inClass (top 16) 0
abbrev st_Row_breaker_list : Stmt := inClass (top 16) 1
abbrev st_Row_step_length : Stmt := inClass (top 16) 2
abbrev st_Row_phase_time : Stmt := inClass (top 16) 3
abbrev st_Row_len : Stmt := inClass (top 16) 4
abbrev st_Row_getitem : Stmt := inClass (top 16) 5
abbrev st_Row_iter : Stmt := inClass (top 16) 6
abbrev st_Row_contains : Stmt := inClass (top 16) 7
abbrev st_Row_add : Stmt := inClass (top 16) 8
abbrev st_Row_eq : Stmt := inClass (top 16) 9
abbrev st_is_breaker : Stmt := top 17
abbrev st_check_breakers : Stmt := top 18
abbrev st_check_step : Stmt := top 19
abbrev st_periods : Stmt := top 20
abbrev st_row_period : Stmt := top 21
abbrev st_check_index : Stmt := top 25
abbrev st_row_of : Stmt := top 26
abbrev st_is_order : Stmt := top 27
abbrev st_reordered : Stmt := top 28
abbrev st_all_orders : Stmt := top 29
abbrev st_best_order : Stmt := top 30
abbrev st_worst_order : Stmt := top 31
abbrev st_without : Stmt := top 32
abbrev st_with_wait : Stmt := top 33
abbrev st_period_behind : Stmt := top 34
abbrev st_harmful_lowerings : Stmt := top 35
abbrev st_best_raise : Stmt := top 36
abbrev st__law_source_of : Stmt := top 38
abbrev st__law_next : Stmt := top 39
abbrev st__law_one : Stmt := top 40
abbrev st__law_cell_at : Stmt := top 41
abbrev st__law_raised : Stmt := top 42
abbrev st__law_limits_right : Stmt := top 43
abbrev st__law_due_ranges : Stmt := top 44
abbrev st__law_later_right : Stmt := top 45
abbrev st_law : Stmt := top 46
/-- a def of the top -/
structure Dfn (K : PySem.W.Frag) (mg : Str → Option Value) (x : Str) (st : Stmt) (f : Addr) (ps : List Str) : Prop where
  ex : ∃ fd, Fun K x x st f fd ∧ Binds K fd ps []
  g : mg x = some (.ref f)
structure Mth (K : PySem.W.Frag) (C : Addr) (m q : Str) (st : Stmt) (f : Addr) (ps : List Str) : Prop where
  ex : ∃ fd, Fun K m q st f fd ∧ Binds K fd ps []
  at_ : PySem.W.findIn K (.ref C) m = some (some (.ref f))
  fn : PySem.W.isFn K (.ref f) = true
  fk : PySem.W.fnIn K f = true
/-- a def that is called by its name, with its promise -/
structure Cal (P : Program) (w : World) (K : PySem.W.Frag) (mg : Str → Option Value) (base : Heap) (x : Str) (k : Nat) (f : Addr) (ps : List Str) (sp : Sp) : Prop where
  ex : ∃ fd, FnOk P w K mg base CX0 k f fd ps sp ∧ Binds K fd ps []
  g : mg x = some (.ref f)
  kp : PySem.W.keepIn K (.ref f) = true
theorem Dfn.cal {P : Program} {w : World} {K : PySem.W.Frag} {mg : Str → Option Value} {base : Heap} {x : Str} {st : Stmt} {f : Addr} {ps : List Str} {k : Nat} {sp : Sp} (D : Dfn K mg x st f ps) (h : ∀ fd, Fun K x x st f fd → FnOk P w K mg base CX0 k f fd ps sp) : Cal P w K mg base x k f ps sp := by
  obtain ⟨fd, F, b⟩ := D.ex
  exact ⟨⟨fd, h fd F, b⟩, D.g, F.kp⟩
theorem pe_c {X : Cx} {x : Str} {k : Nat} {f : Addr} {ps : List Str} {sp : Sp} {t : TA} {e : Expr} {es : List Expr} {p pos : Pos} (c : Cal X.prog X.w X.K X.mg X.base x k f ps sp) (hr : Room k X.A) (hg : Gl X x)
    (ha : PA X (e :: es) t) (hdb : (x == ("__debug__" : Str)) = false := by decide) (he : starEach (e :: es) X.env = (false, eval e X.env) :: starEach es X.env := by rfl) (hpl : (backTo pos (starEach es X.env)).any (·.1) = false := by rfl) :
    PE X (.Call (.Name x p) (e :: es) [] pos) (tCall sp [] E0 t) := by
  obtain ⟨fd, F, b⟩ := c.ex
  exact pe_call F hr hg c.g c.kp b .nil pass0 ha hdb he hpl
/-- a method with its promise -/
structure Met (P : Program) (w : World) (K : PySem.W.Frag) (mg : Str → Option Value) (base : Heap) (C : Addr) (m : Str) (k : Nat) (f : Addr) (ps : List Str) (sp : Sp) : Prop where
  ex : ∃ fd, FnOk P w K mg base CX0 k f fd ps sp ∧ Binds K fd ps []
  me : Meth K C m f
  fk : PySem.W.fnIn K f = true
theorem Mth.met {P : Program} {w : World} {K : PySem.W.Frag} {mg : Str → Option Value} {base : Heap} {C : Addr} {m q : Str} {st : Stmt} {f : Addr} {ps : List Str} {k : Nat} {sp : Sp} (D : Mth K C m q st f ps) (h : ∀ fd, Fun K m q st f fd → FnOk P w K mg base CX0 k f fd ps sp) : Met P w K mg base C m k f ps sp := by
  obtain ⟨fd, F, b⟩ := D.ex
  exact ⟨⟨fd, h fd F, b⟩, ⟨D.at_, D.fn, F.kp⟩, D.fk⟩

/-! ### values of plain kinds -/
inductive Kd (H : Hp) : V → String → Prop where
  | non : Kd H .non "NoneType"
  | bl (b : Bool) : Kd H (.bl b) "bool"
  | int (i : Int) : Kd H (.int i) "int"
  | str (x : Str) : Kd H (.str x) "str"
  | lst {a : Addr} {xs : List V} (e : H a = some (.lst xs)) : Kd H (.ref a) "list"
  | tup {a : Addr} {xs : List V} (e : H a = some (.tup xs)) : Kd H (.ref a) "tuple"
  | dK {a : Addr} {xs : List (Key × V)} (e : H a = some (.dK xs)) : Kd H (.ref a) "dict"
theorem Kd.ty {K : PySem.W.Frag} {H : Hp} {v : V} {n : String} (h : Kd H v n) : TyX K H v (.type n) := by
  cases h with
  | non => exact .base .non
  | bl b => exact .base (.bl b)
  | int i => exact .base (.int i)
  | str x => exact .base (.str x)
  | lst e => exact .base (.lst e)
  | tup e => exact .base (.tup e)
  | dK e => exact .base (.dK e)
def isI : V → Bool
  | .int _ => true
  | _ => false
def toI : V → Int
  | .int i => i
  | _ => 0
theorem Kd.kit {K : PySem.W.Frag} {H : Hp} {v : V} {n : String} (h : Kd H v n) (c : String) (b : Bool) (hc : c = "int" ∧ b = (n == "int" || n == "bool") ∨ c ≠ "int" ∧ c ∈ ["bool", "list", "tuple"] ∧ b = (n == c)) : PySem.W.kitOne K (.type n) (.type c) = some b := by
  rcases hc with ⟨rfl, rfl⟩ | ⟨_, hc, rfl⟩
  · cases h <;> exact kit_ty (by decide +kernel)
  · simp only [List.mem_cons, List.mem_nil_iff, or_false] at hc
    rcases hc with rfl | rfl | rfl <;> cases h <;> exact kit_ty (by decide +kernel)
theorem Kd.same {H H' : Hp} {v : V} {n : String} (h : Kd H v n) (s : ∀ b o, v = .ref b → H b = some o → H' b = some o) : Kd H' v n := by
  cases h with
  | non => exact .non
  | bl b => exact .bl b
  | int i => exact .int i
  | str x => exact .str x
  | lst e => exact .lst (s _ _ rfl e)
  | tup e => exact .tup (s _ _ rfl e)
  | dK e => exact .dK (s _ _ rfl e)
/-- all but what stands at a is kept -/
def Kp (a : Addr) (H H' : Hp) : Prop := ∀ b o, b ≠ a → H b = some o → H' b = some o
theorem Kp.refl {a : Addr} {H : Hp} : Kp a H H := fun _ _ _ h => h
theorem Kp.trans {a : Addr} {H H1 H2 : Hp} (h : Kp a H H1) (h' : Kp a H1 H2) : Kp a H H2 := fun b o n e => h' b o n (h b o n e)
theorem Kp.of {a : Addr} {H H' : Hp} (s : Same H H') : Kp a H H' := fun b o _ e => s b o e
theorem Kp.upd {a : Addr} {H : Hp} {o : HO} : Kp a H (upd H a o) := fun b _ n e => by rw [upd_ne n]; exact e
theorem Same.upd {H : Hp} {p : Addr} {o : HO} (h : H p = none) : Same H (L2.upd H p o) := fun b u e => by rw [upd_ne (ne_of_none e h)]; exact e
theorem Kp.free {a b : Addr} {H H' : Hp} {o : HO} (k : Kp a H H') (ha : H a = some o) (h : H' b = none) (n : b ≠ a) : H b = none := by
  cases q : H b with
  | none => rfl
  | some u => rw [k b u n q] at h; cases h

/-! ### the promises of the small defs -/
def spIsInt : Sp := fun vs H Q _ => ∃ v n, vs = [v] ∧ Kd H v n ∧ Q (.bl (isI v)) H
def spAtL : Sp := fun vs H Q _ => ∃ v n l, vs = [v, .int l] ∧ Kd H v n ∧ Q (.bl (isI v && decide (l ≤ toI v))) H
def spWithin : Sp := fun vs H Q _ => ∃ v n l m, vs = [v, .int l, .int m] ∧ Kd H v n ∧ Q (.bl (isI v && (decide (l ≤ toI v) && decide (toI v ≤ m)))) H
/-- how many steps -/
def stepsUp (d s : Int) : Int := if -(-d / s) > 0 then -(-d / s) else 0
def spSteps : Sp := fun vs H Q _ => ∃ d s, vs = [.int d, .int s] ∧ 0 < s ∧ s.natAbs.log2 < 9000 ∧ Q (.int (stepsUp d s)) H

/-- what is no list is kept -/
def NL (H H' : Hp) : Prop := ∀ b o, H b = some o → (∀ xs, o ≠ .lst xs) → H' b = some o
theorem NL.refl {H : Hp} : NL H H := fun _ _ h _ => h
theorem NL.trans {H H1 H2 : Hp} (a : NL H H1) (b : NL H1 H2) : NL H H2 := fun c o h n => b c o (a c o h n) n
theorem NL.of {H H' : Hp} (s : Same H H') : NL H H' := fun b o e _ => s b o e
theorem Kp.nl {a : Addr} {H H' : Hp} {xs : List V} (k : Kp a H H') (h : H a = some (.lst xs)) : NL H H' := fun b o e n => k b o (fun z => by subst z; rw [h] at e; exact n xs (Option.some.inj e).symm) e
theorem NL.upd {H : Hp} {p : Addr} {xs : List V} {o : HO} (h : H p = some (.lst xs)) : NL H (L2.upd H p o) := Kp.nl Kp.upd h
theorem pe_gI {X : Cx} {x : Str} {i : Int} {t : Tok} {pos : Pos} (hm : X.mg x = some (.int i t)) (hg : Gl X x := by rfl) (hd : (x == ("__debug__" : Str)) = false := by decide) : PE X (.Name x pos) (tC (.int i)) := pe_glob hg hm ⟨t, rfl⟩ hd
@[irreducible] def PB (n : Nat) : Int := 2 ^ n
theorem PB_succ (n : Nat) : PB (n + 1) = PB n + PB n := by
  unfold PB
  rw [Int.pow_succ]
  omega
theorem PB_pos (n : Nat) : 1 ≤ PB n := by
  unfold PB
  have : (0 : Int) < 2 ^ n := Int.pow_pos (by decide)
  omega
theorem PB_le {n m : Nat} (h : n ≤ m) : PB n ≤ PB m := by
  induction m with
  | zero => rw [Nat.le_zero.mp h]; exact Int.le_refl _
  | succ m ih =>
    by_cases e : n = m + 1
    · rw [e]; exact Int.le_refl _
    · have h1 := ih (by omega)
      have h2 := PB_succ m
      have h3 := PB_pos m
      omega
theorem PB_abs {i : Int} {n : Nat} (h0 : 0 ≤ i) (h : i ≤ PB n) : i.natAbs < 2 ^ (n + 1) := by
  unfold PB at h
  have e : (2 : Nat) ^ (n + 1) = 2 ^ n * 2 := Nat.pow_succ 2 n
  have e2 : ((2 ^ n : Nat) : Int) = 2 ^ n := by rw [Int.natCast_pow]; rfl
  rw [← e2] at h
  have : 0 < 2 ^ n := Nat.pow_pos (by decide)
  rw [e]
  generalize 2 ^ n = w at *
  omega
theorem PB_of {i : Int} {n : Nat} (h : i.natAbs < 2 ^ n) : i ≤ PB n := by
  unfold PB
  have e2 : ((2 ^ n : Nat) : Int) = 2 ^ n := by rw [Int.natCast_pow]; rfl
  rw [← e2]
  generalize 2 ^ n = w at *
  omega
def BB : Int := PB 5000
theorem BB0 : 0 ≤ BB := by
  have := PB_pos 5000
  unfold BB
  omega
theorem bb_lt {i : Int} (h0 : 0 ≤ i) (h : i ≤ BB + BB) : i.natAbs < 2 ^ 5002 := PB_abs h0 (by rw [PB_succ]; exact h)
theorem mulBB {i j : Int} (i0 : 0 ≤ i) (i1 : i ≤ BB + BB) (j0 : 0 ≤ j) (j1 : j ≤ BB + BB) : CMulW i j := wide_mul (bb_lt i0 i1) (bb_lt j0 j1) (by decide) (by decide) (by decide)
theorem BB1 : 1 ≤ BB := PB_pos 5000
theorem divBB {j : Int} (j0 : 1 ≤ j) (j1 : j ≤ BB) : j.natAbs.log2 < 9000 := (wide_div (i := 0) (by omega : 0 < j) (bb_lt (by omega) (by have := BB0; omega)) (by decide) (by decide)).2
theorem small2 {n : Nat} (h : n ≤ 100000) : n ≤ sizeLine := Nat.le_trans h (by decide)
theorem small1 {n : Nat} (h : n ≤ 100000) : n < sizeLine := Nat.lt_of_le_of_lt h (by decide)
theorem tYes_of {σ : L2.St} {H : Hp} {A B : Hp → Prop} (h : A H) : tYes σ H (fun b H3 => if b = true then A H3 else B H3) := by
  show if true = true then A H else B H
  rw [if_pos rfl]
  exact h
theorem cut_init (xs : List V) : cutV xs none (some (-1)) = xs.take (xs.length - 1) := by
  show (xs.drop 0).take ((if (-1 : Int) < 0 then ((-1 : Int) + (xs.length : Int)).toNat else min (-1 : Int).toNat xs.length) - 0) = _
  rw [if_pos (by decide), List.drop_zero]
  congr 1
  omega
theorem cut_last (xs : List V) : cutV xs (some (-1)) none = xs.drop (xs.length - 1) := by
  show (xs.drop (if (-1 : Int) < 0 then ((-1 : Int) + (xs.length : Int)).toNat else min (-1 : Int).toNat xs.length)).take (xs.length - (if (-1 : Int) < 0 then ((-1 : Int) + (xs.length : Int)).toNat else min (-1 : Int).toNat xs.length)) = _
  rw [if_pos (by decide)]
  have e : ((-1 : Int) + (xs.length : Int)).toNat = xs.length - 1 := by omega
  rw [e]
  refine List.take_of_length_le ?_
  rw [List.length_drop]
  exact Nat.le_refl _
theorem none_of {H H' : Hp} {l : Addr} (s : Same H H') (h : H' l = none) : H l = none := by
  cases q : H l with
  | none => rfl
  | some o => rw [s _ _ q] at h; cases h
theorem for_enum {K : PySem.W.Frag} {a : Addr} {xs : List V} {g : TG} {tb : TS} {D : Ends} {σ : L2.St} {H : Hp} (Pv : Nat → L2.St → Hp → Prop) (h0 : Pv 0 σ H) (hl : ∀ i σ H, i ≤ xs.length → Pv i σ H → SqL K H a xs)
    (hs : ∀ i x T σ H, xs[i]? = some x → Pv i σ H → H T = none → g (.ref T) σ (upd H T (.tup [.int (i : Nat), x])) fun σ2 H2 => tb { D with nx := Pv (i + 1), ct := Pv (i + 1), bk := D.nx } σ2 H2) (hd : ∀ σ H, Pv xs.length σ H → D.nx σ H) :
    ∃ W : Nat → Nat → L2.St → Hp → Prop, (∃ m, W 0 m σ H) ∧ ∀ i m σ H, W i m σ H →
      ((Ite K a).stop i H ∧ D.nx σ H) ∨ ((Ite K a).go i H ∧ ∃ N : L2.St → Hp → Prop, (∀ σ' H', N σ' H' → ∃ m', m' < m ∧ W (i + 1) m' σ' H') ∧ ∀ x H', (Ite K a).yld i H x H' → g x σ H' fun σ2 H2 => tb { D with nx := N, ct := N, bk := D.nx } σ2 H2) := by
  refine ⟨fun i m σ H => m = xs.length - i ∧ i ≤ xs.length ∧ Pv i σ H, ⟨xs.length, by simp, Nat.zero_le _, h0⟩, ?_⟩
  rintro i m σ H ⟨rfl, hi, p⟩
  have q := hl i σ H hi p
  by_cases hlt : i < xs.length
  · refine .inr ⟨⟨xs, xs[i], q, by simp [hlt]⟩, Pv (i + 1), fun σ' H' p' => ⟨xs.length - (i + 1), by omega, rfl, hlt, p'⟩, fun x H' y => ?_⟩
    obtain ⟨T, x', rfl, hT, rfl, hx⟩ := y
    exact hs i x' T σ H (hx xs q) p hT
  · have e : i = xs.length := by omega
    subst e
    exact .inl ⟨⟨xs, q, Nat.le_refl _⟩, hd σ H p⟩
theorem pe_callN0 {X : Cx} {CX : CXT} {k : Nat} {f : Addr} {fd : FuncData} {ps ks : List Str} {sp : Sp} {E : XK} {x : Str} {p pos : Pos} {kws : List Keyword} {tk : TA} {g : List Value → List Value → List Value} {gV : List V → List V → List V}
    (F : FnOk X.prog X.w X.K X.mg X.base CX k f fd ps sp) (hr : Room k X.A) (hg : Gl X x) (hm : X.mg x = some (.ref f)) (hk : PySem.W.keepIn X.K (.ref f) = true) (hb : KBn X.K fd ps 0 ks g gV) (hx : Passes CX X E) (hkw : PK X kws tk)
    (hall : (backToKw pos (keywordEach kws X.env)).all (·.1.isSome) = true := by rfl) (hks : (backToKw pos (keywordEach kws X.env)).filterMap (·.1) = ks := by rfl) (hdb : (x == ("__debug__" : Str)) = false := by decide)
    (hpl : ((backTo pos (starEach [] X.env)).any (·.1) || (backToKw pos (keywordEach kws X.env)).any (·.1.isNone)) = false := by rfl) :
    PE X (.Call (.Name x p) [] kws pos) (tCallN 0 ks.length sp gV E tNil tk) := by
  refine ⟨fun pins s σ H Q I h => ?_⟩
  refine wpAny_Call_Name_kw (ld_glob I hg hm ?_ hdb)
  refine PySem.W.callWith_KW0 (h₀ := X.base) I.ok.mod.kin hk hall ?_ hpl
  refine thn (hkw.run pos pins s σ H _ I h) fun ws s2 ⟨zs, H2, I2, rz, l1, l2, q2⟩ => ⟨I2.kIn, ?_⟩
  rw [hks]
  exact run_fnN F hr hb hx I2 .nil rz rfl l2 q2
section
variable {X : Cx} {C : Addr} {k : Nat} {f : Addr} {ps : List Str} {sp : Sp}
theorem Met.op_in (c : Met X.prog X.w X.K X.mg X.base C "__contains__" k f ps sp) (hr : Room k X.A) : OpR X (compareOp .In) (rOwnIn C sp E0 _root_.id) := by
  obtain ⟨fd, F, b⟩ := c.ex
  exact op_own_in F hr c.me.at_ c.me.fn b pass0
theorem Met.op_notin (c : Met X.prog X.w X.K X.mg X.base C "__contains__" k f ps sp) (hr : Room k X.A) : OpR X (compareOp .NotIn) (rOwnIn C sp E0 Bool.not) := by
  obtain ⟨fd, F, b⟩ := c.ex
  exact op_own_notin F hr c.me.at_ c.me.fn b pass0
theorem Met.c_len (c : Met X.prog X.w X.K X.mg X.base C "__len__" k f ps sp) (hr : Room (k + 1) X.A) : CallR X (.builtin "len") (rOwnLen C sp E0) := by
  obtain ⟨fd, F, b⟩ := c.ex
  exact call_own_len F hr c.me.at_ c.me.fn b pass0
theorem Met.op_add (c : Met X.prog X.w X.K X.mg X.base C "__add__" k f ps sp) (hr : Room k X.A) (hc : PySem.W.selfFirst X.K C = true) : OpR X (binaryOp .Add) (rOwnAdd C sp E0) := by
  obtain ⟨fd, F, b⟩ := c.ex
  exact op_own_add F hr hc c.me.at_ c.me.fn b pass0
theorem Met.op_eq (c : Met X.prog X.w X.K X.mg X.base C "__eq__" k f ps sp) (hr : Room k X.A) : OpR X (compareOp .Eq) (rOwnEq C sp E0 _root_.id) := by
  obtain ⟨fd, F, b⟩ := c.ex
  exact op_own_eq F hr c.me.at_ c.me.fn b pass0
theorem Met.op_ne (c : Met X.prog X.w X.K X.mg X.base C "__eq__" k f ps sp) (hr : Room (k + 1) X.A) (hm : PySem.W.mroIn X.K C (.type "object") = some true) (hne : PySem.W.findIn X.K (.ref C) "__ne__" = some (some (.builtin "object.__ne__"))) : OpR X (compareOp .NotEq) (rOwnEq C sp E0 Bool.not) := by
  obtain ⟨fd, F, b⟩ := c.ex
  exact op_own_ne F hr hm hne c.me.at_ c.me.fn b pass0
theorem Met.p_ix {a b : Expr} {ta tb : TE} {pos : Pos} (c : Met X.prog X.w X.K X.mg X.base C "__getitem__" k f ps sp) (hr : Room (k + 1) X.A) (ha : PE X a ta) (hb' : PE X b tb) (hsl : ∀ o i, subscripted b true o i = runValue (.builtin "lifetime.subscript" ⟨[o, i], []⟩) := by exact fun _ _ => rfl) :
    PE X (.Subscript a b pos) (tOp (rOwnIx C sp E0) ta tb) := by
  obtain ⟨fd, F, bb⟩ := c.ex
  exact pe_own_ix F hr c.me.at_ c.fk c.me.fn bb pass0 ha hb' hsl
end
theorem Met.p_m0 {X : Cx} {C : Addr} {k : Nat} {f : Addr} {ps : List Str} {sp : Sp} {m : Str} {o : Expr} {ta : TE} {apos pos : Pos} {pl : Sem Bool} (c : Met X.prog X.w X.K X.mg X.base C m k f ps sp) (cl : Cls X.K C) (hr : Room k X.A) (he : PE X o ta)
    (ht : eval (.Call (.Attribute o m apos) [] [] pos) X.env = (do
      let ov ← eval o X.env
      standAt apos.atName
      let (f, first) ← holding [ov] (getMethod ov m pl)
      callWith pos f first (backTo pos (starEach [] X.env)) (backToKw pos (keywordEach [] X.env))) := by rfl) :
    PE X (.Call (.Attribute o m apos) [] [] pos) (tMeth C m sp [] E0 ta tNil) := by
  obtain ⟨fd, F, b⟩ := c.ex
  exact pe_meth0 he cl c.me F hr b .nil pass0 ht
/-! ### a class of the text -/
structure CF (K : PySem.W.Frag) (C : Addr) : Prop where
  cl : Cls K C
  cls : PySem.W.isClsIn K C = true
  ty : PySem.W.typeIn K (.ref C) = some (.type "type")
  oc : PySem.W.findIn K (.ref C) "__class__" = some (some (.builtin "object.__class__"))
  og : PySem.W.specialIn K (.builtin "object.__class__") "__get__" = some (some (.builtin "getset_descriptor.__get__"))
  ot : PySem.W.takesIn K (.builtin "object.__class__") = some true
  om : PySem.W.mroIn K C (.type "object") = some true
  sf : PySem.W.selfFirst K C = true
  ne : PySem.W.findIn K (.ref C) "__ne__" = some (some (.builtin "object.__ne__"))
theorem CF.kitT {K : PySem.W.Frag} {C : Addr} (M : CF K C) {H : Hp} {v : V} {n : String} (h : Kd H v n) : PySem.W.kitOne K (.type n) (.ref C) = some false := by
  have e1 : ((PySem.W.clsIn K C).isSome && PySem.W.typeIn K (.ref C) == some (.type "type")) = true := by
    have h2 : (PySem.W.clsIn K C).isSome = true := M.cls
    rw [h2, M.ty] <;> rfl
  have e2 : PySem.W.subIn K (.type n) (.ref C) = some false := by
    cases h with
    | non => exact sub_ty (l := ["NoneType", "object"]) (by decide +kernel)
    | bl _ => exact sub_ty (l := ["bool", "int", "object"]) (by decide +kernel)
    | int _ => exact sub_ty (l := ["int", "object"]) (by decide +kernel)
    | str _ => exact sub_ty (l := ["str", "object"]) (by decide +kernel)
    | lst _ => exact sub_ty (l := ["list", "object"]) (by decide +kernel)
    | tup _ => exact sub_ty (l := ["tuple", "object"]) (by decide +kernel)
    | dK _ => exact sub_ty (l := ["dict", "object"]) (by decide +kernel)
  show (if (Value.type n == Value.ref C) = true then some true else PySem.W.kitCls K (.type n) (.ref C)) = some false
  rw [if_neg (by intro z; cases z)]
  show (if ((PySem.W.clsIn K C).isSome && PySem.W.typeIn K (.ref C) == some (.type "type")) = true then PySem.W.subIn K (.type n) (.ref C) else none) = some false
  rw [if_pos e1, e2]
theorem CF.tyR {K : PySem.W.Frag} {C : Addr} (M : CF K C) {H : Hp} {p dx : Addr} {fs : List (Str × V)} (h : H p = some (.ins C dx fs)) : TyX K H (.ref p) (.ref C) := .base (.ins h M.cl M.oc M.og M.ot M.om)
theorem vals_rev {vs : List V} {us : List Value} (r : Vals vs us) : Vals vs.reverse us.reverse := by
  induction r with
  | nil => exact .nil
  | cons h t ih =>
    rw [List.reverse_cons, List.reverse_cons]
    exact ih.append (.cons h .nil)
/-- f(c = .., b = .., a = ..) of a def f(a, b, c) -/
theorem pe_kr {X : Cx} {k : Nat} {f : Addr} {sp : Sp} {x : Str} {ps : List Str} {st : Stmt} {kws : List Keyword} {tk : TA} {p pos : Pos} (D : Dfn X.K X.mg x st f ps) (h : ∀ fd, Fun X.K x x st f fd → FnOk X.prog X.w X.K X.mg X.base CX0 k f fd ps sp)
    (hbind : ∀ (kV doc pm : Value) (an : Option Addr) (cdv ct : Value) (us : List Value), us.length = ps.reverse.length → bindArgs (PySem.W.fnOf x x (defArgs st) (defBody st) (defScope st) .none kV doc pm an cdv ct) ⟨[], ps.reverse.zip us⟩ = pure (ps.zip us.reverse))
    (hr : Room k X.A) (hg : Gl X x) (hkw : PK X kws tk) (hall : (backToKw pos (keywordEach kws X.env)).all (·.1.isSome) = true := by rfl) (hks : (backToKw pos (keywordEach kws X.env)).filterMap (·.1) = ps.reverse := by rfl) (hdb : (x == ("__debug__" : Str)) = false := by decide)
    (hpl : ((backTo pos (starEach [] X.env)).any (·.1) || (backToKw pos (keywordEach kws X.env)).any (·.1.isNone)) = false := by rfl) :
    PE X (.Call (.Name x p) [] kws pos) (tCallN 0 ps.reverse.length sp (fun us ws => us ++ ws.reverse) E0 tNil tk) := by
  obtain ⟨fd, F, _⟩ := D.ex
  have hb : KBn X.K fd ps 0 ps.reverse (fun us ws => us ++ ws.reverse) (fun us ws => us ++ ws.reverse) := by
    refine ⟨fun s us ws hX h1 h2 => ?_, fun r1 r2 => r1.append (vals_rev r2)⟩
    obtain ⟨oc, od, kV, doc, pm, an, cdv, ct, osl, rfl, lk, hcd⟩ := F.ex
    match us, h1 with
    | [], _ => exact .of_eq (hbind kV doc pm an cdv ct ws h2)
  exact pe_callN0 (h fd F) hr hg D.g F.kp hb pass0 hkw hall hks hdb hpl
/-- where the defs and classes of the text stand -/
structure LA where
  f_is_integer : Addr
  f_is_at_least : Addr
  f_is_within : Addr
  f_steps_to : Addr
  f_rounded_up : Addr
  f_is_breaker : Addr
  f_check_breakers : Addr
  f_check_step : Addr
  f_periods : Addr
  f_row_period : Addr
  f_check_index : Addr
  f_row_of : Addr
  f_is_order : Addr
  f_reordered : Addr
  f_all_orders : Addr
  f_best_order : Addr
  f_worst_order : Addr
  f_without : Addr
  f_with_wait : Addr
  f_period_behind : Addr
  f_harmful_lowerings : Addr
  f_best_raise : Addr
  f__law_source_of : Addr
  f__law_next : Addr
  f__law_one : Addr
  f__law_cell_at : Addr
  f__law_raised : Addr
  f__law_limits_right : Addr
  k__law_limits_right : Addr
  t__law_limits_right : Addr
  f__law_due_ranges : Addr
  f__law_later_right : Addr
  k__law_later_right : Addr
  t__law_later_right : Addr
  k_law : Addr
  t_law : Addr
  c_Row : Addr
  i_Row : Addr
  m_Row_breaker_list : Addr
  m_Row_step_length : Addr
  m_Row_phase_time : Addr
  m_Row_len : Addr
  m_Row_getitem : Addr
  m_Row_contains : Addr
  m_Row_add : Addr
  m_Row_eq : Addr
  e_BreakerError : Addr
  e_InvalidRow : Addr
  e_InvalidIndex : Addr
  e_InvalidBound : Addr
  e_LimitExceeded : Addr
  i_InvalidIndex : Addr
  i_InvalidBound : Addr
  i_LimitExceeded : Addr
/-- what the text says of them -/
structure LX (K : PySem.W.Frag) (mg : Str → Option Value) (L : LA) : Prop where
  b_ArithmeticError : mg "ArithmeticError" = none
  b_bool : mg "bool" = none
  b_enumerate : mg "enumerate" = none
  b_int : mg "int" = none
  b_isinstance : mg "isinstance" = none
  b_len : mg "len" = none
  b_list : mg "list" = none
  b_max : mg "max" = none
  b_min : mg "min" = none
  b_range : mg "range" = none
  b_repr : mg "repr" = none
  b_sorted : mg "sorted" = none
  b_tuple : mg "tuple" = none
  n_MOST_BREAKERS : ∃ t, mg "MOST_BREAKERS" = some (.int 12 t)
  n_MOST_COUNT : ∃ t, mg "MOST_COUNT" = some (.int 1000000000000 t)
  n_MOST_TIME : ∃ t, mg "MOST_TIME" = some (.int 1000000000000000000000000000000 t)
  n_MOST_ORDERED : ∃ t, mg "MOST_ORDERED" = some (.int 7 t)
  n_MOST_PERIODS : ∃ t, mg "MOST_PERIODS" = some (.int 2000 t)
  d_is_integer : Dfn K mg "is_integer" st_is_integer L.f_is_integer ["value"]
  d_is_at_least : Dfn K mg "is_at_least" st_is_at_least L.f_is_at_least ["value", "least"]
  d_is_within : Dfn K mg "is_within" st_is_within L.f_is_within ["value", "least", "most"]
  d_steps_to : Dfn K mg "steps_to" st_steps_to L.f_steps_to ["distance", "step"]
  d_rounded_up : Dfn K mg "rounded_up" st_rounded_up L.f_rounded_up ["value", "unit"]
  d_is_breaker : Dfn K mg "is_breaker" st_is_breaker L.f_is_breaker ["value"]
  d_check_breakers : Dfn K mg "check_breakers" st_check_breakers L.f_check_breakers ["breakers", "part"]
  d_check_step : Dfn K mg "check_step" st_check_step L.f_check_step ["step"]
  d_periods : Dfn K mg "periods" st_periods L.f_periods ["row"]
  d_row_period : Dfn K mg "row_period" st_row_period L.f_row_period ["row"]
  d_check_index : Dfn K mg "check_index" st_check_index L.f_check_index ["row", "index"]
  d_row_of : Dfn K mg "row_of" st_row_of L.f_row_of ["row", "breakers"]
  d_is_order : Dfn K mg "is_order" st_is_order L.f_is_order ["value", "length"]
  d_reordered : Dfn K mg "reordered" st_reordered L.f_reordered ["row", "order"]
  d_all_orders : Dfn K mg "all_orders" st_all_orders L.f_all_orders ["row"]
  d_best_order : Dfn K mg "best_order" st_best_order L.f_best_order ["row"]
  d_worst_order : Dfn K mg "worst_order" st_worst_order L.f_worst_order ["row"]
  d_without : Dfn K mg "without" st_without L.f_without ["row", "index"]
  d_with_wait : Dfn K mg "with_wait" st_with_wait L.f_with_wait ["row", "index", "wait"]
  d_period_behind : Dfn K mg "period_behind" st_period_behind L.f_period_behind ["period", "breakers"]
  d_harmful_lowerings : Dfn K mg "harmful_lowerings" st_harmful_lowerings L.f_harmful_lowerings ["row", "index"]
  d_best_raise : Dfn K mg "best_raise" st_best_raise L.f_best_raise ["row", "index", "most"]
  d__law_source_of : Dfn K mg "_law_source_of" st__law_source_of L.f__law_source_of ["_law_cell"]
  d__law_next : Dfn K mg "_law_next" st__law_next L.f__law_next ["_law_source", "_law_many"]
  d__law_one : Dfn K mg "_law_one" st__law_one L.f__law_one ["_law_source", "_law_options"]
  d__law_cell_at : Dfn K mg "_law_cell_at" st__law_cell_at L.f__law_cell_at ["_law_script", "_law_k"]
  d__law_raised : Dfn K mg "_law_raised" st__law_raised L.f__law_raised ["_law_call"]
  d__law_limits_right : DfnT K mg "_law_limits_right" st__law_limits_right L.f__law_limits_right L.k__law_limits_right ["_law_source"]
  d__law_due_ranges : Dfn K mg "_law_due_ranges" st__law_due_ranges L.f__law_due_ranges ["_law_unit", "_law_last", "_law_many"]
  d__law_later_right : DfnT K mg "_law_later_right" st__law_later_right L.f__law_later_right L.k__law_later_right ["_law_source"]
  nt__law_limits_right__law_later_right : L.t__law_limits_right ≠ L.t__law_later_right
  nt__law_limits_right_law : L.t__law_limits_right ≠ L.t_law
  nt__law_later_right_law : L.t__law_later_right ≠ L.t_law
  gc_Row : mg "Row" = some (.ref L.c_Row)
  cf_Row : CF K L.c_Row
  mk_Row : Mk K L.c_Row L.i_Row
  nf_Row_breakers : NoAttr K L.c_Row "breakers"
  nf_Row_step : NoAttr K L.c_Row "step"
  nf_Row_phase : NoAttr K L.c_Row "phase"
  in_Row : ∃ fd, FunD K "__init__" "Row.__init__" (defArgs st_Row_init) (defBody st_Row_init) (defScope st_Row_init) [] [("phase", .int 0)] L.i_Row fd
  mm_Row_breaker_list : Mth K L.c_Row "breaker_list" "Row.breaker_list" st_Row_breaker_list L.m_Row_breaker_list ["self"]
  mm_Row_step_length : Mth K L.c_Row "step_length" "Row.step_length" st_Row_step_length L.m_Row_step_length ["self"]
  mm_Row_phase_time : Mth K L.c_Row "phase_time" "Row.phase_time" st_Row_phase_time L.m_Row_phase_time ["self"]
  mm_Row_len : Mth K L.c_Row "__len__" "Row.__len__" st_Row_len L.m_Row_len ["self"]
  mm_Row_getitem : Mth K L.c_Row "__getitem__" "Row.__getitem__" st_Row_getitem L.m_Row_getitem ["self", "at"]
  mm_Row_contains : Mth K L.c_Row "__contains__" "Row.__contains__" st_Row_contains L.m_Row_contains ["self", "x"]
  mm_Row_add : Mth K L.c_Row "__add__" "Row.__add__" st_Row_add L.m_Row_add ["self", "other"]
  mm_Row_eq : Mth K L.c_Row "__eq__" "Row.__eq__" st_Row_eq L.m_Row_eq ["self", "other"]
  ge_BreakerError : mg "BreakerError" = some (.ref L.e_BreakerError)
  xe_BreakerError : L2.XfC K L.e_BreakerError
  te_BreakerError : PySem.W.typeIn K (.ref L.e_BreakerError) = some (.type "type")
  ge_InvalidRow : mg "InvalidRow" = some (.ref L.e_InvalidRow)
  xe_InvalidRow : L2.XfC K L.e_InvalidRow
  te_InvalidRow : PySem.W.typeIn K (.ref L.e_InvalidRow) = some (.type "type")
  ge_InvalidIndex : mg "InvalidIndex" = some (.ref L.e_InvalidIndex)
  xe_InvalidIndex : L2.XfC K L.e_InvalidIndex
  te_InvalidIndex : PySem.W.typeIn K (.ref L.e_InvalidIndex) = some (.type "type")
  ge_InvalidBound : mg "InvalidBound" = some (.ref L.e_InvalidBound)
  xe_InvalidBound : L2.XfC K L.e_InvalidBound
  te_InvalidBound : PySem.W.typeIn K (.ref L.e_InvalidBound) = some (.type "type")
  ge_LimitExceeded : mg "LimitExceeded" = some (.ref L.e_LimitExceeded)
  xe_LimitExceeded : L2.XfC K L.e_LimitExceeded
  te_LimitExceeded : PySem.W.typeIn K (.ref L.e_LimitExceeded) = some (.type "type")
  ae_InvalidIndex : AeC K L.e_InvalidIndex
  hi_InvalidIndex : PySem.W.findIn K (.ref L.e_InvalidIndex) "__init__" = some (some (.ref L.i_InvalidIndex))
  ti_InvalidIndex : PySem.W.typeIn K (.ref L.i_InvalidIndex) = some (.type "function")
  in_InvalidIndex : ∃ fd, Fun K "__init__" "InvalidIndex.__init__" st_InvalidIndex_init L.i_InvalidIndex fd ∧ Binds K fd ["self", "index"] []
  ne_InvalidIndex_part : PySem.W.findIn K (.ref L.e_InvalidIndex) "part" = some none
  ne_InvalidIndex_at : PySem.W.findIn K (.ref L.e_InvalidIndex) "at" = some none
  ne_InvalidIndex_index : PySem.W.findIn K (.ref L.e_InvalidIndex) "index" = some none
  ne_InvalidIndex_limit : PySem.W.findIn K (.ref L.e_InvalidIndex) "limit" = some none
  is_InvalidIndex : IsC K L.e_InvalidIndex
  se_InvalidIndex_BreakerError : PySem.W.subIn K (.ref L.e_InvalidIndex) (.ref L.e_BreakerError) = some true
  se_InvalidIndex_InvalidRow : PySem.W.subIn K (.ref L.e_InvalidIndex) (.ref L.e_InvalidRow) = some false
  se_InvalidIndex_InvalidIndex : PySem.W.subIn K (.ref L.e_InvalidIndex) (.ref L.e_InvalidIndex) = some true
  se_InvalidIndex_InvalidBound : PySem.W.subIn K (.ref L.e_InvalidIndex) (.ref L.e_InvalidBound) = some false
  se_InvalidIndex_LimitExceeded : PySem.W.subIn K (.ref L.e_InvalidIndex) (.ref L.e_LimitExceeded) = some false
  sa_InvalidIndex : PySem.W.subIn K (.ref L.e_InvalidIndex) (.type "ArithmeticError") = some true
  ae_InvalidBound : AeC K L.e_InvalidBound
  hi_InvalidBound : PySem.W.findIn K (.ref L.e_InvalidBound) "__init__" = some (some (.ref L.i_InvalidBound))
  ti_InvalidBound : PySem.W.typeIn K (.ref L.i_InvalidBound) = some (.type "function")
  in_InvalidBound : ∃ fd, Fun K "__init__" "InvalidBound.__init__" st_InvalidBound_init L.i_InvalidBound fd ∧ Binds K fd ["self", "part"] []
  ne_InvalidBound_part : PySem.W.findIn K (.ref L.e_InvalidBound) "part" = some none
  ne_InvalidBound_at : PySem.W.findIn K (.ref L.e_InvalidBound) "at" = some none
  ne_InvalidBound_index : PySem.W.findIn K (.ref L.e_InvalidBound) "index" = some none
  ne_InvalidBound_limit : PySem.W.findIn K (.ref L.e_InvalidBound) "limit" = some none
  is_InvalidBound : IsC K L.e_InvalidBound
  se_InvalidBound_BreakerError : PySem.W.subIn K (.ref L.e_InvalidBound) (.ref L.e_BreakerError) = some true
  se_InvalidBound_InvalidRow : PySem.W.subIn K (.ref L.e_InvalidBound) (.ref L.e_InvalidRow) = some false
  se_InvalidBound_InvalidIndex : PySem.W.subIn K (.ref L.e_InvalidBound) (.ref L.e_InvalidIndex) = some false
  se_InvalidBound_InvalidBound : PySem.W.subIn K (.ref L.e_InvalidBound) (.ref L.e_InvalidBound) = some true
  se_InvalidBound_LimitExceeded : PySem.W.subIn K (.ref L.e_InvalidBound) (.ref L.e_LimitExceeded) = some false
  sa_InvalidBound : PySem.W.subIn K (.ref L.e_InvalidBound) (.type "ArithmeticError") = some true
  ae_LimitExceeded : AeC K L.e_LimitExceeded
  hi_LimitExceeded : PySem.W.findIn K (.ref L.e_LimitExceeded) "__init__" = some (some (.ref L.i_LimitExceeded))
  ti_LimitExceeded : PySem.W.typeIn K (.ref L.i_LimitExceeded) = some (.type "function")
  in_LimitExceeded : ∃ fd, Fun K "__init__" "LimitExceeded.__init__" st_LimitExceeded_init L.i_LimitExceeded fd ∧ Binds K fd ["self", "limit"] []
  ne_LimitExceeded_part : PySem.W.findIn K (.ref L.e_LimitExceeded) "part" = some none
  ne_LimitExceeded_at : PySem.W.findIn K (.ref L.e_LimitExceeded) "at" = some none
  ne_LimitExceeded_index : PySem.W.findIn K (.ref L.e_LimitExceeded) "index" = some none
  ne_LimitExceeded_limit : PySem.W.findIn K (.ref L.e_LimitExceeded) "limit" = some none
  is_LimitExceeded : IsC K L.e_LimitExceeded
  se_LimitExceeded_BreakerError : PySem.W.subIn K (.ref L.e_LimitExceeded) (.ref L.e_BreakerError) = some true
  se_LimitExceeded_InvalidRow : PySem.W.subIn K (.ref L.e_LimitExceeded) (.ref L.e_InvalidRow) = some false
  se_LimitExceeded_InvalidIndex : PySem.W.subIn K (.ref L.e_LimitExceeded) (.ref L.e_InvalidIndex) = some false
  se_LimitExceeded_InvalidBound : PySem.W.subIn K (.ref L.e_LimitExceeded) (.ref L.e_InvalidBound) = some false
  se_LimitExceeded_LimitExceeded : PySem.W.subIn K (.ref L.e_LimitExceeded) (.ref L.e_LimitExceeded) = some true
  sa_LimitExceeded : PySem.W.subIn K (.ref L.e_LimitExceeded) (.type "ArithmeticError") = some true
/-- the code objects of the defs in which lambdas are made, and their tables -/
structure TX (base : Heap) (mg : Str → Option Value) (L : LA) : Prop where
  b__law_limits_right : LamX.TabB base mg L.k__law_limits_right L.t__law_limits_right
  b__law_later_right : LamX.TabB base mg L.k__law_later_right L.t__law_later_right
  b_law : LamX.TabB base mg L.k_law L.t_law
def LT (L : LA) : List (Addr × Str) := [(L.t__law_limits_right, (("_law_limits_right" : Str) ++ ".<locals>.") ++ "<lambda>"), (L.t__law_later_right, (("_law_later_right" : Str) ++ ".<locals>.") ++ "<lambda>"), (L.t_law, (("law" : Str) ++ ".<locals>.") ++ "<lambda>")]

/-- a comprehension over zip of two lists -/
theorem lc_zip {K : PySem.W.Frag} {a b : Addr} {xs ys : List V} {g : TG} {tt : TT} {te : TE} {vs : List Nat} {σ : L2.St} {H1 : Hp} {D : Addr} {Qd : Hp → Prop} (hlen : ys.length ≤ xs.length) (Pv : Nat → Hp → Prop) (h0 : Pv 0 (upd H1 D (.lst []))) (hl : ∀ i H, Pv i H → SqL K H a xs ∧ SqL K H b ys)
    (hs : ∀ (i : Nat) (x y : V) (T : Addr) (H : Hp), xs[i]? = some x → ys[i]? = some y → Pv i H → H T = none → g (.ref T) (wipe σ vs) (upd H T (.tup [x, y])) fun σ2 H2 => wipe σ2 vs = wipe σ vs ∧ tt σ2 H2 fun b H3 =>
      if b = true then te σ2 H3 fun y H4 => ∃ acc, H4 D = some (.lst acc) ∧ acc.length < sizeLine ∧ Pv (i + 1) (upd H4 D (.lst (acc ++ [y]))) else Pv (i + 1) H3) (hd : ∀ H, Pv ys.length H → Qd H) :
    ∃ W : Nat → Nat → Hp → Prop, (∃ m, W 0 m (upd H1 D (.lst []))) ∧ ∀ i m H, W i m H → ((Itz K a b).stop i H ∧ Qd H) ∨ ((Itz K a b).go i H ∧ ∃ Nx : Hp → Prop, (∀ H', Nx H' → ∃ m', m' < m ∧ W (i + 1) m' H') ∧ ∀ x H', (Itz K a b).yld i H x H' → g x (wipe σ vs) H' fun σ2 H2 => wipe σ2 vs = wipe σ vs ∧ tt σ2 H2 fun b H3 =>
        if b = true then te σ2 H3 fun y H4 => ∃ acc, H4 D = some (.lst acc) ∧ acc.length < sizeLine ∧ Nx (upd H4 D (.lst (acc ++ [y]))) else Nx H3) := by
  refine ⟨fun i m H => m = ys.length - i ∧ i ≤ ys.length ∧ Pv i H, ⟨ys.length, by omega, Nat.zero_le _, h0⟩, ?_⟩
  rintro i m H ⟨rfl, hi, p⟩
  obtain ⟨qx, qy⟩ := hl i H p
  by_cases hlt : i < ys.length
  · have hx : xs[i]? = some xs[i] := List.getElem?_eq_getElem (by omega)
    have hy : ys[i]? = some ys[i] := List.getElem?_eq_getElem hlt
    refine .inr ⟨⟨xs, ys, _, _, qx, qy, hx, hy⟩, Pv (i + 1), fun H' p' => ⟨ys.length - (i + 1), by omega, rfl, hlt, p'⟩, fun v H' y => ?_⟩
    obtain ⟨T, x', y', rfl, hT, rfl, f1, f2⟩ := y
    exact hs i x' y' T H (f1 xs qx) (f2 ys qy) p hT
  · have e : i = ys.length := by omega
    subst e
    exact .inl ⟨⟨xs, ys, qx, qy, .inr (Nat.le_refl _)⟩, hd H p⟩
/-- an attribute inside a comprehension -/
theorem pe_fldK {X : Cx} {K : PySem.W.Frag} {e : Expr} {f : Str} {pos : Pos} {ta : TE} (hK : X.K = K) (he : PE X e ta) (hb : attributeBase e f X.env (eval e X.env) = eval e X.env) : PE X (.Attribute e f pos) (tFld K ta f) := by
  subst hK
  exact pe_fld he hb
theorem putF_len (f : Str) (v : V) (fs : List (Str × V)) {n : Nat} (h : fs.length ≤ n) : (putF f v fs).length ≤ n + 1 := Nat.le_trans (length_putF f v fs) (Nat.succ_le_succ h)
def spRup : Sp := fun vs H Q _ => ∃ v u : Int, vs = [.int v, .int u] ∧ 0 < u ∧ u.natAbs.log2 < 9000 ∧ CMulW (stepsUp v u) u ∧ Q (.int (stepsUp v u * u)) H
/-! ### the small defs -/
section
variable {P : Program} {w : World} {K : PySem.W.Frag} {mg : Str → Option Value} {base : Heap} {L : LA}
abbrev N_isinteger : List Str := ["value"]
theorem sc_isinteger : FnScope N_isinteger ["value"] (defScope st_is_integer) := ⟨rfl, rfl, rfl, by decide +kernel, rfl, by decide +kernel, by decide +kernel⟩
theorem fn_isinteger (T : LX K mg L) {fd : FuncData} (F : Fun K "is_integer" "is_integer" st_is_integer L.f_is_integer fd) : FnOk P w K mg base CX0 1 L.f_is_integer fd ["value"] (spIsInt) := by
  have nd := sc_isinteger.nd
  refine F.ok sc_isinteger (fun vs H Q E h => ?_) (fun cdv A outer S H vs Q E hr h => ?_)
  · obtain ⟨v, n, rfl, _⟩ := h
    rfl
  · obtain ⟨v, n, rfl, hv, k⟩ := h
    refine ⟨_, (pss_one (ps_ret (pe_and (pe_callB call_isi (by rfl) T.b_isinstance (by decide +kernel) (pa_cons (pv 0) (pa_cons (pe_bltn (by rfl) T.b_int (by decide +kernel : bootBuiltins "int" = some (.type "int")) (v := .ty "int") rfl) pa_nil))) (pe_one (pe_not (pe_callB call_isi (by rfl) T.b_isinstance (by decide +kernel) (pa_cons (pv 0) (pa_cons (pe_bltn (by rfl) T.b_bool (by decide +kernel : bootBuiltins "bool" = some (.type "bool")) (v := .ty "bool") rfl) pa_nil)))))))), ?_⟩
    refine ⟨_, rfl, v, .ty "int", _, _, _, rfl, .ty "int", hv.ty, hv.kit "int" _ (.inl ⟨rfl, rfl⟩), _, rfl, ?_⟩
    refine ite2 (fun c => ?_) (fun c => ?_)
    · refine ⟨_, rfl, v, .ty "bool", _, _, _, rfl, .ty "bool", hv.ty, hv.kit "bool" _ (.inr ⟨by decide, by decide, rfl⟩), _, rfl, ?_⟩
      cases hv <;> first | exact k | (exact absurd c (by decide))
    · cases hv <;> first | exact k | (exact absurd (by decide) c)
theorem ok_isinteger (T : LX K mg L) : Cal P w K mg base "is_integer" 1 L.f_is_integer ["value"] (spIsInt) := T.d_is_integer.cal fun fd F => fn_isinteger T F
abbrev N_isatleast : List Str := ["value", "least"]
theorem sc_isatleast : FnScope N_isatleast ["value", "least"] (defScope st_is_at_least) := ⟨rfl, rfl, rfl, by decide +kernel, rfl, by decide +kernel, by decide +kernel⟩
theorem fn_isatleast (T : LX K mg L) {fd : FuncData} (F : Fun K "is_at_least" "is_at_least" st_is_at_least L.f_is_at_least fd) : FnOk P w K mg base CX0 2 L.f_is_at_least fd ["value", "least"] (spAtL) := by
  have G_isinteger := ok_isinteger (P := P) (w := w) (base := base) T
  have nd := sc_isatleast.nd
  refine F.ok sc_isatleast (fun vs H Q E h => ?_) (fun cdv A outer S H vs Q E hr h => ?_)
  · obtain ⟨v, n, l, rfl, _⟩ := h
    rfl
  · obtain ⟨v, n, l, rfl, hv, k⟩ := h
    refine ⟨_, (pss_one (ps_ret (pe_and (pe_c G_isinteger (hr.mono (by decide)) rfl (pa_cons (pv 0) pa_nil)) (pe_one (pe_cmpR op_ge (pv 0) (pv 1) (nomark _)))))), ?_⟩
    refine ⟨_, rfl, v, n, rfl, hv, _, rfl, ?_⟩
    cases v with
    | int i => exact iteT ⟨_, rfl, _, rfl, _, _, rfl, rfl, k⟩
    | _ => exact iteF k
theorem ok_isatleast (T : LX K mg L) : Cal P w K mg base "is_at_least" 2 L.f_is_at_least ["value", "least"] (spAtL) := T.d_is_at_least.cal fun fd F => fn_isatleast T F
abbrev N_iswithin : List Str := ["value", "least", "most"]
theorem sc_iswithin : FnScope N_iswithin ["value", "least", "most"] (defScope st_is_within) := ⟨rfl, rfl, rfl, by decide +kernel, rfl, by decide +kernel, by decide +kernel⟩
theorem fn_iswithin (T : LX K mg L) {fd : FuncData} (F : Fun K "is_within" "is_within" st_is_within L.f_is_within fd) : FnOk P w K mg base CX0 2 L.f_is_within fd ["value", "least", "most"] (spWithin) := by
  have G_isinteger := ok_isinteger (P := P) (w := w) (base := base) T
  have nd := sc_iswithin.nd
  refine F.ok sc_iswithin (fun vs H Q E h => ?_) (fun cdv A outer S H vs Q E hr h => ?_)
  · obtain ⟨v, n, l, m, rfl, _⟩ := h
    rfl
  · obtain ⟨v, n, l, m, rfl, hv, k⟩ := h
    refine ⟨_, (pss_one (ps_ret (pe_and (pe_c G_isinteger (hr.mono (by decide)) rfl (pa_cons (pv 0) pa_nil)) (pe_one (pe_chain op_le op_le (pv 1) (pv 0) (pv 2)))))), ?_⟩
    refine ⟨_, rfl, v, n, rfl, hv, _, rfl, ?_⟩
    cases v with
    | int i =>
      refine iteT ⟨_, rfl, _, rfl, _, _, rfl, rfl, _, rfl, ?_⟩
      refine ite2 (fun c => ?_) (fun c => ?_)
      · refine ⟨_, rfl, _, _, rfl, rfl, ?_⟩
        have c' : decide (l ≤ i) = true := c
        have k' : Q (.bl (decide (l ≤ i) && decide (i ≤ m))) H := k
        rw [c', Bool.true_and] at k'
        exact k'
      · have c' : decide (l ≤ i) = false := by simpa using c
        have k' : Q (.bl (decide (l ≤ i) && decide (i ≤ m))) H := k
        rw [c', Bool.false_and] at k'
        exact k'
    | _ => exact iteF k
theorem ok_iswithin (T : LX K mg L) : Cal P w K mg base "is_within" 2 L.f_is_within ["value", "least", "most"] (spWithin) := T.d_is_within.cal fun fd F => fn_iswithin T F
abbrev N_stepsto : List Str := ["distance", "step"]
theorem sc_stepsto : FnScope N_stepsto ["distance", "step"] (defScope st_steps_to) := ⟨rfl, rfl, rfl, by decide +kernel, rfl, by decide +kernel, by decide +kernel⟩
theorem fn_stepsto (T : LX K mg L) {fd : FuncData} (F : Fun K "steps_to" "steps_to" st_steps_to L.f_steps_to fd) : FnOk P w K mg base CX0 1 L.f_steps_to fd ["distance", "step"] (spSteps) := by
  have nd := sc_stepsto.nd
  refine F.ok sc_stepsto (fun vs H Q E h => ?_) (fun cdv A outer S H vs Q E hr h => ?_)
  · obtain ⟨d, st, rfl, _⟩ := h
    rfl
  · obtain ⟨d, st, rfl, h0, h1, k⟩ := h
    refine ⟨_, (pss_one (ps_ret (pe_callB (call_max2 rfl) (by rfl) T.b_max (by decide +kernel) (pa_cons pe_int (pa_cons (pe_un un_neg (pe_op op_fdivW (pe_un un_neg (pv 0)) (pv 1))) pa_nil))))), ?_⟩
    exact ⟨_, rfl, _, rfl, _, rfl, _, _, rfl, rfl, ⟨h0, h1⟩, _, rfl, _, _, rfl, k⟩
theorem ok_stepsto (T : LX K mg L) : Cal P w K mg base "steps_to" 1 L.f_steps_to ["distance", "step"] (spSteps) := T.d_steps_to.cal fun fd F => fn_stepsto T F
abbrev N_roundedup : List Str := ["value", "unit"]
theorem sc_roundedup : FnScope N_roundedup ["value", "unit"] (defScope st_rounded_up) := ⟨rfl, rfl, rfl, by decide +kernel, rfl, by decide +kernel, by decide +kernel⟩
theorem fn_roundedup (T : LX K mg L) {fd : FuncData} (F : Fun K "rounded_up" "rounded_up" st_rounded_up L.f_rounded_up fd) : FnOk P w K mg base CX0 2 L.f_rounded_up fd ["value", "unit"] (spRup) := by
  have G_stepsto := ok_stepsto (P := P) (w := w) (base := base) T
  have nd := sc_roundedup.nd
  refine F.ok sc_roundedup (fun vs H Q E h => ?_) (fun cdv A outer S H vs Q E hr h => ?_)
  · obtain ⟨v, u, rfl, _⟩ := h
    rfl
  · obtain ⟨v, u, rfl, h0, h1, hm, k⟩ := h
    refine ⟨_, (pss_one (ps_ret (pe_op op_mulW (pe_c G_stepsto (hr.mono (by decide)) rfl (pa_cons (pv 0) (pa_cons (pv 1) pa_nil))) (pv 1)))), ?_⟩
    exact ⟨_, rfl, _, rfl, v, u, rfl, h0, h1, _, rfl, _, _, rfl, rfl, hm, k⟩
theorem ok_roundedup (T : LX K mg L) : Cal P w K mg base "rounded_up" 2 L.f_rounded_up ["value", "unit"] (spRup) := T.d_rounded_up.cal fun fd F => fn_roundedup T F
end
/-! ### trains as data -/
abbrev Trn := Int × Int × Option Int
def OkTr (t : Trn) : Prop := 0 ≤ t.1 ∧ 1 ≤ t.2.1 ∧ ∀ c, t.2.2 = some c → 1 ≤ c
/-- all times of the first are before the second -/
def Lt (t u : Trn) : Prop := ∃ c, t.2.2 = some c ∧ t.1 + (c - 1) * t.2.1 < u.1
def Srt (ts : List Trn) : Prop := (∀ t ∈ ts, OkTr t) ∧ ts.Pairwise Lt
def minO (n : Int) : Option Int → Int
  | none => n
  | some c => if c < n then c else n
/-- how many times of a train are before x -/
def nbT (t : Trn) (x : Int) : Int := minO (stepsUp (x - t.1) t.2.1) t.2.2
def NB : List Trn → Int → Int
  | [], _ => 0
  | t :: ts, x => nbT t x + NB ts x
def At : List Trn → Int → Option Int
  | [], _ => none
  | t :: ts, i => match t.2.2 with
    | none => some (t.1 + i * t.2.1)
    | some c => if i < c then some (t.1 + i * t.2.1) else At ts (i - c)
def addO (c : Int) : Option Int → Option Int
  | none => none
  | some n => some (c + n)
def Tot : List Trn → Option Int
  | [] => some 0
  | t :: ts => match t.2.2 with
    | none => none
    | some c => addO c (Tot ts)
/-- d / s, rounded up -/
def cl (d s : Int) : Int := -(-d / s)
theorem stepsUp_cl (d s : Int) : stepsUp d s = if cl d s > 0 then cl d s else 0 := rfl
theorem cl_sub (d s c : Int) (hs : 0 < s) : cl (d - c * s) s = cl d s - c := by
  unfold cl
  have e : -(d - c * s) = -d + c * s := by omega
  rw [e, Int.add_mul_ediv_right _ _ (show s ≠ 0 by omega)]
  omega
theorem cl_le {d s n : Int} (hs : 0 < s) : cl d s ≤ n ↔ d ≤ n * s := by
  unfold cl
  have h : -n ≤ -d / s ↔ -n * s ≤ -d := Int.le_ediv_iff_mul_le hs
  rw [Int.neg_mul] at h
  omega
theorem cl_gt {d s n : Int} (hs : 0 < s) : n < cl d s ↔ n * s < d := by
  have h := cl_le (d := d) (s := s) (n := n) hs
  omega
def subO (k : Option Int) (c : Int) : Option Int := match k with
  | none => none
  | some n => some (n - c)
/-- a train is its first c times, and the others -/
theorem nbT_split {s p c : Int} {k : Option Int} (hp : 0 < p) (hc : 0 ≤ c) (hk : ∀ n, k = some n → c ≤ n) (x : Int) : nbT (s, p, k) x = nbT (s, p, some c) x + nbT (s + c * p, p, subO k c) x := by
  have e : x - (s + c * p) = x - s - c * p := by omega
  show minO (stepsUp (x - s) p) k = minO (stepsUp (x - s) p) (some c) + minO (stepsUp (x - (s + c * p)) p) (subO k c)
  rw [e, stepsUp_cl, stepsUp_cl, cl_sub _ _ _ hp]
  cases k with
  | none =>
    show (if cl (x - s) p > 0 then cl (x - s) p else 0) = (if c < (if cl (x - s) p > 0 then cl (x - s) p else 0) then c else (if cl (x - s) p > 0 then cl (x - s) p else 0)) + (if cl (x - s) p - c > 0 then cl (x - s) p - c else 0)
    split <;> split <;> split <;> omega
  | some n =>
    have := hk n rfl
    show (if n < (if cl (x - s) p > 0 then cl (x - s) p else 0) then n else (if cl (x - s) p > 0 then cl (x - s) p else 0)) = (if c < (if cl (x - s) p > 0 then cl (x - s) p else 0) then c else (if cl (x - s) p > 0 then cl (x - s) p else 0)) + (if n - c < (if cl (x - s) p - c > 0 then cl (x - s) p - c else 0) then n - c else (if cl (x - s) p - c > 0 then cl (x - s) p - c else 0))
    split <;> split <;> split <;> split <;> (try split) <;> omega
/-- the step of a single time is nothing -/
theorem nbT_one {s p q : Int} (hp : 0 < p) (hq : 0 < q) (x : Int) : nbT (s, p, some 1) x = nbT (s, q, some 1) x := by
  have one : ∀ p : Int, 0 < p → nbT (s, p, some 1) x = if s < x then 1 else 0 := fun p hp => by
    show (if (1 : Int) < (if cl (x - s) p > 0 then cl (x - s) p else 0) then (1 : Int) else (if cl (x - s) p > 0 then cl (x - s) p else 0)) = _
    have h0 : 0 < cl (x - s) p ↔ 0 * p < x - s := cl_gt hp
    rw [Int.zero_mul] at h0
    split <;> split <;> split <;> omega
  rw [one p hp, one q hq]
theorem NB_app : ∀ (ts us : List Trn) (x : Int), NB (ts ++ us) x = NB ts x + NB us x
  | [], us, x => by show NB us x = 0 + NB us x; omega
  | t :: ts, us, x => by
    show nbT t x + NB (ts ++ us) x = nbT t x + NB ts x + NB us x
    rw [NB_app ts us x]
    omega
theorem addO_addO (a b : Int) (k : Option Int) : addO a (addO b k) = addO (a + b) k := by
  cases k with
  | none => rfl
  | some n => show some (a + (b + n)) = some (a + b + n); rw [Int.add_assoc]
theorem nbT_nn {t : Trn} (h : OkTr t) (x : Int) : 0 ≤ nbT t x := by
  obtain ⟨s, p, k⟩ := t
  show 0 ≤ minO (stepsUp (x - s) p) k
  rw [stepsUp_cl]
  cases k with
  | none => show 0 ≤ if cl (x - s) p > 0 then cl (x - s) p else 0; split <;> omega
  | some c =>
    have := h.2.2 c rfl
    show 0 ≤ if c < (if cl (x - s) p > 0 then cl (x - s) p else 0) then c else (if cl (x - s) p > 0 then cl (x - s) p else 0)
    split <;> (try split) <;> omega
theorem nbT_zero {t : Trn} (h : OkTr t) {x : Int} (hx : x ≤ t.1) : nbT t x = 0 := by
  obtain ⟨s, p, k⟩ := t
  have hp : 0 < p := by
    have h2 : 1 ≤ p := h.2.1
    omega
  have h1 : cl (x - s) p ≤ 0 := (cl_le hp).mpr (by
    have h2 : x ≤ s := hx
    omega)
  show minO (stepsUp (x - s) p) k = 0
  rw [stepsUp_cl, if_neg (by omega)]
  cases k with
  | none => rfl
  | some c =>
    have := h.2.2 c rfl
    show (if c < 0 then c else 0) = 0
    rw [if_neg (by omega)]
theorem nbT_all {t : Trn} (h : OkTr t) {x c : Int} (hc : t.2.2 = some c) (hx : t.1 + (c - 1) * t.2.1 < x) : nbT t x = c := by
  obtain ⟨s, p, k⟩ := t
  have hp : 0 < p := by
    have h2 : 1 ≤ p := h.2.1
    omega
  have h0 : k = some c := hc
  subst h0
  have h1 : c - 1 < cl (x - s) p := (cl_gt hp).mpr (by
    have h2 : s + (c - 1) * p < x := hx
    omega)
  have := h.2.2 c rfl
  show (if c < stepsUp (x - s) p then c else stepsUp (x - s) p) = c
  rw [stepsUp_cl]
  split <;> (try split at *) <;> omega
theorem NB_nn {ts : List Trn} (h : ∀ t ∈ ts, OkTr t) (x : Int) : 0 ≤ NB ts x := by
  induction ts with
  | nil => exact Int.le_refl _
  | cons t ts ih =>
    have h1 := nbT_nn (h t (List.mem_cons_self ..)) x
    have h2 := ih fun u hu => h u (List.mem_cons_of_mem _ hu)
    show 0 ≤ nbT t x + NB ts x
    omega
theorem NB_zero {ts : List Trn} (h : ∀ t ∈ ts, OkTr t) {x : Int} (hx : ∀ t ∈ ts, x ≤ t.1) : NB ts x = 0 := by
  induction ts with
  | nil => rfl
  | cons t ts ih =>
    show nbT t x + NB ts x = 0
    rw [nbT_zero (h t (List.mem_cons_self ..)) (hx t (List.mem_cons_self ..)), ih (fun u hu => h u (List.mem_cons_of_mem _ hu)) fun u hu => hx u (List.mem_cons_of_mem _ hu)]
    rfl
theorem Srt.tail {t : Trn} {ts : List Trn} (h : Srt (t :: ts)) : Srt ts := ⟨fun u hu => h.1 u (List.mem_cons_of_mem _ hu), (List.pairwise_cons.mp h.2).2⟩
theorem Srt.head {t : Trn} {ts : List Trn} (h : Srt (t :: ts)) : OkTr t := h.1 t (List.mem_cons_self ..)
theorem Srt.lt {t : Trn} {ts : List Trn} (h : Srt (t :: ts)) : ∀ u ∈ ts, Lt t u := (List.pairwise_cons.mp h.2).1
theorem lt_start {t u : Trn} (h : OkTr t) (l : Lt t u) : t.1 < u.1 := by
  obtain ⟨c, e, q⟩ := l
  have hc := h.2.2 c e
  have : 0 ≤ (c - 1) * t.2.1 := Int.mul_nonneg (by omega) (by have := h.2.1; omega)
  omega
/-! what is before x, and which time is the i-th -/
theorem nbT_le {t : Trn} {x c : Int} (e : t.2.2 = some c) : nbT t x ≤ c := by
  unfold nbT
  rw [e]
  show (if c < stepsUp (x - t.1) t.2.1 then c else stepsUp (x - t.1) t.2.1) ≤ c
  split <;> omega
/-- the times before x are those with an index below nbT -/
theorem nbT_lt {t : Trn} (h : OkTr t) {x i : Int} (i0 : 0 ≤ i) (hi : ∀ c, t.2.2 = some c → i < c) : i < nbT t x ↔ t.1 + i * t.2.1 < x := by
  obtain ⟨s, p, k⟩ := t
  have hp : 0 < p := by
    have h2 : 1 ≤ p := h.2.1
    omega
  have h1 : i < cl (x - s) p ↔ i * p < x - s := cl_gt hp
  have e : (s + i * p < x) ↔ i * p < x - s := by omega
  show i < minO (stepsUp (x - s) p) k ↔ s + i * p < x
  rw [stepsUp_cl, e, ← h1]
  cases k with
  | none =>
    show i < (if cl (x - s) p > 0 then cl (x - s) p else 0) ↔ _
    split <;> omega
  | some c =>
    have := hi c rfl
    show i < (if c < (if cl (x - s) p > 0 then cl (x - s) p else 0) then c else (if cl (x - s) p > 0 then cl (x - s) p else 0)) ↔ _
    split <;> (try split) <;> (try split at *) <;> omega
theorem At_lt : ∀ {ts : List Trn}, Srt ts → ∀ {i y : Int}, 0 ≤ i → At ts i = some y → ∀ x, i < NB ts x ↔ y < x
  | [], _, i, y, _, e, _ => by cases e
  | t :: ts, h, i, y, i0, e, x => by
    have ht := h.head
    have hs := h.tail
    have nn := NB_nn hs.1 x
    cases hk : t.2.2 with
    | none =>
      have e' : At (t :: ts) i = some (t.1 + i * t.2.1) := by
        show (match t.2.2 with | none => some (t.1 + i * t.2.1) | some c => if i < c then some (t.1 + i * t.2.1) else At ts (i - c)) = _
        rw [hk]
      rw [e'] at e
      have ey := Option.some.inj e
      subst ey
      have nt : ts = [] := by
        cases ts with
        | nil => rfl
        | cons u us =>
          obtain ⟨c, hc, _⟩ := h.lt u (List.mem_cons_self ..)
          rw [hk] at hc
          cases hc
      subst nt
      have := nbT_lt ht (x := x) i0 (fun c hc => by rw [hk] at hc; cases hc)
      show i < nbT t x + 0 ↔ _
      rw [Int.add_zero]
      exact this
    | some c =>
      have e' : At (t :: ts) i = if i < c then some (t.1 + i * t.2.1) else At ts (i - c) := by
        show (match t.2.2 with | none => some (t.1 + i * t.2.1) | some c => if i < c then some (t.1 + i * t.2.1) else At ts (i - c)) = _
        rw [hk]
      rw [e'] at e
      show i < nbT t x + NB ts x ↔ y < x
      by_cases hi : i < c
      · rw [if_pos hi] at e
        have ey := Option.some.inj e
        have h1 := nbT_lt ht (x := x) i0 (fun c' hc => by rw [hk] at hc; cases hc; exact hi)
        by_cases hl : t.1 + (c - 1) * t.2.1 < x
        · have h2 := nbT_all ht hk hl
          omega
        · have h3 : NB ts x = 0 := NB_zero hs.1 fun u hu => by
            obtain ⟨c', hc, q⟩ := h.lt u hu
            rw [hk] at hc
            cases hc
            omega
          omega
      · rw [if_neg hi] at e
        have ih := At_lt hs (i := i - c) (by omega) e x
        have h2 := nbT_le (x := x) hk
        by_cases hl : t.1 + (c - 1) * t.2.1 < x
        · have h3 := nbT_all ht hk hl
          omega
        · have h3 : NB ts x = 0 := NB_zero hs.1 fun u hu => by
            obtain ⟨c', hc, q⟩ := h.lt u hu
            rw [hk] at hc
            cases hc
            omega
          omega
theorem tot_nn : ∀ {ts : List Trn}, (∀ t ∈ ts, OkTr t) → ∀ n, Tot ts = some n → 0 ≤ n
  | [], _, n, e => by cases e; exact Int.le_refl _
  | t :: ts, h, n, e => by
    cases hk : t.2.2 with
    | none =>
      have e2 : Tot (t :: ts) = none := by
        show (match t.2.2 with | none => none | some c => addO c (Tot ts)) = _
        rw [hk]
      rw [e2] at e
      cases e
    | some c =>
      have e2 : Tot (t :: ts) = addO c (Tot ts) := by
        show (match t.2.2 with | none => none | some c => addO c (Tot ts)) = _
        rw [hk]
      rw [e2] at e
      cases ht : Tot ts with
      | none => rw [ht] at e; cases e
      | some m =>
        rw [ht] at e
        have z' : c + m = n := Option.some.inj e
        have := tot_nn (fun u hu => h u (List.mem_cons_of_mem _ hu)) m ht
        have := (h t (List.mem_cons_self ..)).2.2 c hk
        omega
theorem At_none : ∀ {ts : List Trn}, (∀ t ∈ ts, OkTr t) → ∀ {i : Int}, 0 ≤ i → (At ts i = none ↔ ∃ n, Tot ts = some n ∧ n ≤ i)
  | [], _, i, i0 => ⟨fun _ => ⟨0, rfl, i0⟩, fun _ => rfl⟩
  | t :: ts, h, i, i0 => by
    cases hk : t.2.2 with
    | none =>
      have e' : At (t :: ts) i = some (t.1 + i * t.2.1) := by
        show (match t.2.2 with | none => some (t.1 + i * t.2.1) | some c => if i < c then some (t.1 + i * t.2.1) else At ts (i - c)) = _
        rw [hk]
      have e2 : Tot (t :: ts) = none := by
        show (match t.2.2 with | none => none | some c => addO c (Tot ts)) = _
        rw [hk]
      rw [e', e2]
      exact ⟨fun z => (by cases z), fun ⟨n, z, _⟩ => (by cases z)⟩
    | some c =>
      have e' : At (t :: ts) i = if i < c then some (t.1 + i * t.2.1) else At ts (i - c) := by
        show (match t.2.2 with | none => some (t.1 + i * t.2.1) | some c => if i < c then some (t.1 + i * t.2.1) else At ts (i - c)) = _
        rw [hk]
      have e2 : Tot (t :: ts) = addO c (Tot ts) := by
        show (match t.2.2 with | none => none | some c => addO c (Tot ts)) = _
        rw [hk]
      have tn : ∀ n, Tot ts = some n → 0 ≤ n := tot_nn fun u hu => h u (List.mem_cons_of_mem _ hu)
      rw [e', e2]
      by_cases hi : i < c
      · rw [if_pos hi]
        refine ⟨fun z => (by cases z), fun ⟨n, z, hn⟩ => ?_⟩
        cases ht : Tot ts with
        | none => rw [ht] at z; cases z
        | some m =>
          rw [ht] at z
          have := tn m ht
          have z' : c + m = n := Option.some.inj z
          omega
      · rw [if_neg hi]
        have ih := At_none (ts := ts) (fun u hu => h u (List.mem_cons_of_mem _ hu)) (i := i - c) (by omega)
        rw [ih]
        constructor
        · rintro ⟨n, e, hn⟩
          exact ⟨c + n, by rw [e]; rfl, by omega⟩
        · rintro ⟨n, e, hn⟩
          cases ht : Tot ts with
          | none => rw [ht] at e; cases e
          | some m =>
            rw [ht] at e
            have z' : c + m = n := Option.some.inj e
            exact ⟨m, rfl, by omega⟩
theorem NB_tot : ∀ {ts : List Trn}, (∀ t ∈ ts, OkTr t) → ∀ {n : Int}, Tot ts = some n → ∀ x, NB ts x ≤ n
  | [], _, n, e, x => by cases e; exact Int.le_refl _
  | t :: ts, h, n, e, x => by
    cases hk : t.2.2 with
    | none =>
      have e2 : Tot (t :: ts) = none := by
        show (match t.2.2 with | none => none | some c => addO c (Tot ts)) = _
        rw [hk]
      rw [e2] at e
      cases e
    | some c =>
      have e2 : Tot (t :: ts) = addO c (Tot ts) := by
        show (match t.2.2 with | none => none | some c => addO c (Tot ts)) = _
        rw [hk]
      rw [e2] at e
      cases ht : Tot ts with
      | none => rw [ht] at e; cases e
      | some m =>
        rw [ht] at e
        have z' : c + m = n := Option.some.inj e
        have h1 := nbT_le (x := x) hk
        have h2 := NB_tot (fun u hu => h u (List.mem_cons_of_mem _ hu)) ht x
        show nbT t x + NB ts x ≤ n
        omega
theorem nbT_step {t : Trn} (h : OkTr t) (x : Int) : nbT t (x + 1) ≤ nbT t x + 1 := by
  obtain ⟨s, p, k⟩ := t
  have hp : 1 ≤ p := h.2.1
  have h1 : cl (x + 1 - s) p ≤ cl (x - s) p + 1 := by
    refine (cl_le (by omega)).mpr ?_
    have h2 : x - s ≤ cl (x - s) p * p := (cl_le (by omega)).mp (Int.le_refl _)
    rw [Int.add_mul, Int.one_mul]
    omega
  show minO (stepsUp (x + 1 - s) p) k ≤ minO (stepsUp (x - s) p) k + 1
  rw [stepsUp_cl, stepsUp_cl]
  cases k with
  | none =>
    show (if cl (x + 1 - s) p > 0 then cl (x + 1 - s) p else 0) ≤ (if cl (x - s) p > 0 then cl (x - s) p else 0) + 1
    split <;> split <;> omega
  | some c =>
    show (if c < (if cl (x + 1 - s) p > 0 then cl (x + 1 - s) p else 0) then c else (if cl (x + 1 - s) p > 0 then cl (x + 1 - s) p else 0)) ≤ (if c < (if cl (x - s) p > 0 then cl (x - s) p else 0) then c else (if cl (x - s) p > 0 then cl (x - s) p else 0)) + 1
    repeat' split
    all_goals omega
theorem NB_step : ∀ {ts : List Trn}, Srt ts → ∀ x, NB ts (x + 1) ≤ NB ts x + 1
  | [], _, x => by show (0 : Int) ≤ 0 + 1; omega
  | t :: ts, h, x => by
    have ht := h.head
    have hs := h.tail
    have st := nbT_step ht x
    show nbT t (x + 1) + NB ts (x + 1) ≤ nbT t x + NB ts x + 1
    cases hk : t.2.2 with
    | none =>
      have nt : ts = [] := by
        cases ts with
        | nil => rfl
        | cons u us =>
          obtain ⟨c, hc, _⟩ := h.lt u (List.mem_cons_self ..)
          rw [hk] at hc
          cases hc
      subst nt
      show nbT t (x + 1) + 0 ≤ nbT t x + 0 + 1
      omega
    | some c =>
      by_cases hl : t.1 + (c - 1) * t.2.1 < x
      · have h1 := nbT_all ht hk hl
        have h2 := nbT_all ht hk (show t.1 + (c - 1) * t.2.1 < x + 1 by omega)
        have h3 := NB_step hs x
        omega
      · have z : ∀ y, y ≤ x + 1 → NB ts y = 0 := fun y hy => NB_zero hs.1 fun u hu => by
          obtain ⟨c', hc, q⟩ := h.lt u hu
          rw [hk] at hc
          cases hc
          omega
        have h1 := z x (by omega)
        have h2 := z (x + 1) (Int.le_refl _)
        omega
/-- the i-th time is told by what is before x -/
theorem At_iff {ts : List Trn} (h : Srt ts) {i y : Int} (i0 : 0 ≤ i) : At ts i = some y ↔ NB ts y = i ∧ NB ts (y + 1) = i + 1 := by
  have one : ∀ {z}, At ts i = some z → NB ts z = i ∧ NB ts (z + 1) = i + 1 := fun {z} e => by
    have h1 := At_lt h i0 e z
    have h2 := At_lt h i0 e (z + 1)
    have h3 := NB_step h z
    omega
  refine ⟨one, fun ⟨e1, e2⟩ => ?_⟩
  cases q : At ts i with
  | none =>
    obtain ⟨n, e3, e4⟩ := (At_none h.1 i0).mp q
    have := NB_tot h.1 e3 (y + 1)
    omega
  | some w =>
    have h3 := At_lt h i0 q y
    have h4 := At_lt h i0 q (y + 1)
    congr 1
    omega
/-- trains with the same counts have the same times -/
theorem At_same {ts us : List Trn} (h : Srt ts) (h' : Srt us) (e : ∀ x, NB ts x = NB us x) {i : Int} (i0 : 0 ≤ i) : At ts i = At us i := by
  cases q : At ts i with
  | some y =>
    obtain ⟨e1, e2⟩ := (At_iff h i0).mp q
    exact ((At_iff h' i0).mpr ⟨by rw [← e]; exact e1, by rw [← e]; exact e2⟩).symm
  | none =>
    cases q2 : At us i with
    | none => rfl
    | some y =>
      obtain ⟨e1, e2⟩ := (At_iff h' i0).mp q2
      rw [(At_iff h i0).mpr ⟨by rw [e]; exact e1, by rw [e]; exact e2⟩] at q
      cases q
/-! ### rows in the heap -/
/-! ### breakers and rows -/
abbrev Tri := Int × Int × Int
def TriV (t : Tri) : List V := [.int t.1, .int t.2.1, .int t.2.2]
def BrAt (H : Hp) (x : V) (t : Tri) : Prop := ∃ a, x = .ref a ∧ H a = some (.tup (TriV t))
def OkT (t : Tri) : Prop := 1 ≤ t.1 ∧ t.1 ≤ 1000000000000 ∧ 1 ≤ t.2.1 ∧ t.2.1 ≤ 1000000000000000000000000000000 ∧ 1 ≤ t.2.2 ∧ t.2.2 ≤ 1000000000000
abbrev Brs (H : Hp) (xs : List V) (ts : List Tri) : Prop := Paired (BrAt H) xs ts
theorem BrAt.nl {H H' : Hp} (k : NL H H') {x : V} {t : Tri} (h : BrAt H x t) : BrAt H' x t := by
  obtain ⟨a, e, h⟩ := h
  exact ⟨a, e, k _ _ h fun _ z => nomatch z⟩
theorem Brs.nl {H H' : Hp} (k : NL H H') {xs : List V} {ts : List Tri} (h : Brs H xs ts) : Brs H' xs ts := L2.Paired.mapP h fun _ _ z => z.nl k
theorem Brs.len {H : Hp} : ∀ {xs : List V} {ts : List Tri}, Brs H xs ts → xs.length = ts.length
  | _, _, .nil => rfl
  | _, _, .cons _ t => congrArg Nat.succ (Brs.len t)
theorem Brs.get {H : Hp} : ∀ {xs : List V} {ts : List Tri} {i : Nat} {x : V}, Brs H xs ts → xs[i]? = some x → ∃ t, ts[i]? = some t ∧ BrAt H x t
  | _, _, _, _, .nil, e => by simp at e
  | _, _, 0, _, .cons r _, e => by simp at e; subst e; exact ⟨_, rfl, r⟩
  | _, _, i + 1, x, .cons _ t, e => by
    obtain ⟨u, h1, h2⟩ := Brs.get (i := i) (x := x) t (by simpa using e)
    exact ⟨u, by simpa using h1, h2⟩
theorem Brs.app {H : Hp} : ∀ {xs ys : List V} {ts us : List Tri}, Brs H xs ts → Brs H ys us → Brs H (xs ++ ys) (ts ++ us)
  | _, _, _, _, .nil, s => s
  | _, _, _, _, .cons r t, s => .cons r (Brs.app t s)
theorem Brs.rev {H : Hp} : ∀ {xs : List V} {ts : List Tri}, Brs H xs ts → Brs H xs.reverse ts.reverse
  | _, _, .nil => .nil
  | _, _, .cons r t => by
    rw [List.reverse_cons, List.reverse_cons]
    exact Brs.app (Brs.rev t) (.cons r .nil)
theorem Brs.take {H : Hp} : ∀ {xs : List V} {ts : List Tri} (n : Nat), Brs H xs ts → Brs H (xs.take n) (ts.take n)
  | _, _, 0, _ => .nil
  | _, _, _ + 1, .nil => .nil
  | _, _, n + 1, .cons r t => .cons r (Brs.take n t)
theorem Brs.drop {H : Hp} : ∀ {xs : List V} {ts : List Tri} (n : Nat), Brs H xs ts → Brs H (xs.drop n) (ts.drop n)
  | _, _, 0, r => r
  | _, _, _ + 1, .nil => .nil
  | _, _, n + 1, .cons _ t => Brs.drop n t
/-! the attributes of a row, as __init__ stores them -/
theorem k1 : ¬ (("breakers" : Str) = "step") := by decide +kernel
theorem k2 : ¬ (("breakers" : Str) = "phase") := by decide +kernel
theorem k3 : ¬ (("step" : Str) = "phase") := by decide +kernel
def rowF (T : Addr) (st ph : Int) : List (Str × V) := putF "phase" (.int ph) (putF "step" (.int st) (putF "breakers" (.ref T) []))
theorem rowF_b (T : Addr) (st ph : Int) : (rowF T st ph).lookup ("breakers" : Str) = some (.ref T) := by
  unfold rowF
  rw [lookup_putF, if_neg k2, lookup_putF, if_neg k1, lookup_putF, if_pos rfl]
theorem rowF_s (T : Addr) (st ph : Int) : (rowF T st ph).lookup ("step" : Str) = some (.int st) := by
  unfold rowF
  rw [lookup_putF, if_neg k3, lookup_putF, if_pos rfl]
theorem rowF_p (T : Addr) (st ph : Int) : (rowF T st ph).lookup ("phase" : Str) = some (.int ph) := by
  unfold rowF
  rw [lookup_putF, if_pos rfl]
theorem rowF_no (T : Addr) (st ph : Int) {m : Str} (h1 : ¬ m = "phase") (h2 : ¬ m = "step") (h3 : ¬ m = "breakers") : (rowF T st ph).lookup m = none := by
  unfold rowF
  rw [lookup_putF, if_neg h1, lookup_putF, if_neg h2, lookup_putF, if_neg h3]
  all_goals rfl
/-- a Row stands at p -/
structure RowAt (C : Addr) (H : Hp) (p T : Addr) (xs : List V) (ts : List Tri) (st ph : Int) : Prop where
  ob : ∃ dx, H p = some (.ins C dx (rowF T st ph))
  tp : H T = some (.tup xs)
  br : Brs H xs ts
  ok : ∀ t ∈ ts, OkT t
  ln : ts.length ≤ 12
  s0 : 1 ≤ st
  s1 : st ≤ 1000000000000000000000000000000
  p0 : 0 ≤ ph
  p1 : ph ≤ 1000000000000000000000000000000
theorem RowAt.nl {C : Addr} {H H' : Hp} {p T : Addr} {xs : List V} {ts : List Tri} {st ph : Int} (R : RowAt C H p T xs ts st ph) (k : NL H H') : RowAt C H' p T xs ts st ph := by
  obtain ⟨dx, h⟩ := R.ob
  exact ⟨⟨dx, k _ _ h fun _ z => nomatch z⟩, k _ _ R.tp fun _ z => (nomatch z), R.br.nl k, R.ok, R.ln, R.s0, R.s1, R.p0, R.p1⟩
/-! ### promises -/
def spIsBr : Sp := fun vs H Q _ => ∃ x t, vs = [x] ∧ BrAt H x t ∧ OkT t ∧ Q (.bl true) H
def spRChk : Sp := fun vs H Q _ => ∃ a xs ts pt, vs = [.ref a, .str pt] ∧ H a = some (.lst xs) ∧ Brs H xs ts ∧ (∀ t ∈ ts, OkT t) ∧ ts.length ≤ 12 ∧ ∀ H', Same H H' → Q .non H'
def spRStep : Sp := fun vs H Q _ => ∃ st : Int, vs = [.int st] ∧ 1 ≤ st ∧ st ≤ 1000000000000000000000000000000 ∧ Q .non H
def spRInit (C : Addr) : Sp := fun vs H Q _ => ∃ p a st ph xs ts dx, vs = [.ref p, .ref a, .int st, .int ph] ∧ H p = some (.ins C dx []) ∧ H a = some (.lst xs) ∧ Brs H xs ts ∧ (∀ t ∈ ts, OkT t) ∧ ts.length ≤ 12 ∧
  (1 ≤ st ∧ st ≤ 1000000000000000000000000000000 ∧ 0 ≤ ph ∧ ph ≤ 1000000000000000000000000000000) ∧ ∀ T H', RowAt C H' p T xs ts st ph → Kp p H H' → Q .non H'
def spRBl (C : Addr) : Sp := fun vs H Q _ => ∃ p T xs ts st ph, vs = [.ref p] ∧ RowAt C H p T xs ts st ph ∧ ∀ l H', H l = none → H' = upd H l (.lst xs) → Q (.ref l) H'
def spRSt (C : Addr) : Sp := fun vs H Q _ => ∃ p T xs ts st ph, vs = [.ref p] ∧ RowAt C H p T xs ts st ph ∧ Q (.int st) H
def spRPh (C : Addr) : Sp := fun vs H Q _ => ∃ p T xs ts st ph, vs = [.ref p] ∧ RowAt C H p T xs ts st ph ∧ Q (.int ph) H
def spRLen (C : Addr) : Sp := fun vs H Q _ => ∃ p T xs ts st ph, vs = [.ref p] ∧ RowAt C H p T xs ts st ph ∧ Q (.int xs.length) H
def spRGet (C : Addr) : Sp := fun vs H Q _ => ∃ p T xs ts st ph i x, vs = [.ref p, .int i] ∧ RowAt C H p T xs ts st ph ∧ 0 ≤ i ∧ atI xs i = some x ∧ i < xs.length ∧ Q x H
def spRCon (C : Addr) : Sp := fun vs H Q _ => ∃ p T xs ts st ph x n, vs = [.ref p, x] ∧ RowAt C H p T xs ts st ph ∧ Kd H x n ∧ Q (.bl (isI x && (decide (ph ≤ toI x) && decide ((toI x - ph) % st = 0)))) H
def spRRt (C : Addr) : Sp := fun vs H Q _ => ∃ p T xs ts st ph i, vs = [.ref p, .int i] ∧ RowAt C H p T xs ts st ph ∧ 0 ≤ i ∧ i ≤ BB ∧ Q (.int (ph + i * st)) H
def spRFr (C : Addr) : Sp := fun vs H Q _ => ∃ p T xs ts st ph i, vs = [.ref p, .int i] ∧ RowAt C H p T xs ts st ph ∧ 0 ≤ i ∧ Q (.int (stepsUp (i - ph) st)) H
theorem row_made {C : Addr} {H : Hp} {Q : Addr → Hp → Prop} {a : Addr} {st ph : Int} {xs : List V} {ts : List Tri} (ha : H a = some (.lst xs)) (hb : Brs H xs ts) (ho : ∀ t ∈ ts, OkT t) (hl : ts.length ≤ 12)
    (bd : 1 ≤ st ∧ st ≤ 1000000000000000000000000000000 ∧ 0 ≤ ph ∧ ph ≤ 1000000000000000000000000000000) (k : ∀ p T H', RowAt C H' p T xs ts st ph → Same H H' → H p = none → Q p H') :
    ∀ x dx, H x = none → H dx = none → dx ≠ x → spRInit C [.ref x, .ref a, .int st, .int ph] (upd (upd H dx (.own x)) x (.ins C dx [])) (fun v H3 => v = .non ∧ Q x H3) E0 := by
  intro x dx hx hd hne
  have s0 : Same H (upd (upd H dx (.own x)) x (.ins C dx [])) := fun b o e => by
    rw [upd_ne (ne_of_none e hx), upd_ne (ne_of_none e hd)]
    exact e
  refine ⟨x, a, st, ph, xs, ts, dx, rfl, upd_same, s0 _ _ ha, hb.nl (NL.of s0), ho, hl, bd, fun T H' R kp => ⟨rfl, k x T H' R (fun b o e => kp b o (ne_of_none e hx) (s0 b o e)) hx⟩⟩
abbrev RDat := List Tri × Int × Int
/-- what == is asked of -/
inductive EqOf (C : Addr) (H : Hp) (d : RDat) : V → Bool → Prop where
  | row {q U : Addr} {ys : List V} {us : List Tri} {st ph : Int} (R : RowAt C H q U ys us st ph) : EqOf C H d (.ref q) (decide (d = (us, st, ph)))
  | non : EqOf C H d .non false
  | lst {a : Addr} {xs : List V} (e : H a = some (.lst xs)) : EqOf C H d (.ref a) false
  | tup {a : Addr} {xs : List V} (e : H a = some (.tup xs)) : EqOf C H d (.ref a) false
theorem EqOf.nl {C : Addr} {H H' : Hp} {d : RDat} {v : V} {b : Bool} (h : EqOf C H d v b) (k : Same H H') : EqOf C H' d v b := by
  cases h with
  | row R => exact .row (R.nl (NL.of k))
  | non => exact .non
  | lst e => exact .lst (k _ _ e)
  | tup e => exact .tup (k _ _ e)
/-- breakers as data -/
def triD (t : Tri) : PyData := .tuple [.int t.1, .int t.2.1, .int t.2.2]
theorem Brs.dp {K : PySem.W.Frag} {H : Hp} : ∀ {xs : List V} {ts : List Tri}, Brs H xs ts → DpAll K H xs (ts.map triD)
  | _, _, .nil => .nil
  | _, _, .cons ⟨a, e, h⟩ t => by
    subst e
    exact .cons (.tup (SqT.of h) (.cons (.int _) (.cons (.int _) (.cons (.int _) .nil)))) (Brs.dp t)
theorem triD_eq (t u : Tri) : PyData.eqv (triD t) (triD u) = decide (t = u) := by
  obtain ⟨a, b, c⟩ := t
  obtain ⟨a', b', c'⟩ := u
  simp only [triD, PyData.eqv, PyData.eqvAll, Bool.and_true]
  rw [Bool.eq_iff_iff]
  simp [Prod.ext_iff]
theorem triDs_eq : ∀ ts us : List Tri, PyData.eqvAll (ts.map triD) (us.map triD) = decide (ts = us)
  | [], [] => by simp [PyData.eqvAll]
  | [], _ :: _ => by simp [PyData.eqvAll]
  | _ :: _, [] => by simp [PyData.eqvAll]
  | t :: ts, u :: us => by
    rw [List.map_cons, List.map_cons, PyData.eqvAll, triD_eq, triDs_eq ts us, Bool.eq_iff_iff]
    simp
theorem canAll : ∀ ts : List Tri, PyData.canLayAll0 (ts.map triD) = true
  | [] => by simp [PyData.canLayAll0]
  | t :: ts => by
    rw [List.map_cons, PyData.canLayAll0, canAll ts]
    simp [triD, PyData.canLay0, PyData.canLayAll0]
theorem depAll : ∀ ts : List Tri, PyData.depthAll (ts.map triD) ≤ 10
  | [] => by simp [PyData.depthAll]
  | t :: ts => by
    have := depAll ts
    rw [List.map_cons, PyData.depthAll]
    have h2 : (triD t).depth ≤ 10 := by simp [triD, PyData.depth, PyData.depthAll]
    omega
theorem shT (ts : List Tri) : SeqAt.shaped (.tuple (ts.map triD)) = true := by
  refine Bool.and_eq_true_iff.mpr ⟨?_, decide_eq_true ?_⟩
  · rw [PyData.canLay0]
    exact canAll ts
  · have := depAll ts
    rw [PyData.depth]
    omega

theorem wide200 {i j : Int} (h1 : i.natAbs < 2 ^ 200) (h2 : j.natAbs < 2 ^ 200) : CMulW i j := wide_mul h1 h2 (by decide) (by decide) (by decide)
theorem lt200 {i : Int} (h0 : 0 ≤ i) (h : i ≤ 1000000000000000000000000000000) : i.natAbs < 2 ^ 200 := Nat.lt_of_le_of_lt (show i.natAbs ≤ 1000000000000000000000000000000 by omega) (by decide)
theorem log200 {i : Int} (h0 : 1 ≤ i) (h : i ≤ 1000000000000000000000000000000) : i.natAbs.log2 < 9000 := (wide_div (by omega : 0 < i) (lt200 (by omega) h) (by decide) (by decide) (i := 0)).2
theorem st_bb {s : Int} (h : s ≤ 1000000000000000000000000000000) : s ≤ BB := Int.le_trans h (Int.le_trans (PB_of (n := 100) (by decide +kernel)) (PB_le (by decide)))
theorem k6_pos {P : Prop} {q : Prop} [Decidable P] [Decidable q] (h : P) (h' : q) : (decide P && decide q) = true := by rw [decide_eq_true h, decide_eq_true h']; rfl
section
variable {P : Program} {w : World} {K : PySem.W.Frag} {mg : Str → Option Value} {base : Heap} {L : LA}
abbrev N_isbreaker : List Str := ["value", "failures", "wait", "successes"]
theorem sc_isbreaker : FnScope N_isbreaker ["value"] (defScope st_is_breaker) := ⟨rfl, rfl, rfl, by decide +kernel, rfl, by decide +kernel, by decide +kernel⟩
theorem fn_isbreaker (T : LX K mg L) {fd : FuncData} (F : Fun K "is_breaker" "is_breaker" st_is_breaker L.f_is_breaker fd) : FnOk P w K mg base CX0 3 L.f_is_breaker fd ["value"] (spIsBr) := by
  have G_iswithin := ok_iswithin (P := P) (w := w) (base := base) T
  obtain ⟨tk_MOST_COUNT, c_MOST_COUNT⟩ := T.n_MOST_COUNT
  obtain ⟨tk_MOST_TIME, c_MOST_TIME⟩ := T.n_MOST_TIME
  have nd := sc_isbreaker.nd
  refine F.ok sc_isbreaker (fun vs H Q E h => ?_) (fun cdv A outer S H vs Q E hr h => ?_)
  · obtain ⟨x, t, rfl, _⟩ := h
    rfl
  · obtain ⟨x, t, rfl, ⟨a, rfl, ha⟩, ⟨h1, h2, h3, h4, h5, h6⟩, k⟩ := h
    refine ⟨_, (pss_cons (ps_if (PW.pt (pw_or (pt_not (pt_val (pe_callB call_isi (by rfl) T.b_isinstance (by decide +kernel) (pa_cons (pv 0) (pa_cons (pe_bltn (by rfl) T.b_tuple (by decide +kernel : bootBuiltins "tuple" = some (.type "tuple")) (v := .ty "tuple") rfl) pa_nil))))) (pw_or1 (pt_cmpR op_ne (pe_callB call_len_seq (by rfl) T.b_len PySem.boot_len (pa_cons (pv 0) pa_nil)) pe_int (nomark _))))) (pss_one (ps_ret pe_bl)) pss_nil)
       (pss_cons (ps_asg (pv 0) (pg_tup rfl (pgs_cons (pg_name (i := 1) nd rfl (Or.inl rfl)) (pgs_cons (pg_name (i := 2) nd rfl (Or.inl rfl)) (pgs_cons (pg_name (i := 3) nd rfl (Or.inl rfl)) pgs_nil)))))
       (pss_one (ps_ret (pe_and (pe_c G_iswithin (hr.mono (by decide)) rfl (pa_cons (pv 1) (pa_cons pe_int (pa_cons (pe_gI c_MOST_COUNT) pa_nil)))) (pe_and (pe_c G_iswithin (hr.mono (by decide)) rfl (pa_cons (pv 2) (pa_cons pe_int (pa_cons (pe_gI c_MOST_TIME) pa_nil)))) (pe_one (pe_c G_iswithin (hr.mono (by decide)) rfl (pa_cons (pv 3) (pa_cons pe_int (pa_cons (pe_gI c_MOST_COUNT) pa_nil))))))))))), ?_⟩
    refine ⟨_, rfl, _, .ty "tuple", _, _, _, rfl, .ty "tuple", (Kd.tup ha).ty, (Kd.tup ha).kit "tuple" _ (.inr ⟨by decide, by decide, rfl⟩), _, rfl, iteF ?_⟩
    refine ⟨_, rfl, a, _, rfl, .inr (SqT.of ha), rfl, _, rfl, iteF ?_⟩
    refine ⟨_, rfl, a, _, rfl, SqT.of ha, rfl, _, _, rfl, _, _, rfl, _, _, rfl, rfl, ?_⟩
    refine ⟨_, rfl, _, _, _, _, rfl, .int _, _, rfl, ?_⟩
    have e1 : (decide ((1 : Int) ≤ t.1) && decide (t.1 ≤ 1000000000000)) = true := k6_pos h1 h2
    have e2 : (decide ((1 : Int) ≤ t.2.1) && decide (t.2.1 ≤ 1000000000000000000000000000000)) = true := k6_pos h3 h4
    have e3 : (decide ((1 : Int) ≤ t.2.2) && decide (t.2.2 ≤ 1000000000000)) = true := k6_pos h5 h6
    show if (decide ((1 : Int) ≤ t.1) && decide (t.1 ≤ 1000000000000)) = true then _ else _
    rw [e1]
    refine iteT ?_
    refine ⟨_, rfl, _, _, _, _, rfl, .int _, _, rfl, ?_⟩
    show if (decide ((1 : Int) ≤ t.2.1) && decide (t.2.1 ≤ 1000000000000000000000000000000)) = true then _ else _
    rw [e2]
    refine iteT ?_
    refine ⟨_, rfl, _, _, _, _, rfl, .int _, ?_⟩
    show Q (.bl (decide ((1 : Int) ≤ t.2.2) && decide (t.2.2 ≤ 1000000000000))) H
    rw [e3]
    exact k
theorem ok_isbreaker (T : LX K mg L) : Cal P w K mg base "is_breaker" 3 L.f_is_breaker ["value"] (spIsBr) := T.d_is_breaker.cal fun fd F => fn_isbreaker T F
abbrev N_checkbreakers : List Str := ["breakers", "part", "at", "breaker"]
theorem sc_checkbreakers : FnScope N_checkbreakers ["breakers", "part"] (defScope st_check_breakers) := ⟨rfl, rfl, rfl, by decide +kernel, rfl, by decide +kernel, by decide +kernel⟩
theorem fn_checkbreakers (T : LX K mg L) {fd : FuncData} (F : Fun K "check_breakers" "check_breakers" st_check_breakers L.f_check_breakers fd) : FnOk P w K mg base CX0 4 L.f_check_breakers fd ["breakers", "part"] (spRChk) := by
  obtain ⟨tk_MOST_BREAKERS, c_MOST_BREAKERS⟩ := T.n_MOST_BREAKERS
  have G_isbreaker := ok_isbreaker (P := P) (w := w) (base := base) T
  have nd := sc_checkbreakers.nd
  refine F.ok sc_checkbreakers (fun vs H Q E h => ?_) (fun cdv A outer S H vs Q E hr h => ?_)
  · obtain ⟨a, xs, ts, pt, rfl, _⟩ := h
    rfl
  · obtain ⟨a, xs, ts, pt, rfl, ha, hb, ho, hl, k⟩ := h
    refine ⟨_, (pss_cons (ps_if (PW.pt (pw_or (pt_not (pt_val (pe_callB call_isi (by rfl) T.b_isinstance (by decide +kernel) (pa_cons (pv 0) (pa_cons (pe_bltn (by rfl) T.b_list (by decide +kernel : bootBuiltins "list" = some (.type "list")) (v := .ty "list") rfl) pa_nil))))) (pw_or1 (pt_cmpR op_gt (pe_callB call_len_seq (by rfl) T.b_len PySem.boot_len (pa_cons (pv 0) pa_nil)) (pe_gI c_MOST_BREAKERS) (nomark _))))) (pss_one (ps_never)) pss_nil)
       (pss_one (ps_for PassesOwn.never rfl (pi_enum (by rfl) T.b_enumerate (pa_cons (pv 0) pa_nil)) (pg_tup rfl (pgs_cons (pg_name (i := 2) nd rfl (Or.inl rfl)) (pgs_cons (pg_name (i := 3) nd rfl (Or.inl rfl)) pgs_nil))) (pss_one (ps_if (pt_not (pt_val (pe_c G_isbreaker (hr.mono (by decide)) rfl (pa_cons (pv 3) pa_nil)))) (pss_one (ps_never)) pss_nil))))), ?_⟩
    refine ⟨_, rfl, _, .ty "list", _, _, _, rfl, .ty "list", (Kd.lst ha).ty, (Kd.lst ha).kit "list" _ (.inr ⟨by decide, by decide, rfl⟩), _, rfl, iteF ?_⟩
    refine ⟨_, rfl, a, _, rfl, .inl (SqL.of ha), _, _, rfl, rfl, _, rfl, ?_⟩
    have hn : ¬ ((12 : Int) < (xs.length : Nat)) := by rw [hb.len]; omega
    rw [decide_eq_false hn]
    refine iteF ?_
    refine ⟨_, rfl, a, xs, rfl, SqL.of ha, for_enum (K := K) (a := a) (xs := xs) (fun i σ H2 => ∃ u v : Option V, σ = [some (.ref a), some (.str pt), u, v] ∧ Same H H2) ⟨none, none, rfl, Same.refl H⟩ (fun i σ H2 _ ⟨_, _, _, s2⟩ => SqL.of (s2 _ _ ha)) ?_ ?_⟩
    · rintro i x T' σ H2 hx ⟨u, v, rfl, s2⟩ hT
      obtain ⟨t, ht, hbr⟩ := hb.get hx
      have s3 : Same H (upd H2 T' (.tup [.int (i : Nat), x])) := s2.trans (Same.upd hT)
      refine ⟨T', _, rfl, SqT.of upd_same, rfl, _, _, rfl, _, _, rfl, rfl, ?_⟩
      refine ⟨_, rfl, x, t, rfl, hbr.nl (NL.of s3), ho t (List.mem_of_getElem? ht), _, rfl, iteF ?_⟩
      exact ⟨_, _, rfl, s3⟩
    · rintro σ H2 ⟨u, v, rfl, s2⟩
      exact k H2 s2
theorem ok_checkbreakers (T : LX K mg L) : Cal P w K mg base "check_breakers" 4 L.f_check_breakers ["breakers", "part"] (spRChk) := T.d_check_breakers.cal fun fd F => fn_checkbreakers T F
abbrev N_checkstep : List Str := ["step"]
theorem sc_checkstep : FnScope N_checkstep ["step"] (defScope st_check_step) := ⟨rfl, rfl, rfl, by decide +kernel, rfl, by decide +kernel, by decide +kernel⟩
theorem fn_checkstep (T : LX K mg L) {fd : FuncData} (F : Fun K "check_step" "check_step" st_check_step L.f_check_step fd) : FnOk P w K mg base CX0 3 L.f_check_step fd ["step"] (spRStep) := by
  have G_iswithin := ok_iswithin (P := P) (w := w) (base := base) T
  obtain ⟨tk_MOST_TIME, c_MOST_TIME⟩ := T.n_MOST_TIME
  have nd := sc_checkstep.nd
  refine F.ok sc_checkstep (fun vs H Q E h => ?_) (fun cdv A outer S H vs Q E hr h => ?_)
  · obtain ⟨st, rfl, _⟩ := h
    rfl
  · obtain ⟨st, rfl, b1, b2, k⟩ := h
    refine ⟨_, (pss_one (ps_if (pt_not (pt_val (pe_c G_iswithin (hr.mono (by decide)) rfl (pa_cons (pv 0) (pa_cons pe_int (pa_cons (pe_gI c_MOST_TIME) pa_nil)))))) (pss_one (ps_never)) pss_nil)), ?_⟩
    have e1 : (decide ((1 : Int) ≤ st) && decide (st ≤ 1000000000000000000000000000000)) = true := k6_pos b1 b2
    refine ⟨_, rfl, _, _, _, _, rfl, .int _, _, rfl, ?_⟩
    show if (!(decide ((1 : Int) ≤ st) && decide (st ≤ 1000000000000000000000000000000))) = true then _ else _
    rw [e1]
    exact iteF k
theorem ok_checkstep (T : LX K mg L) : Cal P w K mg base "check_step" 3 L.f_check_step ["step"] (spRStep) := T.d_check_step.cal fun fd F => fn_checkstep T F
abbrev N_Rowinit : List Str := ["self", "breakers", "step", "phase"]
theorem sc_Rowinit : FnScope N_Rowinit ["self", "breakers", "step", "phase"] (defScope st_Row_init) := ⟨rfl, rfl, rfl, by decide +kernel, rfl, by decide +kernel, by decide +kernel⟩
theorem fn_Rowinit (T : LX K mg L) {fd : FuncData} (F : Fun K "__init__" "Row.__init__" st_Row_init L.i_Row fd) : FnOk P w K mg base CX0 5 L.i_Row fd ["self", "breakers", "step", "phase"] (spRInit L.c_Row) := by
  have G_checkbreakers := ok_checkbreakers (P := P) (w := w) (base := base) T
  have G_checkstep := ok_checkstep (P := P) (w := w) (base := base) T
  have G_iswithin := ok_iswithin (P := P) (w := w) (base := base) T
  obtain ⟨tk_MOST_TIME, c_MOST_TIME⟩ := T.n_MOST_TIME
  have nd := sc_Rowinit.nd
  refine F.ok sc_Rowinit (fun vs H Q E h => ?_) (fun cdv A outer S H vs Q E hr h => ?_)
  · obtain ⟨p, a, st, ph, xs, ts, dx, rfl, _⟩ := h
    rfl
  · obtain ⟨p, a, st, ph, xs, ts, dx, rfl, hp, ha, hb, ho, hl, ⟨b1, b2, b3, b4⟩, k⟩ := h
    refine ⟨_, (pss_cons (ps_expr (pe_c G_checkbreakers (hr.mono (by decide)) rfl (pa_cons (pv 1) (pa_cons pe_str pa_nil))))
       (pss_cons (ps_expr (pe_c G_checkstep (hr.mono (by decide)) rfl (pa_cons (pv 2) pa_nil)))
       (pss_cons (ps_if (pt_not (pt_val (pe_c G_iswithin (hr.mono (by decide)) rfl (pa_cons (pv 3) (pa_cons pe_int (pa_cons (pe_gI c_MOST_TIME) pa_nil)))))) (pss_one (ps_never)) pss_nil)
       (pss_cons (ps_fld (pv 0) (pe_callTy call_tuple_of (by rfl) T.b_tuple (by decide +kernel) (pa_cons (pv 1) pa_nil)) rfl)
       (pss_cons (ps_fld (pv 0) (pv 2) rfl)
       (pss_one (ps_fld (pv 0) (pv 3) rfl))))))), ?_⟩
    refine ⟨_, rfl, a, xs, ts, _, rfl, ha, hb, ho, hl, fun H1 s1 => ?_⟩
    have e2 : (decide ((0 : Int) ≤ ph) && decide (ph ≤ 1000000000000000000000000000000)) = true := k6_pos b3 b4
    refine ⟨_, rfl, _, rfl, b1, b2, ?_⟩
    refine ⟨_, rfl, _, _, _, _, rfl, .int _, _, rfl, ?_⟩
    show if (!(decide ((0 : Int) ≤ ph) && decide (ph ≤ 1000000000000000000000000000000))) = true then _ else _
    rw [e2]
    refine iteF ?_
    have hp1 := s1 _ _ hp
    refine ⟨_, rfl, a, xs, rfl, .inl ⟨SqL.of (s1 _ _ ha), fun l hl' => ?_⟩⟩
    have npl : p ≠ l := ne_of_none hp1 hl'
    refine ⟨_, rfl, p, L.c_Row, dx, [], rfl, (by rw [upd_ne npl]; exact hp1), T.cf_Row.cl, T.nf_Row_breakers, (by show 0 < 1000; decide), ?_⟩
    refine ⟨_, rfl, _, rfl, p, L.c_Row, dx, _, rfl, upd_same, T.cf_Row.cl, T.nf_Row_step, Nat.lt_of_le_of_lt (putF_len _ _ [] (Nat.le_refl 0)) (by decide), ?_⟩
    refine ⟨_, rfl, _, rfl, p, L.c_Row, dx, _, rfl, upd_same, T.cf_Row.cl, T.nf_Row_phase, Nat.lt_of_le_of_lt (putF_len _ _ _ (putF_len _ _ [] (Nat.le_refl 0))) (by decide), ?_⟩
    refine k l _ ⟨⟨dx, upd_same⟩, ?_, ?_, ho, hl, b1, b2, b3, b4⟩ ?_
    · rw [upd_ne npl.symm, upd_ne npl.symm, upd_ne npl.symm, upd_same]
    · refine L2.Paired.mapP hb fun x t ⟨b, e, h⟩ => ⟨b, e, ?_⟩
      have nbp : b ≠ p := ne_of h hp (by intro z; cases z)
      have h1 := s1 _ _ h
      rw [upd_ne nbp, upd_ne nbp, upd_ne nbp, upd_ne (ne_of_none h1 hl')]
      exact h1
    · intro b o n e
      have h1 := s1 _ _ e
      rw [upd_ne n, upd_ne n, upd_ne n, upd_ne (ne_of_none h1 hl')]
      exact h1
abbrev N_Rowbreakerlist : List Str := ["self"]
theorem sc_Rowbreakerlist : FnScope N_Rowbreakerlist ["self"] (defScope st_Row_breaker_list) := ⟨rfl, rfl, rfl, by decide +kernel, rfl, by decide +kernel, by decide +kernel⟩
theorem fn_Rowbreakerlist (T : LX K mg L) {fd : FuncData} (F : Fun K "breaker_list" "Row.breaker_list" st_Row_breaker_list L.m_Row_breaker_list fd) : FnOk P w K mg base CX0 1 L.m_Row_breaker_list fd ["self"] (spRBl L.c_Row) := by
  have nd := sc_Rowbreakerlist.nd
  refine F.ok sc_Rowbreakerlist (fun vs H Q E h => ?_) (fun cdv A outer S H vs Q E hr h => ?_)
  · obtain ⟨p, B, xs, ts, st, ph, rfl, _⟩ := h
    rfl
  · obtain ⟨p, B, xs, ts, st, ph, rfl, R, k⟩ := h
    refine ⟨_, (pss_one (ps_ret (pe_callTy call_list_of (by rfl) T.b_list (by decide +kernel) (pa_cons (pe_fld (pv 0) rfl) pa_nil)))), ?_⟩
    obtain ⟨dx, hp⟩ := R.ob
    exact ⟨_, rfl, p, L.c_Row, dx, _, _, rfl, hp, T.cf_Row.cl, T.nf_Row_breakers, rowF_b _ _ _, B, xs, rfl, .inr (SqT.of R.tp), fun l hl' => k l _ hl' rfl⟩
theorem ok_Rowbreakerlist (T : LX K mg L) : Met P w K mg base L.c_Row "breaker_list" 1 L.m_Row_breaker_list ["self"] (spRBl L.c_Row) := T.mm_Row_breaker_list.met fun fd F => fn_Rowbreakerlist T F
abbrev N_Rowsteplength : List Str := ["self"]
theorem sc_Rowsteplength : FnScope N_Rowsteplength ["self"] (defScope st_Row_step_length) := ⟨rfl, rfl, rfl, by decide +kernel, rfl, by decide +kernel, by decide +kernel⟩
theorem fn_Rowsteplength (T : LX K mg L) {fd : FuncData} (F : Fun K "step_length" "Row.step_length" st_Row_step_length L.m_Row_step_length fd) : FnOk P w K mg base CX0 1 L.m_Row_step_length fd ["self"] (spRSt L.c_Row) := by
  have nd := sc_Rowsteplength.nd
  refine F.ok sc_Rowsteplength (fun vs H Q E h => ?_) (fun cdv A outer S H vs Q E hr h => ?_)
  · obtain ⟨p, B, xs, ts, st, ph, rfl, _⟩ := h
    rfl
  · obtain ⟨p, B, xs, ts, st, ph, rfl, R, k⟩ := h
    refine ⟨_, (pss_one (ps_ret (pe_fld (pv 0) rfl))), ?_⟩
    obtain ⟨dx, hp⟩ := R.ob
    exact ⟨_, rfl, p, L.c_Row, dx, _, _, rfl, hp, T.cf_Row.cl, T.nf_Row_step, rowF_s _ _ _, k⟩
theorem ok_Rowsteplength (T : LX K mg L) : Met P w K mg base L.c_Row "step_length" 1 L.m_Row_step_length ["self"] (spRSt L.c_Row) := T.mm_Row_step_length.met fun fd F => fn_Rowsteplength T F
abbrev N_Rowphasetime : List Str := ["self"]
theorem sc_Rowphasetime : FnScope N_Rowphasetime ["self"] (defScope st_Row_phase_time) := ⟨rfl, rfl, rfl, by decide +kernel, rfl, by decide +kernel, by decide +kernel⟩
theorem fn_Rowphasetime (T : LX K mg L) {fd : FuncData} (F : Fun K "phase_time" "Row.phase_time" st_Row_phase_time L.m_Row_phase_time fd) : FnOk P w K mg base CX0 1 L.m_Row_phase_time fd ["self"] (spRPh L.c_Row) := by
  have nd := sc_Rowphasetime.nd
  refine F.ok sc_Rowphasetime (fun vs H Q E h => ?_) (fun cdv A outer S H vs Q E hr h => ?_)
  · obtain ⟨p, B, xs, ts, st, ph, rfl, _⟩ := h
    rfl
  · obtain ⟨p, B, xs, ts, st, ph, rfl, R, k⟩ := h
    refine ⟨_, (pss_one (ps_ret (pe_fld (pv 0) rfl))), ?_⟩
    obtain ⟨dx, hp⟩ := R.ob
    exact ⟨_, rfl, p, L.c_Row, dx, _, _, rfl, hp, T.cf_Row.cl, T.nf_Row_phase, rowF_p _ _ _, k⟩
theorem ok_Rowphasetime (T : LX K mg L) : Met P w K mg base L.c_Row "phase_time" 1 L.m_Row_phase_time ["self"] (spRPh L.c_Row) := T.mm_Row_phase_time.met fun fd F => fn_Rowphasetime T F
abbrev N_Rowlen : List Str := ["self"]
theorem sc_Rowlen : FnScope N_Rowlen ["self"] (defScope st_Row_len) := ⟨rfl, rfl, rfl, by decide +kernel, rfl, by decide +kernel, by decide +kernel⟩
theorem fn_Rowlen (T : LX K mg L) {fd : FuncData} (F : Fun K "__len__" "Row.__len__" st_Row_len L.m_Row_len fd) : FnOk P w K mg base CX0 1 L.m_Row_len fd ["self"] (spRLen L.c_Row) := by
  have nd := sc_Rowlen.nd
  refine F.ok sc_Rowlen (fun vs H Q E h => ?_) (fun cdv A outer S H vs Q E hr h => ?_)
  · obtain ⟨p, B, xs, ts, st, ph, rfl, _⟩ := h
    rfl
  · obtain ⟨p, B, xs, ts, st, ph, rfl, R, k⟩ := h
    refine ⟨_, (pss_one (ps_ret (pe_callB call_len_seq (by rfl) T.b_len PySem.boot_len (pa_cons (pe_fld (pv 0) rfl) pa_nil)))), ?_⟩
    obtain ⟨dx, hp⟩ := R.ob
    exact ⟨_, rfl, p, L.c_Row, dx, _, _, rfl, hp, T.cf_Row.cl, T.nf_Row_breakers, rowF_b _ _ _, B, xs, rfl, .inr (SqT.of R.tp), k⟩
theorem ok_Rowlen (T : LX K mg L) : Met P w K mg base L.c_Row "__len__" 1 L.m_Row_len ["self"] (spRLen L.c_Row) := T.mm_Row_len.met fun fd F => fn_Rowlen T F
abbrev N_Rowgetitem : List Str := ["self", "at"]
theorem sc_Rowgetitem : FnScope N_Rowgetitem ["self", "at"] (defScope st_Row_getitem) := ⟨rfl, rfl, rfl, by decide +kernel, rfl, by decide +kernel, by decide +kernel⟩
theorem fn_Rowgetitem (T : LX K mg L) {fd : FuncData} (F : Fun K "__getitem__" "Row.__getitem__" st_Row_getitem L.m_Row_getitem fd) : FnOk P w K mg base CX0 3 L.m_Row_getitem fd ["self", "at"] (spRGet L.c_Row) := by
  have G_iswithin := ok_iswithin (P := P) (w := w) (base := base) T
  have nd := sc_Rowgetitem.nd
  refine F.ok sc_Rowgetitem (fun vs H Q E h => ?_) (fun cdv A outer S H vs Q E hr h => ?_)
  · obtain ⟨p, B, xs, ts, st, ph, i, x, rfl, _⟩ := h
    rfl
  · obtain ⟨p, B, xs, ts, st, ph, i, x, rfl, R, i0, hx, i1, k⟩ := h
    refine ⟨_, (pss_cons (ps_if (pt_not (pt_val (pe_c G_iswithin (hr.mono (by decide)) rfl (pa_cons (pv 1) (pa_cons pe_int (pa_cons (pe_op op_sub (pe_callB call_len_seq (by rfl) T.b_len PySem.boot_len (pa_cons (pe_fld (pv 0) rfl) pa_nil)) pe_int) pa_nil)))))) (pss_one (ps_never)) pss_nil)
       (pss_one (ps_ret (pe_ix (r := rIxT K) ix_tup (pe_fld (pv 0) rfl) (pv 1) (fun _ _ => rfl))))), ?_⟩
    obtain ⟨dx, hp⟩ := R.ob
    refine ⟨_, rfl, _, rfl, p, L.c_Row, dx, _, _, rfl, hp, T.cf_Row.cl, T.nf_Row_breakers, rowF_b _ _ _, B, xs, rfl, .inr (SqT.of R.tp), _, _, rfl, rfl, _, _, _, _, rfl, .int _, _, rfl, ?_⟩
    have e1 : (decide ((0 : Int) ≤ i) && decide (i ≤ (xs.length : Int) - 1)) = true := k6_pos i0 (by omega)
    show if (!(decide ((0 : Int) ≤ i) && decide (i ≤ (xs.length : Int) - 1))) = true then _ else _
    rw [e1]
    refine iteF ?_
    exact ⟨_, rfl, p, L.c_Row, dx, _, _, rfl, hp, T.cf_Row.cl, T.nf_Row_breakers, rowF_b _ _ _, _, rfl, B, xs, i, x, rfl, rfl, SqT.of R.tp, hx, k⟩
theorem ok_Rowgetitem (T : LX K mg L) : Met P w K mg base L.c_Row "__getitem__" 3 L.m_Row_getitem ["self", "at"] (spRGet L.c_Row) := T.mm_Row_getitem.met fun fd F => fn_Rowgetitem T F
abbrev N_Rowcontains : List Str := ["self", "x"]
theorem sc_Rowcontains : FnScope N_Rowcontains ["self", "x"] (defScope st_Row_contains) := ⟨rfl, rfl, rfl, by decide +kernel, rfl, by decide +kernel, by decide +kernel⟩
theorem fn_Rowcontains (T : LX K mg L) {fd : FuncData} (F : Fun K "__contains__" "Row.__contains__" st_Row_contains L.m_Row_contains fd) : FnOk P w K mg base CX0 3 L.m_Row_contains fd ["self", "x"] (spRCon L.c_Row) := by
  have G_isatleast := ok_isatleast (P := P) (w := w) (base := base) T
  have nd := sc_Rowcontains.nd
  refine F.ok sc_Rowcontains (fun vs H Q E h => ?_) (fun cdv A outer S H vs Q E hr h => ?_)
  · obtain ⟨p, B, xs, ts, st, ph, x, n, rfl, _⟩ := h
    rfl
  · obtain ⟨p, B, xs, ts, st, ph, x, n, rfl, R, hx, k⟩ := h
    refine ⟨_, (pss_one (ps_ret (pe_and (pe_c G_isatleast (hr.mono (by decide)) rfl (pa_cons (pv 1) (pa_cons (pe_fld (pv 0) rfl) pa_nil))) (pe_one (pe_cmpR op_eq (pe_op op_mod (pe_op op_sub (pv 1) (pe_fld (pv 0) rfl)) (pe_fld (pv 0) rfl)) pe_int (nomark _)))))), ?_⟩
    obtain ⟨dx, hp⟩ := R.ob
    have s0 := R.s0
    refine ⟨_, rfl, _, rfl, p, L.c_Row, dx, _, _, rfl, hp, T.cf_Row.cl, T.nf_Row_phase, rowF_p _ _ _, x, n, _, rfl, hx, _, rfl, ?_⟩
    refine ite2 (fun c => ?_) (fun c => ?_)
    · cases x with
      | int i =>
        have c' : decide (ph ≤ i) = true := c
        have k' : Q (.bl (decide (ph ≤ i) && decide ((i - ph) % st = 0))) H := k
        rw [c', Bool.true_and] at k'
        refine ⟨_, rfl, _, rfl, p, L.c_Row, dx, _, _, rfl, hp, T.cf_Row.cl, T.nf_Row_phase, rowF_p _ _ _, _, _, rfl, rfl, _, rfl, p, L.c_Row, dx, _, _, rfl, hp, T.cf_Row.cl, T.nf_Row_step, rowF_s _ _ _, _, _, rfl, rfl, by omega, rfl, ?_⟩
        have e : decide (V.int ((i - ph) % st) = V.int 0) = decide ((i - ph) % st = 0) := by rw [dec_int]; rfl
        rw [e]
        exact k'
      | _ => exact absurd (show false = true from c) Bool.false_ne_true
    · cases x with
      | int i =>
        have c' : decide (ph ≤ i) = false := by
          have c2 : ¬ (decide (ph ≤ i) = true) := c
          simpa using c2
        have k' : Q (.bl (decide (ph ≤ i) && decide ((i - ph) % st = 0))) H := k
        rw [c', Bool.false_and] at k'
        exact k'
      | _ => exact k
theorem ok_Rowcontains (T : LX K mg L) : Met P w K mg base L.c_Row "__contains__" 3 L.m_Row_contains ["self", "x"] (spRCon L.c_Row) := T.mm_Row_contains.met fun fd F => fn_Rowcontains T F
end
section
variable {X : Cx} {L : LA}
theorem row_fn {K : PySem.W.Frag} {mg : Str → Option Value} (T : LX K mg L) : ∃ fd, Fun K "__init__" "Row.__init__" st_Row_init L.i_Row fd ∧ FunD K "__init__" "Row.__init__" (defArgs st_Row_init) (defBody st_Row_init) (defScope st_Row_init) [] [("phase", .int 0)] L.i_Row fd := by
  obtain ⟨fd, F⟩ := T.in_Row
  refine ⟨fd, ?_, F⟩
  obtain ⟨oc, od, dV, kV, doc, pm, an, cdv, ct, osl, rfl, lk, hcd, hD, hK⟩ := F.ex
  rcases hD with ⟨_, rfl⟩ | ⟨e, _⟩
  · exact ⟨⟨oc, od, kV, doc, pm, an, cdv, ct, osl, rfl, lk, hcd⟩, F.kp⟩
  · exact absurd rfl e
theorem row_k1 {K : PySem.W.Frag} {mg : Str → Option Value} (T : LX K mg L) : ∃ fd, Fun K "__init__" "Row.__init__" st_Row_init L.i_Row fd ∧ KBn K fd ["self", "breakers", "step", "phase"] 3 ["phase"] (fun us ws => us ++ ws) (fun us ws => us ++ ws) := by
  obtain ⟨fd, F, FD⟩ := row_fn T
  obtain ⟨mv, h⟩ := FD.kbinds0 (ps := ["self", "breakers", "step", "phase"]) 3 ["phase"] [] (fun us _ ws => us ++ ws) (by simp) (by simp) (fun r1 _ r3 => r1.append r3) (fun D doc pm an cdv ct us mv ws h1 h2 h3 => by
    match us, h1, ws, h3, mv, h2 with
    | [_, _, _], _, [_], _, [], _ => rfl)
  exact ⟨fd, F, h⟩
theorem row_k2 {K : PySem.W.Frag} {mg : Str → Option Value} (T : LX K mg L) : ∃ fd ds, Fun K "__init__" "Row.__init__" st_Row_init L.i_Row fd ∧ Vals [.int 0] ds ∧ Binds K fd ["self", "breakers", "step", "phase"] ds := by
  obtain ⟨fd, F, FD⟩ := row_fn T
  obtain ⟨ds, h1, h2⟩ := FD.binds0 (ps := ["self", "breakers", "step", "phase"]) 3 (by simp) rfl (fun D doc pm an cdv ct us ks h1 h2 => by
    match us, h1, ks, h2 with
    | [_, _, _], _, [_], _ => exact ⟨_, _, _, _, _, _, rfl, rfl, rfl⟩)
  exact ⟨fd, ds, F, h1, h2⟩
/-- Row(e, s, phase=f) -/
theorem pe_mkRow_p_phase (T : LX X.K X.mg L) (hr : Room 6 X.A) {p pos : Pos} {e e2 : Expr} {kws : List Keyword} {t tk : TA} (hg : Gl X "Row") (ha : PA X [e, e2] t) (hkw : PK X kws tk)
    (hall : (backToKw pos (keywordEach kws X.env)).all (·.1.isSome) = true := by rfl) (hks : (backToKw pos (keywordEach kws X.env)).filterMap (·.1) = (["phase"] : List Str) := by rfl)
    (he : starEach (e :: [e2]) X.env = (false, eval e X.env) :: starEach [e2] X.env := by rfl) (hpl : ((backTo pos (starEach (e :: [e2]) X.env)).any (·.1) || (backToKw pos (keywordEach kws X.env)).any (·.1.isNone)) = false := by rfl) :
    PE X (.Call (.Name "Row" p) (e :: [e2]) kws pos) (tMakeK L.c_Row 2 1 (spRInit L.c_Row) (fun us ws => us ++ ws) E0 t tk) := by
  obtain ⟨fd, F, b⟩ := row_k1 T
  exact pe_makeK T.mk_Row (fn_Rowinit T F) hr hg T.gc_Row b pass0 ha hkw hall hks (by decide) he hpl
/-- Row(e, s) -/
theorem pe_mkRow (T : LX X.K X.mg L) (hr : Room 6 X.A) {p pos : Pos} {e e2 : Expr} {t : TA} (hg : Gl X "Row") (ha : PA X [e, e2] t)
    (he : starEach (e :: [e2]) X.env = (false, eval e X.env) :: starEach [e2] X.env := by rfl) (hpl : (backTo pos (starEach [e2] X.env)).any (·.1) = false := by rfl) :
    PE X (.Call (.Name "Row" p) (e :: [e2]) [] pos) (tMake L.c_Row (spRInit L.c_Row) [.int 0] E0 t) := by
  obtain ⟨fd, ds, F, hv, b⟩ := row_k2 T
  exact pe_make T.mk_Row (fn_Rowinit T F) hr hg T.gc_Row b hv pass0 ha (by decide) he hpl
end
/-! ### states of breakers, and data of them -/
abbrev StD := Str × Int
def StAt (H : Hp) (x : V) (s : StD) : Prop := ∃ a, x = .ref a ∧ H a = some (.tup [.str s.1, .int s.2])
abbrev Sts (H : Hp) (xs : List V) (ss : List StD) : Prop := Paired (StAt H) xs ss
theorem StAt.nl {H H' : Hp} (k : NL H H') {x : V} {d : StD} (h : StAt H x d) : StAt H' x d := by
  obtain ⟨a, e, h⟩ := h
  exact ⟨a, e, k _ _ h fun _ z => nomatch z⟩
theorem Sts.nl {H H' : Hp} (k : NL H H') {xs : List V} {ss : List StD} (h : Sts H xs ss) : Sts H' xs ss := L2.Paired.mapP h fun _ _ z => z.nl k
theorem paired_len {α β : Type} {F : α → β → Prop} : ∀ {xs : List α} {ys : List β}, Paired F xs ys → xs.length = ys.length
  | _, _, .nil => rfl
  | _, _, .cons _ p => by rw [List.length_cons, List.length_cons, paired_len p]
theorem paired_get {α β : Type} {F : α → β → Prop} : ∀ {xs : List α} {ys : List β} {i : Nat} {x : α}, Paired F xs ys → xs[i]? = some x → ∃ y, ys[i]? = some y ∧ F x y
  | _, _, i, x, .nil, e => by cases e
  | _, _, 0, x, .cons h _, e => by cases e; exact ⟨_, rfl, h⟩
  | _, _, i + 1, x, .cons _ p, e => paired_get (i := i) p e
theorem paired_get2 {α β : Type} {F : α → β → Prop} : ∀ {xs : List α} {ys : List β} {i : Nat} {y : β}, Paired F xs ys → ys[i]? = some y → ∃ x, xs[i]? = some x ∧ F x y
  | _, _, i, x, .nil, e => by cases e
  | _, _, 0, x, .cons h _, e => by cases e; exact ⟨_, rfl, h⟩
  | _, _, i + 1, x, .cons _ p, e => paired_get2 (i := i) p e
theorem paired_app {α β : Type} {F : α → β → Prop} : ∀ {xs us : List α} {ys vs : List β}, Paired F xs ys → Paired F us vs → Paired F (xs ++ us) (ys ++ vs)
  | _, _, _, _, .nil, q => q
  | _, _, _, _, .cons h p, q => .cons h (paired_app p q)
theorem StAt.same {H H' : Hp} (s : Same H H') {x : V} {d : StD} (h : StAt H x d) : StAt H' x d := by
  obtain ⟨a, e, h⟩ := h
  exact ⟨a, e, s _ _ h⟩
theorem Sts.same {H H' : Hp} (s : Same H H') {xs : List V} {ss : List StD} (h : Sts H xs ss) : Sts H' xs ss := L2.Paired.mapP h fun _ _ z => z.same s
/-- the breaker passes a request at t -/
def psB (b : Tri) (s : StD) (t : Int) : Prop := s.1 = "open" → b.2.1 ≤ t - s.2
def hfS (s : StD) : StD := if s.1 = "open" then ("half", 0) else s
def okS (b : Tri) (s : StD) : StD := if (hfS s).1 = "half" ∧ (hfS s).2 + 1 < b.2.2 then ("half", (hfS s).2 + 1) else ("closed", 0)
def badS (b : Tri) (s : StD) (t : Int) : StD := if (hfS s).1 = "closed" ∧ (hfS s).2 + 1 < b.1 then ("closed", (hfS s).2 + 1) else ("open", t)
theorem sC_O : ¬ (("closed" : Str) = "open") := by decide +kernel
theorem sH_O : ¬ (("half" : Str) = "open") := by decide +kernel
theorem sO_C : ¬ (("open" : Str) = "closed") := by decide +kernel
theorem sH_C : ¬ (("half" : Str) = "closed") := by decide +kernel
theorem sC_H : ¬ (("closed" : Str) = "half") := by decide +kernel
theorem sO_H : ¬ (("open" : Str) = "half") := by decide +kernel
theorem hf_closed (n : Int) : hfS (("closed" : Str), n) = (("closed" : Str), n) := if_neg sC_O
theorem hf_half (n : Int) : hfS (("half" : Str), n) = (("half" : Str), n) := if_neg sH_O
theorem hf_open (n : Int) : hfS (("open" : Str), n) = (("half" : Str), 0) := if_pos rfl
/-- what is told of a request that k of n breakers pass -/
def outV (n k : Nat) (inS : Bool) : List V := if k < n then [.str "rejected", .int k] else if inS then [.str "failed"] else [.str "served"]
def okW (s : StD) : Prop := s.1 = "closed" ∨ s.1 = "open" ∨ s.1 = "half"
def stD (s : StD) : PyData := .tuple [.str s.1, .int s.2]
theorem Sts.dp {K : PySem.W.Frag} {H : Hp} : ∀ {xs : List V} {ss : List StD}, Sts H xs ss → DpAll K H xs (ss.map stD)
  | _, _, .nil => .nil
  | _, _, .cons ⟨a, e, h⟩ t => by
    subst e
    exact .cons (.tup (SqT.of h) (.cons (.str _) (.cons (.int _) .nil))) (Sts.dp t)
theorem stD_eq (s u : StD) : PyData.eqv (stD s) (stD u) = decide (s = u) := by
  obtain ⟨a, b⟩ := s
  obtain ⟨a', b'⟩ := u
  simp only [stD, PyData.eqv, PyData.eqvAll, Bool.and_true]
  rw [Bool.eq_iff_iff]
  simp [Prod.ext_iff]
theorem stDs_eq : ∀ ss us : List StD, PyData.eqvAll (ss.map stD) (us.map stD) = decide (ss = us)
  | [], [] => by simp [PyData.eqvAll]
  | [], _ :: _ => by simp [PyData.eqvAll]
  | _ :: _, [] => by simp [PyData.eqvAll]
  | t :: ts, u :: us => by
    rw [List.map_cons, List.map_cons, PyData.eqvAll, stD_eq, stDs_eq ts us, Bool.eq_iff_iff]
    simp
theorem sok_W {s : StD} (h : okW s) : PyData.strOk s.1 = true := by
  obtain ⟨a, b⟩ := s
  rcases h with h | h | h
  · have h : a = "closed" := h
    subst h
    show PyData.strOk "closed" = true
    decide +kernel
  · have h : a = "open" := h
    subst h
    show PyData.strOk "open" = true
    decide +kernel
  · have h : a = "half" := h
    subst h
    show PyData.strOk "half" = true
    decide +kernel
theorem canSts : ∀ {ss : List StD}, (∀ s ∈ ss, okW s) → PyData.canLayAll0 (ss.map stD) = true
  | [], _ => by simp [PyData.canLayAll0]
  | t :: ts, h => by
    rw [List.map_cons, PyData.canLayAll0, canSts fun s hs => h s (List.mem_cons_of_mem _ hs)]
    simp [stD, PyData.canLay0, PyData.canLayAll0, sok_W (h t (List.mem_cons_self ..))]
theorem depSts : ∀ ss : List StD, PyData.depthAll (ss.map stD) ≤ 10
  | [] => by simp [PyData.depthAll]
  | t :: ts => by
    have := depSts ts
    rw [List.map_cons, PyData.depthAll]
    have h2 : (stD t).depth ≤ 10 := by simp [stD, PyData.depth, PyData.depthAll]
    omega
theorem shSts {ss : List StD} (h : ∀ s ∈ ss, okW s) : SeqAt.shaped (.list (ss.map stD)) = true := by
  refine Bool.and_eq_true_iff.mpr ⟨?_, decide_eq_true ?_⟩
  · rw [PyData.canLay0]
    exact canSts h
  · have := depSts ss
    rw [PyData.depth]
    omega
theorem Sts.dpl {K : PySem.W.Frag} {H : Hp} {l : Addr} {ys : List V} {ss : List StD} (h : H l = some (.lst ys)) (s : Sts H ys ss) : Dp K H (.ref l) (.list (ss.map stD)) := .lst (SqL.of h) s.dp
theorem eqSts (ss us : List StD) : PyData.eqv (.list (ss.map stD)) (.list (us.map stD)) = decide (ss = us) := by
  rw [PyData.eqv]
  exact stDs_eq ss us
/-! ### the states before all requests -/
theorem sts_rep {H : Hp} {t : Addr} {d : StD} (h : H t = some (.tup [.str d.1, .int d.2])) : ∀ n : Nat, Sts H (List.replicate n (V.ref t)) (List.replicate n d)
  | 0 => .nil
  | n + 1 => .cons ⟨t, rfl, h⟩ (sts_rep h n)
def spClosed : Sp := fun vs H Q _ => ∃ n : Nat, vs = [.int n] ∧ n ≤ 100 ∧ ∀ l ys H', H' l = some (.lst ys) → Sts H' ys (List.replicate n ("closed", 0)) → Same H H' → H l = none → Q (.ref l) H'
section
variable {P : Program} {w : World} {K : PySem.W.Frag} {mg : Str → Option Value} {base : Heap} {L : LA}
end
/-! ### lists of ints as data; what the law asks of told times -/
def intsD (ns : List Int) : PyData := .list (ns.map PyData.int)
theorem ints_dp {K : PySem.W.Frag} {H : Hp} : ∀ ns : List Int, DpAll K H (ns.map V.int) (ns.map PyData.int)
  | [] => .nil
  | n :: ns => .cons (.int n) (ints_dp ns)
theorem canInts : ∀ ns : List Int, PyData.canLayAll0 (ns.map PyData.int) = true
  | [] => by simp [PyData.canLayAll0]
  | n :: ns => by rw [List.map_cons, PyData.canLayAll0, canInts ns]; simp [PyData.canLay0]
theorem depInts : ∀ ns : List Int, PyData.depthAll (ns.map PyData.int) ≤ 10
  | [] => by simp [PyData.depthAll]
  | n :: ns => by
    have := depInts ns
    rw [List.map_cons, PyData.depthAll]
    have h2 : (PyData.int n).depth ≤ 10 := by simp [PyData.depth]
    omega
theorem shInts (ns : List Int) : SeqAt.shaped (intsD ns) = true := by
  refine Bool.and_eq_true_iff.mpr ⟨?_, decide_eq_true ?_⟩
  · unfold intsD
    rw [PyData.canLay0]
    exact canInts ns
  · have := depInts ns
    unfold intsD
    rw [PyData.depth]
    omega
theorem eqInts1 : ∀ ns ms : List Int, PyData.eqvAll (ns.map PyData.int) (ms.map PyData.int) = decide (ns = ms)
  | [], [] => by simp [PyData.eqvAll]
  | [], _ :: _ => by simp [PyData.eqvAll]
  | _ :: _, [] => by simp [PyData.eqvAll]
  | n :: ns, m :: ms => by
    rw [List.map_cons, List.map_cons, PyData.eqvAll, eqInts1 ns ms, Bool.eq_iff_iff]
    simp [PyData.eqv]
theorem eqInts (ns ms : List Int) : PyData.eqv (intsD ns) (intsD ms) = decide (ns = ms) := by
  unfold intsD
  rw [PyData.eqv]
  exact eqInts1 ns ms
theorem Dp.ints {K : PySem.W.Frag} {H : Hp} {a : Addr} {ns : List Int} (h : H a = some (.lst (ns.map V.int))) : Dp K H (.ref a) (intsD ns) := .lst (SqL.of h) (ints_dp ns)
/-! ### rules inside comprehensions -/
theorem call_lenK {X : Cx} {K : PySem.W.Frag} (h : X.K = K) : CallR X (.builtin "len") (fun xs H Q => ∃ p ys, xs = [.ref p] ∧ (SqL K H p ys ∨ SqT K H p ys) ∧ Q (.int ys.length) H) := h ▸ call_len_seq
theorem call_listK {X : Cx} {K : PySem.W.Frag} (h : X.K = K) : CallR X (.type "list") (fun xs H Q => ∃ p ys, xs = [.ref p] ∧ (SqL K H p ys ∨ SqT K H p ys) ∧ ∀ l, H l = none → Q (.ref l) (upd H l (.lst ys))) := h ▸ call_list_of
theorem op_neDK {X : Cx} {K : PySem.W.Frag} (h : X.K = K) (hu : X.A.units + 64 < cLine) : OpR X (compareOp .NotEq) (rNeD K) := h ▸ op_neD hu
theorem op_eqDK {X : Cx} {K : PySem.W.Frag} (h : X.K = K) (hu : X.A.units + 64 < cLine) : OpR X (compareOp .Eq) (rEqD K) := h ▸ op_eqD hu
theorem op_inK {X : Cx} {K : PySem.W.Frag} (h : X.K = K) : OpR X (compareOp CmpOp.In) (rIn K false) := h ▸ op_in_seq
theorem op_notInK {X : Cx} {K : PySem.W.Frag} (h : X.K = K) : OpR X (compareOp CmpOp.NotIn) (rIn K true) := h ▸ op_notIn_seq
/-! ### list.count of strings -/
def eqs (k : Str) (v : Value) : Bool := match v with
  | .str n _ => n == k
  | _ => false
def rCntS (K : PySem.W.Frag) : V → List V → Hp → VK → Prop := fun x xs H Q => ∃ (p : Addr) (ss : List Str) (k : Str), x = .ref p ∧ xs = [.str k] ∧ SqL K H p (ss.map V.str) ∧ Q (.int (ss.countP (fun y => decide (y = k)) : Nat)) H
theorem eqs_at {k : Str} {t : Tok} {A : Around} {s : Shared} : ∀ {ss : List Str} {us : List Value}, Vals (ss.map V.str) us → ∀ y ∈ us, SeqAt.EqAt A s y (.str k t) (eqs k y)
  | [], us, r => by
    rw [List.map_nil] at r
    cases r
    exact fun y hy => nomatch hy
  | n :: ss, us, r => by
    rw [List.map_cons] at r
    cases r with
    | cons r1 r2 =>
      obtain ⟨t', rfl⟩ := r1
      intro y hy
      rcases List.mem_cons.mp hy with q | q
      · rw [q]
        exact SeqAt.EqAt.str_str n t' k t
      · exact eqs_at r2 y q
theorem eqs_count {k : Str} : ∀ {ss : List Str} {us : List Value}, Vals (ss.map V.str) us → us.countP (eqs k) = ss.countP fun y => decide (y = k)
  | [], us, r => by
    rw [List.map_nil] at r
    cases r
    rfl
  | n :: ss, us, r => by
    rw [List.map_cons] at r
    cases r with
    | cons r1 r2 =>
      obtain ⟨t', rfl⟩ := r1
      have ih := eqs_count (k := k) r2
      rw [List.countP_cons, List.countP_cons, ih]
      rfl
theorem mt_scount {X : Cx} : MtR X "list.count" (rCntS X.K) := by
  intro pins s σ H x xs v us Q I rx rxs h
  obtain ⟨p, ns, k, rfl, rfl, hs, q⟩ := h
  cases rx
  obtain ⟨u, rfl, ru⟩ := rxs.one
  obtain ⟨t, rfl⟩ := ru
  obtain ⟨its, rv, ⟨⟨cls, dd, data, sl⟩, n, ho, hc, hdn, hd⟩, hlen⟩ := I.list hs
  simp only at hc hd
  subst hc hd
  refine call_meets PySem.F.slot_list_count ⟨_, ho, rfl⟩ PySem.F.entry_list_count (PySem.F.args_list_count_2 _ _)
    (SeqAt.list_countAt p its.toArray n dd sl (.str k t) (eqs k)) ⟨ho, fun y hy => eqs_at rv y (by simpa using hy), ?_⟩
  have ec : its.toArray.toList.countP (eqs k) = ns.countP fun y => decide (y = k) := eqs_count rv
  refine ⟨.int (ns.countP (fun y => decide (y = k)) : Nat), H, I.tok _, ⟨s.toks, ?_⟩, q⟩
  show Value.int ((its.toArray.toList.countP (eqs k) : Nat) : Int) s.toks = Value.int ((ns.countP (fun y => decide (y = k)) : Nat) : Int) s.toks
  rw [ec]
/-- a comprehension over enumerate -/
theorem lc_enum {K : PySem.W.Frag} {a : Addr} {xs : List V} {g : TG} {tt : TT} {te : TE} {vs : List Nat} {σ : L2.St} {H1 : Hp} {D : Addr} {Qd : Hp → Prop} (Pv : Nat → Hp → Prop) (h0 : Pv 0 (upd H1 D (.lst []))) (hl : ∀ i H, Pv i H → SqL K H a xs)
    (hs : ∀ (i : Nat) (x : V) (T : Addr) (H : Hp), xs[i]? = some x → Pv i H → H T = none → g (.ref T) (wipe σ vs) (upd H T (.tup [.int (i : Nat), x])) fun σ2 H2 => wipe σ2 vs = wipe σ vs ∧ tt σ2 H2 fun b H3 =>
      if b = true then te σ2 H3 fun y H4 => ∃ acc, H4 D = some (.lst acc) ∧ acc.length < sizeLine ∧ Pv (i + 1) (upd H4 D (.lst (acc ++ [y]))) else Pv (i + 1) H3) (hd : ∀ H, Pv xs.length H → Qd H) :
    ∃ W : Nat → Nat → Hp → Prop, (∃ m, W 0 m (upd H1 D (.lst []))) ∧ ∀ i m H, W i m H → ((Ite K a).stop i H ∧ Qd H) ∨ ((Ite K a).go i H ∧ ∃ Nx : Hp → Prop, (∀ H', Nx H' → ∃ m', m' < m ∧ W (i + 1) m' H') ∧ ∀ x H', (Ite K a).yld i H x H' → g x (wipe σ vs) H' fun σ2 H2 => wipe σ2 vs = wipe σ vs ∧ tt σ2 H2 fun b H3 =>
        if b = true then te σ2 H3 fun y H4 => ∃ acc, H4 D = some (.lst acc) ∧ acc.length < sizeLine ∧ Nx (upd H4 D (.lst (acc ++ [y]))) else Nx H3) := by
  refine ⟨fun i m H => m = xs.length - i ∧ i ≤ xs.length ∧ Pv i H, ⟨xs.length, by omega, Nat.zero_le _, h0⟩, ?_⟩
  rintro i m H ⟨rfl, hi, p⟩
  have q := hl i H p
  by_cases hlt : i < xs.length
  · refine .inr ⟨⟨xs, xs[i], q, List.getElem?_eq_getElem hlt⟩, Pv (i + 1), fun H' p' => ⟨xs.length - (i + 1), by omega, rfl, hlt, p'⟩, fun v H' y => ?_⟩
    obtain ⟨T, x', rfl, hT, rfl, f⟩ := y
    exact hs i x' T H (f xs q) p hT
  · have e : i = xs.length := by omega
    subst e
    exact .inl ⟨⟨xs, q, Nat.le_refl _⟩, hd H p⟩
theorem op_powW {X : Cx} : OpR X (binaryOp .Pow) (rI (fun i j => 0 ≤ j ∧ (Builtin.Int.intBits i : Int) * j ≤ 2 ^ 27) fun i j => .int (i ^ j.toNat)) := opI fun _ _ _ _ _ _ _ hc q => PyProof.Rows.pow_int hc.1 hc.2 q
/-! ### the law's own draws -/
/-- a source of draws at a: at most n were drawn -/
def Src (H : Hp) (a : Addr) (n : Nat) : Prop := ∃ x y z : Int, H a = some (.lst [.int x, .int y, .int z]) ∧ 0 ≤ x ∧ 0 ≤ y ∧ y < 2147483647 ∧ 0 ≤ z ∧ z ≤ n
theorem Src.mono {H : Hp} {a : Addr} {n m : Nat} (h : Src H a n) (l : n ≤ m) : Src H a m := by
  obtain ⟨x, y, z, e, h1, h2, h3, h4, h5⟩ := h
  exact ⟨x, y, z, e, h1, h2, h3, h4, by omega⟩
theorem Src.same {H H' : Hp} {a : Addr} {n : Nat} (h : Src H a n) (s : Same H H') : Src H' a n := by
  obtain ⟨x, y, z, e, r⟩ := h
  exact ⟨x, y, z, s _ _ e, r⟩
theorem Src.has {H : Hp} {a : Addr} {n : Nat} (h : Src H a n) : ∃ xs, H a = some (.lst xs) := by
  obtain ⟨x, y, z, e, r⟩ := h
  exact ⟨_, e⟩
def spSrcOf : Sp := fun vs H Q _ => ∃ c, vs = [.int c] ∧ ∀ a H', H a = none → Same H H' → Src H' a 0 → Q (.ref a) H'
def spNext : Sp := fun vs H Q _ => ∃ (a : Addr) (m : Int) (n : Nat), vs = [.ref a, .int m] ∧ 0 < m ∧ m.natAbs < 2 ^ 1100 ∧ Src H a n ∧ n ≤ 900000 ∧ ∀ (r : Int) H', 0 ≤ r → r < m → Src H' a (n + 1101) → Kp a H H' → Q (.int r) H'
def spOne : Sp := fun vs H Q _ => ∃ (a l : Addr) (xs : List V) (n : Nat), vs = [.ref a, .ref l] ∧ a ≠ l ∧ H l = some (.lst xs) ∧ 0 < xs.length ∧ xs.length ≤ 100000 ∧ Src H a n ∧ n ≤ 900000 ∧ ∀ v H', v ∈ xs → Src H' a (n + 1101) → Kp a H H' → Q v H'
def spCell (K : PySem.W.Frag) : Sp := fun vs H Q _ => ∃ (a : Addr) (ns : List Int) (k : Int), vs = [.ref a, .int k] ∧ SqL K H a (ns.map V.int) ∧ 0 ≤ k ∧ ∀ z, Q (.int z) H
def primes : List V := [.int 2147483647, .int 2147483629, .int 2147483587, .int 2147483579, .int 2147483563, .int 2147483549, .int 2147483543]
theorem prime_at (i : Int) (h0 : 0 ≤ i) (h7 : i < 7) : ∃ p : Int, atI primes i = some (.int p) ∧ 0 < p ∧ p ≤ 2147483647 := by
  have : i = 0 ∨ i = 1 ∨ i = 2 ∨ i = 3 ∨ i = 4 ∨ i = 5 ∨ i = 6 := by omega
  rcases this with rfl | rfl | rfl | rfl | rfl | rfl | rfl <;> exact ⟨_, rfl, by decide, by decide⟩
theorem atI_of {α : Type} {xs : List α} {i : Int} (h0 : 0 ≤ i) (h1 : i < xs.length) : ∃ v, atI xs i = some v ∧ v ∈ xs := by
  have hj : i.toNat < xs.length := by omega
  refine ⟨xs[i.toNat], ?_, List.getElem_mem _⟩
  have e : ((i.toNat : Nat) : Int) = i := by omega
  have := atI_nat (xs := xs) (j := i.toNat) (v := xs[i.toNat]) (List.getElem?_eq_getElem hj)
  rwa [e] at this
section
variable {P : Program} {w : World} {K : PySem.W.Frag} {mg : Str → Option Value} {base : Heap} {L : LA}
theorem sc_srcof : FnScope ["_law_cell"] ["_law_cell"] (defScope st__law_source_of) := ⟨rfl, rfl, rfl, by decide +kernel, rfl, by decide +kernel, by decide +kernel⟩
theorem ok_wsourceof (T : LX K mg L) : Cal P w K mg base "_law_source_of" 1 L.f__law_source_of ["_law_cell"] spSrcOf := T.d__law_source_of.cal fun fd F => by
  refine F.ok sc_srcof (fun vs H Q E h => ?_) (fun cdv A outer s H vs Q E hr h => ?_)
  · obtain ⟨c, rfl, _⟩ := h
    rfl
  · obtain ⟨c, rfl, k⟩ := h
    refine ⟨_, pss_one (ps_ret (pe_lst (pa_cons (pe_op op_mul (pv 0) (pe_callTy call_int1 (by rfl) T.b_int (by decide +kernel) (pa_cons (pe_cmpR op_ge (pv 0) (pe_op op_pow pe_int pe_int) (nomark _)) pa_nil)))
      (pa_cons (pe_op op_mod (pe_callTy call_int1 (by rfl) T.b_int (by decide +kernel) (pa_cons (pv 0) pa_nil)) pe_int) (pa_cons pe_int pa_nil))))), ?_⟩
    refine ⟨_, rfl, _, rfl, _, _, rfl, rfl, ⟨by decide, by decide, by decide⟩, _, _, rfl, rfl, .inr ⟨_, rfl, _, _, rfl, rfl, ?_, ?_⟩⟩
    · refine .inr ?_
      split <;> decide
    · refine ⟨_, rfl, .inl ⟨_, rfl, _, _, rfl, rfl, (by show (0 : Int) < 2147483647; decide), ?_⟩⟩
      refine ⟨(by show 3 ≤ sizeLine; decide), fun l hl => ?_⟩
      refine k l _ hl (Same.upd hl) ⟨_, _, _, upd_same, ?_, Int.emod_nonneg _ (by decide), Int.emod_lt_of_pos _ (by decide), Int.le_refl _, Int.le_refl _⟩
      by_cases hc : (10 : Int) ^ (18 : Int).toNat ≤ c
      · rw [decide_eq_true hc, if_pos rfl, Int.mul_one]
        exact Int.le_trans (by decide) hc
      · rw [decide_eq_false hc, if_neg Bool.false_ne_true, Int.mul_zero]
        exact Int.le_refl _
abbrev N_wnext : List Str := ["_law_source", "_law_many", "_law_found", "_law_prime", "_law_figure"]
theorem sc_wnext : FnScope N_wnext ["_law_source", "_law_many"] (defScope st__law_next) := ⟨rfl, rfl, rfl, by decide +kernel, rfl, by decide +kernel, by decide +kernel⟩
theorem fn_wnext (T : LX K mg L) {fd : FuncData} (F : Fun K "_law_next" "_law_next" st__law_next L.f__law_next fd) : FnOk P w K mg base CX0 1 L.f__law_next fd ["_law_source", "_law_many"] (spNext) := by
  have nd := sc_wnext.nd
  refine F.ok sc_wnext (fun vs H Q E h => ?_) (fun cdv A outer S H vs Q E hr h => ?_)
  · obtain ⟨a, m, n, rfl, _⟩ := h
    rfl
  · obtain ⟨a, m, n, rfl, m0, m1, ⟨x, y, z, ha, x0, y0, y1, z0, z1⟩, hn, k⟩ := h
    refine ⟨_, (pss_cons (ps_if (pt_cmpR op_gt (pe_ix (r := rIxL K) ix_list (pv 0) pe_int (fun _ _ => rfl)) pe_int (nomark _)) (pss_cons (ps_set (i := 2) nd rfl (Or.inl rfl) (pe_op op_mod (pe_callTy call_int1 (by rfl) T.b_int (by decide +kernel) (pa_cons (pe_ix (r := rIxL K) ix_list (pv 0) pe_int (fun _ _ => rfl)) pa_nil)) (pv 1)))
       (pss_cons (ps_asg (pe_op op_fdivW (pe_ix (r := rIxL K) ix_list (pv 0) pe_int (fun _ _ => rfl)) (pv 1)) (pg_sub (pv 0) pe_int set_list))
       (pss_one (ps_ret (pv 2))))) pss_nil)
       (pss_cons (ps_asg (pe_op op_add (pe_ix (r := rIxL K) ix_list (pv 0) pe_int (fun _ _ => rfl)) pe_int) (pg_sub (pv 0) pe_int set_list))
       (pss_cons (ps_set (i := 3) nd rfl (Or.inl rfl) (pe_ix (r := rIxL K) ix_list (pe_lst (pa_cons pe_int (pa_cons pe_int (pa_cons pe_int (pa_cons pe_int (pa_cons pe_int (pa_cons pe_int (pa_cons pe_int pa_nil)))))))) (pe_op op_mod (pe_callTy call_int1 (by rfl) T.b_int (by decide +kernel) (pa_cons (pe_ix (r := rIxL K) ix_list (pv 0) pe_int (fun _ _ => rfl)) pa_nil)) pe_int) (fun _ _ => rfl)))
       (pss_cons (ps_set (i := 4) nd rfl (Or.inl rfl) (pe_op op_mod (pe_callTy call_int1 (by rfl) T.b_int (by decide +kernel) (pa_cons (pe_op op_pow (pe_op op_add (pe_op op_add (pe_ix (r := rIxL K) ix_list (pv 0) pe_int (fun _ _ => rfl)) (pe_op op_mulW pe_int (pe_ix (r := rIxL K) ix_list (pv 0) pe_int (fun _ _ => rfl)))) pe_int) pe_int) pa_nil)) (pv 3)))
       (pss_cons (ps_set (i := 4) nd rfl (Or.inl rfl) (pe_op op_mod (pe_callTy call_int1 (by rfl) T.b_int (by decide +kernel) (pa_cons (pe_op op_mulW (pe_op op_add (pv 4) (pe_ix (r := rIxL K) ix_list (pv 0) pe_int (fun _ _ => rfl))) (pe_op op_add (pe_op op_fdivW (pv 4) pe_int) pe_int)) pa_nil)) (pv 3)))
       (pss_one (ps_ret (pe_op op_mod (pe_callTy call_int1 (by rfl) T.b_int (by decide +kernel) (pa_cons (pe_op op_fdivW (pv 4) pe_int) pa_nil)) (pv 1))))))))), ?_⟩
    refine ⟨_, rfl, _, _, _, _, rfl, rfl, SqL.of ha, rfl, _, _, rfl, rfl, _, rfl, ?_⟩
    refine ite2 (fun c => ?_) (fun c => ?_)
    · refine ⟨_, rfl, _, _, _, _, rfl, rfl, SqL.of ha, rfl, .inl ⟨_, rfl, _, rfl, _, _, rfl, rfl, m0, ?_⟩⟩
      refine ⟨_, rfl, _, _, _, _, rfl, rfl, SqL.of ha, rfl, _, rfl, _, _, rfl, rfl, wide_div m0 m1 (by decide) (by decide), ?_⟩
      refine ⟨_, rfl, _, _, _, 0, rfl, rfl, ha, rfl, ?_⟩
      refine ⟨_, rfl, ?_⟩
      refine k _ _ (Int.emod_nonneg _ (by omega)) (Int.emod_lt_of_pos _ m0) ⟨_, _, _, upd_same, Int.ediv_nonneg x0 (by omega), y0, y1, z0, by omega⟩ Kp.upd
    · have zb1 : z ≤ 902000 := by omega
      refine ⟨_, rfl, _, _, _, _, rfl, rfl, SqL.of ha, rfl, _, _, rfl, rfl, ?_⟩
      refine ⟨_, rfl, _, _, _, 2, rfl, rfl, ha, rfl, ?_⟩
      have ha3 : ∀ b o, b ≠ a → (upd (upd H a (.lst [.int x, .int y, .int (z + 1)])) b o) a = some (.lst [.int x, .int y, .int (z + 1)]) := fun b o n => by rw [upd_ne n.symm, upd_same]
      refine ⟨(by show 7 ≤ sizeLine; decide), fun l hl => ?_⟩
      have hla : l ≠ a := fun e => by
        subst e
        have : (upd H l (.lst [.int x, .int y, .int (z + 1)])) l = none := hl
        rw [upd_same] at this
        cases this
      have hA := ha3 l (.lst primes) hla
      refine ⟨_, rfl, _, _, _, _, rfl, rfl, SqL.of hA, rfl, .inl ⟨_, rfl, _, _, rfl, rfl, (by show (0 : Int) < 7; decide), ?_⟩⟩
      obtain ⟨p, hp, p0, p1⟩ := prime_at ((z + 1) % 7) (Int.emod_nonneg _ (by decide)) (Int.emod_lt_of_pos _ (by decide))
      refine ⟨l, primes, _, _, rfl, rfl, SqL.of upd_same, hp, ?_⟩
      have wz : CMulW 7919 (z + 1) := wide_mul (a := 20) (b := 30) (by decide) (Nat.lt_of_le_of_lt (show (z + 1).natAbs ≤ 902001 by omega) (by decide)) (by decide) (by decide) (by decide)
      refine ⟨_, rfl, _, _, _, _, rfl, rfl, SqL.of hA, rfl, _, rfl, _, _, _, _, rfl, rfl, SqL.of hA, rfl, _, _, rfl, rfl, wz, _, _, rfl, rfl, _, _, rfl, rfl, _, _, rfl, rfl, ⟨by decide, by decide, ?_⟩, .inl ⟨_, rfl, _, rfl, _, _, rfl, rfl, p0, ?_⟩⟩
      · omega
      have f0 : 0 ≤ (y + 7919 * (z + 1) + 1) ^ (5 : Int).toNat % p := Int.emod_nonneg _ (by omega)
      have f1 : (y + 7919 * (z + 1) + 1) ^ (5 : Int).toNat % p < p := Int.emod_lt_of_pos _ p0
      have wf : CMulW ((y + 7919 * (z + 1) + 1) ^ (5 : Int).toNat % p + (z + 1)) ((y + 7919 * (z + 1) + 1) ^ (5 : Int).toNat % p / 1009 + 69621) := by
        generalize (y + 7919 * (z + 1) + 1) ^ (5 : Int).toNat % p = fg at f0 f1 ⊢
        have d0 : 0 ≤ fg / 1009 := Int.ediv_nonneg f0 (by decide)
        have d1 : fg / 1009 ≤ fg := Int.ediv_le_self _ f0
        exact wide_mul (a := 40) (b := 40) (Nat.lt_of_le_of_lt (show (fg + (z + 1)).natAbs ≤ 3000000000 by omega) (by decide)) (Nat.lt_of_le_of_lt (show (fg / 1009 + 69621).natAbs ≤ 3000000000 by omega) (by decide)) (by decide) (by decide) (by decide)
      refine ⟨_, rfl, _, rfl, _, _, _, _, rfl, rfl, SqL.of hA, rfl, _, _, rfl, rfl, _, rfl, _, _, rfl, rfl, wide_div (b := 20) (by decide) (by decide) (by decide) (by decide), _, _, rfl, rfl, _, _, rfl, rfl, wf, .inl ⟨_, rfl, _, rfl, _, _, rfl, rfl, p0, ?_⟩⟩
      refine ⟨_, rfl, _, _, rfl, rfl, wide_div (b := 20) (by decide) (by decide) (by decide) (by decide), .inl ⟨_, rfl, _, rfl, _, _, rfl, rfl, m0, ?_⟩⟩
      exact k _ _ (Int.emod_nonneg _ (by omega)) (Int.emod_lt_of_pos _ m0) ⟨_, _, _, hA, x0, y0, y1, by omega, by omega⟩ (Kp.upd.trans (Kp.of (Same.upd hl)))
theorem ok_wnext (T : LX K mg L) : Cal P w K mg base "_law_next" 1 L.f__law_next ["_law_source", "_law_many"] (spNext) := T.d__law_next.cal fun fd F => fn_wnext T F
abbrev N_wone : List Str := ["_law_source", "_law_options"]
theorem sc_wone : FnScope N_wone ["_law_source", "_law_options"] (defScope st__law_one) := ⟨rfl, rfl, rfl, by decide +kernel, rfl, by decide +kernel, by decide +kernel⟩
theorem fn_wone (T : LX K mg L) {fd : FuncData} (F : Fun K "_law_one" "_law_one" st__law_one L.f__law_one fd) : FnOk P w K mg base CX0 2 L.f__law_one fd ["_law_source", "_law_options"] (spOne) := by
  have G_wnext := ok_wnext (P := P) (w := w) (base := base) T
  have nd := sc_wone.nd
  refine F.ok sc_wone (fun vs H Q E h => ?_) (fun cdv A outer S H vs Q E hr h => ?_)
  · obtain ⟨a, l, xs, n, rfl, _⟩ := h
    rfl
  · obtain ⟨a, l, xs, n, rfl, hal, hl, x0, x1, hs, hn, k⟩ := h
    refine ⟨_, (pss_one (ps_ret (pe_ix (r := rIxL K) ix_list (pv 1) (pe_c G_wnext (hr.mono (by decide)) rfl (pa_cons (pv 0) (pa_cons (pe_callB call_len_seq (by rfl) T.b_len PySem.boot_len (pa_cons (pv 1) pa_nil)) pa_nil))) (fun _ _ => rfl)))), ?_⟩
    refine ⟨_, rfl, _, rfl, _, rfl, l, xs, rfl, .inl (SqL.of hl), a, _, n, rfl, by omega, ?_, hs, hn, fun r H' r0 r1 hs' hk => ?_⟩
    · exact Nat.lt_of_le_of_lt (show ((xs.length : Int)).natAbs ≤ 100000 by omega) (by decide)
    · obtain ⟨v, hv, hm⟩ := atI_of (xs := xs) r0 r1
      exact ⟨l, xs, r, v, rfl, rfl, SqL.of (hk _ _ hal.symm hl), hv, k v H' hm hs' hk⟩
theorem ok_wone (T : LX K mg L) : Cal P w K mg base "_law_one" 2 L.f__law_one ["_law_source", "_law_options"] (spOne) := T.d__law_one.cal fun fd F => fn_wone T F
abbrev N_wcellat : List Str := ["_law_script", "_law_k"]
theorem sc_wcellat : FnScope N_wcellat ["_law_script", "_law_k"] (defScope st__law_cell_at) := ⟨rfl, rfl, rfl, by decide +kernel, rfl, by decide +kernel, by decide +kernel⟩
theorem fn_wcellat (T : LX K mg L) {fd : FuncData} (F : Fun K "_law_cell_at" "_law_cell_at" st__law_cell_at L.f__law_cell_at fd) : FnOk P w K mg base CX0 1 L.f__law_cell_at fd ["_law_script", "_law_k"] (spCell K) := by
  have nd := sc_wcellat.nd
  refine F.ok sc_wcellat (fun vs H Q E h => ?_) (fun cdv A outer S H vs Q E hr h => ?_)
  · obtain ⟨a, ns, i, rfl, _⟩ := h
    rfl
  · obtain ⟨a, ns, i, rfl, hS, i0, k⟩ := h
    refine ⟨_, (pss_cons (ps_if (pt_cmpR op_lt (pv 1) (pe_callB call_len_seq (by rfl) T.b_len PySem.boot_len (pa_cons (pv 0) pa_nil)) (nomark _)) (pss_one (ps_ret (pe_ix (r := rIxL K) ix_list (pv 0) (pv 1) (fun _ _ => rfl)))) pss_nil)
       (pss_one (ps_ret pe_int))), ?_⟩
    refine ⟨_, rfl, _, rfl, a, _, rfl, .inl hS, _, _, rfl, rfl, _, rfl, ?_⟩
    refine ite2 (fun c => ?_) (fun c => ?_)
    · have c' : i < ((ns.map V.int).length : Nat) := of_decide_eq_true c
      obtain ⟨v, hv, hm⟩ := atI_of (xs := ns.map V.int) i0 c'
      obtain ⟨z, _, rfl⟩ := List.mem_map.mp hm
      exact ⟨_, rfl, _, rfl, a, _, _, _, rfl, rfl, hS, hv, k z⟩
    · exact k 0
theorem ok_wcellat (T : LX K mg L) : Cal P w K mg base "_law_cell_at" 1 L.f__law_cell_at ["_law_script", "_law_k"] (spCell K) := T.d__law_cell_at.cal fun fd F => fn_wcellat T F
end
theorem draw_gen {P : Program} {w : World} {mg : Str → Option Value} {t : TA} {σ : L2.St} {H : Hp} {Q : VK} {a : Addr} {n : Nat} {ns : List Int} {hi : Int} {j : Nat} (σ0 : σ[j]? = some (some (.ref a))) (hs : Src H a n) (hn : n ≤ 898000) (ht : ∀ R : List V → Hp → Prop, R (ns.map V.int) H → t σ H R)
    (h0 : 0 < ns.length) (h1 : ns.length ≤ 1000) (hb : ∀ m ∈ ns, 0 < m ∧ m ≤ hi) (hh : hi.natAbs < 2 ^ 1100) (k : ∀ (r : Int) H', 0 ≤ r → r < hi → (∃ m ∈ ns, r < m) → Src H' a (n + 2202) → Kp a H H' → Q (.int r) H') :
    tCall spNext [] E0 (tCons (tVar j) (tCons (tCall spOne [] E0 (tCons (tVar j) (tCons (tLst t) tNil))) tNil)) σ H Q := by
  obtain ⟨ys, hy⟩ := hs.has
  refine ⟨_, σ0, _, σ0, ht _ ⟨(by rw [List.length_map]; exact Nat.le_trans h1 (by decide)), fun l hl => ?_⟩⟩
  have hal : a ≠ l := ne_of_none hy hl
  refine ⟨a, l, ns.map V.int, n, rfl, hal, upd_same, (by rw [List.length_map]; exact h0), (by rw [List.length_map]; omega), hs.same (Same.upd hl), by omega, fun v H1 hv hs1 k1 => ?_⟩
  obtain ⟨m, hm, rfl⟩ := List.mem_map.mp hv
  obtain ⟨m0, m1⟩ := hb m hm
  refine ⟨a, m, n + 1101, rfl, m0, Nat.lt_of_le_of_lt (show m.natAbs ≤ hi.natAbs by omega) hh, hs1, by omega, fun r H2 r0 r1 hs2 k2 => ?_⟩
  exact k r H2 r0 (by omega) ⟨m, hm, r1⟩ hs2 ((Kp.of (Same.upd hl)).trans (k1.trans k2))
theorem choice_gen {P : Program} {w : World} {mg : Str → Option Value} {t : TA} {σ : L2.St} {H : Hp} {Q : VK} {a : Addr} {n : Nat} {ns : List Int} {j : Nat} (σ0 : σ[j]? = some (some (.ref a))) (hs : Src H a n) (hn : n ≤ 898000) (ht : ∀ R : List V → Hp → Prop, R (ns.map V.int) H → t σ H R)
    (h0 : 0 < ns.length) (h1 : ns.length ≤ 1000) (k : ∀ (m : Int) H', m ∈ ns → Src H' a (n + 1101) → Kp a H H' → Q (.int m) H') :
    tCall spOne [] E0 (tCons (tVar j) (tCons (tLst t) tNil)) σ H Q := by
  obtain ⟨ys, hy⟩ := hs.has
  refine ⟨_, σ0, ht _ ⟨(by rw [List.length_map]; exact Nat.le_trans h1 (by decide)), fun l hl => ?_⟩⟩
  have hal : a ≠ l := ne_of_none hy hl
  refine ⟨a, l, ns.map V.int, n, rfl, hal, upd_same, (by rw [List.length_map]; exact h0), (by rw [List.length_map]; omega), hs.same (Same.upd hl), by omega, fun v H1 hv hs1 k1 => ?_⟩
  obtain ⟨m, hm, rfl⟩ := List.mem_map.mp hv
  exact k m H1 hm hs1 ((Kp.of (Same.upd hl)).trans k1)

/-! ### sources kept -/
theorem src_kp {H H' : Hp} {s l : Addr} {n : Nat} (k : Kp l H H') (h : s ≠ l) (S : Src H s n) : Src H' s n := by
  obtain ⟨x, y, z, e, r⟩ := S
  exact ⟨x, y, z, k _ _ h e, r⟩
/-! ### min of a list of data -/
def rMinDat (K : PySem.W.Frag) : List V → Hp → VK → Prop := fun xs H Q => ∃ (p : Addr) (ys : List V) (d : PyData) (ds : List PyData), xs = [.ref p] ∧ SqL K H p ys ∧ DpAll K H ys (d :: ds) ∧ PySem.W.AlikeAll (d :: ds) ∧ PyData.depthAll (d :: ds) ≤ 10 ∧ ∀ (i : Nat) (y : V), ys[i]? = some y → (d :: ds)[i]? = some (PySem.W.minD d ds) → Q y H
theorem dpAll_get {K : PySem.W.Frag} {H : Hp} : ∀ {ys : List V} {ds : List PyData}, DpAll K H ys ds → ∀ {i : Nat} {y : V}, ys[i]? = some y → ∃ e, ds[i]? = some e ∧ Dp K H y e
  | _, _, .nil, i, y, h => by simp at h
  | _, _, .cons hd _, 0, y, h => by
    cases h
    exact ⟨_, rfl, hd⟩
  | _, _, .cons _ tl, i + 1, y, h => dpAll_get tl (by simpa using h)
theorem vals_get {ys : List V} {us : List Value} (r : Vals ys us) : ∀ {i : Nat} {u : Value}, us[i]? = some u → ∃ y, ys[i]? = some y ∧ RelV y u := by
  induction r with
  | nil =>
    intro i u h
    simp at h
  | cons hd _ ih =>
    intro i u h
    cases i with
    | zero =>
      cases h
      exact ⟨_, rfl, hd⟩
    | succ i => exact ih (by simpa using h)
theorem call_minD {X : Cx} (hu : X.A.units + 64 < cLine) (hc : X.calm = true := by rfl) : CallR X (.builtin "min") (rMinDat X.K) := by
  intro pins s σ H xs us Q I rxs h
  obtain ⟨p, ys, d, ds, rfl, hs, hd, al, dl, q⟩ := h
  obtain ⟨u, rfl, ru⟩ := rxs.one
  cases ru
  obtain ⟨its, rv, hl, hlen⟩ := I.list hs
  obtain ⟨as, r1⟩ := Dp.readsAll I (d :: ds) _ its hd rv
  refine PySem.W.min_list_data (I.ok.hd hc) hl.isList r1 al (by omega) fun i v h' tk bs hv r2 hk => ?_
  have hv' : its[i]? = some v := by simpa using hv
  obtain ⟨y, hy, ry⟩ := vals_get rv hv'
  obtain ⟨e, he, hde⟩ := dpAll_get hd hy
  obtain ⟨bs2, r3⟩ := Dp.reads I e y v hde ry
  have ee : PySem.W.minD d ds = e := (PyProof.Rows.reads_det (fun b o z _ => hk b o z) r3 r2).1
  have I2 : Inv X pins σ H { s with heap := h', toks := tk } := I.kept (t' := tk) hk
  exact ⟨y, H, I2, ry, q i y hy (by rw [ee]; exact he)⟩
/-! ### orders of breakers: what is true of them -/
def rupI (w p : Int) : Int := stepsUp w p * p
def perW (p : Int) (ws : List Int) : Int := ws.foldl (fun q w => rupI w q) p
theorem perW_app (p : Int) (xs ys : List Int) : perW p (xs ++ ys) = perW (perW p xs) ys := List.foldl_append ..
theorem perW_cons (p w : Int) (ys : List Int) : perW p (w :: ys) = perW (rupI w p) ys := rfl
theorem st_char {d L : Int} (h : 1 ≤ L) : 0 ≤ stepsUp d L ∧ d ≤ stepsUp d L * L ∧ ∀ j, 0 ≤ j → d ≤ j * L → stepsUp d L ≤ j := by
  have dm := Int.mul_ediv_add_emod (-d) L
  have a := Int.emod_nonneg (-d) (show L ≠ 0 by omega)
  have b := Int.emod_lt_of_pos (-d) (show 0 < L by omega)
  obtain ⟨q, hq⟩ : ∃ q, q = -(-d / L) := ⟨_, rfl⟩
  have mq : L * (-d / L) = -(q * L) := by rw [hq, Int.neg_mul, Int.neg_neg, Int.mul_comm]
  have e : stepsUp d L = if q > 0 then q else 0 := by rw [hq]; rfl
  rw [e]
  refine ⟨by split <;> omega, ?_, fun j j0 hj => ?_⟩
  · split
    · omega
    · have := Int.mul_nonneg (show 0 ≤ -q by omega) (show 0 ≤ L by omega)
      rw [Int.neg_mul] at this
      omega
  · split
    · by_cases c : q ≤ j
      · exact c
      · have := Int.mul_le_mul_of_nonneg_right (show j + 1 ≤ q by omega) (show 0 ≤ L by omega)
        rw [Int.add_mul, Int.one_mul] at this
        omega
    · exact j0
/-- rounded up: at least the wait, at least the unit, less than both together; the least multiple -/
theorem rup_is {w p : Int} (w1 : 1 ≤ w) (p1 : 1 ≤ p) : 1 ≤ stepsUp w p ∧ w ≤ rupI w p ∧ p ≤ rupI w p ∧ rupI w p < w + p ∧ ∀ j, 0 ≤ j → w ≤ j * p → rupI w p ≤ j * p := by
  obtain ⟨a, b, c⟩ := st_char (d := w) p1
  have k1 : 1 ≤ stepsUp w p := by
    by_cases z : 1 ≤ stepsUp w p
    · exact z
    · rw [show stepsUp w p = 0 by omega] at b
      omega
  have lo : (stepsUp w p - 1) * p < w := by
    by_cases z : (stepsUp w p - 1) * p < w
    · exact z
    · have := c (stepsUp w p - 1) (by omega) (by omega)
      omega
  have m := Int.mul_le_mul_of_nonneg_right k1 (show 0 ≤ p by omega)
  rw [Int.sub_mul, Int.one_mul] at lo
  rw [Int.one_mul] at m
  unfold rupI
  exact ⟨k1, b, m, by omega, fun j j0 hj => Int.mul_le_mul_of_nonneg_right (c j j0 hj) (by omega)⟩
/-- as the law rounds up -/
theorem rup_div {w p : Int} (w1 : 1 ≤ w) (p1 : 1 ≤ p) : (w + p - 1) / p * p = rupI w p := by
  obtain ⟨a, b, c, d, e⟩ := rup_is w1 p1
  have dm := Int.mul_ediv_add_emod (w + p - 1) p
  have r0 := Int.emod_nonneg (w + p - 1) (show p ≠ 0 by omega)
  have r1 := Int.emod_lt_of_pos (w + p - 1) (show 0 < p by omega)
  obtain ⟨q, hq⟩ : ∃ q, q = (w + p - 1) / p := ⟨_, rfl⟩
  rw [← hq] at dm ⊢
  rw [Int.mul_comm] at dm
  have q0 : 0 ≤ q := by rw [hq]; exact Int.ediv_nonneg (by omega) (by omega)
  have h1 := e q q0 (by omega)
  unfold rupI at *
  by_cases z : q ≤ stepsUp w p
  · have := Int.mul_le_mul_of_nonneg_right z (show 0 ≤ p by omega)
    omega
  · have := Int.mul_le_mul_of_nonneg_right (show stepsUp w p + 1 ≤ q by omega) (show 0 ≤ p by omega)
    rw [Int.add_mul, Int.one_mul] at this
    omega
theorem perW_1 : ∀ {ws : List Int} {p : Int}, 1 ≤ p → (∀ w ∈ ws, 1 ≤ w) → 1 ≤ perW p ws
  | [], _, h, _ => h
  | w :: r, p, h, ok => by
    have := rup_is (ok w (List.mem_cons_self ..)) h
    exact perW_1 (ws := r) (p := rupI w p) (by omega) fun u hu => ok u (List.mem_cons_of_mem _ hu)
theorem perW_bd {M B : Int} : ∀ {ws : List Int} {p : Int}, 1 ≤ p → p ≤ B → (∀ w ∈ ws, 1 ≤ w ∧ w ≤ M) → perW p ws ≤ B + M * ws.length
  | [], p, _, h, _ => by show p ≤ B + M * ((0 : Nat) : Int); omega
  | w :: r, p, h, hb, ok => by
    have okw := ok w (List.mem_cons_self ..)
    have := rup_is okw.1 h
    have i := perW_bd (M := M) (B := B + M) (ws := r) (p := rupI w p) (by omega) (by omega) fun u hu => ok u (List.mem_cons_of_mem _ hu)
    rw [List.length_cons]
    show perW (rupI w p) r ≤ B + M * ((r.length + 1 : Nat) : Int)
    rw [show ((r.length + 1 : Nat) : Int) = (r.length : Int) + 1 by omega, Int.mul_add, Int.mul_one]
    omega
/-- all orders of so many, of m -/
def ordG (m : Nat) : Nat → List (List Nat)
  | 0 => [[]]
  | j + 1 => (ordG m j).flatMap fun o => ((List.range m).filter fun a => decide (a ∉ o)).map fun a => o ++ [a]
theorem ord_mem {m : Nat} : ∀ {j : Nat} {o : List Nat}, o ∈ ordG m j → o.length = j ∧ o.Nodup ∧ ∀ a ∈ o, a < m
  | 0, o, h => by
    have : o = [] := by simpa [ordG] using h
    subst this
    exact ⟨rfl, List.Pairwise.nil, fun a h => nomatch h⟩
  | j + 1, o, h => by
    obtain ⟨o', h1, h2⟩ := List.mem_flatMap.mp h
    obtain ⟨a, h3, rfl⟩ := List.mem_map.mp h2
    obtain ⟨i1, i2, i3⟩ := ord_mem h1
    rw [List.mem_filter, List.mem_range] at h3
    have na : a ∉ o' := of_decide_eq_true h3.2
    refine ⟨by rw [List.length_append, i1]; rfl, List.nodup_append.mpr ⟨i2, List.pairwise_singleton _ _, fun u hu z hz => ?_⟩, fun u hu => ?_⟩
    · rw [List.mem_singleton.mp hz]
      exact fun e => na (e ▸ hu)
    · rcases List.mem_append.mp hu with hu | hu
      · exact i3 u hu
      · rw [List.mem_singleton.mp hu]
        exact h3.1
theorem flat_len {α β : Type} {f : α → List β} {k : Nat} : ∀ {xs : List α}, (∀ x ∈ xs, (f x).length ≤ k) → (xs.flatMap f).length ≤ xs.length * k
  | [], _ => by simp
  | x :: r, h => by
    rw [List.flatMap_cons, List.length_append, List.length_cons, Nat.succ_mul]
    have := h x (List.mem_cons_self ..)
    have := flat_len (xs := r) fun y hy => h y (List.mem_cons_of_mem _ hy)
    omega
theorem ord_step_len (m : Nat) (o : List Nat) : (((List.range m).filter fun a => decide (a ∉ o)).map fun a => o ++ [a]).length ≤ m := by
  rw [List.length_map]
  have := List.length_filter_le (fun a => decide (a ∉ o)) (List.range m)
  rwa [List.length_range] at this
theorem ord_len (m : Nat) : ∀ j : Nat, (ordG m j).length ≤ m ^ j
  | 0 => Nat.le_refl _
  | j + 1 => by
    have h1 : (ordG m (j + 1)).length ≤ (ordG m j).length * m := flat_len fun o _ => ord_step_len m o
    have h2 := Nat.mul_le_mul_right m (ord_len m j)
    rw [Nat.pow_succ]
    omega
theorem pow_six {m j : Nat} (h : m ≤ 6) (hj : j ≤ m) : m ^ j ≤ 50000 := by
  have h1 : m ^ j ≤ 6 ^ j := Nat.pow_le_pow_left h j
  have h2 : 6 ^ j ≤ 6 ^ 6 := Nat.pow_le_pow_right (by decide) (by omega)
  have h3 : (6 : Nat) ^ 6 = 46656 := by decide
  omega
/-- one that is not among so few -/
theorem pigeon {m : Nat} : ∀ {o : List Nat}, o.length < m → ∃ b, b < m ∧ b ∉ o := by
  induction m with
  | zero => intro o h; omega
  | succ m ih =>
    intro o h
    by_cases c : m ∈ o
    · have l1 : (o.filter fun a => decide (a ≠ m)).length < m := by
        have := List.length_filter_lt_length_iff_exists (l := o) (p := fun a => decide (a ≠ m)) |>.mpr ⟨m, c, by simp⟩
        omega
      obtain ⟨b, hb, nb⟩ := ih l1
      refine ⟨b, Nat.lt_succ_of_lt hb, fun z => nb ?_⟩
      rw [List.mem_filter]
      exact ⟨z, decide_eq_true (by omega)⟩
    · exact ⟨m, Nat.lt_succ_self m, c⟩
theorem ord_first {m a : Nat} (ha : a < m) : ∀ j : Nat, j < m → ∃ o, a :: o ∈ ordG m (j + 1)
  | 0, _ => ⟨[], by
      refine List.mem_flatMap.mpr ⟨[], List.mem_singleton.mpr rfl, List.mem_map.mpr ⟨a, ?_, rfl⟩⟩
      rw [List.mem_filter, List.mem_range]
      exact ⟨ha, by simp⟩⟩
  | j + 1, h => by
    obtain ⟨o, ho⟩ := ord_first ha j (by omega)
    obtain ⟨b, hb, nb⟩ := pigeon (m := m) (o := a :: o) (by have := (ord_mem ho).1; omega)
    refine ⟨o ++ [b], List.mem_flatMap.mpr ⟨a :: o, ho, List.mem_map.mpr ⟨b, ?_, rfl⟩⟩⟩
    rw [List.mem_filter, List.mem_range]
    exact ⟨hb, decide_eq_true nb⟩
theorem ord_ne {m : Nat} : ∃ o, o ∈ ordG m m := by
  cases m with
  | zero => exact ⟨[], List.mem_singleton.mpr rfl⟩
  | succ m =>
    obtain ⟨o, h⟩ := ord_first (m := m + 1) (a := 0) (by omega) m (by omega)
    exact ⟨_, h⟩
/-- all are in a full one -/
theorem full_has {m : Nat} {o : List Nat} (nd : o.Nodup) (l : o.length = m) (b : ∀ a ∈ o, a < m) {a : Nat} (ha : a < m) : a ∈ o := by
  by_cases c : a ∈ o
  · exact c
  · exfalso
    have key : ∀ (k : Nat) (o : List Nat), o.Nodup → (∀ x ∈ o, x < k) → o.length ≤ k := by
      intro k
      induction k with
      | zero =>
        intro o _ h
        cases o with
        | nil => exact Nat.le_refl _
        | cons x r => exact absurd (h x (List.mem_cons_self ..)) (Nat.not_lt_zero _)
      | succ k ih =>
        intro o nd h
        have h1 := ih (o.erase k) (nd.erase k) fun x hx => by
          have h2 := (List.Nodup.mem_erase_iff nd).mp hx
          have := h x h2.2
          have := h2.1
          omega
        rw [List.length_erase] at h1
        split at h1 <;> omega
    have h1 := key m ((a :: o)) (List.nodup_cons.mpr ⟨c, nd⟩) fun x hx => by
      rcases List.mem_cons.mp hx with rfl | hx
      · exact ha
      · exact b x hx
    rw [List.length_cons] at h1
    omega
/-- waits in an order -/
def wsAt (ws : List Int) (o : List Nat) : List Int := o.map fun a => ws.getD a 0
theorem wsAt_ok {ws : List Int} {M : Int} (h : ∀ w ∈ ws, 1 ≤ w ∧ w ≤ M) {o : List Nat} (ho : ∀ a ∈ o, a < ws.length) : ∀ w ∈ wsAt ws o, 1 ≤ w ∧ w ≤ M := fun w hw => by
  obtain ⟨a, ha, rfl⟩ := List.mem_map.mp hw
  have := ho a ha
  rw [List.getD_eq_getElem?_getD, List.getElem?_eq_getElem this]
  exact h _ (List.getElem_mem _)
theorem wsAt_app (ws : List Int) (o : List Nat) (a : Nat) : wsAt ws (o ++ [a]) = wsAt ws o ++ [ws.getD a 0] := by
  unfold wsAt
  rw [List.map_append]
  rfl
/-- a period is a multiple of the one it began with -/
theorem perW_mul : ∀ (ws : List Int) (p : Int), 1 ≤ p → (∀ w ∈ ws, 1 ≤ w) → ∃ k, 1 ≤ k ∧ perW p ws = k * p
  | [], p, _, _ => ⟨1, Int.le_refl _, by rw [Int.one_mul]; rfl⟩
  | w :: r, p, h, ok => by
    have q := rup_is (ok w (List.mem_cons_self ..)) h
    obtain ⟨k, k1, e⟩ := perW_mul r (rupI w p) (by omega) fun u hu => ok u (List.mem_cons_of_mem _ hu)
    refine ⟨k * stepsUp w p, ?_, ?_⟩
    · have := Int.mul_le_mul k1 q.1 (by omega) (by omega)
      omega
    · rw [perW_cons, e, Int.mul_assoc]
      rfl
theorem perW_ge : ∀ {ws : List Int} {p : Int}, 1 ≤ p → (∀ w ∈ ws, 1 ≤ w) → ∀ w ∈ ws, w ≤ perW p ws
  | x :: r, p, h, ok, w, hw => by
    have q := rup_is (ok x (List.mem_cons_self ..)) h
    obtain ⟨k, k1, e⟩ := perW_mul r (rupI x p) (by omega) fun u hu => ok u (List.mem_cons_of_mem _ hu)
    rcases List.mem_cons.mp hw with rfl | hw
    · rw [perW_cons, e]
      have := Int.mul_le_mul_of_nonneg_right k1 (show 0 ≤ rupI w p by omega)
      omega
    · show w ≤ perW (rupI x p) r
      exact perW_ge (p := rupI x p) (by omega) (fun u hu => ok u (List.mem_cons_of_mem _ hu)) w hw
theorem perW_same : ∀ {ws : List Int} {p : Int}, 1 ≤ p → (∀ w ∈ ws, 1 ≤ w ∧ w ≤ p) → perW p ws = p
  | [], _, _, _ => rfl
  | w :: r, p, h, ok => by
    obtain ⟨w1, w2⟩ := ok w (List.mem_cons_self ..)
    have q := rup_is w1 h
    have h1 := q.2.2.2.2 1 (by decide) (by omega)
    rw [perW_cons, show rupI w p = p by omega]
    exact perW_same h fun u hu => ok u (List.mem_cons_of_mem _ hu)
/-- an order's period, and the order -/
def wayG (st : Int) (ws : List Int) (o : List Nat) : Int × List Nat := (perW st (wsAt ws o), o)
def waysG (st : Int) (ws : List Int) (j : Nat) : List (Int × List Nat) := (ordG ws.length j).map (wayG st ws)
/-- the greatest wait, at least 1 -/
def mxW (ws : List Int) : Int := ws.foldl max 1
theorem fold_max : ∀ (ws : List Int) (a : Int), a ≤ ws.foldl max a ∧ (∀ w ∈ ws, w ≤ ws.foldl max a) ∧ (ws.foldl max a = a ∨ ws.foldl max a ∈ ws)
  | [], a => ⟨Int.le_refl _, fun w h => (nomatch h), .inl rfl⟩
  | x :: r, a => by
    obtain ⟨h1, h2, h3⟩ := fold_max r (max a x)
    refine ⟨by show a ≤ r.foldl max (max a x); omega, fun w hw => ?_, ?_⟩
    · show w ≤ r.foldl max (max a x)
      rcases List.mem_cons.mp hw with rfl | hw
      · omega
      · exact h2 w hw
    · show r.foldl max (max a x) = a ∨ r.foldl max (max a x) ∈ x :: r
      rcases h3 with h3 | h3
      · by_cases c : a ≤ x
        · exact .inr (List.mem_cons.mpr (.inl (by omega)))
        · exact .inl (by omega)
      · exact .inr (List.mem_cons_of_mem _ h3)
/-- the least of all -/
theorem least_is {st : Int} {ws : List Int} {M : Int} (s1 : 1 ≤ st) (ok : ∀ w ∈ ws, 1 ≤ w ∧ w ≤ M) : (∀ p ∈ waysG st ws ws.length, rupI (mxW ws) st ≤ p.1) ∧ ∃ p ∈ waysG st ws ws.length, p.1 = rupI (mxW ws) st := by
  obtain ⟨m1, m2, m3⟩ := fold_max ws 1
  have m1 : 1 ≤ mxW ws := m1
  have m2 : ∀ w ∈ ws, w ≤ mxW ws := m2
  have q := rup_is m1 s1
  constructor
  · intro p hp
    obtain ⟨o, ho, rfl⟩ := List.mem_map.mp hp
    obtain ⟨l, nd, b⟩ := ord_mem ho
    have okO := wsAt_ok ok (o := o) b
    obtain ⟨k, k1, e⟩ := perW_mul (wsAt ws o) st s1 fun w hw => (okO w hw).1
    show rupI (mxW ws) st ≤ perW st (wsAt ws o)
    rw [e]
    refine q.2.2.2.2 k (by omega) ?_
    rw [← e]
    rcases m3 with m3 | m3
    · have m3 : mxW ws = 1 := m3
      have := perW_1 s1 fun w hw => (okO w hw).1
      omega
    · have m3 : mxW ws ∈ ws := m3
      refine perW_ge s1 (fun w hw => (okO w hw).1) _ ?_
      obtain ⟨a, ha⟩ := List.mem_iff_getElem?.mp m3
      have al := (List.getElem?_eq_some_iff.mp ha).1
      refine List.mem_map.mpr ⟨a, full_has nd l b al, ?_⟩
      rw [List.getD_eq_getElem?_getD, ha]
      rfl
  · have fin : ∀ o ∈ ordG ws.length ws.length, perW st (wsAt ws o) = rupI (mxW ws) st → ∃ p ∈ waysG st ws ws.length, p.1 = rupI (mxW ws) st := fun o ho e => ⟨wayG st ws o, List.mem_map.mpr ⟨o, ho, rfl⟩, e⟩
    rcases m3 with m3 | m3
    · have m3 : mxW ws = 1 := m3
      obtain ⟨o, ho⟩ := ord_ne (m := ws.length)
      obtain ⟨l, nd, b⟩ := ord_mem ho
      have okO := wsAt_ok (M := 1) (fun w hw => ⟨(ok w hw).1, by have := m2 w hw; omega⟩) (o := o) b
      refine fin o ho ?_
      rw [perW_same s1 fun w hw => ⟨(okO w hw).1, by have := (okO w hw).2; omega⟩, m3]
      have h1 := (rup_is (Int.le_refl 1) s1).2.2.2.2 1 (by decide) (by omega)
      have h2 := (rup_is (Int.le_refl 1) s1).2.2.1
      omega
    · have m3 : mxW ws ∈ ws := m3
      obtain ⟨a, ha⟩ := List.mem_iff_getElem?.mp m3
      have al := (List.getElem?_eq_some_iff.mp ha).1
      obtain ⟨n, hn⟩ : ∃ n, ws.length = n + 1 := ⟨ws.length - 1, by omega⟩
      obtain ⟨o, ho⟩ := ord_first (m := ws.length) al n (by omega)
      rw [← hn] at ho
      obtain ⟨l, nd, b⟩ := ord_mem ho
      have okO := wsAt_ok (M := mxW ws) (fun w hw => ⟨(ok w hw).1, m2 w hw⟩) (o := o) fun x hx => b x (List.mem_cons_of_mem _ hx)
      refine fin _ ho ?_
      have e : wsAt ws (a :: o) = mxW ws :: wsAt ws o := by
        show ws.getD a 0 :: wsAt ws o = _
        rw [List.getD_eq_getElem?_getD, ha]
        rfl
      rw [e, perW_cons]
      exact perW_same (by omega) fun w hw => ⟨(okO w hw).1, by have := (okO w hw).2; omega⟩
/-! ### orders as data, and which one is the least -/
def onD (k : Nat) : PyData := .int (k : Int)
def ordD (o : List Nat) : PyData := .list (o.map onD)
def wayD (p : Int × List Nat) : PyData := .tuple [.int p.1, ordD p.2]
def lxN : List Nat → List Nat → Bool
  | a :: r, b :: s => decide (a < b) || (decide (a = b) && lxN r s)
  | _, _ => false
theorem lx_irr : ∀ o : List Nat, lxN o o = false
  | [] => rfl
  | a :: r => by
    show (decide (a < a) || (decide (a = a) && lxN r r)) = false
    rw [lx_irr r]
    simp
theorem lx_asym : ∀ o o' : List Nat, lxN o o' = true → lxN o' o = false
  | [], _, h => by cases h
  | _ :: _, [], h => by cases h
  | a :: r, b :: s, h => by
    have h : (decide (a < b) || (decide (a = b) && lxN r s)) = true := h
    show (decide (b < a) || (decide (b = a) && lxN s r)) = false
    rw [Bool.or_eq_true, decide_eq_true_iff, Bool.and_eq_true, decide_eq_true_iff] at h
    rcases h with h | ⟨h1, h2⟩
    · rw [decide_eq_false (by omega), decide_eq_false (by omega)]
      rfl
    · rw [lx_asym r s h2, decide_eq_false (by omega)]
      simp
theorem lx_app : ∀ {o o' : List Nat} (x y : List Nat), o.length = o'.length → lxN o o' = true → lxN (o ++ x) (o' ++ y) = true
  | [], [], _, _, _, h => by cases h
  | a :: r, b :: s, x, y, l, h => by
    have h : (decide (a < b) || (decide (a = b) && lxN r s)) = true := h
    show (decide (a < b) || (decide (a = b) && lxN (r ++ x) (s ++ y))) = true
    rw [Bool.or_eq_true, decide_eq_true_iff, Bool.and_eq_true, decide_eq_true_iff] at h ⊢
    rcases h with h | ⟨h1, h2⟩
    · exact .inl h
    · exact .inr ⟨h1, lx_app x y (Nat.succ.inj l) h2⟩
theorem lx_same : ∀ (o : List Nat) {a b : Nat}, a < b → lxN (o ++ [a]) (o ++ [b]) = true
  | [], a, b, h => by
    show (decide (a < b) || (decide (a = b) && lxN [] [])) = true
    rw [decide_eq_true h]
    rfl
  | c :: r, a, b, h => by
    show (decide (c < c) || (decide (c = c) && lxN (r ++ [a]) (r ++ [b]))) = true
    rw [lx_same r h]
    simp
/-- all orders come in their order -/
theorem ord_asc (m : Nat) : ∀ j : Nat, (ordG m j).Pairwise fun o o' => lxN o o' = true
  | 0 => List.pairwise_singleton _ _
  | j + 1 => by
    show ((ordG m j).flatMap fun o => ((List.range m).filter fun a => decide (a ∉ o)).map fun a => o ++ [a]).Pairwise _
    have h := ord_asc m j
    have hm : ∀ o ∈ ordG m j, o.length = j := fun o ho => (ord_mem ho).1
    generalize ordG m j = xs at h hm
    induction xs with
    | nil => exact List.Pairwise.nil
    | cons o r ih =>
      obtain ⟨h1, h2⟩ := List.pairwise_cons.mp h
      rw [List.flatMap_cons, List.pairwise_append]
      refine ⟨?_, ih h2 fun o ho => hm o (List.mem_cons_of_mem _ ho), fun x hx y hy => ?_⟩
      · rw [List.pairwise_map]
        exact (List.pairwise_lt_range.sublist List.filter_sublist).imp fun h => lx_same o h
      · obtain ⟨a, _, rfl⟩ := List.mem_map.mp hx
        obtain ⟨o', ho', hy⟩ := List.mem_flatMap.mp hy
        obtain ⟨b, _, rfl⟩ := List.mem_map.mp hy
        exact lx_app _ _ ((hm o (List.mem_cons_self ..)).trans (hm o' (List.mem_cons_of_mem _ ho')).symm) (h1 o' ho')
theorem toks0 : PySem.W.keyToksAll [] = [Sum.inl 0] := by simp only [PySem.W.keyToksAll]
theorem toksI (a : Int) (r : List PyData) : PySem.W.keyToksAll (.int a :: r) = Sum.inl 1 :: Sum.inl a :: PySem.W.keyToksAll r := by
  simp only [PySem.W.keyToksAll, PySem.W.keyToks]
  rfl
theorem toksL (o r : List PyData) : PySem.W.keyToksAll (.list o :: r) = Sum.inl 1 :: (PySem.W.keyToksAll o ++ PySem.W.keyToksAll r) := by
  simp only [PySem.W.keyToksAll, PySem.W.keyToks]
theorem toks_ord : ∀ o o' : List Nat, o.length = o'.length → PyProof.Rows.lexLt PyProof.Rows.itemOrd (PySem.W.keyToksAll (o.map onD)) (PySem.W.keyToksAll (o'.map onD)) = lxN o o'
  | [], [], _ => by
    show PyProof.Rows.lexLt PyProof.Rows.itemOrd (PySem.W.keyToksAll []) (PySem.W.keyToksAll []) = false
    rw [toks0, PyProof.Rows.lex_self (O := PyProof.Rows.itemOrd)]
    rfl
  | a :: r, b :: s, l => by
    have ih := toks_ord r s (Nat.succ.inj l)
    rw [List.map_cons, List.map_cons]
    unfold onD at ih ⊢
    rw [toksI, toksI, PyProof.Rows.lex_self (O := PyProof.Rows.itemOrd)]
    show PyProof.Rows.lexLt PyProof.Rows.itemOrd (Sum.inl (a : Int) :: PySem.W.keyToksAll (r.map fun (k : Nat) => PyData.int (k : Int))) (Sum.inl (b : Int) :: PySem.W.keyToksAll (s.map fun (k : Nat) => PyData.int (k : Int))) = (decide (a < b) || (decide (a = b) && lxN r s))
    by_cases c : a = b
    · subst c
      rw [PyProof.Rows.lex_self (O := PyProof.Rows.itemOrd), ih]
      simp
    · rw [PyProof.Rows.lex_diff (O := PyProof.Rows.itemOrd) (by intro z; injection z with z; omega)]
      show decide ((a : Int) < (b : Int)) = _
      rw [decide_eq_false c, Bool.false_and, Bool.or_false, decide_eq_decide]
      omega
  | [], _ :: _, l => by cases l
  | _ :: _, [], l => by cases l
theorem way_lt (p q : Int × List Nat) (l : p.2.length = q.2.length) : PySem.W.dataLt (wayD p) (wayD q) = (decide (p.1 < q.1) || (decide (p.1 = q.1) && lxN p.2 q.2)) := by
  obtain ⟨p, o⟩ := p
  obtain ⟨q, o'⟩ := q
  have l : o.length = o'.length := l
  unfold wayD ordD
  rw [PySem.W.dataLt_tuple, toksI, toksI, toksL, toksL, toks0, PyProof.Rows.lex_self (O := PyProof.Rows.itemOrd)]
  show PyProof.Rows.lexLt PyProof.Rows.itemOrd (Sum.inl p :: Sum.inl 1 :: (PySem.W.keyToksAll (o.map onD) ++ [Sum.inl 0])) (Sum.inl q :: Sum.inl 1 :: (PySem.W.keyToksAll (o'.map onD) ++ [Sum.inl 0])) = (decide (p < q) || (decide (p = q) && lxN o o'))
  by_cases c : p = q
  · subst c
    rw [PyProof.Rows.lex_self (O := PyProof.Rows.itemOrd), PyProof.Rows.lex_self (O := PyProof.Rows.itemOrd)]
    have key : ∀ o o' : List Nat, o.length = o'.length → PyProof.Rows.lexLt PyProof.Rows.itemOrd (PySem.W.keyToksAll (o.map onD) ++ [Sum.inl 0]) (PySem.W.keyToksAll (o'.map onD) ++ [Sum.inl 0]) = lxN o o' := by
      intro o
      induction o with
      | nil =>
        intro o' l
        cases o' with
        | nil =>
          show PyProof.Rows.lexLt PyProof.Rows.itemOrd (PySem.W.keyToksAll [] ++ [Sum.inl 0]) (PySem.W.keyToksAll [] ++ [Sum.inl 0]) = false
          rw [toks0]
          show PyProof.Rows.lexLt PyProof.Rows.itemOrd [Sum.inl 0, Sum.inl 0] [Sum.inl 0, Sum.inl 0] = false
          rw [PyProof.Rows.lex_self (O := PyProof.Rows.itemOrd), PyProof.Rows.lex_self (O := PyProof.Rows.itemOrd)]
          rfl
        | cons => cases l
      | cons a r ih =>
        intro o' l
        cases o' with
        | nil => cases l
        | cons b s =>
          have ih := ih s (Nat.succ.inj l)
          rw [List.map_cons, List.map_cons]
          unfold onD at ih ⊢
          rw [toksI, toksI]
          show PyProof.Rows.lexLt PyProof.Rows.itemOrd (Sum.inl 1 :: (Sum.inl (a : Int) :: (PySem.W.keyToksAll (r.map fun (k : Nat) => PyData.int (k : Int)) ++ [Sum.inl 0]))) (Sum.inl 1 :: (Sum.inl (b : Int) :: (PySem.W.keyToksAll (s.map fun (k : Nat) => PyData.int (k : Int)) ++ [Sum.inl 0]))) = (decide (a < b) || (decide (a = b) && lxN r s))
          rw [PyProof.Rows.lex_self (O := PyProof.Rows.itemOrd)]
          by_cases c : a = b
          · subst c
            rw [PyProof.Rows.lex_self (O := PyProof.Rows.itemOrd), ih]
            simp
          · rw [PyProof.Rows.lex_diff (O := PyProof.Rows.itemOrd) (by intro z; injection z with z; omega)]
            show decide ((a : Int) < (b : Int)) = _
            rw [decide_eq_false c, Bool.false_and, Bool.or_false, decide_eq_decide]
            omega
    rw [key o o' l, decide_eq_false (by omega), decide_eq_true rfl]
    rfl
  · rw [PyProof.Rows.lex_diff (O := PyProof.Rows.itemOrd) (by intro z; injection z with z; exact c z)]
    show decide (p < q) = _
    rw [decide_eq_false c, Bool.false_and, Bool.or_false]
/-- the least way -/
def minG (x : Int × List Nat) (xs : List (Int × List Nat)) : Int × List Nat := xs.foldl (fun a y => if decide (y.1 < a.1) || (decide (y.1 = a.1) && lxN y.2 a.2) then y else a) x
theorem minD_way {m : Nat} : ∀ {xs : List (Int × List Nat)} {x : Int × List Nat}, x.2.length = m → (∀ y ∈ xs, y.2.length = m) → PySem.W.minD (wayD x) (xs.map wayD) = wayD (minG x xs)
  | [], x, _, _ => rfl
  | y :: r, x, hx, h => by
    have hy := h y (List.mem_cons_self ..)
    have hr : ∀ z ∈ r, z.2.length = m := fun z hz => h z (List.mem_cons_of_mem _ hz)
    show (r.map wayD).foldl (fun a y => if PySem.W.dataLt y a then y else a) (if PySem.W.dataLt (wayD y) (wayD x) then wayD y else wayD x) = wayD (r.foldl (fun a y => if decide (y.1 < a.1) || (decide (y.1 = a.1) && lxN y.2 a.2) then y else a) (if decide (y.1 < x.1) || (decide (y.1 = x.1) && lxN y.2 x.2) then y else x))
    rw [way_lt y x (hy.trans hx.symm)]
    by_cases c : (decide (y.1 < x.1) || (decide (y.1 = x.1) && lxN y.2 x.2)) = true
    · rw [if_pos c, if_pos c]
      exact minD_way (xs := r) hy hr
    · rw [if_neg c, if_neg c]
      exact minD_way (xs := r) hx hr
theorem minG_is : ∀ (xs : List (Int × List Nat)) (x : Int × List Nat), minG x xs ∈ x :: xs ∧ ∀ y ∈ x :: xs, (minG x xs).1 ≤ y.1
  | [], x => ⟨List.mem_cons_self .., fun y hy => by rw [List.mem_singleton.mp hy]; exact Int.le_refl _⟩
  | z :: r, x => by
    show minG (if decide (z.1 < x.1) || (decide (z.1 = x.1) && lxN z.2 x.2) then z else x) r ∈ x :: z :: r ∧ ∀ y ∈ x :: z :: r, (minG (if decide (z.1 < x.1) || (decide (z.1 = x.1) && lxN z.2 x.2) then z else x) r).1 ≤ y.1
    by_cases c : (decide (z.1 < x.1) || (decide (z.1 = x.1) && lxN z.2 x.2)) = true
    · rw [if_pos c]
      obtain ⟨h1, h2⟩ := minG_is r z
      rw [Bool.or_eq_true, decide_eq_true_iff, Bool.and_eq_true, decide_eq_true_iff] at c
      refine ⟨List.mem_cons_of_mem _ h1, fun y hy => ?_⟩
      rcases List.mem_cons.mp hy with rfl | hy
      · have := h2 z (List.mem_cons_self ..)
        rcases c with c | c
        · omega
        · have := c.1
          omega
      · exact h2 y hy
    · rw [if_neg c]
      obtain ⟨h1, h2⟩ := minG_is r x
      rw [Bool.or_eq_true, decide_eq_true_iff, Bool.and_eq_true, decide_eq_true_iff] at c
      refine ⟨?_, fun y hy => ?_⟩
      · rcases List.mem_cons.mp h1 with h1 | h1
        · rw [h1]
          exact List.mem_cons_self ..
        · exact List.mem_cons_of_mem _ (List.mem_cons_of_mem _ h1)
      · rcases List.mem_cons.mp hy with rfl | hy
        · exact h2 y (List.mem_cons_self ..)
        · rcases List.mem_cons.mp hy with rfl | hy
          · have := h2 x (List.mem_cons_self ..)
            have : ¬ y.1 < x.1 := fun z => c (.inl z)
            omega
          · exact h2 y (List.mem_cons_of_mem _ hy)
/-- the first of ascending ones of one period -/
theorem minG_first {p : Int} : ∀ {xs : List (Int × List Nat)} {x : Int × List Nat}, (∀ y ∈ x :: xs, y.1 = p) → (x :: xs).Pairwise (fun a b => lxN a.2 b.2 = true) → minG x xs = x
  | [], _, _, _ => rfl
  | z :: r, x, h, pw => by
    obtain ⟨h1, h2⟩ := List.pairwise_cons.mp pw
    obtain ⟨h3, h4⟩ := List.pairwise_cons.mp h2
    show minG (if decide (z.1 < x.1) || (decide (z.1 = x.1) && lxN z.2 x.2) then z else x) r = x
    have e1 := h x (List.mem_cons_self ..)
    have e2 := h z (List.mem_cons_of_mem _ (List.mem_cons_self ..))
    rw [lx_asym _ _ (h1 z (List.mem_cons_self ..)), Bool.and_false, Bool.or_false, decide_eq_false (by omega), if_neg (by decide)]
    exact minG_first (fun y hy => by
      rcases List.mem_cons.mp hy with rfl | hy
      · exact e1
      · exact h y (List.mem_cons_of_mem _ (List.mem_cons_of_mem _ hy))) (List.pairwise_cons.mpr ⟨fun y hy => h1 y (List.mem_cons_of_mem _ hy), h4⟩)
/-- the program's walk for the greatest -/
def worG (x : Int × List Nat) (xs : List (Int × List Nat)) : Int × List Nat := xs.foldl (fun a y => if y.1 > a.1 then y else a) x
theorem worG_is : ∀ (xs : List (Int × List Nat)) (x : Int × List Nat), ∃ as bs, x :: xs = as ++ worG x xs :: bs ∧ (∀ y ∈ as, y.1 < (worG x xs).1) ∧ ∀ y ∈ bs, y.1 ≤ (worG x xs).1
  | [], x => ⟨[], [], rfl, fun y h => (nomatch h), fun y h => (nomatch h)⟩
  | z :: r, x => by
    show ∃ as bs, x :: z :: r = as ++ worG (if z.1 > x.1 then z else x) r :: bs ∧ (∀ y ∈ as, y.1 < (worG (if z.1 > x.1 then z else x) r).1) ∧ ∀ y ∈ bs, y.1 ≤ (worG (if z.1 > x.1 then z else x) r).1
    by_cases c : z.1 > x.1
    · rw [if_pos c]
      obtain ⟨as, bs, e, h1, h2⟩ := worG_is r z
      refine ⟨x :: as, bs, by rw [e]; rfl, fun y hy => ?_, h2⟩
      rcases List.mem_cons.mp hy with rfl | hy
      · cases as with
        | nil =>
          have e := (List.cons.inj e).1
          rw [← e]
          exact c
        | cons a as =>
          have e := (List.cons.inj e).1
          have := h1 a (List.mem_cons_self ..)
          rw [← e] at this
          omega
      · exact h1 y hy
    · rw [if_neg c]
      obtain ⟨as, bs, e, h1, h2⟩ := worG_is r x
      cases as with
      | nil =>
        have e1 := (List.cons.inj e).1
        have e2 := (List.cons.inj e).2
        refine ⟨[], z :: bs, ?_, fun y h => (nomatch h), fun y hy => ?_⟩
        · show x :: z :: r = worG x r :: z :: bs
          rw [← e1, e2]
        · rcases List.mem_cons.mp hy with rfl | hy
          · rw [← e1]
            omega
          · exact h2 y hy
      | cons a as =>
        have e1 := (List.cons.inj e).1
        have e2 := (List.cons.inj e).2
        refine ⟨a :: z :: as, bs, ?_, fun y hy => ?_, h2⟩
        · show x :: z :: r = a :: z :: (as ++ worG x r :: bs)
          have e2 : r = as ++ worG x r :: bs := e2
          rw [← e2, ← e1]
        · rcases List.mem_cons.mp hy with rfl | hy
          · exact h1 y (List.mem_cons_self ..)
          · rcases List.mem_cons.mp hy with rfl | hy
            · have := h1 a (List.mem_cons_self ..)
              rw [← e1] at this
              omega
            · exact h1 y (List.mem_cons_of_mem _ hy)
/-- the least among those with the greatest period is the program's -/
theorem worst_is {x : Int × List Nat} {xs : List (Int × List Nat)} {M : Int} (pw : (x :: xs).Pairwise fun a b => lxN a.2 b.2 = true) (hm : ∃ y ∈ x :: xs, y.1 = M) (hb : ∀ y ∈ x :: xs, y.1 ≤ M) : ∃ r, (x :: xs).filter (fun y => decide (y.1 = M)) = worG x xs :: r ∧ minG (worG x xs) r = worG x xs ∧ (worG x xs).1 = M := by
  obtain ⟨as, bs, e, h1, h2⟩ := worG_is xs x
  have eM : (worG x xs).1 = M := by
    obtain ⟨y, hy, ey⟩ := hm
    have l1 := hb (worG x xs) (by rw [e]; exact List.mem_append_right _ (List.mem_cons_self ..))
    rw [e] at hy
    rcases List.mem_append.mp hy with hy | hy
    · have := h1 y hy
      omega
    · rcases List.mem_cons.mp hy with hy | hy
      · rw [← hy, ey]
      · have := h2 y hy
        omega
  have f1 : as.filter (fun y => decide (y.1 = M)) = [] := List.filter_eq_nil_iff.mpr fun y hy => by
    have := h1 y hy
    simp
    omega
  refine ⟨bs.filter fun y => decide (y.1 = M), ?_, ?_, eM⟩
  · rw [e, List.filter_append, f1, List.nil_append, List.filter_cons, if_pos (decide_eq_true eM)]
  · refine minG_first (p := M) (fun y hy => ?_) ?_
    · rcases List.mem_cons.mp hy with rfl | hy
      · exact eM
      · exact of_decide_eq_true (List.mem_filter.mp hy).2
    · rw [e] at pw
      have pw2 := (List.pairwise_append.mp pw).2.1
      exact pw2.sublist (List.Sublist.cons₂ _ List.filter_sublist)
/-! ### orders of breakers in the program -/
def wtsT (ts : List Tri) : List Int := ts.map (·.2.1)
theorem wts_ok {ts : List Tri} (h : ∀ t ∈ ts, OkT t) : ∀ w ∈ wtsT ts, 1 ≤ w ∧ w ≤ 1000000000000000000000000000000 := fun w hw => by
  obtain ⟨t, ht, rfl⟩ := List.mem_map.mp hw
  have := h t ht
  exact ⟨this.2.2.1, this.2.2.2.1⟩
theorem su_le {w p : Int} (w1 : 1 ≤ w) (p1 : 1 ≤ p) : stepsUp w p ≤ w := by
  have := (st_char (d := w) p1).2.2 w (by omega)
  refine this ?_
  have := Int.mul_le_mul_of_nonneg_left p1 (show 0 ≤ w by omega)
  omega
def PdB : Int := 13000000000000000000000000000000
theorem pd_bb : PdB ≤ BB := Int.le_trans (PB_of (n := 108) (by decide +kernel)) (PB_le (by decide))
theorem pd_bd {st : Int} {ws : List Int} (s0 : 1 ≤ st) (s1 : st ≤ 1000000000000000000000000000000) (ok : ∀ w ∈ ws, 1 ≤ w ∧ w ≤ 1000000000000000000000000000000) (l : ws.length ≤ 12) : 1 ≤ perW st ws ∧ perW st ws ≤ PdB := by
  refine ⟨perW_1 s0 fun w hw => (ok w hw).1, ?_⟩
  have := perW_bd (B := 1000000000000000000000000000000) (M := 1000000000000000000000000000000) s0 s1 ok
  have e : PdB = 13000000000000000000000000000000 := rfl
  omega
/-- rounding up is asked with fair numbers -/
theorem rup_ask {w p : Int} (w1 : 1 ≤ w) (w2 : w ≤ PdB) (p1 : 1 ≤ p) (p2 : p ≤ PdB) : 0 < p ∧ p.natAbs.log2 < 9000 ∧ CMulW (stepsUp w p) p := by
  have b := pd_bb
  have a := (st_char (d := w) p1).1
  have c := su_le w1 p1
  exact ⟨by omega, divBB p1 (by omega), mulBB a (by omega) (by omega) (by omega)⟩
def onV (k : Nat) : V := .int (k : Int)
/-- a way: a period, and a new list -/
def WyN (H0 : Hp) (D : Addr) (H : Hp) (v : V) (p : Int × List Nat) : Prop := ∃ T l, v = .ref T ∧ H T = some (.tup [.int p.1, .ref l]) ∧ H l = some (.lst (p.2.map onV)) ∧ H0 l = none ∧ l ≠ D
theorem WyN.mv {H0 H H' : Hp} {D : Addr} {v : V} {p : Int × List Nat} (n : NL H H') (k : ∀ b o, b ≠ D → H b = some o → H' b = some o) : WyN H0 D H v p → WyN H0 D H' v p := fun ⟨T, l, e, h1, h2, h3, h4⟩ => ⟨T, l, e, n _ _ h1 (fun _ z => nomatch z), k _ _ h4 h2, h3, h4⟩
theorem ons_dp {K : PySem.W.Frag} {H : Hp} : ∀ p : List Nat, DpAll K H (p.map onV) (p.map onD)
  | [] => .nil
  | k :: r => .cons (.int _) (ons_dp r)
theorem WyN.dp {K : PySem.W.Frag} {H0 H : Hp} {D : Addr} {v : V} {p : Int × List Nat} (h : WyN H0 D H v p) : Dp K H v (wayD p) := by
  obtain ⟨T, l, rfl, h1, h2, _⟩ := h
  exact .tup (SqT.of h1) (.cons (.int _) (.cons (.lst (SqL.of h2) (ons_dp _)) .nil))
theorem wys_dp {K : PySem.W.Frag} {H0 H : Hp} {D : Addr} {xs : List V} {ps : List (Int × List Nat)} (h : Paired (WyN H0 D H) xs ps) : DpAll K H xs (ps.map wayD) := by
  induction h with
  | nil => exact .nil
  | cons h _ ih => exact .cons h.dp ih
/-- what a way goes on to -/
def extG (ws : List Int) (p : Int × List Nat) (q : Nat) : List (Int × List Nat) := ((List.range q).filter fun a => decide (a ∉ p.2)).map fun a => (rupI (ws.getD a 0) p.1, p.2 ++ [a])
theorem extG_succ (ws : List Int) (p : Int × List Nat) (q : Nat) : extG ws p (q + 1) = extG ws p q ++ if q ∈ p.2 then [] else [(rupI (ws.getD q 0) p.1, p.2 ++ [q])] := by
  unfold extG
  rw [List.range_succ, List.filter_append, List.map_append]
  congr 1
  by_cases c : q ∈ p.2
  · rw [if_pos c, List.filter_cons, if_neg (by simpa using c)]
    rfl
  · rw [if_neg c, List.filter_cons, if_pos (by simpa using c)]
    rfl
theorem waysG_succ (st : Int) (ws : List Int) (j : Nat) : waysG st ws (j + 1) = (waysG st ws j).flatMap fun p => extG ws p ws.length := by
  unfold waysG extG
  show List.map (wayG st ws) ((ordG ws.length j).flatMap _) = _
  rw [List.map_flatMap, List.flatMap_map]
  refine congrArg (fun g => List.flatMap g (ordG ws.length j)) (funext fun o => ?_)
  rw [List.map_map]
  refine List.map_congr_left fun a _ => ?_
  show (perW st (wsAt ws (o ++ [a])), o ++ [a]) = (rupI (ws.getD a 0) (perW st (wsAt ws o)), o ++ [a])
  rw [wsAt_app, perW_app]
  rfl
theorem flat_take {α β : Type} (f : α → List β) (xs : List α) (i : Nat) : ((xs.take i).flatMap f).length ≤ (xs.flatMap f).length := by
  have h : xs.flatMap f = (xs.take i).flatMap f ++ (xs.drop i).flatMap f := by rw [← List.flatMap_append, List.take_append_drop]
  rw [h, List.length_append]
  omega
theorem ord_seven : ((List.range 8).all fun j => Nat.ble (ordG 7 j).length 50000) = true := by decide +kernel
theorem ord_le7 {m j : Nat} (h : m ≤ 7) (hj : j ≤ m) : (ordG m j).length ≤ 50000 := by
  rcases Nat.lt_or_ge m 7 with q | q
  · exact Nat.le_trans (ord_len _ _) (pow_six (by omega) hj)
  · have e : m = 7 := by omega
    subst e
    exact Nat.le_of_ble_eq_true (List.all_eq_true.mp ord_seven j (List.mem_range.mpr (by omega)))
theorem ways_len {st : Int} {ws : List Int} (h : ws.length ≤ 7) {j : Nat} (hj : j ≤ ws.length) : (waysG st ws j).length ≤ 50000 := by
  unfold waysG
  rw [List.length_map]
  exact ord_le7 h hj
theorem ways_ok {st : Int} {ws : List Int} {j : Nat} {p : Int × List Nat} (h : p ∈ waysG st ws j) : p.1 = perW st (wsAt ws p.2) ∧ p.2 ∈ ordG ws.length j := by
  obtain ⟨o, ho, rfl⟩ := List.mem_map.mp h
  exact ⟨rfl, ho⟩
/-- a full ascending list -/
theorem asc_room : ∀ {ns : List Int} {lo hi : Int}, ns.Pairwise (· < ·) → (∀ x ∈ ns, lo ≤ x ∧ x < hi) → lo ≤ hi → lo + ns.length ≤ hi
  | [], lo, hi, _, _, h => by show lo + ((0 : Nat) : Int) ≤ hi; omega
  | d :: r, lo, hi, pw, db, _ => by
    obtain ⟨p1, p2⟩ := List.pairwise_cons.mp pw
    have h1 := db d (List.mem_cons_self ..)
    have ih := asc_room (lo := d + 1) (hi := hi) p2 (fun k hk => ⟨p1 k hk, (db k (List.mem_cons_of_mem _ hk)).2⟩) (by omega)
    rw [List.length_cons]
    omega
theorem asc_full : ∀ {ns : List Int} {a : Int}, ns.Pairwise (· < ·) → (∀ x ∈ ns, a ≤ x ∧ x < a + ns.length) → ns = (List.range ns.length).map fun (i : Nat) => a + (i : Int)
  | [], _, _, _ => rfl
  | d :: r, a, pw, db => by
    obtain ⟨p1, p2⟩ := List.pairwise_cons.mp pw
    have h1 := db d (List.mem_cons_self ..)
    rw [List.length_cons] at h1 db ⊢
    have h2 := asc_room (lo := d + 1) (hi := a + ((r.length + 1 : Nat) : Int)) p2 (fun k hk => ⟨p1 k hk, (db k (List.mem_cons_of_mem _ hk)).2⟩) (by omega)
    have e : d = a := by omega
    subst e
    have ih := asc_full (ns := r) (a := d + 1) p2 fun k hk => ⟨p1 k hk, by have := (db k (List.mem_cons_of_mem _ hk)).2; omega⟩
    rw [List.range_succ_eq_map, List.map_cons, List.map_map]
    congr 1
    · omega
    · rw [ih]
      rw [List.length_map, List.length_range]
      refine List.map_congr_left fun i _ => ?_
      show d + 1 + (i : Int) = d + ((i + 1 : Nat) : Int)
      omega
theorem sorted_full {o : List Nat} {m : Nat} {ns : List Int} (l : o.length = m) (nd : o.Nodup) (b : ∀ a ∈ o, a < m) (pm : ns.Perm (o.map fun (k : Nat) => (k : Int))) (pw : ns.Pairwise (· ≤ ·)) : ns = (List.range m).map fun (k : Nat) => (k : Int) := by
  have nl : ns.length = m := by rw [pm.length_eq, List.length_map, l]
  have nd2 : (o.map fun (k : Nat) => (k : Int)).Nodup := List.pairwise_map.mpr (nd.imp fun h e => h (by omega))
  have nd3 : ns.Nodup := pm.nodup_iff.mpr nd2
  have lt : ns.Pairwise (· < ·) := (List.Pairwise.and pw nd3).imp fun ⟨h1, h2⟩ => by omega
  have h := asc_full (ns := ns) (a := 0) lt fun x hx => by
    obtain ⟨k, hk, rfl⟩ := List.mem_map.mp (pm.mem_iff.mp hx)
    have := b k hk
    omega
  rw [nl] at h
  rw [h]
  refine List.map_congr_left fun i _ => ?_
  omega
def spPersW (C : Addr) : Sp := fun vs H Q _ => ∃ r B xs ts st ph, vs = [.ref r] ∧ RowAt C H r B xs ts st ph ∧ ∀ l H', H' l = some (.lst ((List.range (ts.length + 1)).map fun i => .int (perW st (wtsT (ts.take i))))) → Same H H' → H l = none → Q (.ref l) H'
def spRPerW (C : Addr) : Sp := fun vs H Q _ => ∃ r B xs ts st ph, vs = [.ref r] ∧ RowAt C H r B xs ts st ph ∧ ∀ H', Same H H' → Q (.int (perW st (wtsT ts))) H'
def spCkIx (C : Addr) : Sp := fun vs H Q _ => ∃ r B xs ts st ph, ∃ i : Nat, vs = [.ref r, .int (i : Int)] ∧ RowAt C H r B xs ts st ph ∧ i < ts.length ∧ Q .non H
def spRowOf (C : Addr) : Sp := fun vs H Q _ => ∃ r B xs ts st ph l ys us, vs = [.ref r, .ref l] ∧ RowAt C H r B xs ts st ph ∧ H l = some (.lst ys) ∧ Brs H ys us ∧ (∀ u ∈ us, OkT u) ∧ us.length ≤ 12 ∧ ∀ p W H', RowAt C H' p W ys us st ph → Same H H' → H p = none → Q (.ref p) H'
def spIsOrd : Sp := fun vs H Q _ => ∃ (l : Addr) (o : List Nat) (m : Nat), vs = [.ref l, .int (m : Int)] ∧ H l = some (.lst (o.map onV)) ∧ o.length = m ∧ o.Nodup ∧ (∀ a ∈ o, a < m) ∧ m ≤ 12 ∧ ∀ H', Same H H' → Q (.bl true) H'
def atT (ts : List Tri) (o : List Nat) : List Tri := o.map fun a => ts.getD a (1, 1, 1)
def spReord (C : Addr) : Sp := fun vs H Q _ => ∃ r B xs ts st ph l o, vs = [.ref r, .ref l] ∧ RowAt C H r B xs ts st ph ∧ H l = some (.lst (o.map onV)) ∧ o.length = ts.length ∧ o.Nodup ∧ (∀ a ∈ o, a < ts.length) ∧ ∀ p W ys H', RowAt C H' p W ys (atT ts o) st ph → Same H H' → H p = none → Q (.ref p) H'
def spAllO (C : Addr) : Sp := fun vs H Q _ => ∃ r B xs ts st ph, vs = [.ref r] ∧ RowAt C H r B xs ts st ph ∧ ts.length ≤ 7 ∧ ∀ l ws H', H' l = some (.lst ws) → (∃ D, H D = none ∧ Paired (WyN H D H') ws (waysG st (wtsT ts) ts.length)) → Same H H' → H l = none → Q (.ref l) H'
def spBestO (C : Addr) : Sp := fun vs H Q _ => ∃ r B xs ts st ph, vs = [.ref r] ∧ RowAt C H r B xs ts st ph ∧ ts.length ≤ 7 ∧ ∀ v x xs' H', waysG st (wtsT ts) ts.length = x :: xs' → (∃ D, WyN H D H' v (minG x xs')) → Same H H' → Q v H'
def spWorstO (C : Addr) : Sp := fun vs H Q _ => ∃ r B xs ts st ph, vs = [.ref r] ∧ RowAt C H r B xs ts st ph ∧ ts.length ≤ 7 ∧ ∀ v x xs' H', waysG st (wtsT ts) ts.length = x :: xs' → (∃ D, WyN H D H' v (worG x xs')) → Same H H' → Q v H'
def spWithout (C : Addr) : Sp := fun vs H Q _ => ∃ r B xs ts st ph, ∃ i : Nat, vs = [.ref r, .int (i : Int)] ∧ RowAt C H r B xs ts st ph ∧ i < ts.length ∧ ∀ p W ys H', RowAt C H' p W ys (ts.take i ++ ts.drop (i + 1)) st ph → Same H H' → H p = none → Q (.ref p) H'
def spWithW (C : Addr) : Sp := fun vs H Q _ => ∃ r B xs ts st ph, ∃ (i : Nat) (w : Int) (t : Tri), vs = [.ref r, .int (i : Int), .int w] ∧ RowAt C H r B xs ts st ph ∧ ts[i]? = some t ∧ 1 ≤ w ∧ w ≤ 1000000000000000000000000000000 ∧ ∀ p W ys H', RowAt C H' p W ys (ts.set i (t.1, w, t.2.2)) st ph → Same H H' → H p = none → Q (.ref p) H'
def spRemP (C : Addr) : Sp := fun vs H Q _ => ∃ r B xs ts st ph, vs = [.ref r] ∧ RowAt C H r B xs ts st ph ∧ ∀ l H', H' l = some (.lst ((List.range ts.length).map fun i => .int (perW st (wtsT (ts.take i ++ ts.drop (i + 1)))))) → Same H H' → H l = none → Q (.ref l) H'
def spLeastP (C : Addr) : Sp := fun vs H Q _ => ∃ r B xs ts st ph, vs = [.ref r] ∧ RowAt C H r B xs ts st ph ∧ ∀ H', Same H H' → Q (.int (rupI (mxW (wtsT ts)) st)) H'
section
variable {P : Program} {w : World} {K : PySem.W.Frag} {mg : Str → Option Value} {base : Heap} {L : LA}
abbrev N_periods : List Str := ["row", "found", "breaker"]
theorem sc_periods : FnScope N_periods ["row"] (defScope st_periods) := ⟨rfl, rfl, rfl, by decide +kernel, rfl, by decide +kernel, by decide +kernel⟩
theorem fn_periods (T : LX K mg L) {fd : FuncData} (F : Fun K "periods" "periods" st_periods L.f_periods fd) : FnOk P w K mg base CX0 3 L.f_periods fd ["row"] (spPersW L.c_Row) := by
  have G_roundedup := ok_roundedup (P := P) (w := w) (base := base) T
  have nd := sc_periods.nd
  refine F.ok sc_periods (fun vs H Q E h => ?_) (fun cdv A outer S H vs Q E hr h => ?_)
  · obtain ⟨r, B, xs, ts, st, ph, rfl, _⟩ := h
    rfl
  · obtain ⟨r, B, xs, ts, st, ph, rfl, R, k⟩ := h
    refine ⟨_, (pss_cons (ps_set (i := 1) nd rfl (Or.inl rfl) (pe_lst (pa_cons (pe_fld (pv 0) rfl) pa_nil)))
       (pss_cons (ps_for PassesOwn.never rfl (pi_tup (pe_fld (pv 0) rfl)) (pg_name (i := 2) nd rfl (Or.inl rfl)) (pss_one (ps_expr (pe_bm PySem.F.plainAttrs_list PySem.F.slot_list_append PySem.F.type_list_append mt_append (pv 1) (pa_cons (pe_c G_roundedup (hr.mono (by decide)) rfl (pa_cons (pe_ix (r := rIxT K) ix_tup (pv 2) pe_int (fun _ _ => rfl)) (pa_cons (pe_ix (r := rIxL K) ix_list (pv 1) (pe_un un_neg pe_int) (fun _ _ => rfl)) pa_nil))) pa_nil)))))
       (pss_one (ps_ret (pv 1))))), ?_⟩
    obtain ⟨dr, hr'⟩ := R.ob
    have xl := R.br.len
    have ln := R.ln
    refine ⟨_, rfl, r, L.c_Row, dr, _, _, rfl, hr', T.cf_Row.cl, T.nf_Row_step, rowF_s _ _ _, (by show 1 ≤ sizeLine; decide), fun l hl => ?_⟩
    have s1 := Same.upd (o := .lst [.int st]) hl
    refine ⟨_, rfl, r, L.c_Row, dr, _, _, rfl, s1 _ _ hr', T.cf_Row.cl, T.nf_Row_breakers, rowF_b _ _ _, B, rfl, ⟨_, SqT.of (s1 _ _ R.tp)⟩, ?_⟩
    refine for_tup (K := K) (a := B) (xs := xs) (fun i σ H2 => ∃ (v2 : Option V), σ = [some (.ref r), some (.ref l), v2] ∧ H2 l = some (.lst ((List.range (i + 1)).map fun i => .int (perW st (wtsT (ts.take i))))) ∧ Same H H2) ⟨none, rfl, upd_same, s1⟩ (fun i σ H2 _ ⟨_, _, _, s⟩ => SqT.of (s _ _ R.tp)) ?_ ?_
    · rintro i x σ H2 hxi ⟨v2, rfl, hc, s2⟩
      obtain ⟨t, ht, q, rfl, hq⟩ := paired_get R.br hxi
      have hq2 := s2 _ _ hq
      have okt := R.ok t (List.mem_of_getElem? ht)
      have hi := (List.getElem?_eq_some_iff.mp ht).1
      have etk : ts.take (i + 1) = ts.take i ++ [t] := by rw [List.take_add_one, ht]; rfl
      obtain ⟨p1, p2⟩ := pd_bd R.s0 R.s1 (ws := wtsT (ts.take i)) (wts_ok fun u hu => R.ok u (List.mem_of_mem_take hu)) (by unfold wtsT; rw [List.length_map, List.length_take]; omega)
      have eP : perW st (wtsT (ts.take (i + 1))) = rupI t.2.1 (perW st (wtsT (ts.take i))) := by
        rw [etk]
        unfold wtsT
        rw [List.map_append, perW_app]
        rfl
      have o1 := okt.2.2.1
      have o2 := okt.2.2.2.1
      have eB : PdB = 13000000000000000000000000000000 := rfl
      obtain ⟨a1, a2, a3⟩ := rup_ask o1 (by omega) p1 p2
      have eL : ((List.range (i + 1)).map fun i => V.int (perW st (wtsT (ts.take i)))) = ((List.range i).map fun i => V.int (perW st (wtsT (ts.take i)))) ++ [.int (perW st (wtsT (ts.take i)))] := by
        rw [List.range_succ, List.map_append]
        rfl
      have at1 : atI ((List.range (i + 1)).map fun i => V.int (perW st (wtsT (ts.take i)))) (-1) = some (.int (perW st (wtsT (ts.take i)))) := by
        rw [eL]
        exact atI_last _ _
      refine ⟨_, rfl, .inl ⟨rfl, _, SqL.of hc⟩, _, rfl, q, _, 1, .int t.2.1, rfl, rfl, SqT.of hq2, rfl, _, rfl, 1, rfl, l, _, -1, .int (perW st (wtsT (ts.take i))), rfl, rfl, SqL.of hc, at1, t.2.1, perW st (wtsT (ts.take i)), rfl, a1, a2, a3, l, _, _, rfl, rfl, hc, small1 (by rw [List.length_map, List.length_range]; omega), ?_⟩
      refine ⟨_, rfl, ?_, fun c o e => by rw [upd_ne (ne_of_none e hl)]; exact s2 _ _ e⟩
      rw [upd_same, List.range_succ (n := i + 1), List.map_append]
      show some (HO.lst (_ ++ [V.int (stepsUp t.2.1 (perW st (wtsT (ts.take i))) * perW st (wtsT (ts.take i)))])) = some (HO.lst (_ ++ [V.int (perW st (wtsT (ts.take (i + 1))))]))
      rw [eP]
      rfl
    · rintro σ H2 ⟨v2, rfl, hc, s2⟩
      rw [xl] at hc
      exact ⟨_, rfl, k l H2 hc s2 hl⟩
theorem ok_periods (T : LX K mg L) : Cal P w K mg base "periods" 3 L.f_periods ["row"] (spPersW L.c_Row) := T.d_periods.cal fun fd F => fn_periods T F
abbrev N_rowperiod : List Str := ["row"]
theorem sc_rowperiod : FnScope N_rowperiod ["row"] (defScope st_row_period) := ⟨rfl, rfl, rfl, by decide +kernel, rfl, by decide +kernel, by decide +kernel⟩
theorem fn_rowperiod (T : LX K mg L) {fd : FuncData} (F : Fun K "row_period" "row_period" st_row_period L.f_row_period fd) : FnOk P w K mg base CX0 4 L.f_row_period fd ["row"] (spRPerW L.c_Row) := by
  have G_periods := ok_periods (P := P) (w := w) (base := base) T
  have nd := sc_rowperiod.nd
  refine F.ok sc_rowperiod (fun vs H Q E h => ?_) (fun cdv A outer S H vs Q E hr h => ?_)
  · obtain ⟨r, B, xs, ts, st, ph, rfl, _⟩ := h
    rfl
  · obtain ⟨r, B, xs, ts, st, ph, rfl, R, k⟩ := h
    refine ⟨_, (pss_one (ps_ret (pe_ix (r := rIxL K) ix_list (pe_c G_periods (hr.mono (by decide)) rfl (pa_cons (pv 0) pa_nil)) (pe_un un_neg pe_int) (fun _ _ => rfl)))), ?_⟩
    refine ⟨_, rfl, r, B, xs, ts, st, ph, rfl, R, fun l H1 hl s1 nl => ⟨1, rfl, l, _, -1, .int (perW st (wtsT ts)), rfl, rfl, SqL.of hl, ?_, k H1 s1⟩⟩
    rw [List.range_succ, List.map_append]
    show atI (_ ++ [V.int (perW st (wtsT (ts.take ts.length)))]) (-1) = _
    rw [List.take_length]
    exact atI_last _ _
theorem ok_rowperiod (T : LX K mg L) : Cal P w K mg base "row_period" 4 L.f_row_period ["row"] (spRPerW L.c_Row) := T.d_row_period.cal fun fd F => fn_rowperiod T F
abbrev N_checkindex : List Str := ["row", "index"]
theorem sc_checkindex : FnScope N_checkindex ["row", "index"] (defScope st_check_index) := ⟨rfl, rfl, rfl, by decide +kernel, rfl, by decide +kernel, by decide +kernel⟩
theorem fn_checkindex (T : LX K mg L) {fd : FuncData} (F : Fun K "check_index" "check_index" st_check_index L.f_check_index fd) : FnOk P w K mg base CX0 3 L.f_check_index fd ["row", "index"] (spCkIx L.c_Row) := by
  have G_iswithin := ok_iswithin (P := P) (w := w) (base := base) T
  have G_Rowlen := ok_Rowlen (P := P) (w := w) (base := base) T
  have nd := sc_checkindex.nd
  refine F.ok sc_checkindex (fun vs H Q E h => ?_) (fun cdv A outer S H vs Q E hr h => ?_)
  · obtain ⟨r, B, xs, ts, st, ph, i, rfl, _⟩ := h
    rfl
  · obtain ⟨r, B, xs, ts, st, ph, i, rfl, R, hi, k⟩ := h
    refine ⟨_, (pss_one (ps_if (pt_not (pt_val (pe_c G_iswithin (hr.mono (by decide)) rfl (pa_cons (pv 1) (pa_cons pe_int (pa_cons (pe_op op_sub (pe_callB (G_Rowlen.c_len (hr.mono (by decide))) (by rfl) T.b_len PySem.boot_len (pa_cons (pv 0) pa_nil)) pe_int) pa_nil)))))) (pss_one (ps_never)) pss_nil)), ?_⟩
    have xl := R.br.len
    have ln := R.ln
    obtain ⟨dr, hr'⟩ := R.ob
    refine ⟨_, rfl, _, rfl, r, dr, _, rfl, hr', r, B, xs, ts, st, ph, rfl, R, _, rfl, by omega, by omega, _, _, rfl, rfl, _, _, _, _, rfl, .int _, _, rfl, ?_⟩
    show if (!(decide ((0 : Int) ≤ (i : Int)) && decide ((i : Int) ≤ (xs.length : Int) - 1))) = true then _ else _
    rw [k6_pos (show (0 : Int) ≤ (i : Int) by omega) (show (i : Int) ≤ (xs.length : Int) - 1 by omega)]
    exact iteF k
theorem ok_checkindex (T : LX K mg L) : Cal P w K mg base "check_index" 3 L.f_check_index ["row", "index"] (spCkIx L.c_Row) := T.d_check_index.cal fun fd F => fn_checkindex T F
abbrev N_rowof : List Str := ["row", "breakers"]
theorem sc_rowof : FnScope N_rowof ["row", "breakers"] (defScope st_row_of) := ⟨rfl, rfl, rfl, by decide +kernel, rfl, by decide +kernel, by decide +kernel⟩
theorem fn_rowof (T : LX K mg L) {fd : FuncData} (F : Fun K "row_of" "row_of" st_row_of L.f_row_of fd) : FnOk P w K mg base CX0 7 L.f_row_of fd ["row", "breakers"] (spRowOf L.c_Row) := by
  have G_Rowsteplength := ok_Rowsteplength (P := P) (w := w) (base := base) T
  have G_Rowphasetime := ok_Rowphasetime (P := P) (w := w) (base := base) T
  have nd := sc_rowof.nd
  refine F.ok sc_rowof (fun vs H Q E h => ?_) (fun cdv A outer S H vs Q E hr h => ?_)
  · obtain ⟨r, B, xs, ts, st, ph, l, ys, us, rfl, _⟩ := h
    rfl
  · obtain ⟨r, B, xs, ts, st, ph, l, ys, us, rfl, R, hl, hb, ok, ln, k⟩ := h
    refine ⟨_, (pss_one (ps_ret (pe_mkRow_p_phase T (hr.mono (by decide)) rfl (pa_cons (pv 1) (pa_cons (G_Rowsteplength.p_m0 T.cf_Row.cl (hr.mono (by decide)) (pv 0)) pa_nil)) (pk_cons (G_Rowphasetime.p_m0 T.cf_Row.cl (hr.mono (by decide)) (pv 0)) pk_nil)))), ?_⟩
    obtain ⟨dr, hr'⟩ := R.ob
    have no1 := rowF_no B st ph (m := "step_length") (by decide +kernel) (by decide +kernel) (by decide +kernel)
    have no2 := rowF_no B st ph (m := "phase_time") (by decide +kernel) (by decide +kernel) (by decide +kernel)
    refine ⟨_, rfl, _, rfl, r, dr, _, rfl, hr', no1, r, B, xs, ts, st, ph, rfl, R, _, rfl, r, dr, _, rfl, hr', no2, r, B, xs, ts, st, ph, rfl, R, rfl, rfl, ?_⟩
    exact row_made (xs := ys) (ts := us) hl hb ok ln ⟨R.s0, R.s1, R.p0, R.p1⟩ fun p W H5 R5 s5 nr5 => k p W H5 R5 s5 nr5
theorem ok_rowof (T : LX K mg L) : Cal P w K mg base "row_of" 7 L.f_row_of ["row", "breakers"] (spRowOf L.c_Row) := T.d_row_of.cal fun fd F => fn_rowof T F
abbrev N_isorder : List Str := ["value", "length", "at"]
theorem sc_isorder : FnScope N_isorder ["value", "length"] (defScope st_is_order) := ⟨rfl, rfl, rfl, by decide +kernel, rfl, by decide +kernel, by decide +kernel⟩
theorem fn_isorder (T : LX K mg L) {fd : FuncData} (F : Fun K "is_order" "is_order" st_is_order L.f_is_order fd) : FnOk P w K mg base CX0 2 L.f_is_order fd ["value", "length"] (spIsOrd) := by
  have G_isinteger := ok_isinteger (P := P) (w := w) (base := base) T
  have nd := sc_isorder.nd
  refine F.ok sc_isorder (fun vs H Q E h => ?_) (fun cdv A outer S H vs Q E hr h => ?_)
  · obtain ⟨l, o, m, rfl, _⟩ := h
    rfl
  · obtain ⟨l, o, m, rfl, hl, ol, ndo, ob, m12, k⟩ := h
    refine ⟨_, (pss_cons (ps_if (PW.pt (pw_or (pt_not (pt_val (pe_callB call_isi (by rfl) T.b_isinstance (by decide +kernel) (pa_cons (pv 0) (pa_cons (pe_bltn (by rfl) T.b_list (by decide +kernel : bootBuiltins "list" = some (.type "list")) (v := .ty "list") rfl) pa_nil))))) (pw_or1 (pt_cmpR op_ne (pe_callB call_len_seq (by rfl) T.b_len PySem.boot_len (pa_cons (pv 0) pa_nil)) (pv 1) (nomark _))))) (pss_one (ps_ret pe_bl)) pss_nil)
       (pss_cons (ps_for PassesOwn.never rfl (pi_list (pv 0)) (pg_name (i := 2) nd rfl (Or.inl rfl)) (pss_one (ps_if (pt_not (pt_val (pe_c G_isinteger (hr.mono (by decide)) rfl (pa_cons (pv 2) pa_nil)))) (pss_one (ps_ret pe_bl)) pss_nil)))
       (pss_one (ps_ret (pe_cmpR (op_eqD hr.units) (pe_callB cr_sorted (by rfl) T.b_sorted (by decide +kernel) (pa_cons (pv 0) pa_nil)) (pe_listRg rfl (by rfl) T.b_list (prg_1 (by rfl) T.b_range (pv 1))) (nomark _)))))), ?_⟩
    have lm : (o.map onV).length = m := by rw [List.length_map, ol]
    refine ⟨_, rfl, _, .ty "list", _, _, _, rfl, .ty "list", (Kd.lst hl).ty, (Kd.lst hl).kit "list" _ (.inr ⟨by decide, by decide, rfl⟩), _, rfl, iteF ?_⟩
    refine ⟨_, rfl, l, _, rfl, .inl (SqL.of hl), _, rfl, rfl, _, rfl, ?_⟩
    rw [lm, decide_eq_true rfl]
    refine iteF ⟨_, rfl, l, rfl, ⟨_, SqL.of hl⟩, ?_⟩
    refine for_list (K := K) (a := l) (xs := o.map onV) (fun i σ Hx => ∃ v2 : Option V, σ = [some (.ref l), some (.int (m : Int)), v2] ∧ Hx = H) ⟨_, rfl, rfl⟩ (fun i σ Hx _ ⟨_, _, e⟩ => by rw [e]; exact SqL.of hl) ?_ ?_
    · rintro i x σ Hx hxi ⟨v2, rfl, rfl⟩
      rw [List.getElem?_map] at hxi
      obtain ⟨a, ha, rfl⟩ := Option.map_eq_some_iff.mp hxi
      refine ⟨_, rfl, _, _, rfl, .int _, _, rfl, iteF ⟨_, rfl, rfl⟩⟩
    · rintro σ Hx ⟨v2, rfl, rfl⟩
      have e : o.map onV = (o.map fun (k : Nat) => (k : Int)).map V.int := by rw [List.map_map]; rfl
      have hl' := hl
      rw [e] at hl'
      refine ⟨_, rfl, l, _, rfl, SqL.of hl', by rw [List.length_map]; omega, fun ns p pm pw hp => ?_⟩
      rw [sorted_full ol ndo ob pm pw]
      have s1 := Same.upd (o := .lst (((List.range m).map fun (k : Nat) => (k : Int)).map V.int)) hp
      refine ⟨_, rfl, (m : Int), rfl, .of_le (by omega) (by omega) (by omega) (by omega), fun q hq => ?_⟩
      have er : rgV 0 (m : Int) = ((List.range m).map fun (k : Nat) => (k : Int)).map V.int := by
        unfold rgV
        rw [List.map_map, Int.sub_zero, Int.toNat_natCast]
        refine List.map_congr_left fun i _ => ?_
        show V.int (0 + (i : Int)) = V.int (i : Int)
        rw [Int.zero_add]
      rw [er]
      have s2 := Same.upd (o := .lst (((List.range m).map fun (k : Nat) => (k : Int)).map V.int)) hq
      refine ⟨_, _, Dp.ints (s2 _ _ upd_same), Dp.ints upd_same, shInts _, shInts _, ?_⟩
      rw [eqInts, decide_eq_true rfl]
      exact k _ (s1.trans s2)
theorem ok_isorder (T : LX K mg L) : Cal P w K mg base "is_order" 2 L.f_is_order ["value", "length"] (spIsOrd) := T.d_is_order.cal fun fd F => fn_isorder T F
abbrev N_reordered : List Str := ["row", "order", "at"]
theorem sc_reordered : FnScope N_reordered ["row", "order"] (defScope st_reordered) := ⟨rfl, rfl, rfl, by decide +kernel, rfl, by decide +kernel, by decide +kernel⟩
theorem fn_reordered (T : LX K mg L) {fd : FuncData} (F : Fun K "reordered" "reordered" st_reordered L.f_reordered fd) : FnOk P w K mg base CX0 8 L.f_reordered fd ["row", "order"] (spReord L.c_Row) := by
  have G_rowof := ok_rowof (P := P) (w := w) (base := base) T
  have G_isorder := ok_isorder (P := P) (w := w) (base := base) T
  have G_Rowlen := ok_Rowlen (P := P) (w := w) (base := base) T
  have G_Rowgetitem := ok_Rowgetitem (P := P) (w := w) (base := base) T
  have nd := sc_reordered.nd
  refine F.ok sc_reordered (fun vs H Q E h => ?_) (fun cdv A outer S H vs Q E hr h => ?_)
  · obtain ⟨r, B, xs, ts, st, ph, l, o, rfl, _⟩ := h
    rfl
  · obtain ⟨r, B, xs, ts, st, ph, l, o, rfl, R, hl, ol, ndo, ob, k⟩ := h
    refine ⟨_, (pss_cons (ps_if (pt_not (pt_val (pe_c G_isorder (hr.mono (by decide)) rfl (pa_cons (pv 1) (pa_cons (pe_callB (G_Rowlen.c_len (hr.mono (by decide))) (by rfl) T.b_len PySem.boot_len (pa_cons (pv 0) pa_nil)) pa_nil))))) (pss_one (ps_never)) pss_nil)
       (pss_one (ps_ret (pe_c G_rowof (hr.mono (by decide)) rfl (pa_cons (pv 0) (pa_cons (pe_lc (own := [("at", 2)]) (g := gName 2) (tt := tYes) rfl nd (pi_list (pv 1)) (blkOk_by (own := [("at", 2)]) (N := N_reordered) (sc := defScope st_reordered) (by decide +kernel)) (fun _ _ _ _ _ => pg_name (i := 2) nd rfl (Or.inl rfl)) (fun _ _ _ _ _ => pts_nil) (fun _ _ _ _ _ => (G_Rowgetitem.p_ix (hr.mono (by decide)) (pv 0) (pv 2)))) pa_nil)))))), ?_⟩
    obtain ⟨dr, hr'⟩ := R.ob
    have xl := R.br.len
    have ln := R.ln
    refine ⟨_, rfl, _, rfl, r, dr, _, rfl, hr', r, B, xs, ts, st, ph, rfl, R, _, rfl, by omega, by omega, ?_⟩
    rw [xl]
    refine ⟨l, o, ts.length, rfl, hl, ol, ndo, ob, ln, fun H1 s1 => ⟨_, rfl, iteF ?_⟩⟩
    refine ⟨_, rfl, _, rfl, l, rfl, ⟨_, SqL.of (s1 _ _ hl)⟩, fun D hD => ?_⟩
    have RR : ∀ {Hx}, Same H1 Hx → RowAt L.c_Row Hx r B xs ts st ph := fun s => R.nl ((NL.of s1).trans (NL.of s))
    refine lc_list (K := K) (a := l) (xs := o.map onV) (fun j Hx => ∃ ys, Hx D = some (.lst ys) ∧ Brs Hx ys (atT ts (o.take j)) ∧ Same H1 Hx) ⟨[], upd_same, .nil, Same.upd hD⟩ (fun j Hx _ ⟨_, _, _, s⟩ => SqL.of (s _ _ (s1 _ _ hl))) ?_ ?_
    · rintro j x Hx hxj ⟨ys, hDx, hy, sx⟩
      rw [List.getElem?_map] at hxj
      obtain ⟨a, ha, rfl⟩ := Option.map_eq_some_iff.mp hxj
      have hj := (List.getElem?_eq_some_iff.mp ha).1
      have al := ob a (List.mem_of_getElem? ha)
      have yl := hy.len
      have tl : (atT ts (o.take j)).length ≤ 12 := by unfold atT; rw [List.length_map, List.length_take]; omega
      obtain ⟨y, hy1⟩ : ∃ y, xs[a]? = some y := ⟨_, List.getElem?_eq_getElem (by omega)⟩
      obtain ⟨t, ht, c, rfl, hc⟩ := paired_get R.br hy1
      have Rx := RR sx
      obtain ⟨dx, hx'⟩ := Rx.ob
      refine ⟨rfl, tYes_of ⟨_, rfl, _, rfl, r, dx, _, rfl, hx', r, B, xs, ts, st, ph, (a : Int), .ref c, rfl, Rx, by omega, atI_nat hy1, by omega, ys, hDx, small1 (by omega), ys ++ [.ref c], upd_same, ?_, fun b u e => by rw [upd_ne (ne_of_none e hD)]; exact sx _ _ e⟩⟩
      have n5 := NL.upd (o := .lst (ys ++ [.ref c])) hDx
      have e : atT ts (o.take (j + 1)) = atT ts (o.take j) ++ [t] := by
        unfold atT
        rw [List.take_add_one, ha, List.map_append]
        show _ ++ [ts.getD a (1, 1, 1)] = _
        rw [List.getD_eq_getElem?_getD, ht]
        rfl
      rw [e]
      exact Brs.app (hy.nl n5) (.cons ⟨c, rfl, n5 _ _ (sx _ _ (s1 _ _ hc)) fun _ z => nomatch z⟩ .nil)
    rintro H2 ⟨ys, hD2, hy2, s2⟩
    rw [List.length_map, List.take_length] at hy2
    refine ⟨r, B, xs, ts, st, ph, D, ys, atT ts o, rfl, RR s2, hD2, hy2, fun u hu => ?_, by unfold atT; rw [List.length_map]; omega, fun p W H3 R3 s3 np => k p W ys H3 R3 ((s1.trans s2).trans s3) (none_of (s1.trans s2) np)⟩
    obtain ⟨a, ha, rfl⟩ := List.mem_map.mp hu
    have al := ob a ha
    rw [List.getD_eq_getElem?_getD, List.getElem?_eq_getElem al]
    exact R.ok _ (List.getElem_mem _)
theorem ok_reordered (T : LX K mg L) : Cal P w K mg base "reordered" 8 L.f_reordered ["row", "order"] (spReord L.c_Row) := T.d_reordered.cal fun fd F => fn_reordered T F
end
/-! ### all orders in the program -/
/-- a comprehension over a list, and then over enumerate -/
theorem lcx_inner {K : PySem.W.Frag} {a : Addr} {xs : List V} {g1 : TG} {tt1 : TT} {te : TE} {vs1 : List Nat} {σ2 : L2.St} {H4 : Hp} {D : Addr} {Nx : Hp → Prop} (Pv : Nat → Hp → Prop) (h0 : Pv 0 H4) (hl : ∀ i H, Pv i H → SqL K H a xs)
    (hs : ∀ (j : Nat) (x : V) (T : Addr) (H : Hp), xs[j]? = some x → Pv j H → H T = none → g1 (.ref T) (wipe σ2 vs1) (upd H T (.tup [.int (j : Nat), x])) fun σ3 H5 => wipe σ3 vs1 = wipe σ2 vs1 ∧ tt1 σ3 H5 fun b H6 =>
      if b = true then te σ3 H6 fun y H7 => ∃ acc, H7 D = some (.lst acc) ∧ acc.length < sizeLine ∧ Pv (j + 1) (upd H7 D (.lst (acc ++ [y]))) else Pv (j + 1) H6) (hd : ∀ H, Pv xs.length H → Nx H) :
    ∃ W1 : Nat → Nat → Hp → Prop, (∃ m, W1 0 m H4) ∧ ∀ j k H, W1 j k H →
      ((Ite K a).stop j H ∧ Nx H) ∨ ((Ite K a).go j H ∧ ∃ Nx1 : Hp → Prop, (∀ H', Nx1 H' → ∃ k', k' < k ∧ W1 (j + 1) k' H') ∧ ∀ x H', (Ite K a).yld j H x H' → g1 x (wipe σ2 vs1) H' fun σ3 H5 => wipe σ3 vs1 = wipe σ2 vs1 ∧ tt1 σ3 H5 fun b H6 =>
        if b = true then te σ3 H6 fun y H7 => ∃ acc, H7 D = some (.lst acc) ∧ acc.length < sizeLine ∧ Nx1 (upd H7 D (.lst (acc ++ [y]))) else Nx1 H6) := by
  refine ⟨fun i m H => m = xs.length - i ∧ i ≤ xs.length ∧ Pv i H, ⟨xs.length, by simp, Nat.zero_le _, h0⟩, ?_⟩
  rintro i m H ⟨rfl, hi, p⟩
  have q := hl i H p
  by_cases hlt : i < xs.length
  · refine .inr ⟨⟨xs, xs[i], q, List.getElem?_eq_getElem hlt⟩, Pv (i + 1), fun H' p' => ⟨xs.length - (i + 1), by omega, rfl, hlt, p'⟩, fun v H' y => ?_⟩
    obtain ⟨T, x', rfl, hT, rfl, f⟩ := y
    exact hs i x' T H (f xs q) p hT
  · have e : i = xs.length := by omega
    subst e
    exact .inl ⟨⟨xs, q, Nat.le_refl _⟩, hd H p⟩
theorem lcx_outer {K : PySem.W.Frag} {a : Addr} {xs : List V} {g : TG} {tt : TT} {wi1 : TI} {g1 : TG} {tt1 : TT} {te : TE} {vs vs1 : List Nat} {σ : L2.St} {H1 : Hp} {D : Addr} {Qd : Hp → Prop} (Pv : Nat → Hp → Prop) (h0 : Pv 0 (upd H1 D (.lst []))) (hl : ∀ i H, Pv i H → SqL K H a xs)
    (hs : ∀ (i : Nat) (x : V) (H : Hp), xs[i]? = some x → Pv i H → g x (wipe σ vs) H fun σ2 H2 => wipe σ2 vs = wipe σ vs ∧ tt σ2 H2 fun b H3 =>
      if b = true then wi1 σ2 H3 fun J1 H4 => ∃ W1 : Nat → Nat → Hp → Prop, (∃ m, W1 0 m H4) ∧ ∀ j k H, W1 j k H →
        (J1.stop j H ∧ Pv (i + 1) H) ∨ (J1.go j H ∧ ∃ Nx1 : Hp → Prop, (∀ H', Nx1 H' → ∃ k', k' < k ∧ W1 (j + 1) k' H') ∧ ∀ x H', J1.yld j H x H' → g1 x (wipe σ2 vs1) H' fun σ3 H5 => wipe σ3 vs1 = wipe σ2 vs1 ∧ tt1 σ3 H5 fun b H6 =>
          if b = true then te σ3 H6 fun y H7 => ∃ acc, H7 D = some (.lst acc) ∧ acc.length < sizeLine ∧ Nx1 (upd H7 D (.lst (acc ++ [y]))) else Nx1 H6)
      else Pv (i + 1) H3) (hd : ∀ H, Pv xs.length H → Qd H) :
    ∃ W : Nat → Nat → Hp → Prop, (∃ m, W 0 m (upd H1 D (.lst []))) ∧ ∀ i m H, W i m H →
      ((Itl K a).stop i H ∧ Qd H) ∨ ((Itl K a).go i H ∧ ∃ Nx : Hp → Prop, (∀ H', Nx H' → ∃ m', m' < m ∧ W (i + 1) m' H') ∧ ∀ x H', (Itl K a).yld i H x H' → g x (wipe σ vs) H' fun σ2 H2 => wipe σ2 vs = wipe σ vs ∧ tt σ2 H2 fun b H3 =>
        if b = true then wi1 σ2 H3 fun J1 H4 => ∃ W1 : Nat → Nat → Hp → Prop, (∃ m, W1 0 m H4) ∧ ∀ j k H, W1 j k H →
          (J1.stop j H ∧ Nx H) ∨ (J1.go j H ∧ ∃ Nx1 : Hp → Prop, (∀ H', Nx1 H' → ∃ k', k' < k ∧ W1 (j + 1) k' H') ∧ ∀ x H', J1.yld j H x H' → g1 x (wipe σ2 vs1) H' fun σ3 H5 => wipe σ3 vs1 = wipe σ2 vs1 ∧ tt1 σ3 H5 fun b H6 =>
            if b = true then te σ3 H6 fun y H7 => ∃ acc, H7 D = some (.lst acc) ∧ acc.length < sizeLine ∧ Nx1 (upd H7 D (.lst (acc ++ [y]))) else Nx1 H6)
        else Nx H3) := by
  refine ⟨fun i m H => m = xs.length - i ∧ i ≤ xs.length ∧ Pv i H, ⟨xs.length, by omega, Nat.zero_le _, h0⟩, ?_⟩
  rintro i m H ⟨rfl, hi, p⟩
  have q := hl i H p
  by_cases hlt : i < xs.length
  · refine .inr ⟨⟨xs, xs[i], q, by simp [hlt]⟩, Pv (i + 1), fun H' p' => ⟨xs.length - (i + 1), by omega, rfl, hlt, p'⟩, fun x H' y => ?_⟩
    obtain ⟨e, y⟩ := y
    subst e
    exact hs i x _ (y xs q) p
  · have e : i = xs.length := by omega
    subst e
    exact .inl ⟨⟨xs, q, Nat.le_refl _⟩, hd H p⟩
theorem inV_ons (k : Nat) : ∀ o : List Nat, inV (.int (k : Int)) (o.map onV) = decide (k ∈ o)
  | [] => by simp [inV]
  | d :: r => by
    have ih := inV_ons k r
    unfold inV at ih ⊢
    rw [List.map_cons, List.any_cons, ih, Bool.eq_iff_iff, Bool.or_eq_true, decide_eq_true_iff, decide_eq_true_iff, List.mem_cons]
    have e : (eqV (onV d) (.int (k : Int)) = true) ↔ k = d := by
      unfold onV eqV
      simp
      omega
    rw [e]
theorem flat_ons (o : List Nat) : (o.map onV).all flatV = true := List.all_eq_true.mpr fun x hx => by
  obtain ⟨k, _, rfl⟩ := List.mem_map.mp hx
  rfl
section
variable {P : Program} {w : World} {K : PySem.W.Frag} {mg : Str → Option Value} {base : Heap} {L : LA}
abbrev N_allorders : List Str := ["row", "waits", "ways", "place", "breaker", "period", "order", "at", "wait"]
theorem sc_allorders : FnScope N_allorders ["row"] (defScope st_all_orders) := ⟨rfl, rfl, rfl, by decide +kernel, rfl, by decide +kernel, by decide +kernel⟩
theorem fn_allorders (T : LX K mg L) {fd : FuncData} (F : Fun K "all_orders" "all_orders" st_all_orders L.f_all_orders fd) : FnOk P w K mg base CX0 4 L.f_all_orders fd ["row"] (spAllO L.c_Row) := by
  have G_Rowlen := ok_Rowlen (P := P) (w := w) (base := base) T
  obtain ⟨tk_MOST_ORDERED, c_MOST_ORDERED⟩ := T.n_MOST_ORDERED
  have G_Rowbreakerlist := ok_Rowbreakerlist (P := P) (w := w) (base := base) T
  have G_Rowsteplength := ok_Rowsteplength (P := P) (w := w) (base := base) T
  have G_roundedup := ok_roundedup (P := P) (w := w) (base := base) T
  have nd := sc_allorders.nd
  refine F.ok sc_allorders (fun vs H Q E h => ?_) (fun cdv A outer S H vs Q E hr h => ?_)
  · obtain ⟨r, B, xs, ts, st, ph, rfl, _⟩ := h
    rfl
  · obtain ⟨r, B, xs, ts, st, ph, rfl, R, t6, k⟩ := h
    refine ⟨_, (pss_cons (ps_if (pt_cmpR op_gt (pe_callB (G_Rowlen.c_len (hr.mono (by decide))) (by rfl) T.b_len PySem.boot_len (pa_cons (pv 0) pa_nil)) (pe_gI c_MOST_ORDERED) (nomark _)) (pss_one (ps_never)) pss_nil)
       (pss_cons (ps_set (i := 1) nd rfl (Or.inr rfl) (pe_lc (own := [("breaker", 4)]) (g := gName 4) (tt := tYes) rfl nd (pi_list (G_Rowbreakerlist.p_m0 T.cf_Row.cl (hr.mono (by decide)) (pv 0))) (blkOk_by (own := [("breaker", 4)]) (N := N_allorders) (sc := defScope st_all_orders) (by decide +kernel)) (fun _ _ _ _ _ => pg_name (i := 4) nd rfl (Or.inl rfl)) (fun _ _ _ _ _ => pts_nil) (fun _ _ _ _ _ => (pe_ix (r := rIxT K) ix_tup (pv 4) pe_int (fun _ _ => rfl)))))
       (pss_cons (ps_set (i := 2) nd rfl (Or.inl rfl) (pe_lst (pa_cons (pe_tup (pa_cons (G_Rowsteplength.p_m0 T.cf_Row.cl (hr.mono (by decide)) (pv 0)) (pa_cons (pe_lst pa_nil) pa_nil))) pa_nil)))
       (pss_cons (ps_for PassesOwn.never rfl (pi_range1 rfl T.b_range (pa_cons (pe_callB call_len_seq (by rfl) T.b_len PySem.boot_len (pa_cons (pv 1) pa_nil)) pa_nil)) (pg_name (i := 3) nd rfl (Or.inl rfl)) (pss_one (ps_setLc2 (i := 2) (own := [("period", 5), ("order", 6), ("at", 7), ("wait", 8)]) (vs1 := [7, 8]) (g := gTup K 2 (gCons (gName 5) (gCons (gName 6) (gNil)))) (tt := tYes) (g1 := gTup K 2 (gCons (gName 7) (gCons (gName 8) (gNil)))) (wi1 := iEnum K _) rfl nd rfl rfl (sw_true rfl rfl rfl (by decide +kernel)) (pi_list (pv 2)) (blkOk_by (own := [("period", 5), ("order", 6), ("at", 7), ("wait", 8)]) (N := N_allorders) (sc := defScope st_all_orders) (by decide +kernel)) (by simp) (fun _ _ _ _ _ => pg_tup rfl (pgs_cons (pg_name (i := 5) nd rfl (Or.inl rfl)) (pgs_cons (pg_name (i := 6) nd rfl (Or.inl rfl)) pgs_nil))) (fun _ _ _ _ _ => pts_nil) (fun _ _ _ _ _ => (pi_enum (by rfl) T.b_enumerate (pa_cons (pv 1) pa_nil))) (fun _ _ _ _ _ => pg_tup rfl (pgs_cons (pg_name (i := 7) nd rfl (Or.inl rfl)) (pgs_cons (pg_name (i := 8) nd rfl (Or.inl rfl)) pgs_nil))) (fun _ _ _ _ _ => pts_one (pt_cmpR (op_notInK (K := K) rfl) (pv 7) (pv 6) rfl)) (fun _ _ _ _ _ => (pe_tup (pa_cons (pe_c G_roundedup (hr.mono (by decide)) rfl (pa_cons (pv 8) (pa_cons (pv 5) pa_nil))) (pa_cons (pe_op op_cat (pv 6) (pe_lst (pa_cons (pv 7) pa_nil))) pa_nil)))))))
       (pss_one (ps_ret (pv 2))))))), ?_⟩
    have xl := R.br.len
    obtain ⟨dr, hr'⟩ := R.ob
    refine ⟨_, rfl, r, dr, _, rfl, hr', r, B, xs, ts, st, ph, rfl, R, _, rfl, by omega, by omega, _, _, rfl, rfl, _, rfl, ?_⟩
    rw [decide_eq_false (show ¬ ((7 : Int) < (xs.length : Nat)) by omega)]
    refine iteF ?_
    -- the waits
    have no1 := rowF_no B st ph (m := "breaker_list") (by decide +kernel) (by decide +kernel) (by decide +kernel)
    have no2 := rowF_no B st ph (m := "step_length") (by decide +kernel) (by decide +kernel) (by decide +kernel)
    refine ⟨_, rfl, r, dr, _, rfl, hr', no1, r, B, xs, ts, st, ph, rfl, R, fun lb Hb0 hlb eHb => ?_⟩
    subst eHb
    have sb := Same.upd (o := .lst xs) hlb
    have hlb1 : (upd H lb (.lst xs)) lb = some (.lst xs) := upd_same
    obtain ⟨Hb, eHb⟩ : ∃ Hb, Hb = upd H lb (.lst xs) := ⟨_, rfl⟩
    rw [← eHb] at sb hlb1 ⊢
    refine ⟨lb, rfl, ⟨_, SqL.of hlb1⟩, fun lw hlw => ?_⟩
    refine lc_list (K := K) (a := lb) (xs := xs) (fun j Hx => Hx lw = some (.lst ((wtsT (ts.take j)).map V.int)) ∧ Same Hb Hx) ⟨upd_same, Same.upd hlw⟩ (fun j Hx _ ⟨_, s⟩ => SqL.of (s _ _ hlb1)) ?_ ?_
    · rintro j x Hx hxj ⟨hDx, sx⟩
      obtain ⟨t, ht, c, rfl, hc⟩ := paired_get R.br hxj
      have hj := (List.getElem?_eq_some_iff.mp ht).1
      refine ⟨rfl, tYes_of ⟨_, rfl, c, _, 1, .int t.2.1, rfl, rfl, SqT.of (sx _ _ (sb _ _ hc)), rfl, _, hDx, small1 (by unfold wtsT; rw [List.length_map, List.length_map, List.length_take]; omega), ?_, fun b u e => by rw [upd_ne (ne_of_none e hlw)]; exact sx _ _ e⟩⟩
      rw [upd_same]
      unfold wtsT
      rw [List.take_add_one, ht, List.map_append, List.map_append]
      rfl
    rintro H1 ⟨hlw1, s1⟩
    rw [xl, List.take_length] at hlw1
    have s01 := sb.trans s1
    have R1 := R.nl (NL.of s01)
    obtain ⟨dr1, hr1⟩ := R1.ob
    have wl : (wtsT ts).length = ts.length := List.length_map ..
    -- the first way
    refine ⟨_, rfl, r, dr1, _, rfl, hr1, no2, r, B, xs, ts, st, ph, rfl, R1, (by show 0 ≤ sizeLine; decide), fun l0 hl0 => ⟨(by show 2 ≤ sizeLine; decide), fun t0 ht0 => ⟨(by show 1 ≤ sizeLine; decide), fun ly hly => ?_⟩⟩⟩
    have a1 := Same.upd (o := .lst []) hl0
    have a2 := Same.upd (o := .tup [.int st, .ref l0]) ht0
    have a3 := Same.upd (o := .lst [.ref t0]) hly
    have s02 := s01.trans ((a1.trans a2).trans a3)
    have hl03 := a3 _ _ (a2 _ _ (upd_same (H := H1) (a := l0) (o := .lst [])))
    have ht03 := a3 _ _ (upd_same (H := upd H1 l0 (.lst [])) (a := t0) (o := .tup [.int st, .ref l0]))
    have hly3 : (upd (upd (upd H1 l0 (.lst [])) t0 (.tup [.int st, .ref l0])) ly (.lst [.ref t0])) ly = some (.lst [.ref t0]) := upd_same
    have hlw3 := a3 _ _ (a2 _ _ (a1 _ _ hlw1))
    have nl0 : H l0 = none := none_of s01 hl0
    have nly : H ly = none := none_of (s01.trans (a1.trans a2)) hly
    have n0y : l0 ≠ ly := ne_of_none (a2 _ _ (upd_same (H := H1) (a := l0) (o := .lst []))) hly
    generalize upd (upd (upd H1 l0 (.lst [])) t0 (.tup [.int st, .ref l0])) ly (.lst [.ref t0]) = H3 at s02 hl03 ht03 hly3 hlw3 ⊢
    refine ⟨_, rfl, lw, _, rfl, .inl (SqL.of hlw3), _, rfl, by rw [List.length_map]; omega, by rw [List.length_map]; omega, ?_⟩
    rw [List.length_map, wl]
    refine for_range (lo := 0) (n := ((ts.length : Nat) : Int).toNat) (fun j σ Hx => ∃ (D : Addr) (zs : List V) (v3 v5 v6 v7 v8 : Option V), σ = [some (.ref r), some (.ref lw), some (.ref D), v3, none, v5, v6, v7, v8] ∧ Hx D = some (.lst zs) ∧ H D = none ∧ Paired (WyN H D Hx) zs (waysG st (wtsT ts) j) ∧ Same H3 Hx)
      ⟨ly, [.ref t0], _, _, _, _, _, rfl, hly3, nly, .cons ⟨t0, l0, rfl, ht03, hl03, nl0, n0y⟩ .nil, Same.refl _⟩ ?_ ?_
    · rintro j σ Hx hj ⟨E, zs, v3, v5, v6, v7, v8, rfl, hE, nE, hz, sx⟩
      have jt : j < ts.length := by omega
      have zl := paired_len hz
      have wj := ways_len (st := st) (ws := wtsT ts) (by omega) (j := j) (by omega)
      have wj1 := ways_len (st := st) (ws := wtsT ts) (by omega) (j := j + 1) (by omega)
      have hlwx := sx _ _ hlw3
      refine ⟨_, rfl, E, rfl, ⟨_, SqL.of hE⟩, fun D hD => ?_⟩
      have sD := Same.upd (o := .lst []) hD
      have nD : H D = none := none_of (s02.trans sx) hD
      have nED : E ≠ D := ne_of_none hE hD
      have fin : ∀ i : Nat, (((waysG st (wtsT ts) j).take i).flatMap fun p => extG (wtsT ts) p ts.length).length ≤ 50000 := fun i => by
        have h1 := flat_take (fun p => extG (wtsT ts) p ts.length) (waysG st (wtsT ts) j) i
        rw [waysG_succ, wl] at wj1
        omega
      refine lcx_outer (K := K) (a := E) (xs := zs) (fun i Hy => ∃ ys, Hy D = some (.lst ys) ∧ Paired (WyN H D Hy) ys (((waysG st (wtsT ts) j).take i).flatMap fun p => extG (wtsT ts) p ts.length) ∧ Same Hx Hy) ⟨[], upd_same, .nil, sD⟩ (fun i Hy ⟨_, _, _, s⟩ => SqL.of (s _ _ hE)) ?_ ?_
      · rintro i x Hy hxi ⟨ys, hDy, hy, sy⟩
        obtain ⟨p, hp, Tp, lo, rfl, hTp, hlo, nlo, nloE⟩ := paired_get hz hxi
        obtain ⟨ep, op⟩ := ways_ok (List.mem_of_getElem? hp)
        obtain ⟨ol, ond, ob⟩ := ord_mem op
        rw [wl] at ob
        refine ⟨Tp, _, rfl, SqT.of (sy _ _ hTp), rfl, _, _, rfl, _, _, rfl, rfl, rfl, tYes_of ?_⟩
        refine ⟨_, rfl, lw, _, rfl, SqL.of (sy _ _ hlwx), ?_⟩
        obtain ⟨p1, p2⟩ := pd_bd R.s0 R.s1 (ws := wsAt (wtsT ts) p.2) (wsAt_ok (wts_ok R.ok) (fun a ha => by rw [wl]; exact ob a ha)) (by unfold wsAt; rw [List.length_map, ol]; omega)
        rw [← ep] at p1 p2
        have etk : ((waysG st (wtsT ts) j).take (i + 1)).flatMap (fun p => extG (wtsT ts) p ts.length) = ((waysG st (wtsT ts) j).take i).flatMap (fun p => extG (wtsT ts) p ts.length) ++ extG (wtsT ts) p ts.length := by
          rw [List.take_add_one, hp, List.flatMap_append]
          show _ ++ [p].flatMap _ = _
          rw [List.flatMap_cons, List.flatMap_nil, List.append_nil]
        have lim := fin (i + 1)
        rw [etk] at lim ⊢
        generalize ((waysG st (wtsT ts) j).take i).flatMap (fun p => extG (wtsT ts) p ts.length) = A at hy lim ⊢
        rw [List.length_append] at lim
        refine lcx_inner (K := K) (a := lw) (xs := (wtsT ts).map V.int) (fun q Hw => ∃ us, Hw D = some (.lst us) ∧ Paired (WyN H D Hw) us (A ++ extG (wtsT ts) p q) ∧ Same Hx Hw) ⟨ys, hDy, by simpa [extG] using hy, sy⟩ (fun q Hw ⟨_, _, _, s⟩ => SqL.of (s _ _ hlwx)) ?_ ?_
        · rintro q x T' Hw hxq ⟨us, hDw, hu, sw⟩ hT'
          rw [List.getElem?_map] at hxq
          obtain ⟨wq, hwq, rfl⟩ := Option.map_eq_some_iff.mp hxq
          have ql := (List.getElem?_eq_some_iff.mp hwq).1
          have wq' : (wtsT ts).getD q 0 = wq := by rw [List.getD_eq_getElem?_getD, hwq]; rfl
          have sT := Same.upd (o := .tup [.int (q : Nat), .int wq]) hT'
          have okw := wts_ok R.ok wq (List.mem_of_getElem? hwq)
          refine ⟨T', _, rfl, SqT.of upd_same, rfl, _, _, rfl, _, _, rfl, rfl, rfl, ?_⟩
          have hloT := sT _ _ (sw _ _ hlo)
          refine ⟨_, rfl, _, rfl, lo, _, rfl, .inl (SqL.of hloT), rfl, flat_ons _, _, rfl, ?_⟩
          show if (!inV (.int (q : Int)) (p.2.map onV)) = true then _ else _
          rw [inV_ons, extG_succ, wq', ← List.append_assoc]
          have hDT := sT _ _ hDw
          have huT := L2.Paired.mapP hu fun _ _ z => z.mv (NL.of sT) fun _ _ _ e => sT _ _ e
          have ul := paired_len hu
          have el : (extG (wtsT ts) p q).length ≤ q := by
            unfold extG
            rw [List.length_map]
            have := List.length_filter_le (fun a => decide (a ∉ p.2)) (List.range q)
            rwa [List.length_range] at this
          rw [List.length_append] at ul
          by_cases c : q ∈ p.2
          · rw [decide_eq_true c, if_pos c, List.append_nil]
            exact iteF ⟨us, hDT, huT, sw.trans sT⟩
          · rw [decide_eq_false c, if_neg c]
            have eB : PdB = 13000000000000000000000000000000 := rfl
            obtain ⟨b1, b2, b3⟩ := rup_ask okw.1 (by omega) p1 p2
            refine iteT ⟨_, rfl, _, rfl, wq, p.1, rfl, b1, b2, b3, _, rfl, _, rfl, (by show 1 ≤ sizeLine; decide), fun la hla => ?_⟩
            have sa := Same.upd (o := .lst [.int (q : Nat)]) hla
            refine ⟨lo, la, _, _, rfl, rfl, sa _ _ hloT, upd_same, small2 (by rw [List.length_map]; show _ + 1 ≤ 100000; omega), fun lc hlc => ⟨(by show 2 ≤ sizeLine; decide), fun t2 ht2 => ?_⟩⟩
            have sc := Same.upd (o := .lst (p.2.map onV ++ [.int (q : Nat)])) hlc
            have s2 := Same.upd (o := .tup [.int (stepsUp wq p.1 * p.1), .ref lc]) ht2
            have sa2 := sa.trans (sc.trans s2)
            have hD2 := sa2 _ _ hDT
            have nlc : H lc = none := none_of ((s02.trans sx).trans (sw.trans (sT.trans sa))) hlc
            have ncD : lc ≠ D := (ne_of_none (sa _ _ hDT) hlc).symm
            have glc := s2 _ _ (upd_same (H := upd (upd Hw T' (.tup [.int (q : Nat), .int wq])) la (.lst [.int (q : Nat)])) (a := lc) (o := .lst (p.2.map onV ++ [.int (q : Nat)])))
            have gt2 : (upd (upd (upd (upd Hw T' (.tup [.int (q : Nat), .int wq])) la (.lst [.int (q : Nat)])) lc (.lst (p.2.map onV ++ [.int (q : Nat)]))) t2 (.tup [.int (stepsUp wq p.1 * p.1), .ref lc])) t2 = some (.tup [.int (stepsUp wq p.1 * p.1), .ref lc]) := upd_same
            generalize upd (upd (upd (upd Hw T' (.tup [.int (q : Nat), .int wq])) la (.lst [.int (q : Nat)])) lc (.lst (p.2.map onV ++ [.int (q : Nat)]))) t2 (.tup [.int (stepsUp wq p.1 * p.1), .ref lc]) = Hq at sa2 hD2 glc gt2 ⊢
            have n7 := NL.upd (o := .lst (us ++ [.ref t2])) hD2
            refine ⟨us, hD2, small1 (by omega), us ++ [.ref t2], upd_same, ?_, fun b o e => ?_⟩
            · refine paired_app (L2.Paired.mapP huT fun _ _ z => z.mv ((NL.of sa2).trans n7) fun b o nb e => (upd_ne nb).trans (sa2 _ _ e)) (.cons ⟨t2, lc, rfl, n7 _ _ gt2 (fun _ z => nomatch z), ?_, nlc, ncD⟩ .nil)
              rw [upd_ne ncD, glc, List.map_append]
              rfl
            · rw [upd_ne (ne_of_none e hD)]
              exact sa2 _ _ (sT _ _ (sw _ _ e))
        · rintro Hw ⟨us, hDw, hu, sw⟩
          rw [List.length_map, wl] at hu
          exact ⟨us, hDw, hu, sw⟩
      · rintro Hy ⟨ys, hDy, hy, sy⟩
        rw [zl, List.take_length] at hy
        refine ⟨D, ys, _, v5, v6, v7, v8, rfl, hDy, nD, ?_, sx.trans sy⟩
        rw [waysG_succ, wl]
        exact hy
    · rintro σ Hx ⟨D, zs, v3, v5, v6, v7, v8, rfl, hDx, nD, hz, sx⟩
      rw [Int.toNat_natCast] at hz
      exact ⟨_, rfl, k D zs Hx hDx ⟨D, nD, hz⟩ (s02.trans sx) nD⟩
theorem ok_allorders (T : LX K mg L) : Cal P w K mg base "all_orders" 4 L.f_all_orders ["row"] (spAllO L.c_Row) := T.d_all_orders.cal fun fd F => fn_allorders T F
end
/-! ### best and worst orders, other rows -/
theorem ways_ne {st : Int} {ws : List Int} : ∃ x xs, waysG st ws ws.length = x :: xs := by
  obtain ⟨o, ho⟩ := ord_ne (m := ws.length)
  have h : wayG st ws o ∈ waysG st ws ws.length := List.mem_map.mpr ⟨o, ho, rfl⟩
  cases e : waysG st ws ws.length with
  | nil => rw [e] at h; cases h
  | cons x xs => exact ⟨x, xs, rfl⟩
theorem alike_ords : ∀ o o' : List Nat, PySem.W.alikeAll (o.map onD) (o'.map onD) = true
  | [], _ => by simp [PySem.W.alikeAll]
  | _ :: _, [] => by simp [PySem.W.alikeAll]
  | a :: r, b :: s => by
    rw [List.map_cons, List.map_cons, PySem.W.alikeAll, alike_ords r s]
    simp [onD, PySem.W.alike]
theorem alike_way (p q : Int × List Nat) : PySem.W.alike (wayD p) (wayD q) = true := by
  simp [wayD, ordD, PySem.W.alike, PySem.W.alikeAll, alike_ords]
theorem alike_ways (ps : List (Int × List Nat)) : PySem.W.AlikeAll (ps.map wayD) := by
  refine ⟨fun x hx y hy => ?_, fun x hx e => ?_⟩
  · obtain ⟨p, _, rfl⟩ := List.mem_map.mp hx
    obtain ⟨q, _, rfl⟩ := List.mem_map.mp hy
    exact alike_way p q
  · obtain ⟨p, _, rfl⟩ := List.mem_map.mp hx
    cases e
theorem ons_depth : ∀ o : List Nat, PyData.depthAll (o.map onD) ≤ 1 ∧ PyData.canLayAll0 (o.map onD) = true
  | [] => by simp [PyData.depthAll, PyData.canLayAll0]
  | k :: r => by
    obtain ⟨h1, h2⟩ := ons_depth r
    rw [List.map_cons, PyData.depthAll, PyData.canLayAll0, h2]
    have h3 : (onD k).depth ≤ 1 := by simp [onD, PyData.depth]
    exact ⟨by omega, by simp [onD, PyData.canLay0]⟩
theorem way_depth (p : Int × List Nat) : (wayD p).depth ≤ 6 ∧ (wayD p).canLay0 = true := by
  obtain ⟨h1, h2⟩ := ons_depth p.2
  refine ⟨?_, ?_⟩
  · simp only [wayD, ordD, PyData.depth, PyData.depthAll]
    omega
  · simp only [wayD, ordD, PyData.canLay0, PyData.canLayAll0, h2, Bool.and_true]
theorem ways_depth : ∀ ps : List (Int × List Nat), PyData.depthAll (ps.map wayD) ≤ 7 ∧ PyData.canLayAll0 (ps.map wayD) = true
  | [] => by simp [PyData.depthAll, PyData.canLayAll0]
  | p :: r => by
    obtain ⟨h1, h2⟩ := ways_depth r
    obtain ⟨h3, h4⟩ := way_depth p
    rw [List.map_cons, PyData.depthAll, PyData.canLayAll0, h2, h4]
    exact ⟨by omega, rfl⟩
/-- the least of ways, by Python's min -/
theorem min_way {K : PySem.W.Frag} {H0 H : Hp} {D l : Addr} {ws : List V} {wts : List Int} {x : Int × List Nat} {xs : List (Int × List Nat)} {Q : VK} (hl : H l = some (.lst ws)) (hw : Paired (WyN H0 D H) ws (x :: xs)) (hx : x.2.length = wts.length) (hxs : ∀ y ∈ xs, y.2.length = wts.length) (k : ∀ v, v ∈ ws → WyN H0 D H v (minG x xs) → Q v H) : rMinDat K [.ref l] H Q := by
  refine ⟨l, ws, wayD x, xs.map wayD, rfl, SqL.of hl, wys_dp hw, alike_ways (x :: xs), by have := (ways_depth (x :: xs)).1; rw [List.map_cons] at this; omega, fun i y hy he => ?_⟩
  rw [minD_way hx hxs] at he
  obtain ⟨p, hp, hyp⟩ := paired_get hw hy
  have he2 : ((x :: xs).map wayD)[i]? = some (wayD (minG x xs)) := he
  rw [List.getElem?_map, hp] at he2
  have e := Option.some.inj he2
  have inj : ∀ o o' : List Nat, o.map onD = o'.map onD → o = o' := by
    intro o
    induction o with
    | nil =>
      intro o' h
      cases o' with
      | nil => rfl
      | cons => cases h
    | cons a r ih =>
      intro o' h
      cases o' with
      | nil => cases h
      | cons b s =>
        injection h with h1 h2
        injection h1 with h1
        rw [ih s h2, show a = b by omega]
  have ep : p = minG x xs := by
    unfold wayD ordD at e
    injection e with e
    injection e with e1 e2
    injection e1 with e1
    injection e2 with e2 _
    injection e2 with e2
    exact Prod.ext e1 (inj _ _ e2)
  rw [ep] at hyp
  exact k y (List.mem_of_getElem? hy) hyp
theorem cut_pre {xs : List V} {k : Nat} (h : k ≤ xs.length) : cutV xs none (some (k : Int)) = xs.take k := by
  have h1 : HT.sIx xs.length 0 none = 0 := rfl
  have h2 : HT.sIx xs.length xs.length (some (k : Int)) = k := by
    rw [HT.sIx_nat]
    exact Nat.min_eq_left h
  unfold cutV
  rw [h1, h2, List.drop_zero, Nat.sub_zero]
theorem cut_suf {xs : List V} {k : Nat} (h : k ≤ xs.length) : cutV xs (some (k : Int)) none = xs.drop k := by
  have h1 : HT.sIx xs.length 0 (some (k : Int)) = k := by
    rw [HT.sIx_nat]
    exact Nat.min_eq_left h
  have h2 : HT.sIx xs.length xs.length none = xs.length := rfl
  unfold cutV
  rw [h1, h2, List.take_of_length_le (by rw [List.length_drop]; exact Nat.le_refl _)]
theorem ixN_nat {n i : Nat} (h : i < n) : ixN n (i : Int) = some i := by
  unfold ixN
  rw [if_pos (show (0 : Int) ≤ i by omega), if_pos (show (i : Int) < n by omega)]
  congr 1
theorem paired_takeB {α β : Type} {F : α → β → Prop} : ∀ (n : Nat) {xs : List α} {ys : List β}, Paired F xs ys → Paired F (xs.take n) (ys.take n)
  | _, _, _, .nil => by rw [List.take_nil, List.take_nil]; exact .nil
  | 0, _, _, .cons _ _ => .nil
  | n + 1, _, _, .cons h t => .cons h (paired_takeB n t)
theorem paired_dropB {α β : Type} {F : α → β → Prop} : ∀ (n : Nat) {xs : List α} {ys : List β}, Paired F xs ys → Paired F (xs.drop n) (ys.drop n)
  | _, _, _, .nil => by rw [List.drop_nil, List.drop_nil]; exact .nil
  | 0, _, _, .cons h t => .cons h t
  | n + 1, _, _, .cons _ t => paired_dropB n t
theorem paired_setB {α β : Type} {F : α → β → Prop} : ∀ {xs : List α} {ys : List β} {i : Nat} {x : α} {y : β}, Paired F xs ys → F x y → Paired F (xs.set i x) (ys.set i y)
  | _, _, _, _, _, .nil, _ => .nil
  | _, _, 0, _, _, .cons _ t, h => .cons h t
  | _, _, i + 1, _, _, .cons z t, h => .cons z (paired_setB (i := i) t h)
section
variable {P : Program} {w : World} {K : PySem.W.Frag} {mg : Str → Option Value} {base : Heap} {L : LA}
abbrev N_bestorder : List Str := ["row"]
theorem sc_bestorder : FnScope N_bestorder ["row"] (defScope st_best_order) := ⟨rfl, rfl, rfl, by decide +kernel, rfl, by decide +kernel, by decide +kernel⟩
theorem fn_bestorder (T : LX K mg L) {fd : FuncData} (F : Fun K "best_order" "best_order" st_best_order L.f_best_order fd) : FnOk P w K mg base CX0 5 L.f_best_order fd ["row"] (spBestO L.c_Row) := by
  have G_allorders := ok_allorders (P := P) (w := w) (base := base) T
  have nd := sc_bestorder.nd
  refine F.ok sc_bestorder (fun vs H Q E h => ?_) (fun cdv A outer S H vs Q E hr h => ?_)
  · obtain ⟨r, B, xs, ts, st, ph, rfl, _⟩ := h
    rfl
  · obtain ⟨r, B, xs, ts, st, ph, rfl, R, t6, k⟩ := h
    refine ⟨_, (pss_one (ps_ret (pe_callB (call_minD hr.units) (by rfl) T.b_min (by decide +kernel) (pa_cons (pe_c G_allorders (hr.mono (by decide)) rfl (pa_cons (pv 0) pa_nil)) pa_nil)))), ?_⟩
    refine ⟨_, rfl, r, B, xs, ts, st, ph, rfl, R, t6, fun l ws H1 hl hws s1 nl => ?_⟩
    obtain ⟨D, nD, hw⟩ := hws
    obtain ⟨x, xs', e⟩ := ways_ne (st := st) (ws := wtsT ts)
    have wl : (wtsT ts).length = ts.length := List.length_map ..
    rw [wl] at e
    have len : ∀ y ∈ waysG st (wtsT ts) ts.length, y.2.length = (wtsT ts).length := fun y hy => by
      rw [wl]
      exact (ord_mem (ways_ok hy).2).1
    rw [e] at hw len
    exact min_way (wts := wtsT ts) hl hw (len x (List.mem_cons_self ..)) (fun y hy => len y (List.mem_cons_of_mem _ hy)) fun v _ hv => k v x xs' H1 e ⟨D, hv⟩ s1
theorem ok_bestorder (T : LX K mg L) : Cal P w K mg base "best_order" 5 L.f_best_order ["row"] (spBestO L.c_Row) := T.d_best_order.cal fun fd F => fn_bestorder T F
abbrev N_worstorder : List Str := ["row", "ways", "worst", "way"]
theorem sc_worstorder : FnScope N_worstorder ["row"] (defScope st_worst_order) := ⟨rfl, rfl, rfl, by decide +kernel, rfl, by decide +kernel, by decide +kernel⟩
theorem fn_worstorder (T : LX K mg L) {fd : FuncData} (F : Fun K "worst_order" "worst_order" st_worst_order L.f_worst_order fd) : FnOk P w K mg base CX0 5 L.f_worst_order fd ["row"] (spWorstO L.c_Row) := by
  have G_allorders := ok_allorders (P := P) (w := w) (base := base) T
  have nd := sc_worstorder.nd
  refine F.ok sc_worstorder (fun vs H Q E h => ?_) (fun cdv A outer S H vs Q E hr h => ?_)
  · obtain ⟨r, B, xs, ts, st, ph, rfl, _⟩ := h
    rfl
  · obtain ⟨r, B, xs, ts, st, ph, rfl, R, t6, k⟩ := h
    refine ⟨_, (pss_cons (ps_set (i := 1) nd rfl (Or.inl rfl) (pe_c G_allorders (hr.mono (by decide)) rfl (pa_cons (pv 0) pa_nil)))
       (pss_cons (ps_set (i := 2) nd rfl (Or.inl rfl) (pe_ix (r := rIxL K) ix_list (pv 1) pe_int (fun _ _ => rfl)))
       (pss_cons (ps_for PassesOwn.never rfl (pi_list (pv 1)) (pg_name (i := 3) nd rfl (Or.inl rfl)) (pss_one (ps_if (pt_cmpR op_gt (pe_ix (r := rIxT K) ix_tup (pv 3) pe_int (fun _ _ => rfl)) (pe_ix (r := rIxT K) ix_tup (pv 2) pe_int (fun _ _ => rfl)) (nomark _)) (pss_one (ps_set (i := 2) nd rfl (Or.inl rfl) (pv 3))) pss_nil)))
       (pss_one (ps_ret (pv 2)))))), ?_⟩
    refine ⟨_, rfl, r, B, xs, ts, st, ph, rfl, R, t6, fun l ws H1 hl hws s1 nl => ?_⟩
    obtain ⟨D, nD, hw⟩ := hws
    obtain ⟨x, xs', e⟩ := ways_ne (st := st) (ws := wtsT ts)
    have wl : (wtsT ts).length = ts.length := List.length_map ..
    rw [wl] at e
    rw [e] at hw
    have wsl := paired_len hw
    obtain ⟨v0, hv0⟩ : ∃ v, ws[0]? = some v := ⟨_, List.getElem?_eq_getElem (by rw [wsl]; exact Nat.succ_pos _)⟩
    obtain ⟨p0, hp0, hv⟩ := paired_get hw hv0
    have hp0 : x = p0 := Option.some.inj hp0
    subst hp0
    refine ⟨_, rfl, l, ws, 0, v0, rfl, rfl, SqL.of hl, atI_nat hv0, ?_⟩
    refine ⟨_, rfl, l, rfl, ⟨_, SqL.of hl⟩, ?_⟩
    refine for_list (K := K) (a := l) (xs := ws) (fun i σ Hx => ∃ (v : V) (v3 : Option V), σ = [some (.ref r), some (.ref l), some v, v3] ∧ WyN H D H1 v (worG x (xs'.take (i - 1))) ∧ Hx = H1) ⟨v0, none, rfl, hv, rfl⟩ (fun i σ Hx _ ⟨_, _, _, _, e⟩ => by rw [e]; exact SqL.of hl) ?_ ?_
    · rintro i y σ Hx hyi ⟨v, v3, rfl, hv', rfl⟩
      obtain ⟨q, hq, hyq⟩ := paired_get hw hyi
      obtain ⟨T1, l1, rfl, h1, h2, h3, h4⟩ := hyq
      obtain ⟨T2, l2, rfl, g1, g2, g3, g4⟩ := hv'
      have ew : worG x (xs'.take (i + 1 - 1)) = if q.1 > (worG x (xs'.take (i - 1))).1 then q else worG x (xs'.take (i - 1)) := by
        cases i with
        | zero =>
          have hq : x = q := Option.some.inj hq
          rw [← hq]
          show x = if x.1 > x.1 then x else x
          rw [if_neg (by omega)]
        | succ i =>
          have hq : xs'[i]? = some q := hq
          show worG x (xs'.take (i + 1)) = if q.1 > (worG x (xs'.take i)).1 then q else worG x (xs'.take i)
          unfold worG
          rw [List.take_add_one, hq, List.foldl_append]
          rfl
      rw [ew]
      generalize worG x (xs'.take (i - 1)) = p at g1 g2 ⊢
      refine ⟨_, rfl, T1, _, 0, .int q.1, rfl, rfl, SqT.of h1, rfl, _, rfl, T2, _, 0, .int p.1, rfl, rfl, SqT.of g1, rfl, _, _, rfl, rfl, _, rfl, ?_⟩
      refine ite2 (fun c => ?_) (fun c => ?_)
      · rw [if_pos (of_decide_eq_true c)]
        exact ⟨_, rfl, .ref T1, _, rfl, ⟨T1, l1, rfl, h1, h2, h3, h4⟩, rfl⟩
      · rw [if_neg (fun z => c (decide_eq_true z))]
        exact ⟨.ref T2, _, rfl, ⟨T2, l2, rfl, g1, g2, g3, g4⟩, rfl⟩
    · rintro σ Hx ⟨v, v3, rfl, hv', rfl⟩
      rw [wsl, List.length_cons, Nat.add_sub_cancel, List.take_length] at hv'
      exact ⟨_, rfl, k v x xs' _ e ⟨D, hv'⟩ s1⟩
theorem ok_worstorder (T : LX K mg L) : Cal P w K mg base "worst_order" 5 L.f_worst_order ["row"] (spWorstO L.c_Row) := T.d_worst_order.cal fun fd F => fn_worstorder T F
abbrev N_without : List Str := ["row", "index", "breakers"]
theorem sc_without : FnScope N_without ["row", "index"] (defScope st_without) := ⟨rfl, rfl, rfl, by decide +kernel, rfl, by decide +kernel, by decide +kernel⟩
theorem fn_without (T : LX K mg L) {fd : FuncData} (F : Fun K "without" "without" st_without L.f_without fd) : FnOk P w K mg base CX0 8 L.f_without fd ["row", "index"] (spWithout L.c_Row) := by
  have G_Rowbreakerlist := ok_Rowbreakerlist (P := P) (w := w) (base := base) T
  have G_checkindex := ok_checkindex (P := P) (w := w) (base := base) T
  have G_rowof := ok_rowof (P := P) (w := w) (base := base) T
  have nd := sc_without.nd
  refine F.ok sc_without (fun vs H Q E h => ?_) (fun cdv A outer S H vs Q E hr h => ?_)
  · obtain ⟨r, B, xs, ts, st, ph, i, rfl, _⟩ := h
    rfl
  · obtain ⟨r, B, xs, ts, st, ph, i, rfl, R, hi, k⟩ := h
    refine ⟨_, (pss_cons (ps_expr (pe_c G_checkindex (hr.mono (by decide)) rfl (pa_cons (pv 0) (pa_cons (pv 1) pa_nil))))
       (pss_cons (ps_set (i := 2) nd rfl (Or.inl rfl) (G_Rowbreakerlist.p_m0 T.cf_Row.cl (hr.mono (by decide)) (pv 0)))
       (pss_one (ps_ret (pe_c G_rowof (hr.mono (by decide)) rfl (pa_cons (pv 0) (pa_cons (pe_op op_cat (pe_slice (r := rSlL K) sl_list (pv 2) po_none (po_some (pv 1))) (pe_slice (r := rSlL K) sl_list (pv 2) (po_some (pe_op op_add (pv 1) pe_int)) po_none)) pa_nil))))))), ?_⟩
    have xl := R.br.len
    have ln := R.ln
    obtain ⟨dr, hr'⟩ := R.ob
    have no1 := rowF_no B st ph (m := "breaker_list") (by decide +kernel) (by decide +kernel) (by decide +kernel)
    refine ⟨_, rfl, _, rfl, r, B, xs, ts, st, ph, i, rfl, R, hi, ?_⟩
    refine ⟨_, rfl, r, dr, _, rfl, hr', no1, r, B, xs, ts, st, ph, rfl, R, fun lb Hb hlb eHb => ?_⟩
    subst eHb
    have sb := Same.upd (o := .lst xs) hlb
    have hlb1 : (upd H lb (.lst xs)) lb = some (.lst xs) := upd_same
    generalize upd H lb (.lst xs) = Hb at sb hlb1 ⊢
    refine ⟨_, rfl, _, rfl, _, rfl, (i : Int), rfl, lb, xs, rfl, SqL.of hlb1, fun l1 hl1 => ?_⟩
    rw [cut_pre (show i ≤ xs.length by omega)]
    have s1 := Same.upd (o := .lst (xs.take i)) hl1
    have hl11 : (upd Hb l1 (.lst (xs.take i))) l1 = some (.lst (xs.take i)) := upd_same
    refine ⟨_, rfl, _, rfl, _, _, rfl, rfl, (i : Int) + 1, rfl, lb, xs, rfl, SqL.of (s1 _ _ hlb1), fun l2 hl2 => ?_⟩
    rw [show (i : Int) + 1 = ((i + 1 : Nat) : Int) by omega, cut_suf (show i + 1 ≤ xs.length by omega)]
    have s2 := Same.upd (o := .lst (xs.drop (i + 1))) hl2
    refine ⟨l1, l2, _, _, rfl, rfl, s2 _ _ hl11, upd_same, small2 (by rw [List.length_take, List.length_drop]; omega), fun l3 hl3 => ?_⟩
    have s3 := Same.upd (o := .lst (xs.take i ++ xs.drop (i + 1))) hl3
    have s03 := sb.trans (s1.trans (s2.trans s3))
    refine ⟨r, B, xs, ts, st, ph, l3, xs.take i ++ xs.drop (i + 1), ts.take i ++ ts.drop (i + 1), rfl, R.nl (NL.of s03), upd_same, ?_, fun u hu => ?_, ?_, fun p W H4 R4 s4 np => k p W _ H4 R4 (s03.trans s4) (none_of s03 np)⟩
    · have b := R.br.nl (NL.of s03)
      exact Brs.app (paired_takeB i b) (paired_dropB (i + 1) b)
    · rcases List.mem_append.mp hu with hu | hu
      · exact R.ok u (List.mem_of_mem_take hu)
      · exact R.ok u (List.mem_of_mem_drop hu)
    · rw [List.length_append, List.length_take, List.length_drop]
      omega
theorem ok_without (T : LX K mg L) : Cal P w K mg base "without" 8 L.f_without ["row", "index"] (spWithout L.c_Row) := T.d_without.cal fun fd F => fn_without T F
abbrev N_withwait : List Str := ["row", "index", "wait", "breakers", "failures", "old", "successes"]
theorem sc_withwait : FnScope N_withwait ["row", "index", "wait"] (defScope st_with_wait) := ⟨rfl, rfl, rfl, by decide +kernel, rfl, by decide +kernel, by decide +kernel⟩
theorem fn_withwait (T : LX K mg L) {fd : FuncData} (F : Fun K "with_wait" "with_wait" st_with_wait L.f_with_wait fd) : FnOk P w K mg base CX0 8 L.f_with_wait fd ["row", "index", "wait"] (spWithW L.c_Row) := by
  have G_Rowbreakerlist := ok_Rowbreakerlist (P := P) (w := w) (base := base) T
  have G_checkindex := ok_checkindex (P := P) (w := w) (base := base) T
  have G_rowof := ok_rowof (P := P) (w := w) (base := base) T
  have G_iswithin := ok_iswithin (P := P) (w := w) (base := base) T
  obtain ⟨tk_MOST_TIME, c_MOST_TIME⟩ := T.n_MOST_TIME
  have nd := sc_withwait.nd
  refine F.ok sc_withwait (fun vs H Q E h => ?_) (fun cdv A outer S H vs Q E hr h => ?_)
  · obtain ⟨r, B, xs, ts, st, ph, i, w', t, rfl, _⟩ := h
    rfl
  · obtain ⟨r, B, xs, ts, st, ph, i, w', t, rfl, R, ht, w1, w2, k⟩ := h
    refine ⟨_, (pss_cons (ps_expr (pe_c G_checkindex (hr.mono (by decide)) rfl (pa_cons (pv 0) (pa_cons (pv 1) pa_nil))))
       (pss_cons (ps_if (pt_not (pt_val (pe_c G_iswithin (hr.mono (by decide)) rfl (pa_cons (pv 2) (pa_cons pe_int (pa_cons (pe_gI c_MOST_TIME) pa_nil)))))) (pss_one (ps_never)) pss_nil)
       (pss_cons (ps_set (i := 3) nd rfl (Or.inl rfl) (G_Rowbreakerlist.p_m0 T.cf_Row.cl (hr.mono (by decide)) (pv 0)))
       (pss_cons (ps_asg (pe_ix (r := rIxL K) ix_list (pv 3) (pv 1) (fun _ _ => rfl)) (pg_tup rfl (pgs_cons (pg_name (i := 4) nd rfl (Or.inl rfl)) (pgs_cons (pg_name (i := 5) nd rfl (Or.inl rfl)) (pgs_cons (pg_name (i := 6) nd rfl (Or.inl rfl)) pgs_nil)))))
       (pss_cons (ps_asg (pe_tup (pa_cons (pv 4) (pa_cons (pv 2) (pa_cons (pv 6) pa_nil)))) (pg_sub (pv 3) (pv 1) set_list))
       (pss_one (ps_ret (pe_c G_rowof (hr.mono (by decide)) rfl (pa_cons (pv 0) (pa_cons (pv 3) pa_nil)))))))))), ?_⟩
    have xl := R.br.len
    have ln := R.ln
    have hi := (List.getElem?_eq_some_iff.mp ht).1
    obtain ⟨dr, hr'⟩ := R.ob
    have no1 := rowF_no B st ph (m := "breaker_list") (by decide +kernel) (by decide +kernel) (by decide +kernel)
    refine ⟨_, rfl, _, rfl, r, B, xs, ts, st, ph, i, rfl, R, hi, ?_⟩
    refine ⟨_, rfl, _, _, _, _, rfl, .int _, _, rfl, ?_⟩
    show if (!(decide ((1 : Int) ≤ w') && decide (w' ≤ 1000000000000000000000000000000))) = true then _ else _
    rw [k6_pos w1 w2]
    refine iteF ⟨_, rfl, r, dr, _, rfl, hr', no1, r, B, xs, ts, st, ph, rfl, R, fun lb Hb hlb eHb => ?_⟩
    subst eHb
    have sb := Same.upd (o := .lst xs) hlb
    have hlb1 : (upd H lb (.lst xs)) lb = some (.lst xs) := upd_same
    generalize upd H lb (.lst xs) = Hb at sb hlb1 ⊢
    obtain ⟨y, hy⟩ : ∃ y, xs[i]? = some y := ⟨_, List.getElem?_eq_getElem (by omega)⟩
    obtain ⟨t', ht', c, rfl, hc⟩ := paired_get R.br hy
    rw [ht] at ht'
    cases ht'
    refine ⟨_, rfl, _, rfl, lb, xs, (i : Int), .ref c, rfl, rfl, SqL.of hlb1, atI_nat hy, ?_⟩
    refine ⟨c, _, rfl, SqT.of (sb _ _ hc), rfl, _, _, rfl, _, _, rfl, _, _, rfl, rfl, ?_⟩
    refine ⟨_, rfl, _, rfl, _, rfl, (by show 3 ≤ sizeLine; decide), fun tq htq => ?_⟩
    have sq := Same.upd (o := .tup [.int t.1, .int w', .int t.2.2]) htq
    have hlq := sq _ _ hlb1
    have gq : (upd Hb tq (.tup [.int t.1, .int w', .int t.2.2])) tq = some (.tup [.int t.1, .int w', .int t.2.2]) := upd_same
    refine ⟨_, rfl, _, rfl, lb, xs, (i : Int), i, rfl, rfl, hlq, ixN_nat (by omega), ?_⟩
    have n7 := NL.upd (o := .lst (xs.set i (.ref tq))) hlq
    have s02 : Same H (upd (upd Hb tq (.tup [.int t.1, .int w', .int t.2.2])) lb (.lst (xs.set i (.ref tq)))) := fun b o e => by
      rw [upd_ne (ne_of_none e hlb)]
      exact sq _ _ (sb _ _ e)
    have b0 := R.br.nl ((NL.of sb).trans ((NL.of sq).trans n7))
    refine ⟨_, rfl, _, rfl, r, B, xs, ts, st, ph, lb, xs.set i (.ref tq), ts.set i (t.1, w', t.2.2), rfl, R.nl (NL.of s02), upd_same, paired_setB b0 ⟨tq, rfl, n7 _ _ gq fun _ z => nomatch z⟩, fun u hu => ?_, by rw [List.length_set]; exact ln, fun p W H4 R4 s4 np => k p W _ H4 R4 (s02.trans s4) (none_of s02 np)⟩
    rcases List.mem_or_eq_of_mem_set hu with hu | rfl
    · exact R.ok u hu
    · have o := R.ok t (List.mem_of_getElem? ht)
      exact ⟨o.1, o.2.1, w1, w2, o.2.2.2.2⟩
theorem ok_withwait (T : LX K mg L) : Cal P w K mg base "with_wait" 8 L.f_with_wait ["row", "index", "wait"] (spWithW L.c_Row) := T.d_with_wait.cal fun fd F => fn_withwait T F
end
/-! ### range with a great step -/
section
open PySem.Builtin.SmallTypes PyProof.Rows
theorem turn_rangeL {P : Program} {w : World} {K : PySem.W.Frag} {tg : Expr} (it : Addr) (lo c : Int) (n : Nat) : Turn P w K tg (Itc lo c n) [it] it (fun i h => IsLongIter h it (lo + (i : Nat) * c) ((n : Int) - (i : Nat)) c) where
  mem := by simp
  obj := fun i h st b hb => by
    have e : b = it := by simpa using hb
    subst e
    exact ⟨_, st, fun v z => nomatch z⟩
  keep := fun i h h' st k => k it (by simp) _ st
  item := by
    intro X hP hw hK hc i pins s σ H E I hf st hg
    subst hP hw hK
    obtain ⟨f0, f1, f2, f3, f4, f5⟩ := hf it (by simp)
    have W := Walks.longrange (prog := X.prog) (w := X.w) (I.ok.hd hc) it lo c n
    refine W.item i s _ _ hg st fun v h' tk hv st' kk => ?_
    obtain ⟨t, rfl⟩ := hv
    have I1 : Inv X pins σ H { s with heap := h', toks := tk } := I.turned (fun b o hb e => kk b o (by simpa using hb) e) f0 f1 f3 f4 f5
    exact ⟨_, rfl, go_of (s := { s with heap := h', toks := tk }) (n := "longrange_iterator") st' rfl rfl (by decide) ⟨.int (lo + (i : Nat) * c), H, I1, ⟨t, rfl⟩, ⟨rfl, rfl⟩, st', fun b hb => (hf b hb).1⟩⟩
  done := by
    intro X hP hw hK hc i pins s σ H E I hf st hg
    subst hP hw hK
    obtain ⟨f0, f1, f2, f3, f4, f5⟩ := hf it (by simp)
    exact wpAny_pyNext_long_end (I.ok.hd hc) st (by have : n ≤ i := hg; omega) fun h' eb => ⟨rfl, I.turned (t' := s.toks) (fun b o hb e => eb b o hb e) f0 f1 f3 f4 f5⟩
  self := fun A i s Q E st h => wpAny_pyIter_longiter st h
def RgW (i j c : Int) (n : Nat) : Prop := 0 < c ∧ c.natAbs.log2 < 9000 ∧ Builtin.Range.rangeSize i j c = n
def iRng3W (ta : TA) : TI := fun σ H R => ta σ H fun vs H1 => ∃ (i j c : Int) (n : Nat), vs = [.int i, .int j, .int c] ∧ RgW i j c n ∧ R (Itc i c n) H1
theorem pi_range3W {X : Cx} {tg : Expr} {a b c : Expr} {ta : TA} {p pos : Pos} (hg : Gl X "range") (hm : X.mg "range" = none) (ha : PA X [a, b, c] ta)
    (hs : starEach [a, b, c] X.env = (false, eval a X.env) :: starEach [b, c] X.env := by rfl) (hpl : (backTo pos (starEach [b, c] X.env)).any (·.1) = false := by rfl) :
    PI X tg (.Call (.Name "range" p) [a, b, c] [] pos) (iRng3W ta) := by
  refine ⟨fun pins s σ H R I h => ?_⟩
  refine Call_ (ld_blt I hg hm PyProof.Rows.boot_range (PyProof.Rows.callWith_type1 (thn (ha.run pos pins s σ H _ I h) fun us s1 ⟨vs, H1, I1, r1, q1⟩ => ?_) hs hpl))
  obtain ⟨i, j, k, n, e, ⟨c0, c1, c3⟩, q⟩ := q1
  subst e
  cases r1 with
  | cons r rr =>
    cases rr with
    | cons r' rr =>
      cases rr with
      | cons r'' rr =>
        cases rr
        obtain ⟨t, rfl⟩ := r
        obtain ⟨t', rfl⟩ := r'
        obtain ⟨t'', rfl⟩ := r''
        refine call_range_3 (show k ≠ 0 by omega) ?_ (.inl (PyProof.noPylong_of_log2 c1))
        have I2 : Inv X pins σ H1 { s1 with heap := s1.heap.push { cls := .type "range", data := .fields #[.int i t, .int j t', .int k t''] } } := I1.kept (t' := s1.toks) fun b o e => Heap.get?_push_of_some _ e
        have e1 : i + ((0 : Nat) : Int) * k = i := by simp
        have e2 : (n : Int) - ((0 : Nat) : Int) = Builtin.Range.rangeSize i j k := by rw [c3]; simp
        cases c2 : Builtin.Range.small i j k with
        | true =>
          refine wpAny_pyIter_range (IsRange.new ..) c2 ?_
          refine pi_one (tk := s1.toks) I2 _ (turn_rangeC _ i k n) ?_ q
          show IsRangeIter _ _ (i + ((0 : Nat) : Int) * k) ((n : Int) - ((0 : Nat) : Int)) k
          rw [e1, e2]
          exact Heap.get?_push_size _ rfl
        | false =>
          refine wpAny_pyIter_longrange (IsRange.new ..) c2 ?_
          refine pi_one (tk := s1.toks) I2 _ (turn_rangeL _ i k n) ?_ q
          show IsLongIter _ _ (i + ((0 : Nat) : Int) * k) ((n : Int) - ((0 : Nat) : Int)) k
          rw [e1, e2]
          exact Heap.get?_push_size _ rfl
end
/-! ### ranges of waits, and the least of pairs -/
abbrev Pr := Int × Int
def addB (F : List Pr) (lo hi : Int) : List Pr := match F.getLast? with
  | some q => if q.2 + 1 = lo then F.dropLast ++ [(q.1, hi)] else F ++ [(lo, hi)]
  | none => F ++ [(lo, hi)]
theorem addB_nil (lo hi : Int) : addB [] lo hi = [(lo, hi)] := rfl
theorem addB_snoc (F : List Pr) (q : Pr) (lo hi : Int) : addB (F ++ [q]) lo hi = if q.2 + 1 = lo then F ++ [(q.1, hi)] else F ++ [q] ++ [(lo, hi)] := by
  unfold addB
  rw [List.getLast?_concat, List.dropLast_concat]
theorem snoc_cases (F : List Pr) : F = [] ∨ ∃ G q, F = G ++ [q] := by
  rcases List.eq_nil_or_concat F with h | ⟨G, q, h⟩
  · exact .inl h
  · exact .inr ⟨G, q, by rw [h, List.concat_eq_append]⟩
theorem addB_ext (F : List Pr) (lo x : Int) : addB (addB F lo x) (x + 1) (x + 1) = addB F lo (x + 1) := by
  rcases snoc_cases F with rfl | ⟨G, q, rfl⟩
  · rw [addB_nil, addB_nil]
    have := addB_snoc [] (lo, x) (x + 1) (x + 1)
    rw [if_pos rfl] at this
    exact this
  · rw [addB_snoc, addB_snoc]
    by_cases c : q.2 + 1 = lo
    · rw [if_pos c, if_pos c, addB_snoc, if_pos rfl]
    · rw [if_neg c, if_neg c, addB_snoc, if_pos rfl]
theorem addB_len (F : List Pr) (lo hi : Int) : (addB F lo hi).length ≤ F.length + 1 := by
  rcases snoc_cases F with rfl | ⟨G, q, rfl⟩
  · rw [addB_nil]
    exact Nat.le_refl _
  · rw [addB_snoc]
    split
    · rw [List.length_append, List.length_append]
      show G.length + 1 ≤ G.length + 1 + 1
      omega
    · rw [List.length_append]
      exact Nat.le_refl _
/-- one by one: the law's ranges of the waits from 1 to n -/
def Rg (h : Int → Bool) (n : Nat) : List Pr := (List.range n).foldl (fun F (i : Nat) => if h (1 + (i : Int)) then addB F (1 + (i : Int)) (1 + (i : Int)) else F) []
theorem Rg_succ (h : Int → Bool) (n : Nat) : Rg h (n + 1) = if h (1 + (n : Int)) then addB (Rg h n) (1 + (n : Int)) (1 + (n : Int)) else Rg h n := by
  unfold Rg
  rw [List.range_succ, List.foldl_append]
  rfl
/-- block by block: the program's -/
def Bg (hb : Int → Bool) (u : Int) (n : Nat) : List Pr := (List.range n).foldl (fun F (i : Nat) => if hb (u + (i : Int) * u) then addB F ((i : Int) * u + 1) (u + (i : Int) * u) else F) []
theorem Bg_succ (hb : Int → Bool) (u : Int) (n : Nat) : Bg hb u (n + 1) = if hb (u + (n : Int) * u) then addB (Bg hb u n) ((n : Int) * u + 1) (u + (n : Int) * u) else Bg hb u n := by
  unfold Bg
  rw [List.range_succ, List.foldl_append]
  rfl
theorem Bg_len (hb : Int → Bool) (u : Int) : ∀ n : Nat, (Bg hb u n).length ≤ n
  | 0 => Nat.le_refl 0
  | n + 1 => by
    rw [Bg_succ]
    have := Bg_len hb u n
    split
    · have := addB_len (Bg hb u n) ((n : Int) * u + 1) (u + (n : Int) * u)
      omega
    · omega
theorem rg_in {h hb : Int → Bool} {u : Nat} {j : Nat} (hh : ∀ x : Int, (j : Int) * u < x → x ≤ u + (j : Int) * u → h x = hb (u + (j : Int) * u)) : ∀ i : Nat, i ≤ u → Rg h (j * u + i) = if hb (u + (j : Int) * u) = true ∧ 0 < i then addB (Rg h (j * u)) ((j : Int) * u + 1) ((j : Int) * u + i) else Rg h (j * u)
  | 0, _ => by rw [if_neg (by simp)]; rfl
  | i + 1, hi => by
    have e : ((j * u + i : Nat) : Int) = (j : Int) * u + i := by push_cast; rfl
    have ih := rg_in hh i (by omega)
    show Rg h ((j * u + i) + 1) = _
    rw [Rg_succ, e, hh (1 + ((j : Int) * u + i)) (by omega) (by omega), ih]
    by_cases c : hb (u + (j : Int) * u) = true
    · rw [if_pos c, if_pos (c := _ ∧ 0 < i + 1) ⟨c, by omega⟩]
      by_cases z : 0 < i
      · rw [if_pos ⟨c, z⟩]
        have := addB_ext (Rg h (j * u)) ((j : Int) * u + 1) ((j : Int) * u + i)
        rw [show 1 + ((j : Int) * u + i) = (j : Int) * u + i + 1 by omega, this, show ((i + 1 : Nat) : Int) = (i : Int) + 1 by omega, ← Int.add_assoc]
      · rw [if_neg (fun y => z y.2)]
        have : i = 0 := by omega
        subst this
        rw [show 1 + ((j : Int) * u + ((0 : Nat) : Int)) = (j : Int) * u + 1 by omega, show (j : Int) * u + ((0 + 1 : Nat) : Int) = (j : Int) * u + 1 by omega]
    · rw [if_neg c, if_neg (fun y => c y.1), if_neg (fun y => c y.1)]
theorem rg_blocks {h hb : Int → Bool} {u : Nat} (u1 : 1 ≤ u) : ∀ (j : Nat) (_ : ∀ i : Nat, i < j → ∀ x : Int, (i : Int) * u < x → x ≤ u + (i : Int) * u → h x = hb (u + (i : Int) * u)), Rg h (j * u) = Bg hb u j
  | 0, _ => by rw [Nat.zero_mul]; rfl
  | j + 1, hh => by
    have ih := rg_blocks u1 j fun i hi => hh i (by omega)
    rw [Nat.succ_mul, rg_in (hh j (by omega)) u (Nat.le_refl _), Bg_succ, ih]
    by_cases c : hb (u + (j : Int) * u) = true
    · rw [if_pos ⟨c, by omega⟩, if_pos c, show (j : Int) * u + u = u + (j : Int) * u by omega]
    · rw [if_neg (fun y => c y.1), if_neg c]
/-- all waits below w, when the waits of the last block do no harm -/
theorem rg_all {h hb : Int → Bool} {u w : Nat} (u1 : 1 ≤ u) {j : Nat} (h1 : j * u < w) (h2 : w ≤ j * u + u) (hh : ∀ i : Nat, i ≤ j → ∀ x : Int, (i : Int) * u < x → x ≤ u + (i : Int) * u → h x = hb (u + (i : Int) * u)) (hn : hb (u + (j : Int) * u) = false) : Rg h (w - 1) = Bg hb u j := by
  have e := rg_in (hh j (Nat.le_refl _)) (w - 1 - j * u) (by omega)
  rw [show j * u + (w - 1 - j * u) = w - 1 by omega] at e
  rw [e, if_neg (fun y => by rw [hn] at y; exact absurd y.1 (by decide)), rg_blocks u1 j fun i hi => hh i (by omega)]
theorem rg_list (h : Int → Bool) (n : Nat) : (((List.range n).map fun (i : Nat) => 1 + (i : Int)).filter h).foldl (fun F x => addB F x x) [] = Rg h n := by
  rw [List.foldl_filter, List.foldl_map]
  rfl
/-! ### all times a number -/
theorem su_mul {w p c : Int} (p1 : 1 ≤ p) (c1 : 1 ≤ c) : stepsUp (w * c) (p * c) = stepsUp w p := by
  have pc : 1 ≤ p * c := by
    have := Int.mul_le_mul p1 c1 (by decide) (by omega)
    omega
  obtain ⟨a1, a2, a3⟩ := st_char (d := w) p1
  obtain ⟨b1, b2, b3⟩ := st_char (d := w * c) pc
  have h1 := b3 (stepsUp w p) a1 (by rw [← Int.mul_assoc]; exact Int.mul_le_mul_of_nonneg_right a2 (by omega))
  have h2 := a3 (stepsUp (w * c) (p * c)) b1 (by
    rw [← Int.mul_assoc] at b2
    exact Int.le_of_mul_le_mul_right b2 (by omega))
  omega
theorem rup_mul {w p c : Int} (p1 : 1 ≤ p) (c1 : 1 ≤ c) : rupI (w * c) (p * c) = rupI w p * c := by
  unfold rupI
  rw [su_mul p1 c1, Int.mul_assoc]
theorem perW_sc {c : Int} (c1 : 1 ≤ c) : ∀ {ws : List Int} {p : Int}, 1 ≤ p → (∀ w ∈ ws, 1 ≤ w) → perW (p * c) (ws.map (· * c)) = perW p ws * c
  | [], p, _, _ => rfl
  | w :: r, p, p1, ok => by
    have a := rup_is (ok w (List.mem_cons_self ..)) p1
    show perW (rupI (w * c) (p * c)) (r.map (· * c)) = _
    rw [rup_mul p1 c1]
    exact perW_sc c1 (by omega) fun u hu => ok u (List.mem_cons_of_mem _ hu)
def scP (c : Int) (q : Pr) : Pr := ((q.1 - 1) * c + 1, q.2 * c)
theorem addB_map {c : Int} (c1 : 1 ≤ c) (F : List Pr) (lo hi : Int) : addB (F.map (scP c)) ((lo - 1) * c + 1) (hi * c) = (addB F lo hi).map (scP c) := by
  rcases snoc_cases F with rfl | ⟨G, q, rfl⟩
  · rfl
  · rw [List.map_append]
    show addB (G.map (scP c) ++ [scP c q]) _ _ = _
    rw [addB_snoc, addB_snoc]
    by_cases z : q.2 + 1 = lo
    · rw [if_pos z, if_pos (by show q.2 * c + 1 = _; rw [show lo - 1 = q.2 by omega]), List.map_append]
      rfl
    · have nz : ¬ (scP c q).2 + 1 = (lo - 1) * c + 1 := fun e => by
        have e : q.2 * c + 1 = (lo - 1) * c + 1 := e
        have : q.2 = lo - 1 := Int.eq_of_mul_eq_mul_right (show c ≠ 0 by omega) (by omega)
        omega
      rw [if_neg z, if_neg nz, List.map_append, List.map_append]
      rfl
theorem Bg_map {hb hb' : Int → Bool} {u c : Int} (c1 : 1 ≤ c) : ∀ (n : Nat) (_ : ∀ i : Nat, i < n → hb' (u * c + (i : Int) * (u * c)) = hb (u + (i : Int) * u)), Bg hb' (u * c) n = (Bg hb u n).map (scP c)
  | 0, _ => rfl
  | n + 1, hh => by
    have ih := Bg_map c1 n fun i hi => hh i (by omega)
    rw [Bg_succ, Bg_succ, hh n (by omega), ih]
    by_cases z : hb (u + (n : Int) * u) = true
    · rw [if_pos z, if_pos z, ← addB_map c1]
      rw [show (n : Int) * (u * c) = (n : Int) * u * c by rw [Int.mul_assoc], show (n : Int) * u + 1 - 1 = (n : Int) * u by omega, Int.add_mul]
    · rw [if_neg z, if_neg z]
/-! ### the least of pairs -/
def prD (p : Pr) : PyData := .tuple [.int p.1, .int p.2]
def ltP (p q : Pr) : Bool := decide (p.1 < q.1) || (decide (p.1 = q.1) && decide (p.2 < q.2))
theorem ltP_iff (p q : Pr) : ltP p q = true ↔ p.1 < q.1 ∨ (p.1 = q.1 ∧ p.2 < q.2) := by
  unfold ltP
  rw [Bool.or_eq_true, Bool.and_eq_true, decide_eq_true_iff, decide_eq_true_iff, decide_eq_true_iff]
theorem ltP_not (p q : Pr) : ltP p q = false ↔ q.1 < p.1 ∨ (p.1 = q.1 ∧ q.2 ≤ p.2) := by
  rw [← Bool.not_eq_true, ltP_iff]
  omega
def minP (x : Pr) (xs : List Pr) : Pr := xs.foldl (fun a y => if ltP y a then y else a) x
theorem minP_is : ∀ (xs : List Pr) (x : Pr), minP x xs ∈ x :: xs ∧ ∀ y ∈ x :: xs, ltP y (minP x xs) = false
  | [], x => ⟨List.mem_cons_self .., fun y hy => by rw [List.mem_singleton.mp hy]; exact (ltP_not _ _).mpr (.inr ⟨rfl, Int.le_refl _⟩)⟩
  | z :: r, x => by
    obtain ⟨i1, i2⟩ := minP_is r (if ltP z x then z else x)
    have e : minP x (z :: r) = minP (if ltP z x then z else x) r := rfl
    rw [e]
    have ih := i2 _ (List.mem_cons_self ..)
    have i1' : minP (if ltP z x then z else x) r = (if ltP z x then z else x) ∨ minP (if ltP z x then z else x) r ∈ r := List.mem_cons.mp i1
    refine ⟨?_, fun y hy => ?_⟩
    · rcases i1' with h | h
      · rw [h]
        by_cases c : ltP z x = true
        · rw [if_pos c]
          exact List.mem_cons_of_mem _ (List.mem_cons_self ..)
        · rw [if_neg c]
          exact List.mem_cons_self ..
      · exact List.mem_cons_of_mem _ (List.mem_cons_of_mem _ h)
    · generalize minP (if ltP z x then z else x) r = m at ih i2
      rw [ltP_not] at ih
      rw [ltP_not]
      rcases List.mem_cons.mp hy with rfl | hy
      · by_cases c : ltP z y = true
        · rw [if_pos c] at ih
          rw [ltP_iff] at c
          omega
        · rw [if_neg c] at ih
          exact ih
      · rcases List.mem_cons.mp hy with rfl | hy
        · by_cases c : ltP y x = true
          · rw [if_pos c] at ih
            exact ih
          · rw [if_neg c] at ih
            rw [Bool.not_eq_true, ltP_not] at c
            omega
        · exact (ltP_not _ _).mp (i2 y (List.mem_cons_of_mem _ hy))
theorem minP_eq {x y : Pr} {xs ys : List Pr} (h1 : ∀ b ∈ y :: ys, b ∈ x :: xs) (h2 : ∀ a ∈ x :: xs, ∃ b ∈ y :: ys, ltP a b = false) : minP x xs = minP y ys := by
  obtain ⟨a1, a2⟩ := minP_is xs x
  obtain ⟨b1, b2⟩ := minP_is ys y
  have c1 := (ltP_not _ _).mp (a2 _ (h1 _ b1))
  obtain ⟨b, hb, c⟩ := h2 _ a1
  have c2 := (ltP_not _ _).mp c
  have c3 := (ltP_not _ _).mp (b2 b hb)
  exact Prod.ext (by omega) (by omega)
theorem minP_one {x y : Pr} {xs ys : List Pr} {c : Int} (c1 : 1 ≤ c) (h : (y :: ys).map (·.1) = (x :: xs).map (·.1 * c)) : (minP y ys).1 = (minP x xs).1 * c := by
  obtain ⟨a1, a2⟩ := minP_is xs x
  obtain ⟨b1, b2⟩ := minP_is ys y
  have h1 : (minP x xs).1 * c ∈ (y :: ys).map (·.1) := by rw [h]; exact List.mem_map.mpr ⟨_, a1, rfl⟩
  have h2 : (minP y ys).1 ∈ (x :: xs).map (·.1 * c) := by rw [← h]; exact List.mem_map.mpr ⟨_, b1, rfl⟩
  obtain ⟨b, hb, e1⟩ := List.mem_map.mp h1
  obtain ⟨a, ha, e2⟩ := List.mem_map.mp h2
  have c3 := (ltP_not _ _).mp (b2 b hb)
  have c4 := (ltP_not _ _).mp (a2 a ha)
  have c5 : (minP x xs).1 ≤ a.1 := by omega
  have := Int.mul_le_mul_of_nonneg_right c5 (show 0 ≤ c by omega)
  omega
theorem pr_lt (p q : Pr) : PySem.W.dataLt (prD p) (prD q) = ltP p q := by
  obtain ⟨p, o⟩ := p
  obtain ⟨q, o'⟩ := q
  unfold prD ltP
  rw [PySem.W.dataLt_tuple, toksI, toksI, toksI, toksI, toks0, PyProof.Rows.lex_self (O := PyProof.Rows.itemOrd)]
  show PyProof.Rows.lexLt PyProof.Rows.itemOrd (Sum.inl p :: Sum.inl 1 :: Sum.inl o :: [Sum.inl 0]) (Sum.inl q :: Sum.inl 1 :: Sum.inl o' :: [Sum.inl 0]) = (decide (p < q) || (decide (p = q) && decide (o < o')))
  by_cases c : p = q
  · subst c
    rw [PyProof.Rows.lex_self (O := PyProof.Rows.itemOrd), PyProof.Rows.lex_self (O := PyProof.Rows.itemOrd)]
    by_cases d : o = o'
    · subst d
      rw [PyProof.Rows.lex_self (O := PyProof.Rows.itemOrd), PyProof.Rows.lex_self (O := PyProof.Rows.itemOrd), decide_eq_false (show ¬ p < p by omega), decide_eq_false (show ¬ o < o by omega), Bool.and_false]
      rfl
    · rw [PyProof.Rows.lex_diff (O := PyProof.Rows.itemOrd) (by intro z; injection z with z; exact d z)]
      show decide (o < o') = _
      rw [decide_eq_false (show ¬ p < p by omega), decide_eq_true rfl, Bool.true_and, Bool.false_or]
  · rw [PyProof.Rows.lex_diff (O := PyProof.Rows.itemOrd) (by intro z; injection z with z; exact c z)]
    show decide (p < q) = _
    rw [decide_eq_false c, Bool.false_and, Bool.or_false]
theorem minD_pr : ∀ {xs : List Pr} {x : Pr}, PySem.W.minD (prD x) (xs.map prD) = prD (minP x xs)
  | [], x => rfl
  | y :: r, x => by
    show (r.map prD).foldl (fun a y => if PySem.W.dataLt y a then y else a) (if PySem.W.dataLt (prD y) (prD x) then prD y else prD x) = prD (r.foldl (fun a y => if ltP y a then y else a) (if ltP y x then y else x))
    rw [pr_lt y x]
    by_cases c : ltP y x = true
    · rw [if_pos c, if_pos c]
      exact minD_pr (xs := r)
    · rw [if_neg c, if_neg c]
      exact minD_pr (xs := r)
theorem eq_pr (p : Pr) : PyData.eqv (prD p) (prD p) = true := by simp [prD, PyData.eqv, PyData.eqvAll]
theorem eq_prs : ∀ ps : List Pr, PyData.eqvAll (ps.map prD) (ps.map prD) = true
  | [] => by simp [PyData.eqvAll]
  | p :: r => by rw [List.map_cons, PyData.eqvAll, eq_prs r, eq_pr]; rfl
theorem pr_depth (p : Pr) : (prD p).depth ≤ 6 ∧ (prD p).canLay0 = true := by
  refine ⟨?_, ?_⟩
  · simp only [prD, PyData.depth, PyData.depthAll]
    omega
  · simp only [prD, PyData.canLay0, PyData.canLayAll0, Bool.and_true]
theorem prs_depth : ∀ ps : List Pr, PyData.depthAll (ps.map prD) ≤ 7 ∧ PyData.canLayAll0 (ps.map prD) = true
  | [] => by simp [PyData.depthAll, PyData.canLayAll0]
  | p :: r => by
    obtain ⟨h1, h2⟩ := prs_depth r
    obtain ⟨h3, h4⟩ := pr_depth p
    rw [List.map_cons, PyData.depthAll, PyData.canLayAll0, h2, h4]
    exact ⟨by omega, rfl⟩
theorem sh_prs (ps : List Pr) : SeqAt.shaped (.list (ps.map prD)) = true := by
  obtain ⟨h1, h2⟩ := prs_depth ps
  refine Bool.and_eq_true_iff.mpr ⟨?_, decide_eq_true ?_⟩
  · rw [PyData.canLay0]
    exact h2
  · rw [PyData.depth]
    omega
theorem sh_pr (p : Pr) : SeqAt.shaped (prD p) = true := by
  obtain ⟨h1, h2⟩ := pr_depth p
  exact Bool.and_eq_true_iff.mpr ⟨h2, decide_eq_true (Nat.le_trans h1 (by decide))⟩
theorem alike_prs (ps : List Pr) : PySem.W.AlikeAll (ps.map prD) := by
  have a : ∀ p q : Pr, PySem.W.alike (prD p) (prD q) = true := fun p q => by simp [prD, PySem.W.alike, PySem.W.alikeAll]
  refine ⟨fun x hx y hy => ?_, fun x hx e => ?_⟩
  · obtain ⟨p, _, rfl⟩ := List.mem_map.mp hx
    obtain ⟨q, _, rfl⟩ := List.mem_map.mp hy
    exact a p q
  · obtain ⟨p, _, rfl⟩ := List.mem_map.mp hx
    cases e
def PrI (H : Hp) (v : V) (p : Pr) : Prop := ∃ a, v = .ref a ∧ H a = some (.tup [.int p.1, .int p.2])
theorem PrI.nl {H H' : Hp} (n : NL H H') {v : V} {p : Pr} : PrI H v p → PrI H' v p := fun ⟨a, e, h⟩ => ⟨a, e, n _ _ h fun _ z => nomatch z⟩
theorem PrI.dp {K : PySem.W.Frag} {H : Hp} {v : V} {p : Pr} : PrI H v p → Dp K H v (prD p) := fun ⟨a, e, h⟩ => by
  subst e
  exact .tup (SqT.of h) (.cons (.int _) (.cons (.int _) .nil))
theorem pri_dp {K : PySem.W.Frag} {H : Hp} {xs : List V} {ps : List Pr} (h : Paired (PrI H) xs ps) : DpAll K H xs (ps.map prD) := by
  induction h with
  | nil => exact .nil
  | cons h _ ih => exact .cons h.dp ih
/-- the least of pairs, by Python's min -/
theorem min_pr {K : PySem.W.Frag} {H : Hp} {l : Addr} {ws : List V} {x : Pr} {xs : List Pr} {Q : VK} (hl : H l = some (.lst ws)) (hw : Paired (PrI H) ws (x :: xs)) (k : ∀ v, PrI H v (minP x xs) → Q v H) : rMinDat K [.ref l] H Q := by
  refine ⟨l, ws, prD x, xs.map prD, rfl, SqL.of hl, pri_dp hw, alike_prs (x :: xs), by have := (prs_depth (x :: xs)).1; rw [List.map_cons] at this; omega, fun i y hy he => ?_⟩
  rw [minD_pr] at he
  obtain ⟨p, hp, hyp⟩ := paired_get hw hy
  have he2 : ((x :: xs).map prD)[i]? = some (prD (minP x xs)) := he
  rw [List.getElem?_map, hp] at he2
  have e := Option.some.inj he2
  have ep : p = minP x xs := by
    unfold prD at e
    injection e with e
    injection e with e1 e2
    injection e1 with e1
    injection e2 with e2 _
    injection e2 with e2
    exact Prod.ext e1 e2
  rw [ep] at hyp
  exact k y hyp
/-! ### ranges of waits, in the program -/
theorem cut_two {xs : List V} {k : Nat} {a b : V} (h1 : xs[k]? = some a) (h2 : xs[k + 1]? = some b) : cutV xs (some (k : Int)) (some ((k : Int) + 2)) = [a, b] := by
  obtain ⟨l1, e1⟩ := List.getElem?_eq_some_iff.mp h1
  obtain ⟨l2, e2⟩ := List.getElem?_eq_some_iff.mp h2
  have c1 : HT.sIx xs.length 0 (some (k : Int)) = k := by
    rw [HT.sIx_nat]
    exact Nat.min_eq_left (by omega)
  have c2 : HT.sIx xs.length xs.length (some ((k : Int) + 2)) = k + 2 := by
    rw [show (k : Int) + 2 = ((k + 2 : Nat) : Int) by omega, HT.sIx_nat]
    exact Nat.min_eq_left (by omega)
  unfold cutV
  rw [c1, c2, List.drop_eq_getElem_cons l1, List.drop_eq_getElem_cons l2, e1, e2, show k + 2 - k = 2 by omega]
  rfl
theorem rg_n {u m : Int} (u1 : 1 ≤ u) (m1 : 1 ≤ m) : Builtin.Range.rangeSize u (m * u) u = ((m - 1).toNat : Nat) := by
  unfold Builtin.Range.rangeSize
  rw [if_pos (show u > 0 by omega)]
  have e : m * u = (m - 1) * u + u := by rw [Int.sub_mul, Int.one_mul]; omega
  by_cases c : m = 1
  · rw [if_neg (by rw [c]; omega), c]
    rfl
  · have p := Int.mul_le_mul_of_nonneg_right (show 1 ≤ m - 1 by omega) (show 0 ≤ u by omega)
    rw [if_pos (by omega), show m * u - u - 1 = (u - 1) + (m - 2) * u by rw [show m - 2 = m - 1 - 1 by omega, Int.sub_mul (m - 1), Int.one_mul]; omega, Int.add_mul_ediv_right _ _ (by omega), Int.ediv_eq_zero_of_lt (by omega) (by omega)]
    omega
theorem rg_n2 {a u : Int} (u1 : 1 ≤ u) (n : Nat) : Builtin.Range.rangeSize (a + u) (a + (n : Int) * u + 1) u = n := by
  unfold Builtin.Range.rangeSize
  rw [if_pos (show u > 0 by omega)]
  by_cases c : n = 0
  · subst c
    rw [if_neg (by rw [show ((0 : Nat) : Int) * u = 0 by omega]; omega)]
    rfl
  · have p := Int.mul_le_mul_of_nonneg_right (show (1 : Int) ≤ n by omega) (show 0 ≤ u by omega)
    rw [if_pos (by omega), show a + (n : Int) * u + 1 - (a + u) - 1 = 0 + ((n : Int) - 1) * u by rw [Int.sub_mul, Int.one_mul]; omega, Int.add_mul_ediv_right _ _ (by omega), Int.zero_ediv]
    omega
def brL (ls : List Int) (u own : Int) (n : Nat) : List Pr := (List.range n).map fun (i : Nat) => (perW (own + u + (i : Int) * u) ls, own + u + (i : Int) * u - u + 1)
theorem brL_succ (ls : List Int) (u own : Int) (n : Nat) : brL ls u own (n + 1) = brL ls u own n ++ [(perW (own + u + (n : Int) * u) ls, own + u + (n : Int) * u - u + 1)] := by
  unfold brL
  rw [List.range_succ, List.map_append]
  rfl
def spBR (C : Addr) : Sp := fun vs H Q _ => ∃ r B xs ts st ph t, ∃ (k n : Nat) (most : Int), vs = [.ref r, .int (k : Int), .int most] ∧ RowAt C H r B xs ts st ph ∧ ts[k]? = some t ∧ t.2.1 ≤ most ∧ most ≤ 1000000000000000000000000000000 ∧
  rupI most (perW st (wtsT (ts.take k))) = rupI t.2.1 (perW st (wtsT (ts.take k))) + (n : Int) * perW st (wtsT (ts.take k)) ∧ n ≤ 2000 ∧ rupI most (perW st (wtsT (ts.take k))) ≤ 1000000000000000000000000000000 ∧
  ∀ v H', PrI H' v (minP (perW (rupI t.2.1 (perW st (wtsT (ts.take k)))) (wtsT (ts.drop (k + 1))), t.2.1) (brL (wtsT (ts.drop (k + 1))) (perW st (wtsT (ts.take k))) (rupI t.2.1 (perW st (wtsT (ts.take k)))) n)) → Same H H' → Q v H'
def hbT (ts : List Tri) (st : Int) (k : Nat) (p : Int) : Bool := decide (perW p (wtsT (ts.drop (k + 1))) > perW st (wtsT ts))
def spPB : Sp := fun vs H Q _ => ∃ p l ys us, vs = [.int p, .ref l] ∧ H l = some (.lst ys) ∧ Brs H ys us ∧ (∀ u ∈ us, OkT u) ∧ us.length ≤ 12 ∧ 1 ≤ p ∧ p ≤ 1000000000000000000000000000000 ∧ Q (.int (perW p (wtsT us))) H
def spHL (C : Addr) : Sp := fun vs H Q _ => ∃ r B xs ts st ph t, ∃ k : Nat, vs = [.ref r, .int (k : Int)] ∧ RowAt C H r B xs ts st ph ∧ ts[k]? = some t ∧ rupI t.2.1 (perW st (wtsT (ts.take k))) ≤ 1000000000000000000000000000000 ∧ stepsUp t.2.1 (perW st (wtsT (ts.take k))) ≤ 2001 ∧
  ∀ l ws H', H' l = some (.lst ws) → Paired (PrI H') ws (Bg (hbT ts st k) (perW st (wtsT (ts.take k))) (stepsUp t.2.1 (perW st (wtsT (ts.take k))) - 1).toNat) → Same H H' → H l = none → Q (.ref l) H'
section
variable {P : Program} {w : World} {K : PySem.W.Frag} {mg : Str → Option Value} {base : Heap} {L : LA}
abbrev N_periodbehind : List Str := ["period", "breakers", "found", "breaker"]
theorem sc_periodbehind : FnScope N_periodbehind ["period", "breakers"] (defScope st_period_behind) := ⟨rfl, rfl, rfl, by decide +kernel, rfl, by decide +kernel, by decide +kernel⟩
theorem fn_periodbehind (T : LX K mg L) {fd : FuncData} (F : Fun K "period_behind" "period_behind" st_period_behind L.f_period_behind fd) : FnOk P w K mg base CX0 3 L.f_period_behind fd ["period", "breakers"] (spPB) := by
  have G_roundedup := ok_roundedup (P := P) (w := w) (base := base) T
  have nd := sc_periodbehind.nd
  refine F.ok sc_periodbehind (fun vs H Q E h => ?_) (fun cdv A outer S H vs Q E hr h => ?_)
  · obtain ⟨p, l, ys, us, rfl, _⟩ := h
    rfl
  · obtain ⟨p, l, ys, us, rfl, hl, hb, ok, ln, p1, p2, k⟩ := h
    refine ⟨_, (pss_cons (ps_set (i := 2) nd rfl (Or.inl rfl) (pv 0))
       (pss_cons (ps_for PassesOwn.never rfl (pi_list (pv 1)) (pg_name (i := 3) nd rfl (Or.inl rfl)) (pss_one (ps_set (i := 2) nd rfl (Or.inl rfl) (pe_c G_roundedup (hr.mono (by decide)) rfl (pa_cons (pe_ix (r := rIxT K) ix_tup (pv 3) pe_int (fun _ _ => rfl)) (pa_cons (pv 2) pa_nil))))))
       (pss_one (ps_ret (pv 2))))), ?_⟩
    have yl := hb.len
    refine ⟨_, rfl, _, rfl, l, rfl, ⟨_, SqL.of hl⟩, ?_⟩
    refine for_list (K := K) (a := l) (xs := ys) (fun i σ Hx => ∃ v3 : Option V, σ = [some (.int p), some (.ref l), some (.int (perW p (wtsT (us.take i)))), v3] ∧ Hx = H) ⟨none, rfl, rfl⟩ (fun i σ Hx _ ⟨_, _, e⟩ => by rw [e]; exact SqL.of hl) ?_ ?_
    · rintro i x σ Hx hxi ⟨v3, rfl, rfl⟩
      obtain ⟨t, ht, c, rfl, hc⟩ := paired_get hb hxi
      have hi := (List.getElem?_eq_some_iff.mp ht).1
      have okt := ok t (List.mem_of_getElem? ht)
      obtain ⟨b1, b2⟩ := pd_bd p1 p2 (ws := wtsT (us.take i)) (wts_ok fun u hu => ok u (List.mem_of_mem_take hu)) (by unfold wtsT; rw [List.length_map, List.length_take]; omega)
      have eB : PdB = 13000000000000000000000000000000 := rfl
      have o1 := okt.2.2.1
      have o2 := okt.2.2.2.1
      obtain ⟨a1, a2, a3⟩ := rup_ask o1 (by omega) b1 b2
      have eP : perW p (wtsT (us.take (i + 1))) = stepsUp t.2.1 (perW p (wtsT (us.take i))) * perW p (wtsT (us.take i)) := by
        rw [List.take_add_one, ht]
        unfold wtsT
        rw [List.map_append, perW_app]
        rfl
      rw [eP]
      exact ⟨_, rfl, c, _, 1, .int t.2.1, rfl, rfl, SqT.of hc, rfl, _, rfl, t.2.1, _, rfl, a1, a2, a3, _, rfl, rfl⟩
    · rintro σ Hx ⟨v3, rfl, rfl⟩
      rw [yl, List.take_length]
      exact ⟨_, rfl, k⟩
theorem ok_periodbehind (T : LX K mg L) : Cal P w K mg base "period_behind" 3 L.f_period_behind ["period", "breakers"] (spPB) := T.d_period_behind.cal fun fd F => fn_periodbehind T F
abbrev N_harmfullowerings : List Str := ["row", "index", "unit", "own", "later", "usual", "found", "period", "low"]
theorem sc_harmfullowerings : FnScope N_harmfullowerings ["row", "index"] (defScope st_harmful_lowerings) := ⟨rfl, rfl, rfl, by decide +kernel, rfl, by decide +kernel, by decide +kernel⟩
theorem fn_harmfullowerings (T : LX K mg L) {fd : FuncData} (F : Fun K "harmful_lowerings" "harmful_lowerings" st_harmful_lowerings L.f_harmful_lowerings fd) : FnOk P w K mg base CX0 9 L.f_harmful_lowerings fd ["row", "index"] (spHL L.c_Row) := by
  have G_checkindex := ok_checkindex (P := P) (w := w) (base := base) T
  have G_Rowbreakerlist := ok_Rowbreakerlist (P := P) (w := w) (base := base) T
  have G_rowperiod := ok_rowperiod (P := P) (w := w) (base := base) T
  have G_periods := ok_periods (P := P) (w := w) (base := base) T
  obtain ⟨tk_MOST_PERIODS, c_MOST_PERIODS⟩ := T.n_MOST_PERIODS
  have G_periodbehind := ok_periodbehind (P := P) (w := w) (base := base) T
  have nd := sc_harmfullowerings.nd
  refine F.ok sc_harmfullowerings (fun vs H Q E h => ?_) (fun cdv A outer S H vs Q E hr h => ?_)
  · obtain ⟨r, B, xs, ts, st, ph, t, i, rfl, _⟩ := h
    rfl
  · obtain ⟨r, B, xs, ts, st, ph, t, i, rfl, R, ht, pB, mB, k⟩ := h
    refine ⟨_, (pss_cons (ps_expr (pe_c G_checkindex (hr.mono (by decide)) rfl (pa_cons (pv 0) (pa_cons (pv 1) pa_nil))))
       (pss_cons (ps_asg (pe_slice (r := rSlL K) sl_list (pe_c G_periods (hr.mono (by decide)) rfl (pa_cons (pv 0) pa_nil)) (po_some (pv 1)) (po_some (pe_op op_add (pv 1) pe_int))) (pg_lst rfl (pgs_cons (pg_name (i := 2) nd rfl (Or.inl rfl)) (pgs_cons (pg_name (i := 3) nd rfl (Or.inl rfl)) pgs_nil))))
       (pss_cons (ps_if (pt_cmpR op_gt (pv 3) (pe_op op_mulW (pe_op op_add (pe_gI c_MOST_PERIODS) pe_int) (pv 2)) (nomark _)) (pss_one (ps_never)) pss_nil)
       (pss_cons (ps_set (i := 4) nd rfl (Or.inl rfl) (pe_slice (r := rSlL K) sl_list (G_Rowbreakerlist.p_m0 T.cf_Row.cl (hr.mono (by decide)) (pv 0)) (po_some (pe_op op_add (pv 1) pe_int)) po_none))
       (pss_cons (ps_set (i := 5) nd rfl (Or.inl rfl) (pe_c G_rowperiod (hr.mono (by decide)) rfl (pa_cons (pv 0) pa_nil)))
       (pss_cons (ps_set (i := 6) nd rfl (Or.inl rfl) (pe_lst pa_nil))
       (pss_cons (ps_for PassesOwn.never rfl (pi_range3W rfl T.b_range (pa_cons (pv 2) (pa_cons (pv 3) (pa_cons (pv 2) pa_nil)))) (pg_name (i := 7) nd rfl (Or.inl rfl)) (pss_one (ps_if (pt_cmpR op_gt (pe_c G_periodbehind (hr.mono (by decide)) rfl (pa_cons (pv 7) (pa_cons (pv 4) pa_nil))) (pv 5) (nomark _)) (pss_cons (ps_set (i := 8) nd rfl (Or.inl rfl) (pe_op op_add (pe_op op_sub (pv 7) (pv 2)) pe_int))
       (pss_cons (ps_if (PW.pt (pw_and (pt_truth (pv 6) (fun _ => rfl)) (pw_and1 (pt_cmpR op_eq (pe_op op_add (pe_ix (r := rIxT K) ix_tup (pe_ix (r := rIxL K) ix_list (pv 6) (pe_un un_neg pe_int) (fun _ _ => rfl)) pe_int (fun _ _ => rfl)) pe_int) (pv 8) (nomark _))))) (pss_one (ps_set (i := 8) nd rfl (Or.inl rfl) (pe_ix (r := rIxT K) ix_tup (pe_bm0 PySem.F.plainAttrs_list PySem.F.slot_list_pop PySem.F.type_list_pop mt_pop (pv 6)) pe_int (fun _ _ => rfl)))) pss_nil)
       (pss_one (ps_expr (pe_bm PySem.F.plainAttrs_list PySem.F.slot_list_append PySem.F.type_list_append mt_append (pv 6) (pa_cons (pe_tup (pa_cons (pv 8) (pa_cons (pv 7) pa_nil))) pa_nil)))))) pss_nil)))
       (pss_one (ps_ret (pv 6)))))))))), ?_⟩
    have xl := R.br.len
    have ln := R.ln
    have hi := (List.getElem?_eq_some_iff.mp ht).1
    have okt := R.ok t (List.mem_of_getElem? ht)
    obtain ⟨u, hu⟩ : ∃ u, u = perW st (wtsT (ts.take i)) := ⟨_, rfl⟩
    have u1 : 1 ≤ u := by rw [hu]; exact perW_1 R.s0 fun w hw => (wts_ok (fun b hb => R.ok b (List.mem_of_mem_take hb)) w hw).1
    rw [← hu] at pB mB k
    obtain ⟨m, hm⟩ : ∃ m, m = stepsUp t.2.1 u := ⟨_, rfl⟩
    obtain ⟨m1, r1, r2, r3, _⟩ := rup_is okt.2.2.1 u1
    have eown : rupI t.2.1 u = m * u := by rw [hm]; rfl
    rw [← hm] at m1 mB k
    rw [eown] at pB r1 r2 r3
    obtain ⟨dr, hr'⟩ := R.ob
    have no1 := rowF_no B st ph (m := "breaker_list") (by decide +kernel) (by decide +kernel) (by decide +kernel)
    refine ⟨_, rfl, _, rfl, r, B, xs, ts, st, ph, i, rfl, R, hi, ?_⟩
    refine ⟨_, rfl, r, B, xs, ts, st, ph, rfl, R, fun lp H1 hlp s1 np => ⟨_, rfl, (i : Int), rfl, _, rfl, _, _, rfl, rfl, (i : Int) + 2, rfl, lp, _, rfl, SqL.of hlp, fun l1 hl1 => ?_⟩⟩
    have g1 : ((List.range (ts.length + 1)).map fun i => V.int (perW st (wtsT (ts.take i))))[i]? = some (.int u) := by
      rw [List.getElem?_map, List.getElem?_range (by omega), hu]
      rfl
    have g2 : ((List.range (ts.length + 1)).map fun i => V.int (perW st (wtsT (ts.take i))))[i + 1]? = some (.int (m * u)) := by
      rw [List.getElem?_map, List.getElem?_range (by omega)]
      show some (V.int (perW st (wtsT (ts.take (i + 1))))) = _
      rw [List.take_add_one, ht, ← eown]
      unfold wtsT
      show some (V.int (perW st ((ts.take i ++ [t]).map _))) = _
      rw [List.map_append, perW_app, hu]
      rfl
    rw [cut_two g1 g2]
    have s2 := Same.upd (o := .lst [.int u, .int (m * u)]) hl1
    refine ⟨l1, _, rfl, SqL.of upd_same, rfl, _, _, rfl, _, _, rfl, rfl, ?_⟩
    generalize upd H1 l1 (.lst [.int u, .int (m * u)]) = H2 at s2 ⊢
    have s02 := s1.trans s2
    -- the limit
    have cm : CMulW 2001 u := by
      have eB : PdB = 13000000000000000000000000000000 := rfl
      have bb := pd_bb
      exact mulBB (by decide) (by have := BB0; omega) (by omega) (by omega)
    have nl : ¬ (2000 + 1) * u < m * u := fun z => by
      have := Int.mul_le_mul_of_nonneg_right (show m ≤ 2001 by omega) (show 0 ≤ u by omega)
      omega
    refine ⟨_, rfl, _, _, rfl, rfl, _, rfl, _, _, rfl, rfl, cm, _, _, rfl, rfl, _, congrArg V.bl (decide_eq_false nl), iteF ?_⟩
    -- the later breakers
    have R2 := R.nl (NL.of s02)
    obtain ⟨d2, h2⟩ := R2.ob
    refine ⟨_, rfl, r, d2, _, rfl, h2, no1, r, B, xs, ts, st, ph, rfl, R2, fun lb Hb hlb eHb => ?_⟩
    subst eHb
    have sb := Same.upd (o := .lst xs) hlb
    have hlb1 : (upd H2 lb (.lst xs)) lb = some (.lst xs) := upd_same
    generalize upd H2 lb (.lst xs) = Hb at sb hlb1 ⊢
    refine ⟨_, rfl, _, _, rfl, rfl, (i : Int) + 1, rfl, lb, xs, rfl, SqL.of hlb1, fun l2 hl2 => ?_⟩
    rw [show (i : Int) + 1 = ((i + 1 : Nat) : Int) by omega, cut_suf (show i + 1 ≤ xs.length by omega)]
    have s3 := Same.upd (o := .lst (xs.drop (i + 1))) hl2
    have h3 : (upd Hb l2 (.lst (xs.drop (i + 1)))) l2 = some (.lst (xs.drop (i + 1))) := upd_same
    show gName 4 (.ref l2) _ (upd Hb l2 (.lst (xs.drop (i + 1)))) _
    generalize upd Hb l2 (.lst (xs.drop (i + 1))) = H3 at s3 h3 ⊢
    have s03 := s02.trans (sb.trans s3)
    have R3 := R.nl (NL.of s03)
    -- the usual period
    refine ⟨_, rfl, r, B, xs, ts, st, ph, rfl, R3, fun H4 s4 => ⟨(by show 0 ≤ sizeLine; decide), fun lf hlf => ?_⟩⟩
    have s04 := s03.trans s4
    have h4 := s4 _ _ h3
    have b4 := paired_dropB (i + 1) (R.nl (NL.of s04)).br
    have s5 := Same.upd (o := .lst []) hlf
    have g5 : (upd H4 lf (.lst [])) lf = some (.lst []) := upd_same
    generalize upd H4 lf (.lst []) = H5 at s5 g5 ⊢
    refine ⟨_, rfl, _, rfl, _, rfl, u, m * u, u, (m - 1).toNat, rfl, ⟨by omega, (by have eB : PdB = 13000000000000000000000000000000 := rfl; have bb := pd_bb; exact divBB u1 (by omega)), rg_n u1 m1⟩, ?_⟩
    refine for_rangeC (lo := u) (c := u) (n := (m - 1).toNat) (fun j σ Hx => ∃ (ws : List V) (v7 v8 : Option V), σ = [some (.ref r), some (.int (i : Int)), some (.int u), some (.int (m * u)), some (.ref l2), some (.int (perW st (wtsT ts))), some (.ref lf), v7, v8] ∧ Hx lf = some (.lst ws) ∧ Paired (PrI Hx) ws (Bg (hbT ts st i) u j) ∧ Same H4 Hx)
      ⟨[], none, none, rfl, g5, .nil, s5⟩ ?_ ?_
    rotate_left
    · rintro σ Hx ⟨ws, v7, v8, rfl, hf, hp, sx⟩
      exact ⟨_, rfl, k lf ws Hx hf hp (s04.trans sx) (none_of s04 hlf)⟩
    rintro j σ Hx hj ⟨ws, v7, v8, rfl, hf, hp, sx⟩
    have wl := paired_len hp
    have bl := Bg_len (hbT ts st i) u j
    have ju := Int.mul_le_mul_of_nonneg_right (show (j : Int) + 1 ≤ m by omega) (show 0 ≤ u by omega)
    rw [Int.add_mul, Int.one_mul] at ju
    have j0 := Int.mul_nonneg (show (0 : Int) ≤ (j : Nat) by omega) (show 0 ≤ u by omega)
    have bx : Brs Hx (xs.drop (i + 1)) (ts.drop (i + 1)) := Brs.nl (NL.of sx) b4
    refine ⟨_, rfl, _, rfl, u + (j : Int) * u, l2, xs.drop (i + 1), ts.drop (i + 1), rfl, sx _ _ h4, bx, fun u hu => R.ok u (List.mem_of_mem_drop hu), by rw [List.length_drop]; omega, by omega, by omega, _, rfl, _, _, rfl, rfl, _, rfl, ?_⟩
    have eB : decide (perW st (wtsT ts) < perW (u + (j : Int) * u) (wtsT (ts.drop (i + 1)))) = hbT ts st i (u + (j : Int) * u) := rfl
    rw [eB, Bg_succ]
    refine ite2 (fun c => ?_) (fun c => ?_)
    rotate_left
    · rw [if_neg c]
      exact ⟨ws, _, _, rfl, hf, hp, sx⟩
    rw [if_pos c]
    refine ⟨_, rfl, _, rfl, _, _, rfl, rfl, _, _, rfl, rfl, ?_⟩
    obtain ⟨lo, hlo⟩ : ∃ lo, lo = u + (j : Int) * u - u + 1 := ⟨_, rfl⟩
    show gName 8 (.int (u + (j : Int) * u - u + 1)) _ _ _
    rw [← hlo, show (j : Int) * u + 1 = lo by omega]
    -- the last step: a pair more
    have fin : ∀ {Hy : Hp} {ws' : List V} {F' : List Pr} {lo' : Int} {tq : Addr}, Hy lf = some (.lst ws') → Paired (PrI Hy) ws' F' → Same H4 Hy → Hy tq = none → F' ++ [(lo', u + (j : Int) * u)] = addB (Bg (hbT ts st i) u j) lo (u + (j : Int) * u) →
        (upd Hy tq (.tup [.int lo', .int (u + (j : Int) * u)])) lf = some (.lst ws') ∧ (upd (upd Hy tq (.tup [.int lo', .int (u + (j : Int) * u)])) lf (.lst (ws' ++ [.ref tq]))) lf = some (.lst (ws' ++ [.ref tq])) ∧ Paired (PrI (upd (upd Hy tq (.tup [.int lo', .int (u + (j : Int) * u)])) lf (.lst (ws' ++ [.ref tq])))) (ws' ++ [.ref tq]) (addB (Bg (hbT ts st i) u j) lo (u + (j : Int) * u)) ∧ Same H4 (upd (upd Hy tq (.tup [.int lo', .int (u + (j : Int) * u)])) lf (.lst (ws' ++ [.ref tq]))) := fun {Hy ws' F' lo' tq} h1 h2 h3 h4 h5 => by
      have sq := Same.upd (o := .tup [.int lo', .int (u + (j : Int) * u)]) h4
      have hq := sq _ _ h1
      have n7 := NL.upd (o := .lst (ws' ++ [.ref tq])) hq
      refine ⟨hq, upd_same, ?_, fun b o e => by rw [upd_ne (ne_of_none e hlf)]; exact sq _ _ (h3 _ _ e)⟩
      rw [← h5]
      exact paired_app (L2.Paired.mapP h2 fun _ _ z => z.nl ((NL.of sq).trans n7)) (.cons ⟨tq, rfl, n7 _ _ upd_same fun _ z => nomatch z⟩ .nil)
    obtain ⟨F, hF⟩ : ∃ F, F = Bg (hbT ts st i) u j := ⟨_, rfl⟩
    rw [← hF] at hp wl bl fin ⊢
    rcases snoc_cases F with rfl | ⟨G, q, rfl⟩
    · cases hp
      refine ⟨_, rfl, false, .inl ⟨[], SqL.of hf, rfl⟩, iteF (iteF ?_)⟩
      refine ⟨_, rfl, .inl ⟨rfl, _, SqL.of hf⟩, _, rfl, _, rfl, (by show 2 ≤ sizeLine; decide), fun tq htq => ?_⟩
      obtain ⟨a1, a2, a3, a4⟩ := fin (lo' := lo) hf .nil sx htq (addB_nil _ _).symm
      exact ⟨lf, _, _, rfl, rfl, a1, small1 (by decide), _, _, _, rfl, a2, a3, a4⟩
    have fin2 := addB_snoc G q lo (u + (j : Int) * u)
    obtain ⟨wG, v, rfl⟩ : ∃ wG v, ws = wG ++ [v] := by
      rcases List.eq_nil_or_concat ws with h | ⟨a, b, h⟩
      · rw [h, List.length_append] at wl
        exact absurd wl (Nat.succ_ne_zero _).symm
      · exact ⟨a, b, by rw [h, List.concat_eq_append]⟩
    have wgl : wG.length = G.length := by
      rw [List.length_append, List.length_append] at wl
      exact Nat.succ.inj wl
    obtain ⟨q', hq', Tq, rfl, hTq⟩ := paired_get hp (i := wG.length) (x := v) (by rw [List.getElem?_append_right (Nat.le_refl _), Nat.sub_self]; rfl)
    rw [wgl, List.getElem?_append_right (Nat.le_refl _), Nat.sub_self] at hq'
    obtain rfl : q = q' := Option.some.inj hq'
    have hpG : Paired (PrI Hx) wG G := by
      have := paired_takeB G.length hp
      rwa [← wgl, List.take_left, wgl, List.take_left] at this
    rw [List.length_append] at bl
    have bl : G.length + 1 ≤ j := bl
    refine ⟨_, rfl, true, .inl ⟨wG ++ [.ref Tq], SqL.of hf, by cases wG <;> rfl⟩, iteT ?_⟩
    refine ⟨_, rfl, 1, rfl, lf, _, -1, .ref Tq, rfl, rfl, SqL.of hf, atI_last _ _, Tq, _, 1, .int q.2, rfl, rfl, SqT.of hTq, rfl, _, _, rfl, rfl, _, rfl, rfl, _, rfl, ?_⟩
    refine ite2 (fun z => ?_) (fun z => ?_)
    · have z : q.2 + 1 = lo := V.int.inj (of_decide_eq_true z)
      rw [if_pos z] at fin2
      refine ⟨_, rfl, .inl ⟨rfl, _, SqL.of hf⟩, lf, _, .ref Tq, rfl, rfl, hf, by rw [List.length_append, List.getElem?_append_right (by show wG.length ≤ wG.length + 1 - 1; omega), show wG.length + [V.ref Tq].length - 1 - wG.length = 0 by show wG.length + 1 - 1 - wG.length = 0; omega]; rfl, ?_⟩
      rw [List.dropLast_concat]
      have n7 := NL.upd (o := .lst wG) hf
      have hf7 : (upd Hx lf (.lst wG)) lf = some (.lst wG) := upd_same
      have s7 : Same H4 (upd Hx lf (.lst wG)) := fun b o e => by rw [upd_ne (ne_of_none e hlf)]; exact sx _ _ e
      have hp7 : Paired (PrI (upd Hx lf (.lst wG))) wG G := L2.Paired.mapP hpG fun _ _ z => z.nl n7
      refine ⟨Tq, _, 0, .int q.1, rfl, rfl, SqT.of (n7 _ _ hTq fun _ z => nomatch z), rfl, ?_⟩
      generalize upd Hx lf (.lst wG) = H7 at n7 hf7 s7 hp7 ⊢
      refine ⟨_, rfl, .inl ⟨rfl, _, SqL.of hf7⟩, _, rfl, _, rfl, (by show 2 ≤ sizeLine; decide), fun tq htq => ?_⟩
      obtain ⟨a1, a2, a3, a4⟩ := fin (lo' := q.1) hf7 hp7 s7 htq fin2.symm
      exact ⟨lf, _, _, rfl, rfl, a1, small1 (by omega), _, _, _, rfl, a2, a3, a4⟩
    · have z : ¬ q.2 + 1 = lo := fun y => z (decide_eq_true (congrArg V.int y))
      rw [if_neg z] at fin2
      refine ⟨_, rfl, .inl ⟨rfl, _, SqL.of hf⟩, _, rfl, _, rfl, (by show 2 ≤ sizeLine; decide), fun tq htq => ?_⟩
      obtain ⟨a1, a2, a3, a4⟩ := fin (lo' := lo) hf hp sx htq fin2.symm
      exact ⟨lf, _, _, rfl, rfl, a1, small1 (by rw [List.length_append]; show wG.length + 1 ≤ 100000; omega), _, _, _, rfl, a2, a3, a4⟩
theorem ok_harmfullowerings (T : LX K mg L) : Cal P w K mg base "harmful_lowerings" 9 L.f_harmful_lowerings ["row", "index"] (spHL L.c_Row) := T.d_harmful_lowerings.cal fun fd F => fn_harmfullowerings T F
abbrev N_bestraise : List Str := ["row", "index", "most", "wait", "unit", "own", "top", "later", "found", "period"]
theorem sc_bestraise : FnScope N_bestraise ["row", "index", "most"] (defScope st_best_raise) := ⟨rfl, rfl, rfl, by decide +kernel, rfl, by decide +kernel, by decide +kernel⟩
theorem fn_bestraise (T : LX K mg L) {fd : FuncData} (F : Fun K "best_raise" "best_raise" st_best_raise L.f_best_raise fd) : FnOk P w K mg base CX0 9 L.f_best_raise fd ["row", "index", "most"] (spBR L.c_Row) := by
  have G_checkindex := ok_checkindex (P := P) (w := w) (base := base) T
  have G_Rowgetitem := ok_Rowgetitem (P := P) (w := w) (base := base) T
  have G_roundedup := ok_roundedup (P := P) (w := w) (base := base) T
  have G_Rowbreakerlist := ok_Rowbreakerlist (P := P) (w := w) (base := base) T
  have G_iswithin := ok_iswithin (P := P) (w := w) (base := base) T
  obtain ⟨tk_MOST_TIME, c_MOST_TIME⟩ := T.n_MOST_TIME
  have G_periods := ok_periods (P := P) (w := w) (base := base) T
  obtain ⟨tk_MOST_PERIODS, c_MOST_PERIODS⟩ := T.n_MOST_PERIODS
  have G_periodbehind := ok_periodbehind (P := P) (w := w) (base := base) T
  have nd := sc_bestraise.nd
  refine F.ok sc_bestraise (fun vs H Q E h => ?_) (fun cdv A outer S H vs Q E hr h => ?_)
  · obtain ⟨r, B, xs, ts, st, ph, t, i, n, most, rfl, _⟩ := h
    rfl
  · obtain ⟨r, B, xs, ts, st, ph, t, i, n, most, rfl, R, ht, w1, w2, etop, n2, tB, k⟩ := h
    refine ⟨_, (pss_cons (ps_expr (pe_c G_checkindex (hr.mono (by decide)) rfl (pa_cons (pv 0) (pa_cons (pv 1) pa_nil))))
       (pss_cons (ps_set (i := 3) nd rfl (Or.inl rfl) (pe_ix (r := rIxT K) ix_tup (G_Rowgetitem.p_ix (hr.mono (by decide)) (pv 0) (pv 1)) pe_int (fun _ _ => rfl)))
       (pss_cons (ps_if (pt_not (pt_val (pe_c G_iswithin (hr.mono (by decide)) rfl (pa_cons (pv 2) (pa_cons (pv 3) (pa_cons (pe_gI c_MOST_TIME) pa_nil)))))) (pss_one (ps_never)) pss_nil)
       (pss_cons (ps_asg (pe_slice (r := rSlL K) sl_list (pe_c G_periods (hr.mono (by decide)) rfl (pa_cons (pv 0) pa_nil)) (po_some (pv 1)) (po_some (pe_op op_add (pv 1) pe_int))) (pg_lst rfl (pgs_cons (pg_name (i := 4) nd rfl (Or.inl rfl)) (pgs_cons (pg_name (i := 5) nd rfl (Or.inl rfl)) pgs_nil))))
       (pss_cons (ps_set (i := 6) nd rfl (Or.inl rfl) (pe_c G_roundedup (hr.mono (by decide)) rfl (pa_cons (pv 2) (pa_cons (pv 4) pa_nil))))
       (pss_cons (ps_if (pt_cmpR op_gt (pe_op op_sub (pv 6) (pv 5)) (pe_op op_mulW (pe_gI c_MOST_PERIODS) (pv 4)) (nomark _)) (pss_one (ps_never)) pss_nil)
       (pss_cons (ps_set (i := 7) nd rfl (Or.inl rfl) (pe_slice (r := rSlL K) sl_list (G_Rowbreakerlist.p_m0 T.cf_Row.cl (hr.mono (by decide)) (pv 0)) (po_some (pe_op op_add (pv 1) pe_int)) po_none))
       (pss_cons (ps_set (i := 8) nd rfl (Or.inl rfl) (pe_lst (pa_cons (pe_tup (pa_cons (pe_c G_periodbehind (hr.mono (by decide)) rfl (pa_cons (pv 5) (pa_cons (pv 7) pa_nil))) (pa_cons (pv 3) pa_nil))) pa_nil)))
       (pss_cons (ps_for PassesOwn.never rfl (pi_range3W rfl T.b_range (pa_cons (pe_op op_add (pv 5) (pv 4)) (pa_cons (pe_op op_add (pv 6) pe_int) (pa_cons (pv 4) pa_nil)))) (pg_name (i := 9) nd rfl (Or.inl rfl)) (pss_one (ps_expr (pe_bm PySem.F.plainAttrs_list PySem.F.slot_list_append PySem.F.type_list_append mt_append (pv 8) (pa_cons (pe_tup (pa_cons (pe_c G_periodbehind (hr.mono (by decide)) rfl (pa_cons (pv 9) (pa_cons (pv 7) pa_nil))) (pa_cons (pe_op op_add (pe_op op_sub (pv 9) (pv 4)) pe_int) pa_nil))) pa_nil)))))
       (pss_one (ps_ret (pe_callB (call_minD hr.units) (by rfl) T.b_min (by decide +kernel) (pa_cons (pv 8) pa_nil))))))))))))), ?_⟩
    have xl := R.br.len
    have ln := R.ln
    have hi := (List.getElem?_eq_some_iff.mp ht).1
    have okt := R.ok t (List.mem_of_getElem? ht)
    obtain ⟨u, hu⟩ : ∃ u, u = perW st (wtsT (ts.take i)) := ⟨_, rfl⟩
    have u1 : 1 ≤ u := by rw [hu]; exact perW_1 R.s0 fun w hw => (wts_ok (fun b hb => R.ok b (List.mem_of_mem_take hb)) w hw).1
    rw [← hu] at etop tB k
    obtain ⟨own, ho⟩ : ∃ own, own = rupI t.2.1 u := ⟨_, rfl⟩
    obtain ⟨m1, r1, r2, r3, _⟩ := rup_is okt.2.2.1 u1
    rw [← ho] at etop k r1 r2 r3
    have nu0 := Int.mul_nonneg (show (0 : Int) ≤ (n : Nat) by omega) (show 0 ≤ u by omega)
    have eB : PdB = 13000000000000000000000000000000 := rfl
    have bb := pd_bb
    obtain ⟨dr, hr'⟩ := R.ob
    have no1 := rowF_no B st ph (m := "breaker_list") (by decide +kernel) (by decide +kernel) (by decide +kernel)
    refine ⟨_, rfl, _, rfl, r, B, xs, ts, st, ph, i, rfl, R, hi, ?_⟩
    -- the wait
    obtain ⟨y, hy⟩ : ∃ y, xs[i]? = some y := ⟨_, List.getElem?_eq_getElem (by omega)⟩
    obtain ⟨t', ht', c, rfl, hc⟩ := paired_get R.br hy
    rw [ht] at ht'
    cases ht'
    refine ⟨_, rfl, _, rfl, r, dr, _, rfl, hr', r, B, xs, ts, st, ph, (i : Int), .ref c, rfl, R, by omega, atI_nat hy, by omega, c, _, 1, .int t.2.1, rfl, rfl, SqT.of hc, rfl, ?_⟩
    refine ⟨_, rfl, _, rfl, _, _, _, _, rfl, .int _, _, rfl, ?_⟩
    show if (!(decide (t.2.1 ≤ most) && decide (most ≤ 1000000000000000000000000000000))) = true then _ else _
    rw [k6_pos w1 w2]
    refine iteF ?_
    refine ⟨_, rfl, r, B, xs, ts, st, ph, rfl, R, fun lp H1 hlp s1 np => ⟨_, rfl, (i : Int), rfl, _, rfl, _, _, rfl, rfl, (i : Int) + 2, rfl, lp, _, rfl, SqL.of hlp, fun l1 hl1 => ?_⟩⟩
    have g1 : ((List.range (ts.length + 1)).map fun i => V.int (perW st (wtsT (ts.take i))))[i]? = some (.int u) := by
      rw [List.getElem?_map, List.getElem?_range (by omega), hu]
      rfl
    have g2 : ((List.range (ts.length + 1)).map fun i => V.int (perW st (wtsT (ts.take i))))[i + 1]? = some (.int own) := by
      rw [List.getElem?_map, List.getElem?_range (by omega)]
      show some (V.int (perW st (wtsT (ts.take (i + 1))))) = _
      rw [List.take_add_one, ht, ho]
      unfold wtsT
      show some (V.int (perW st ((ts.take i ++ [t]).map _))) = _
      rw [List.map_append, perW_app, hu]
      rfl
    rw [cut_two g1 g2]
    have s2 := Same.upd (o := .lst [.int u, .int own]) hl1
    refine ⟨l1, _, rfl, SqL.of upd_same, rfl, _, _, rfl, _, _, rfl, rfl, ?_⟩
    generalize upd H1 l1 (.lst [.int u, .int own]) = H2 at s2 ⊢
    have s02 := s1.trans s2
    -- the top
    obtain ⟨a1, a2, a3⟩ := rup_ask (show 1 ≤ most by have := okt.2.2.1; omega) (show most ≤ PdB by omega) u1 (show u ≤ PdB by omega)
    refine ⟨_, rfl, _, rfl, most, u, rfl, a1, a2, a3, ?_⟩
    have etop2 : stepsUp most u * u = own + (n : Int) * u := etop
    show gName 6 (.int (stepsUp most u * u)) _ _ _
    rw [etop2]
    rw [etop] at tB
    have cm : CMulW 2000 u := mulBB (by decide) (by have := BB0; omega) (by omega) (by omega)
    have nl : ¬ 2000 * u < own + (n : Int) * u - own := fun z => by
      have := Int.mul_le_mul_of_nonneg_right (show (n : Int) ≤ 2000 by omega) (show 0 ≤ u by omega)
      omega
    refine ⟨_, rfl, _, rfl, _, _, rfl, rfl, _, rfl, _, _, rfl, rfl, cm, _, _, rfl, rfl, _, congrArg V.bl (decide_eq_false nl), iteF ?_⟩
    -- the later breakers
    have R2 := R.nl (NL.of s02)
    obtain ⟨d2, h2⟩ := R2.ob
    refine ⟨_, rfl, r, d2, _, rfl, h2, no1, r, B, xs, ts, st, ph, rfl, R2, fun lb Hb hlb eHb => ?_⟩
    subst eHb
    have sb := Same.upd (o := .lst xs) hlb
    have hlb1 : (upd H2 lb (.lst xs)) lb = some (.lst xs) := upd_same
    generalize upd H2 lb (.lst xs) = Hb at sb hlb1 ⊢
    refine ⟨_, rfl, _, _, rfl, rfl, (i : Int) + 1, rfl, lb, xs, rfl, SqL.of hlb1, fun l2 hl2 => ?_⟩
    rw [show (i : Int) + 1 = ((i + 1 : Nat) : Int) by omega, cut_suf (show i + 1 ≤ xs.length by omega)]
    have s3 := Same.upd (o := .lst (xs.drop (i + 1))) hl2
    have h3 : (upd Hb l2 (.lst (xs.drop (i + 1)))) l2 = some (.lst (xs.drop (i + 1))) := upd_same
    show gName 7 (.ref l2) _ (upd Hb l2 (.lst (xs.drop (i + 1)))) _
    generalize upd Hb l2 (.lst (xs.drop (i + 1))) = H3 at s3 h3 ⊢
    have s03 := s02.trans (sb.trans s3)
    have b3 := paired_dropB (i + 1) (R.nl (NL.of s03)).br
    have okd : ∀ u ∈ ts.drop (i + 1), OkT u := fun u hu => R.ok u (List.mem_of_mem_drop hu)
    have lnd : (ts.drop (i + 1)).length ≤ 12 := by rw [List.length_drop]; omega
    refine ⟨_, rfl, _, rfl, own, l2, xs.drop (i + 1), ts.drop (i + 1), rfl, h3, b3, okd, lnd, by omega, by omega, _, rfl, (by show 2 ≤ sizeLine; decide), fun tq htq => ⟨(by show 1 ≤ sizeLine; decide), fun lf hlf => ?_⟩⟩
    have s4 := Same.upd (o := .tup [.int (perW own (wtsT (ts.drop (i + 1)))), .int t.2.1]) htq
    have s5 := Same.upd (o := .lst [.ref tq]) hlf
    have g4 := s5 _ _ (upd_same (H := H3) (a := tq) (o := .tup [.int (perW own (wtsT (ts.drop (i + 1)))), .int t.2.1]))
    have g5 : (upd (upd H3 tq (.tup [.int (perW own (wtsT (ts.drop (i + 1)))), .int t.2.1])) lf (.lst [.ref tq])) lf = some (.lst [.ref tq]) := upd_same
    have s45 := s4.trans s5
    have nlf3 : H3 lf = none := none_of s4 hlf
    generalize upd (upd H3 tq (.tup [.int (perW own (wtsT (ts.drop (i + 1)))), .int t.2.1])) lf (.lst [.ref tq]) = H5 at s45 g4 g5 ⊢
    refine ⟨_, rfl, _, rfl, _, _, rfl, rfl, _, rfl, _, _, rfl, rfl, _, rfl, own + u, own + (n : Int) * u + 1, u, n, rfl, ⟨by omega, divBB u1 (by omega), rg_n2 u1 n⟩, ?_⟩
    refine for_rangeC (lo := own + u) (c := u) (n := n) (fun j σ Hx => ∃ (ws : List V) (v9 : Option V), σ = [some (.ref r), some (.int (i : Int)), some (.int most), some (.int t.2.1), some (.int u), some (.int own), some (.int (own + (n : Int) * u)), some (.ref l2), some (.ref lf), v9] ∧ Hx lf = some (.lst ws) ∧ Paired (PrI Hx) ws ((perW own (wtsT (ts.drop (i + 1))), t.2.1) :: brL (wtsT (ts.drop (i + 1))) u own j) ∧ Same H3 Hx)
      ⟨[.ref tq], none, rfl, g5, .cons ⟨tq, rfl, g4⟩ .nil, s45⟩ ?_ ?_
    rotate_left
    · rintro σ Hx ⟨ws, v9, rfl, hf, hp, sx⟩
      exact ⟨.ref lf, rfl, min_pr hf hp fun v hv => k v Hx hv (s03.trans sx)⟩
    rintro j σ Hx hj ⟨ws, v9, rfl, hf, hp, sx⟩
    have wl := paired_len hp
    have bl : (brL (wtsT (ts.drop (i + 1))) u own j).length = j := by unfold brL; rw [List.length_map, List.length_range]
    rw [List.length_cons, bl] at wl
    have ju := Int.mul_le_mul_of_nonneg_right (show (j : Int) + 1 ≤ n by omega) (show 0 ≤ u by omega)
    rw [Int.add_mul, Int.one_mul] at ju
    have j0 := Int.mul_nonneg (show (0 : Int) ≤ (j : Nat) by omega) (show 0 ≤ u by omega)
    have bx : Brs Hx (xs.drop (i + 1)) (ts.drop (i + 1)) := Brs.nl (NL.of sx) b3
    refine ⟨_, rfl, .inl ⟨rfl, _, SqL.of hf⟩, _, rfl, _, rfl, own + u + (j : Int) * u, l2, xs.drop (i + 1), ts.drop (i + 1), rfl, sx _ _ h3, bx, okd, lnd, by omega, by omega, _, rfl, _, rfl, _, _, rfl, rfl, _, _, rfl, rfl, (by show 2 ≤ sizeLine; decide), fun tp htp => ?_⟩
    have sp := Same.upd (o := .tup [.int (perW (own + u + (j : Int) * u) (wtsT (ts.drop (i + 1)))), .int (own + u + (j : Int) * u - u + 1)]) htp
    have gp : (upd Hx tp (.tup [.int (perW (own + u + (j : Int) * u) (wtsT (ts.drop (i + 1)))), .int (own + u + (j : Int) * u - u + 1)])) tp = some (.tup [.int (perW (own + u + (j : Int) * u) (wtsT (ts.drop (i + 1)))), .int (own + u + (j : Int) * u - u + 1)]) := upd_same
    have hfp := sp _ _ hf
    have n7 := NL.upd (o := .lst (ws ++ [.ref tp])) hfp
    refine ⟨lf, ws, _, rfl, rfl, hfp, small1 (by omega), ws ++ [.ref tp], _, rfl, upd_same, ?_, fun b o e => by rw [upd_ne (ne_of_none e nlf3)]; exact sp _ _ (sx _ _ e)⟩
    rw [brL_succ]
    exact paired_app (L2.Paired.mapP hp fun _ _ z => z.nl ((NL.of sp).trans n7)) (.cons ⟨tp, rfl, n7 _ _ gp fun _ z => nomatch z⟩ .nil)
theorem ok_bestraise (T : LX K mg L) : Cal P w K mg base "best_raise" 9 L.f_best_raise ["row", "index", "most"] (spBR L.c_Row) := T.d_best_raise.cal fun fd F => fn_bestraise T F
end
/-! ### one request, by the law -/
def mixE (bs : List Tri) (ss : List StD) (t : Int) (f : Bool) (j k i : Nat) : StD := match bs[i]?, ss[i]? with
  | some b, some s => if i < j then (if f = true then okS b s else badS b s t) else if i < k then hfS s else s
  | _, _ => ("closed", 0)
def mixS (bs : List Tri) (ss : List StD) (t : Int) (f : Bool) (j k : Nat) : List StD := (List.range bs.length).map (mixE bs ss t f j k)
theorem mixE_is {bs : List Tri} {ss : List StD} {t : Int} {f : Bool} {j k i : Nat} {b : Tri} {s : StD} (hb : bs[i]? = some b) (hs : ss[i]? = some s) : mixE bs ss t f j k i = if i < j then (if f = true then okS b s else badS b s t) else if i < k then hfS s else s := by
  unfold mixE
  rw [hb, hs]
theorem mixS_get {bs : List Tri} {ss : List StD} {t : Int} {f : Bool} {j k i : Nat} (h : i < bs.length) : (mixS bs ss t f j k)[i]? = some (mixE bs ss t f j k i) := by
  unfold mixS
  rw [List.getElem?_map, List.getElem?_range h]
  rfl
theorem mixS_len {bs : List Tri} {ss : List StD} {t : Int} {f : Bool} {j k : Nat} : (mixS bs ss t f j k).length = bs.length := by
  unfold mixS
  rw [List.length_map, List.length_range]
theorem map_set {α : Type} {n : Nat} {f g : Nat → α} {i : Nat} {v : α} (hi : i < n) (h1 : v = g i) (h2 : ∀ j, j ≠ i → j < n → f j = g j) : ((List.range n).map f).set i v = (List.range n).map g := by
  refine List.ext_getElem? fun j => ?_
  rw [List.getElem?_set, List.length_map, List.length_range, List.getElem?_map, List.getElem?_map]
  by_cases c : i = j
  · subst c
    rw [if_pos rfl, if_pos hi, List.getElem?_range hi, h1]
    rfl
  · rw [if_neg c]
    by_cases d : j < n
    · rw [List.getElem?_range d]
      exact congrArg some (h2 j (fun e => c e.symm) d)
    · rw [List.getElem?_eq_none (by rw [List.length_range]; omega)]
      rfl
theorem mixS_0 {bs : List Tri} {ss : List StD} {t : Int} {f : Bool} (h : ss.length = bs.length) : mixS bs ss t f 0 0 = ss := by
  refine List.ext_getElem? fun j => ?_
  by_cases c : j < bs.length
  · have hb : bs[j]? = some bs[j] := List.getElem?_eq_getElem c
    have hs : ss[j]? = some (ss[j]'(by omega)) := List.getElem?_eq_getElem (by omega)
    rw [mixS_get c, mixE_is hb hs, hs, if_neg (Nat.not_lt_zero j), if_neg (Nat.not_lt_zero j)]
  · rw [List.getElem?_eq_none (by rw [mixS_len]; omega), List.getElem?_eq_none (by omega)]
theorem mixS_half {bs : List Tri} {ss : List StD} {t : Int} {f : Bool} {i : Nat} {b : Tri} {s : StD} (hb : bs[i]? = some b) (hs : ss[i]? = some s) : (mixS bs ss t f 0 i).set i (hfS s) = mixS bs ss t f 0 (i + 1) := by
  refine map_set (List.getElem?_eq_some_iff.mp hb).1 ?_ fun j ne hj => ?_
  · rw [mixE_is hb hs, if_neg (Nat.not_lt_zero i), if_pos (Nat.lt_succ_self i)]
  · unfold mixE
    cases bs[j]? with
    | none => rfl
    | some b' =>
      cases ss[j]? with
      | none => rfl
      | some s' =>
        show (if j < 0 then _ else if j < i then _ else _) = (if j < 0 then _ else if j < i + 1 then _ else _)
        rw [if_neg (Nat.not_lt_zero j), if_neg (Nat.not_lt_zero j)]
        by_cases c : j < i
        · rw [if_pos c, if_pos (show j < i + 1 by omega)]
        · rw [if_neg c, if_neg (show ¬ j < i + 1 by omega)]
theorem mixS_fin {bs : List Tri} {ss : List StD} {t : Int} {f : Bool} {j k : Nat} {b : Tri} {s : StD} (hb : bs[j]? = some b) (hs : ss[j]? = some s) : (mixS bs ss t f j k).set j (if f = true then okS b s else badS b s t) = mixS bs ss t f (j + 1) k := by
  refine map_set (List.getElem?_eq_some_iff.mp hb).1 ?_ fun i ne hi => ?_
  · rw [mixE_is hb hs, if_pos (Nat.lt_succ_self j)]
  · unfold mixE
    cases bs[i]? with
    | none => rfl
    | some b' =>
      cases ss[i]? with
      | none => rfl
      | some s' =>
        show (if i < j then _ else _) = (if i < j + 1 then _ else _)
        by_cases c : i < j
        · rw [if_pos c, if_pos (show i < j + 1 by omega)]
        · rw [if_neg c, if_neg (show ¬ i < j + 1 by omega)]
theorem mixS_same {bs : List Tri} {ss : List StD} {t : Int} {f g : Bool} {k : Nat} : mixS bs ss t f 0 k = mixS bs ss t g 0 k := by
  refine List.map_congr_left fun i _ => ?_
  unfold mixE
  cases bs[i]? with
  | none => rfl
  | some b' =>
    cases ss[i]? with
    | none => rfl
    | some s' => rfl
theorem mixS_keep {bs : List Tri} {ss : List StD} {t : Int} {f : Bool} {i : Nat} {b : Tri} {s : StD} (hb : bs[i]? = some b) (hs : ss[i]? = some s) (h : hfS s = s) : mixS bs ss t f 0 i = mixS bs ss t f 0 (i + 1) := by
  have hi := (List.getElem?_eq_some_iff.mp hb).1
  rw [← mixS_half hb hs, h]
  refine (List.ext_getElem? fun j => ?_)
  rw [List.getElem?_set, mixS_len]
  by_cases c : i = j
  · subst c
    rw [if_pos rfl, if_pos hi, mixS_get hi, mixE_is hb hs, if_neg (Nat.not_lt_zero i), if_neg (Nat.lt_irrefl i)]
  · rw [if_neg c]
theorem paired_set {α β : Type} {F : α → β → Prop} : ∀ {xs : List α} {ys : List β} (i : Nat) {x : α} {y : β}, Paired F xs ys → F x y → Paired F (xs.set i x) (ys.set i y)
  | _, _, _, _, _, .nil, _ => .nil
  | _, _, 0, _, _, .cons _ t, h => .cons h t
  | _, _, i + 1, _, _, .cons r t, h => .cons r (paired_set i t h)
theorem sts_kp {H H' : Hp} (k : ∀ b xs, H b = some (.tup xs) → H' b = some (.tup xs)) {xs : List V} {ss : List StD} (h : Sts H xs ss) : Sts H' xs ss := L2.Paired.mapP h fun _ _ ⟨a, e, h⟩ => ⟨a, e, k _ _ h⟩
theorem ixN_of {n j : Nat} (h : j < n) : ixN n (j : Int) = some j := by
  unfold ixN
  rw [if_pos (show (0 : Int) ≤ j by omega), if_pos (show (j : Int) < n by omega)]
  congr 1
theorem outV_n (n : Nat) (b : Bool) : outV n n b = if b = true then [.str "failed"] else [.str "served"] := by
  unfold outV
  rw [if_neg (Nat.lt_irrefl n)]
theorem outV_k {n k : Nat} (h : k < n) (b : Bool) : outV n k b = [.str "rejected", .int k] := if_pos h
def outD (n k : Nat) (inS : Bool) : PyData := if k < n then .tuple [.str "rejected", .int k] else if inS then .tuple [.str "failed"] else .tuple [.str "served"]
theorem outV_dp {K : PySem.W.Frag} {H : Hp} {p : Addr} {n k : Nat} {b : Bool} (h : H p = some (.tup (outV n k b))) : Dp K H (.ref p) (outD n k b) := by
  unfold outV at h
  unfold outD
  split
  · rename_i c
    rw [if_pos c] at h
    exact .tup (SqT.of h) (.cons (.str _) (.cons (.int _) .nil))
  · rename_i c
    rw [if_neg c] at h
    cases b with
    | true => exact .tup (SqT.of h) (.cons (.str _) .nil)
    | false => exact .tup (SqT.of h) (.cons (.str _) .nil)
theorem tup_sh {ds : List PyData} (h1 : PyData.canLayAll0 ds = true) (h2 : PyData.depthAll ds ≤ 10) : SeqAt.shaped (.tuple ds) = true := by
  refine Bool.and_eq_true_iff.mpr ⟨?_, decide_eq_true ?_⟩
  · rw [PyData.canLay0]
    exact h1
  · rw [PyData.depth]
    omega
theorem sok_R : PyData.strOk "rejected" = true := by decide +kernel
theorem sok_S : PyData.strOk "served" = true := by decide +kernel
theorem sok_F : PyData.strOk "failed" = true := by decide +kernel
theorem outD_sh (n k : Nat) (b : Bool) : SeqAt.shaped (outD n k b) = true := by
  unfold outD
  split
  · exact tup_sh (by simp [PyData.canLayAll0, PyData.canLay0, sok_R]) (by simp [PyData.depthAll, PyData.depth])
  · cases b <;> exact tup_sh (by simp [PyData.canLayAll0, PyData.canLay0, sok_S, sok_F]) (by simp [PyData.depthAll, PyData.depth])
theorem served_sh : SeqAt.shaped (.tuple [.str "served"]) = true := tup_sh (by simp [PyData.canLayAll0, PyData.canLay0, sok_S]) (by simp [PyData.depthAll, PyData.depth])
theorem outD_served (n k : Nat) (b : Bool) (h : k ≤ n) : PyData.eqv (outD n k b) (.tuple [.str "served"]) = (decide (k = n) && !b) := by
  unfold outD
  split
  · rename_i c
    rw [decide_eq_false (show ¬ k = n by omega)]
    rfl
  · rw [decide_eq_true (show k = n by omega)]
    cases b <;> rfl
theorem outD_eq (n k : Nat) (b : Bool) : PyData.eqv (outD n k b) (outD n k b) = true := by
  unfold outD
  split
  · simp [PyData.eqv, PyData.eqvAll]
  · cases b <;> simp [PyData.eqv, PyData.eqvAll]
def spOne1 : Sp := fun vs H Q _ => ∃ a l xs ys bs ss t good, vs = [.ref a, .ref l, .int t, .bl good] ∧ H a = some (.lst xs) ∧ Brs H xs bs ∧ H l = some (.lst ys) ∧ Sts H ys ss ∧ a ≠ l ∧ ss.length = bs.length ∧ bs.length ≤ 12 ∧ ∀ (k : Nat) td H' ys', k ≤ bs.length → (∀ (i : Nat) (b : Tri) (s : StD), i < k → bs[i]? = some b → ss[i]? = some s → psB b s t) → (∀ (b : Tri) (s : StD), bs[k]? = some b → ss[k]? = some s → ¬ psB b s t) →
  H' td = some (.tup (outV bs.length k (!good))) → H' l = some (.lst ys') → Sts H' ys' (mixS bs ss t (decide (k = bs.length) && good) k k) → Kp l H H' → H td = none → Q (.ref td) H'
/-! ### list.count over data -/
def rCntD (K : PySem.W.Frag) : V → List V → Hp → VK → Prop := fun x xs H Q => ∃ (p : Addr) (ys : List V) (ds : List PyData) (y : V) (d : PyData), x = .ref p ∧ xs = [y] ∧ SqL K H p ys ∧ DpAll K H ys ds ∧ Dp K H y d ∧ PyData.plainAll ds = true ∧ d.plain = true ∧ d.depth ≤ 10 ∧ Q (.int (ds.countP (fun e => PyData.eqv e d) : Nat)) H
theorem mt_dcount {X : Cx} (hu : X.A.units + 64 < cLine) : MtR X "list.count" (rCntD X.K) := by
  intro pins s σ H x xs v us Q I rx rxs h
  obtain ⟨p, ys, ds, y, d, rfl, rfl, hs, hd, hy, p1, p2, dl, q⟩ := h
  cases rx
  obtain ⟨u, rfl, ru⟩ := rxs.one
  obtain ⟨its, rv, hl, hlen⟩ := I.list hs
  obtain ⟨as, r1⟩ := Dp.readsAll I ds _ its hd rv
  obtain ⟨bs, r2⟩ := Dp.reads I d y u hy ru
  refine SeqAt.count_list_data hl.isList r1 r2 p1 p2 (by omega) ?_
  exact ⟨.int _, H, I.tok _, ⟨s.toks, rfl⟩, q⟩
theorem call_tupK {X : Cx} {K : PySem.W.Frag} (h : X.K = K) : CallR X (.type "tuple") (fun xs H Q => ∃ p ys, xs = [V.ref p] ∧ ((SqL K H p ys ∧ ∀ l : Addr, H l = none → Q (.ref l) (upd H l (.tup ys))) ∨ SqT K H p ys ∧ Q (.ref p) H)) := h ▸ call_tuple_of
/-! ### defs that may raise -/
/-- a def that may raise, called by its name -/
structure CalX (P : Program) (w : World) (K : PySem.W.Frag) (mg : Str → Option Value) (base : Heap) (x : Str) (k : Nat) (f : Addr) (ps : List Str) (sp : Sp) : Prop where
  ex : ∃ fd, FnOk P w K mg base (L2.CX P w) k f fd ps sp ∧ Binds K fd ps []
  g : mg x = some (.ref f)
  kp : PySem.W.keepIn K (.ref f) = true
theorem Dfn.calX {P : Program} {w : World} {K : PySem.W.Frag} {mg : Str → Option Value} {base : Heap} {x : Str} {st : Stmt} {f : Addr} {ps : List Str} {k : Nat} {sp : Sp} (D : Dfn K mg x st f ps) (h : ∀ fd, Fun K x x st f fd → FnOk P w K mg base (L2.CX P w) k f fd ps sp) : CalX P w K mg base x k f ps sp := by
  obtain ⟨fd, F, b⟩ := D.ex
  exact ⟨⟨fd, h fd F, b⟩, D.g, F.kp⟩
theorem pe_cX {X : Cx} {x : Str} {k : Nat} {f : Addr} {ps : List Str} {sp : Sp} {t : TA} {e : Expr} {es : List Expr} {p pos : Pos} {E : L2.St → XK} (c : CalX X.prog X.w X.K X.mg X.base x k f ps sp) (hr : Room k X.A) (hg : Gl X x) (hx : ∀ σ, L2.PassesAt (L2.CX X.prog X.w) X σ (E σ))
    (ha : PA X (e :: es) t) (hdb : (x == ("__debug__" : Str)) = false := by decide) (he : starEach (e :: es) X.env = (false, eval e X.env) :: starEach es X.env := by rfl) (hpl : (backTo pos (starEach es X.env)).any (·.1) = false := by rfl) :
    PE X (.Call (.Name x p) (e :: es) [] pos) (L2.tCallS sp E t) := by
  obtain ⟨fd, F, b⟩ := c.ex
  exact L2.pe_callS F hr hg c.g c.kp b hx ha hdb he hpl
/-- the making of an error with one field -/
def spEI1 (C : Addr) (f : Str) : Sp := fun vs H Q _ => ∃ a v, vs = [.ref a, v] ∧ H a = some (L2.exo a C none) ∧ ∀ dx, H dx = none → dx ≠ a → Q .non (upd (upd H dx (L2.exd dx [(f, v)])) a (L2.exo a C (some dx)))
theorem raise1 {C : Addr} {f : Str} {v : V} {H : Hp} {Q E : XK} (k : ∀ d H', H' d = some (.xd [(f, v)]) → Same H H' → Q (.ref C) (some d) H') : ∀ a, H a = none → spEI1 C f [.ref a, v] (upd H a (L2.exo a C none))
    (fun u H2 => u = .non ∧ ∃ (d : Addr) (fs : List (Str × V)), H2 a = some (L2.exo a C (some d)) ∧ H2 d = some (L2.exd d fs) ∧ H d = none ∧ Q (.ref C) (some d) (upd (L2.del H2 a) d (.xd fs))) E := fun a na => by
  refine ⟨a, v, rfl, upd_same, fun dx nx ne => ⟨rfl, dx, [(f, v)], upd_same, by rw [upd_ne ne, upd_same], by rwa [upd_ne ne] at nx, k dx _ upd_same fun b o e => ?_⟩⟩
  rw [upd_ne ne] at nx
  have ba : b ≠ a := ne_of_none e na
  have bd : b ≠ dx := ne_of_none e nx
  rw [upd_ne bd, L2.del_ne ba, upd_ne ba, upd_ne bd, upd_ne ba]
  exact e
/-- in a suite the term may not speak of the suite's own context -/
theorem ix_listK {X : Cx} {K : PySem.W.Frag} (hK : X.K = K) : IxR X (rIxL K) := by
  subst hK
  exact ix_list
theorem mt_dcountK {X : Cx} {K : PySem.W.Frag} (hK : X.K = K) (hu : X.A.units + 64 < cLine) : MtR X "list.count" (rCntD K) := by
  subst hK
  exact mt_dcount hu
/-! ### a suite that is told of any error of the text -/
def rIsZ (K : PySem.W.Frag) (a : Addr) (cls : Value) (d : Option Addr) : List V → Hp → VK → Prop := fun xs H Q => ∃ D dd : Addr, cls = .ref D ∧ d = some dd ∧ IsC K D ∧ rIsX K D a dd xs H Q
theorem call_isZ {X : Cx} {K : PySem.W.Frag} {a : Addr} {cls : Value} {d : Option Addr} {oe : Obj} {pn : List (Addr × Obj)} (hK : X.K = K) (hz : L2.Zc cls d oe) (hf : ∃ vs, oe.data = .fields vs) : CallR (X.suite a ((a, oe) :: pn)) (.builtin "isinstance") (rIsZ K a cls d) := by
  subst hK
  rintro pins s σ H xs us Q I r ⟨D, dd, rfl, rfl, T, h⟩
  exact call_isX T hz hf pins s σ H xs us Q I r h
def rIsTZ (K : PySem.W.Frag) (a : Addr) (cls : Value) (d : Option Addr) : List V → Hp → VK → Prop := fun xs H Q => ∃ D : Addr, IsC K D ∧ rIsT K D a cls d xs H Q
theorem call_isTZ {X : Cx} {K : PySem.W.Frag} {a : Addr} {cls : Value} {d : Option Addr} {oe : Obj} {pn : List (Addr × Obj)} (hK : X.K = K) (hz : L2.Zc cls d oe) (hf : ∃ vs, oe.data = .fields vs) : CallR (X.suite a ((a, oe) :: pn)) (.builtin "isinstance") (rIsTZ K a cls d) := by
  subst hK
  rintro pins s σ H xs us Q I r ⟨D, T, h⟩
  exact call_isT T hz hf pins s σ H xs us Q I r h
def tXfZ (K : PySem.W.Frag) (a : Addr) (cls : Value) (d : Option Addr) (f : Str) (te : TE) : TE := fun σ H Q => ∃ C : Addr, L2.XfC K C ∧ PySem.W.findIn K (.ref C) f = some none ∧ L2.tXf a cls d C f te σ H Q
theorem pe_xfZ {X : Cx} {K : PySem.W.Frag} {a : Addr} {oe : Obj} {cls : Value} {d : Option Addr} {pn : List (Addr × Obj)} {e : Expr} {te : TE} {pos : Pos} {n : Str} (hK : X.K = K) (hz : L2.Zc cls d oe) (hf : ∃ vs, oe.data = .fields vs) (he : PE (X.suite a ((a, oe) :: pn)) e te) (hb : attributeBase e n X.env (eval e X.env) = eval e X.env := by rfl) :
    PE (X.suite a ((a, oe) :: pn)) (.Attribute e n pos) (tXfZ K a cls d n te) := by
  subst hK
  refine ⟨fun pins s σ H Q I ⟨C, T, no, h⟩ => ?_⟩
  exact (L2.pe_xf T no hz hf he hb).run pins s σ H Q I h
/-- a method of a builtin, the term over a K of its own -/
theorem pe_bmK {X : Cx} {K : PySem.W.Frag} {o e : Expr} {es : List Expr} {to : TE} {t : TA} {name : Str} {apos cpos : Pos} {T id : String} {r : V → List V → Hp → VK → Prop} (hK : X.K = K) (pa : PlainAttrs T) (slot : Slot T name id) (hty : typeOf (.builtin id) = pure (.type "method_descriptor")) (hm : L2.MtR X id r) (ho : PE X o to) (ha : PA X (e :: es) t)
    (hbase : attributeBase o name X.env (eval o X.env) = eval o X.env := by rfl)
    (hfew : ((backTo cpos (starEach (e :: es) X.env)).all (fun x => !x.1) && (backToKw cpos (keywordEach [] X.env)).all (fun x => x.1.isSome) && decide ((e :: es).length + ([] : List Keyword).length + (if ([] : List Keyword).isEmpty then 0 else 1) < 30)) = true := by rfl)
    (hline : (apos.endLine == cpos.line) = true := by rfl) (hs : starEach (e :: es) X.env = (false, eval e X.env) :: starEach es X.env := by rfl) (hplain : (backTo cpos (starEach es X.env)).any (·.1) = false := by rfl) :
    PE X (.Call (.Attribute o name apos) (e :: es) [] cpos) (L2.tBM K T r to t) := by
  subst hK
  exact pe_bm pa slot hty hm ho ha hbase hfew hline hs hplain
theorem clsIn_of {K : PySem.W.Frag} {B : Addr} (h : PySem.W.hasDictIn K B = true) : (PySem.W.clsIn K B).isSome = true := by
  obtain ⟨cd, hc, _⟩ := PySem.W.any_some h
  rw [hc] <;> rfl
/-- whether the error D is a B -/
theorem kit_of {K : PySem.W.Frag} {D B : Addr} {b : Bool} (xB : L2.XfC K B) (tB : PySem.W.typeIn K (.ref B) = some (.type "type")) (sd : PySem.W.subIn K (.ref D) (.ref D) = some true) (s : PySem.W.subIn K (.ref D) (.ref B) = some b) : PySem.W.kitOne K (.ref D) (.ref B) = some b := by
  unfold PySem.W.kitOne
  by_cases e : D = B
  · subst e
    rw [sd] at s
    rw [if_pos (beq_self_eq_true _)]
    exact s
  · rw [if_neg (by simpa using e)]
    have e2 : ((PySem.W.clsIn K B).isSome && PySem.W.typeIn K (.ref B) == some (.type "type")) = true := by rw [clsIn_of xB.hdC, tB] <;> rfl
    show (if ((PySem.W.clsIn K B).isSome && PySem.W.typeIn K (.ref B) == some (.type "type")) = true then PySem.W.subIn K (.ref D) (.ref B) else none) = some b
    rw [if_pos e2]
    exact s
theorem kit_ar {K : PySem.W.Frag} {D : Addr} {b : Bool} {x : String} (hm : PySem.W.kitMeta x = true) (s : PySem.W.subIn K (.ref D) (.type x) = some b) : PySem.W.kitOne K (.ref D) (.type x) = some b := by
  unfold PySem.W.kitOne
  rw [if_neg (by intro z; exact absurd (beq_iff_eq.mp z) (by intro q; cases q))]
  show (if PySem.W.kitMeta x = true then PySem.W.subIn K (.ref D) (.type x) else none) = some b
  rw [if_pos hm]
  exact s
/-- the text of repr, of what has a plain one -/
inductive ReprV : V → Str → Prop
  | int (i : Int) (h : i.natAbs.log2 < 1920) : ReprV (.int i) (toString i : String)
  | non : ReprV .non "None"
  | bl (b : Bool) : ReprV (.bl b) (if b then "True" else "False")
  | str (x : Str) (h : (reprText x).length ≤ sizeLine) : ReprV (.str x) (reprText x)
theorem call_reprP {X : Cx} : CallR X (.builtin "repr") (fun xs H Q => ∃ v s, xs = [v] ∧ ReprV v s ∧ Q (.str s) H) := by
  rintro pins s σ H xs us Q I r ⟨v, x, rfl, h, q⟩
  match us, r with
  | [_], .cons rx .nil =>
    cases h with
    | int i h =>
      obtain ⟨t, rfl⟩ := rx
      exact PySem.P.repr_of_int h ⟨.str _, H, I.tok _, ⟨_, rfl⟩, q⟩
    | non =>
      cases rx
      exact PySem.P.repr_of_none ⟨.str _, H, I.tok _, ⟨_, rfl⟩, q⟩
    | bl b =>
      cases rx
      cases b <;> exact PySem.P.repr_of_bool ⟨.str _, H, I.tok _, ⟨_, rfl⟩, q⟩
    | str x h =>
      obtain ⟨t, rfl⟩ := rx
      exact PySem.P.repr_of_str ⟨.str _, H, I.tok _, ⟨_, rfl⟩, q⟩ h
theorem exm_of {K : PySem.W.Frag} {D B : Addr} {b : Bool} (xB : L2.XfC K B) (tB : PySem.W.typeIn K (.ref B) = some (.type "type")) (s : PySem.W.subIn K (.ref D) (.ref B) = some b) : PySem.W.exmOne K (.ref D) (.ref B) = some b := by
  unfold PySem.W.exmOne
  rw [if_pos (by rw [xB.exC] <;> rfl)]
  have e2 : ((PySem.W.clsIn K B).isSome && PySem.W.typeIn K (.ref B) == some (.type "type")) = true := by rw [clsIn_of xB.hdC, tB] <;> rfl
  show (if ((PySem.W.clsIn K B).isSome && PySem.W.typeIn K (.ref B) == some (.type "type")) = true then PySem.W.subIn K (.ref D) (.ref B) else none) = some b
  rw [if_pos e2]
  exact s
/-! ### defs in which lambdas are made -/
theorem DfnT.cal {P : Program} {w : World} {K : PySem.W.Frag} {mg : Str → Option Value} {base : Heap} {x : Str} {st : Stmt} {f c : Addr} {ps : List Str} {k : Nat} {sp : Sp} (D : DfnT K mg x st f c ps) (h : ∀ fd, FunT K x x st f c fd → FnOk P w K mg base CX0 k f fd ps sp) : Cal P w K mg base x k f ps sp := by
  obtain ⟨fd, F, b⟩ := D.ex
  exact ⟨⟨fd, h fd F, b⟩, D.g, F.kp⟩
/-- x(lambda: body), x a def of the text -/
theorem pe_lamc {X : Cx} {T : List (Addr × Str)} {TT : (XK → Hp → VK → Prop) → Hp → VK → Prop} {x a : Str} {g c P : Addr} {k : Nat} {st : Stmt} {Ng : List Str} {params : Arguments} {body : Expr} {scope : Scope} {t : XK → TE} {p lpos pos : Pos} (D : Dfn X.K X.mg x st g [a]) (Sg : FnScope Ng [a] (defScope st)) (hNg : Ng[0]? = some a) (hva : L2.Vis (defScope st) a)
    (hG : ∀ cdv : Value, LamX.GivesTo X Ng x (defScope st) g cdv (defBody st) a (X.env.qual ++ "<lambda>") TT) (TB : LamX.TabB X.base X.mg c P) (hcode : X.env.code = .ref c) (hmT : (P, X.env.qual ++ "<lambda>") ∈ T) (hu : ∀ p ∈ T, p.1 = P → p.2 = X.env.qual ++ "<lambda>") (hr : Room (k + 2) X.A) (Ls : LamX.LamS X.env.scope scope) (hdef : defaultsOf params X.env = ([], []))
    (hbind : ∀ (q : Str) (cl : List (Str × Addr)) (pm cv ctv : Value), bindArgs (PySem.W.kla_fn "<lambda>" q params body scope cl pm cv ctv) ⟨[], []⟩ = pure [])
    (hbody : ∀ (A : Around) (outer : List Env) (s : Shared) (H : Hp) (E : XK) (f c' : Addr), Room k (A.deeper (LamX.lamEnv X scope s.heap.objs.size f c')) → PE (LamX.lamCx X A outer s H E scope f c') body (t E))
    (hg : Gl X x := by rfl) (hdb : (x == ("__debug__" : Str)) = false := by decide) (hd : (a == ("__debug__" : Str)) = false := by decide) (hcd : (a == ("__classdict__" : Str)) = false := by decide) :
    PE X (.Call (.Name x p) [.Lambda params body scope lpos] [] pos) (LamX.tLam T TT t) := by
  obtain ⟨fd, F, b⟩ := D.ex
  obtain ⟨oc, od, kV, doc, pm, an, cdv, ct, osl, rfl, lk, hc⟩ := F.ex
  exact LamX.pe_lamcall hg D.g F.kp lk hc b Sg hNg hva (hG cdv) TB hcode hmT hu hr Ls hdef hbind hbody hdb hd hcd
/-- what stays of a heap over calls that make lambdas -/
theorem ExtN.lst {H H' : Hp} (e : LamX.ExtN H H') {a : Addr} {xs : List V} (h : H a = some (.lst xs)) : H' a = some (.lst xs) := e _ _ h fun _ z => nomatch z
theorem mk_dfnT {K : PySem.W.Frag} {h : Heap} {mg : Str → Option Value} {x : Str} {st : Stmt} {f c : Addr} {oc : Value} {od an : Option Addr} {osl : Array (Option Value)} {kV doc pm ct : Value} {ps : List Str} (X : K.In h) (G : h.Ns mainGlobals mg) (g : PySem.W.nsIn K mainGlobals x = some (some (.ref f)))
    (l : K.lookup f = some ⟨oc, od, .func (PySem.W.fnOf x x (defArgs st) (defBody st) (defScope st) .none kV doc pm an (.ref c) ct), osl⟩) (cd : PySem.W.codeIn K (.ref c) x = true) (k : PySem.W.keepIn K (.ref f) = true)
    (hb : ∀ (kV doc pm : Value) (an : Option Addr) (cdv ct : Value) (us : List Value), us.length = ps.length → bindArgs (PySem.W.fnOf x x (defArgs st) (defBody st) (defScope st) .none kV doc pm an cdv ct) ⟨us, []⟩ = pure (ps.zip us)) : DfnT K mg x st f c ps :=
  ⟨⟨_, ⟨⟨oc, od, kV, doc, pm, an, ct, osl, rfl, l, cd⟩, k⟩, .all (hb kV doc pm an (.ref c) ct)⟩, PySem.W.mg_of X G g⟩
/-- what the end knows of a table and its code object -/
def TabE (K : PySem.W.Frag) (h : Heap) (c P : Addr) : Prop := h.get? P = some { cls := .none, data := .fields #[] } ∧ PySem.W.codeHdIn K c P = true ∧ K.lookup P = none
theorem tabE_of {K : PySem.W.Frag} {h : Heap} {c P : Addr} (h1 : h.get? P = some (PySem.W.tabObj #[])) (h2 : PySem.W.codeHdIn K c P = true) (h3 : K.lookup P = none) : TabE K h c P := ⟨h1, h2, h3⟩
/-! ### the making of errors -/
def spEI2 (C : Addr) (f g : Str) : Sp := fun vs H Q _ => ∃ a v u, vs = [.ref a, v, u] ∧ H a = some (L2.exo a C none) ∧ ∀ dx, H dx = none → dx ≠ a → Q .non (upd (upd (upd H dx (L2.exd dx [(f, v)])) a (L2.exo a C (some dx))) dx (L2.exd dx [(g, u), (f, v)]))
section
variable {P : Program} {w : World} {K : PySem.W.Frag} {mg : Str → Option Value} {base : Heap} {L : LA}
abbrev N_InvalidIndexinit : List Str := ["self", "index"]
theorem sc_InvalidIndexinit : FnScope N_InvalidIndexinit ["self", "index"] (defScope st_InvalidIndex_init) := ⟨rfl, rfl, rfl, by decide +kernel, rfl, by decide +kernel, by decide +kernel⟩
theorem fn_InvalidIndexinit (T : LX K mg L) {fd : FuncData} (F : Fun K "__init__" "InvalidIndex.__init__" st_InvalidIndex_init L.i_InvalidIndex fd) : FnOk P w K mg base CX0 1 L.i_InvalidIndex fd ["self", "index"] (spEI1 L.e_InvalidIndex "index") := by
  have nd := sc_InvalidIndexinit.nd
  refine F.ok sc_InvalidIndexinit (fun vs H Q E h => ?_) (fun cdv A outer S H vs Q E hr h => ?_)
  · obtain ⟨a, v, rfl, _⟩ := h
    rfl
  · obtain ⟨a, v, rfl, ha, k⟩ := h
    refine ⟨_, (pss_one (ps_ae (pv 0) (pv 1))), ?_⟩
    exact ⟨_, rfl, _, rfl, a, L.e_InvalidIndex, rfl, T.ae_InvalidIndex, T.ne_InvalidIndex_index, .inl ⟨ha, fun dx nx ne => k dx nx ne⟩⟩
end
theorem mk_InvalidIndex {X : Cx} {L : LA} (T : LX X.K X.mg L) (hr : Room 2 X.A) {e : Expr} {ta : TA} {p pos : Pos} (hg : Gl X "InvalidIndex") (ha : PA X [e] ta)
    (he : starEach (e :: []) X.env = (false, eval e X.env) :: starEach [] X.env := by rfl) (hpl : (backTo pos (starEach [] X.env)).any (·.1) = false := by rfl) :
    L2.PMk X (.Call (.Name "InvalidIndex" p) [e] [] pos) (L2.tMkO L.e_InvalidIndex (spEI1 L.e_InvalidIndex "index") [] ta) := by
  obtain ⟨fd, F, b⟩ := T.in_InvalidIndex
  exact pmk_ae T.ae_InvalidIndex T.hi_InvalidIndex T.ti_InvalidIndex (fn_InvalidIndexinit T F) hr b .nil pass0 hg T.ge_InvalidIndex ha (by decide) he hpl
section
variable {P : Program} {w : World} {K : PySem.W.Frag} {mg : Str → Option Value} {base : Heap} {L : LA}
abbrev N_InvalidBoundinit : List Str := ["self", "part"]
theorem sc_InvalidBoundinit : FnScope N_InvalidBoundinit ["self", "part"] (defScope st_InvalidBound_init) := ⟨rfl, rfl, rfl, by decide +kernel, rfl, by decide +kernel, by decide +kernel⟩
theorem fn_InvalidBoundinit (T : LX K mg L) {fd : FuncData} (F : Fun K "__init__" "InvalidBound.__init__" st_InvalidBound_init L.i_InvalidBound fd) : FnOk P w K mg base CX0 1 L.i_InvalidBound fd ["self", "part"] (spEI1 L.e_InvalidBound "part") := by
  have nd := sc_InvalidBoundinit.nd
  refine F.ok sc_InvalidBoundinit (fun vs H Q E h => ?_) (fun cdv A outer S H vs Q E hr h => ?_)
  · obtain ⟨a, v, rfl, _⟩ := h
    rfl
  · obtain ⟨a, v, rfl, ha, k⟩ := h
    refine ⟨_, (pss_one (ps_ae (pv 0) (pv 1))), ?_⟩
    exact ⟨_, rfl, _, rfl, a, L.e_InvalidBound, rfl, T.ae_InvalidBound, T.ne_InvalidBound_part, .inl ⟨ha, fun dx nx ne => k dx nx ne⟩⟩
end
theorem mk_InvalidBound {X : Cx} {L : LA} (T : LX X.K X.mg L) (hr : Room 2 X.A) {e : Expr} {ta : TA} {p pos : Pos} (hg : Gl X "InvalidBound") (ha : PA X [e] ta)
    (he : starEach (e :: []) X.env = (false, eval e X.env) :: starEach [] X.env := by rfl) (hpl : (backTo pos (starEach [] X.env)).any (·.1) = false := by rfl) :
    L2.PMk X (.Call (.Name "InvalidBound" p) [e] [] pos) (L2.tMkO L.e_InvalidBound (spEI1 L.e_InvalidBound "part") [] ta) := by
  obtain ⟨fd, F, b⟩ := T.in_InvalidBound
  exact pmk_ae T.ae_InvalidBound T.hi_InvalidBound T.ti_InvalidBound (fn_InvalidBoundinit T F) hr b .nil pass0 hg T.ge_InvalidBound ha (by decide) he hpl
section
variable {P : Program} {w : World} {K : PySem.W.Frag} {mg : Str → Option Value} {base : Heap} {L : LA}
abbrev N_LimitExceededinit : List Str := ["self", "limit"]
theorem sc_LimitExceededinit : FnScope N_LimitExceededinit ["self", "limit"] (defScope st_LimitExceeded_init) := ⟨rfl, rfl, rfl, by decide +kernel, rfl, by decide +kernel, by decide +kernel⟩
theorem fn_LimitExceededinit (T : LX K mg L) {fd : FuncData} (F : Fun K "__init__" "LimitExceeded.__init__" st_LimitExceeded_init L.i_LimitExceeded fd) : FnOk P w K mg base CX0 1 L.i_LimitExceeded fd ["self", "limit"] (spEI1 L.e_LimitExceeded "limit") := by
  have nd := sc_LimitExceededinit.nd
  refine F.ok sc_LimitExceededinit (fun vs H Q E h => ?_) (fun cdv A outer S H vs Q E hr h => ?_)
  · obtain ⟨a, v, rfl, _⟩ := h
    rfl
  · obtain ⟨a, v, rfl, ha, k⟩ := h
    refine ⟨_, (pss_one (ps_ae (pv 0) (pv 1))), ?_⟩
    exact ⟨_, rfl, _, rfl, a, L.e_LimitExceeded, rfl, T.ae_LimitExceeded, T.ne_LimitExceeded_limit, .inl ⟨ha, fun dx nx ne => k dx nx ne⟩⟩
end
theorem mk_LimitExceeded {X : Cx} {L : LA} (T : LX X.K X.mg L) (hr : Room 2 X.A) {e : Expr} {ta : TA} {p pos : Pos} (hg : Gl X "LimitExceeded") (ha : PA X [e] ta)
    (he : starEach (e :: []) X.env = (false, eval e X.env) :: starEach [] X.env := by rfl) (hpl : (backTo pos (starEach [] X.env)).any (·.1) = false := by rfl) :
    L2.PMk X (.Call (.Name "LimitExceeded" p) [e] [] pos) (L2.tMkO L.e_LimitExceeded (spEI1 L.e_LimitExceeded "limit") [] ta) := by
  obtain ⟨fd, F, b⟩ := T.in_LimitExceeded
  exact pmk_ae T.ae_LimitExceeded T.hi_LimitExceeded T.ti_LimitExceeded (fn_LimitExceededinit T F) hr b .nil pass0 hg T.ge_LimitExceeded ha (by decide) he hpl

/-! ### repr of plain lists, tuples and of the empty dict, whatever the guards are -/
theorem codeAny_guards {M : Model} {A : Around} {c : Code} {R : Result → Shared → Prop} {s : Shared} (h : ∀ g, codeAny M { A with guards := some g } c R s) : codeAny M A c R s := fun Γ p hc hb =>
  h (guardsOf Γ.below) Γ p hc ⟨hb.1, hb.2.1, hb.2.2.1, fun g' e => by cases e; rfl, hb.2.2.2.2⟩
def listGF (self : Value) : Code × Pos → Bool := fun
  | (.builtin "list.__repr__.loop" ⟨v :: _, _⟩, _) => Builtin.List.listSameRef v self
  | _ => false
theorem listGF_cons (self : Value) (id : String) (v : Value) (rest : List Value) (kw : List (Str × Value)) (p : Pos) : listGF self (.builtin id ⟨v :: rest, kw⟩, p) = (decide (id = "list.__repr__.loop") && Builtin.List.listSameRef v self) := by
  by_cases h : id = "list.__repr__.loop"
  · subst h
    simp [listGF]
  · unfold listGF
    split
    · simp_all
    · simp [h]
theorem listGF_nil (self : Value) (id : String) (kw : List (Str × Value)) (p : Pos) : listGF self (.builtin id ⟨[], kw⟩, p) = false := by
  unfold listGF
  split <;> simp_all
theorem listGF_pos (self : Value) (c : Code) (p : Pos) : listGF self (c, p) = listGF self (c, default) := by
  cases c with
  | builtin id args =>
    obtain ⟨pos, kw⟩ := args
    cases pos with
    | nil => rw [listGF_nil, listGF_nil]
    | cons v rest => rw [listGF_cons, listGF_cons]
  | _ => rfl
theorem listGF_off (self : Value) (c : Code) (p : Pos) (hc : c.isGuard = false) : listGF self (c, p) = false := by
  cases c with
  | builtin id args =>
    obtain ⟨pos, kw⟩ := args
    cases pos with
    | nil => exact listGF_nil _ _ _ _
    | cons v rest =>
      simp [Code.isGuard, guardIds] at hc
      rw [listGF_cons]
      simp [hc]
  | _ => rfl
def listHit (g : List Code) (a : Addr) : Bool := g.any fun c => listGF (.ref a) (c, default)
def tupHit (g : List Code) (a : Addr) : Bool := g.any fun c => tupGuardF (.ref a) (c, default)
def dictHit (g : List Code) (a : Addr) : Bool := g.any fun c => dictGuardF (.ref a) (c, default)
section
variable {prog : Program} {w : World} {A : Around} {E : Value → Shared → Prop} {s : Shared} {a : Addr} {g : List Code}
theorem own_list_repr {Q : Fin → Shared → Prop} {o : Obj} {x : Value} {l : List Value} {n : Nat} {c : Code} {b : Nat} (hg : A.guards = some g) (hget : s.heap.get? a = some o) (hd : o.data = .seq (x :: l).toArray n)
    (h1 : listHit g a = true → Q (.done (.ret (.str "[...]" s.toks))) { s with toks := s.toks + 1 })
    (h2 : listHit g a = false → wpAny (model prog w) (A.under c) (do again (.builtin "list.__repr__.loop" ⟨[.ref a, rawInt 0, ← newList [], rawInt b], []⟩)) Q E s) :
    wpOwn (model prog w) A c (Builtin.listReprAt b ⟨[.ref a], []⟩) Q E s := by
  intro Γ p hc hb
  have e : Γ.below.any (listGF (.ref a)) = listHit g a := by
    rw [any_eq_guards (listGF_off _) (listGF_pos _), hb.2.2.2.1 g hg]
    rfl
  unfold Builtin.listReprAt
  simp [slotArgs, Builtin.List.listItems, seqItems?, Sem.wp_load_of (h := hget), hd, stack]
  show Sem.wp (model prog w) Γ (if (Γ.below.any (listGF (.ref a))) = true then _ else _) _ _ p s
  rw [e]
  cases q : listHit g a with
  | true =>
    rw [if_pos rfl]
    simp [rule, retStr, ret]
    exact h1 q
  | false =>
    rw [if_neg Bool.false_ne_true]
    exact h2 q Γ p (hc ▸ hb.in)
theorem call_list_flat {Q : Value → Shared → Prop} {oa : Obj} {x : Value} {l : List Value} {na : Nat} {ts : List Str} (hTy : s.TypeIs (.ref a) "list") (hg : A.guards = some g)
    (ha : s.heap.get? a = some oa) (hda : oa.data = .seq (x :: l).toArray na) (hlen : ts.length = (x :: l).toArray.size)
    (hT : ∀ (i : Nat) (y : Value), (x :: l).toArray[i]? = some y → ∃ t, ts[i]? = some t ∧ ReprIs prog w y t)
    (hQ : ∀ h' u tk, (∀ b o, s.heap.get? b = some o → h'.get? b = some o) → Q (.str (if listHit g a then "[...]" else listText ts) u) { s with heap := h', toks := tk })
    (hsz : (listText ts).length ≤ sizeLine) : wpAny (model prog w) A (call (.builtin "list.__repr__") [.ref a]) Q E s := by
  refine wpAny_call (codeAny_call_builtin_own (Code.quiet_builtin _ (by decide +kernel)) F.entry_list_repr (F.slot_list_repr.check _ _ _ _ _ _ _ _ hTy (F.args_list_repr_1 _) (own_list_repr (b := 0) hg ha hda (fun q => ?_) fun q => ?_)))
  · have := hQ s.heap s.toks (s.toks + 1) fun _ _ z => z
    rw [q, if_pos rfl] at this
    exact this
  · have hQ : ∀ h' u tk, (∀ b o, s.heap.get? b = some o → h'.get? b = some o) → Q (.str (listText ts) u) { s with heap := h', toks := tk } := fun h' u tk k => by
      have := hQ h' u tk k
      rw [q, if_neg Bool.false_ne_true] at this
      exact this
    refine wpAny_bind (m := newList []) (wpAny_newObj_type ?_)
    refine wpAny_pure ⟨F.quiet_list_repr_loop _, ?_⟩
    exact codeAny_list_repr_start (P := s.heap.objs.size) (Nat.ne_of_lt (Heap.lt_size ha)) hlen hT (Heap.get?_push_of_some _ ha) hda (Heap.get?_push_size _ rfl) (fun h' u tk k => hQ h' u tk fun b o z => k b o (Nat.ne_of_lt (Heap.lt_size z)) (Heap.get?_push_of_some _ z)) (by omega)
theorem call_tup_flat {Q : Value → Shared → Prop} {o : Obj} {items : Array Value} {n : Nat} {ts : List Str} (hTy : s.TypeIs (.ref a) "tuple") (hg : A.guards = some g) (ha : s.heap.get? a = some o) (hd : o.data = .seq items n) (hT : ReprAll prog w items.toList ts)
    (hQ : ∀ u tk, Q (.str (if tupHit g a then "(...)" else tupleText ts) u) { s with toks := tk }) (hsz : (tupleText ts).length ≤ sizeLine) : wpAny (model prog w) A (call (.builtin "tuple.__repr__") [.ref a]) Q E s := by
  refine wpAny_call (codeAny_call_builtin_own (Code.quiet_builtin _ (by decide +kernel)) F.entry_tuple_repr (F.slot_tuple_repr.check _ _ _ _ _ _ _ _ hTy (F.args_tuple_repr_1 _) ?_))
  show wpOwn _ _ _ (Builtin.tupleReprAt 0 ⟨[.ref a], []⟩) _ _ _
  rw [tuple_repr_tree, tupleReprUnderWay_eq]
  refine wpOwn_bind (wpOwn_stackTailAny hg (tupGuardF_off _) (tupGuardF_pos _) ?_)
  cases q : (g.any fun c => tupGuardF (.ref a) (c, default)) with
  | true =>
    have q : tupHit g a = true := q
    rw [if_pos rfl]
    refine wpOwn_of_wpAny ?_
    have := hQ s.toks (s.toks + 1)
    rw [q, if_pos rfl] at this
    intro Γ p hΓ
    simp [rule, retStr, ret]
    exact this
  | false =>
    have q : tupHit g a = false := q
    rw [if_neg Bool.false_ne_true]
    refine wpOwn_of_wpAny (wpAny_tupleReprRest ha hd hT (fun u tk => ?_) (by omega))
    have := hQ u tk
    rw [q, if_neg Bool.false_ne_true] at this
    exact this
end
theorem call_dict_flat {prog : Program} {w : World} {A : Around} {E : Value → Shared → Prop} {s : Shared} {a : Addr} {g : List Code} {Q : Value → Shared → Prop} {o : Obj} {n : Nat} (hTy : s.TypeIs (.ref a) "dict") (hg : A.guards = some g) (ha : s.heap.get? a = some o) (hd : o.data = .dict #[] n) (hsys : (a == sysModules) = false)
    (hQ : ∀ u tk, Q (.str (if dictHit g a then "{...}" else "{}") u) { s with toks := tk }) : wpAny (model prog w) A (call (.builtin "dict.__repr__") [.ref a]) Q E s := by
  refine wpAny_call (codeAny_call_builtin_own (Code.quiet_builtin _ (by decide +kernel)) F.entry_dict_repr (F.slot_dict_repr.check _ _ _ _ _ _ _ _ hTy (F.args_dict_repr_1 _) ?_))
  show wpOwn _ _ _ (Builtin.dictReprAt 0 ⟨[.ref a], []⟩) _ _ _
  unfold Builtin.dictReprAt
  refine wpOwn_bind (wpOwn_of_wpAny ?_)
  unfold Builtin.Dict.dictSlotNone
  refine wpAny_bind (wpAny_notOrdered_dict hTy ?_)
  show wpAny _ _ (pure (Value.ref a)) _ _ s
  refine wpAny_pure ?_
  rw [dictReprRunning_eq]
  refine wpOwn_bind (wpOwn_stackTailAny hg (dictGuardF_off _) (dictGuardF_pos _) ?_)
  cases q : (g.any fun c => dictGuardF (.ref a) (c, default)) with
  | true =>
    have q : dictHit g a = true := q
    rw [if_pos rfl]
    refine wpOwn_of_wpAny ?_
    have := hQ s.toks (s.toks + 1)
    rw [q, if_pos rfl] at this
    intro Γ p hΓ
    simp [rule, retStr, ret]
    exact this
  | false =>
    have q : dictHit g a = false := q
    rw [if_neg Bool.false_ne_true]
    refine wpOwn_of_wpAny ?_
    show wpAny _ _ (Builtin.Dict.addrOf (.ref a) >>= _) _ _ s
    refine wpAny_bind (wpAny_pure ?_)
    show wpAny _ _ (Builtin.Dict.showsAll a >>= _) _ _ s
    unfold Builtin.Dict.showsAll
    rw [if_neg (by rw [hsys]; exact Bool.false_ne_true)]
    refine wpAny_bind (wpAny_pure ?_)
    refine wpAny_bind (wpAny_dictEpoch ha hd ?_)
    refine wpAny_bind (wpAny_dictEntries ha hd ?_)
    have := hQ s.toks (s.toks + 1)
    rw [q, if_neg Bool.false_ne_true] at this
    intro Γ p hΓ
    simp [rule, retStr, ret]
    exact this
/-! ### repr as a rule of the hand layer -/
inductive ReprG (g : List Code) (H : Hp) : V → Str → Prop
  | plain {v : V} {s : Str} (h : ReprV v s) : ReprG g H v s
  | lst {a : Addr} {x : V} {xs : List V} {ts : List Str} (e : H a = some (.lst (x :: xs))) (h : Paired ReprV (x :: xs) ts) (z : (listText ts).length ≤ sizeLine) : ReprG g H (.ref a) (if listHit g a then "[...]" else listText ts)
  | tup {a : Addr} {xs : List V} {ts : List Str} (e : H a = some (.tup xs)) (h : Paired ReprV xs ts) (z : (tupleText ts).length ≤ sizeLine) : ReprG g H (.ref a) (if tupHit g a then "(...)" else tupleText ts)
  | dic {a : Addr} (e : H a = some (.dK [])) : ReprG g H (.ref a) (if dictHit g a then "{...}" else "{}")
theorem ReprV.one {v : V} {s s' : Str} (h : ReprV v s) (h' : ReprV v s') : s = s' := by
  cases h <;> cases h' <;> rfl
theorem reprs_one {xs : List V} {ts us : List Str} (h : Paired ReprV xs ts) : Paired ReprV xs us → ts = us := by
  induction h generalizing us with
  | nil => intro h'; cases h'; rfl
  | cons a _ ih => intro h'; cases h' with | cons b t => rw [a.one b, ih t]
theorem ReprG.one {g : List Code} {H : Hp} {v : V} {s s' : Str} (h : ReprG g H v s) (h' : ReprG g H v s') : s = s' := by
  cases h with
  | plain h =>
    cases h' with
    | plain h' => exact h.one h'
    | _ => cases h
  | lst e h z =>
    cases h' with
    | plain h' => cases h'
    | lst e' h' z' =>
      rw [e] at e'
      cases e'
      rw [reprs_one h h']
    | tup e' => rw [e] at e'; cases e'
    | dic e' => rw [e] at e'; cases e'
  | tup e h z =>
    cases h' with
    | plain h' => cases h'
    | lst e' => rw [e] at e'; cases e'
    | tup e' h' z' =>
      rw [e] at e'
      cases e'
      rw [reprs_one h h']
    | dic e' => rw [e] at e'; cases e'
  | dic e =>
    cases h' with
    | plain h' => cases h'
    | lst e' => rw [e] at e'; cases e'
    | tup e' => rw [e] at e'; cases e'
    | dic e' => rfl
theorem ReprG.mv {g : List Code} {H H' : Hp} {v : V} {s : Str} (h : ReprG g H v s) (k : ∀ a o, v = .ref a → H a = some o → (∀ ps, o ≠ .tbl ps) → H' a = some o) : ReprG g H' v s := by
  cases h with
  | plain h => exact .plain h
  | lst e h z => exact .lst (k _ _ rfl e fun _ q => nomatch q) h z
  | tup e h z => exact .tup (k _ _ rfl e fun _ q => nomatch q) h z
  | dic e => exact .dic (k _ _ rfl e fun _ q => nomatch q)
theorem ReprV.is {prog : Program} {w : World} {v : V} {s : Str} {u : Value} (h : ReprV v s) (r : RelV v u) : ReprIs prog w u s := by
  cases h with
  | int i h =>
    obtain ⟨t, rfl⟩ := r
    exact ReprIs.int t h
  | non =>
    cases r
    exact ReprIs.none
  | bl b =>
    cases r
    cases b
    · exact ReprIs.bool false
    · exact ReprIs.bool true
  | str x h =>
    obtain ⟨t, rfl⟩ := r
    exact ReprIs.str x t h
theorem reprs_is {prog : Program} {w : World} : ∀ {xs : List V} {ts : List Str} {us : List Value}, Paired ReprV xs ts → Vals xs us → ReprAll prog w us ts
  | _, _, _, .nil, .nil => .nil
  | _, _, _, .cons h t, .cons r rs => .cons (h.is r) (reprs_is t rs)
theorem reprs_len {xs : List V} {ts : List Str} (h : Paired ReprV xs ts) : xs.length = ts.length := by
  induction h with
  | nil => rfl
  | cons _ _ ih => rw [List.length_cons, List.length_cons, ih]
theorem reprs_at {prog : Program} {w : World} : ∀ {us : List Value} {ts : List Str}, ReprAll prog w us ts → ∀ (i : Nat) (y : Value), us[i]? = some y → ∃ t, ts[i]? = some t ∧ ReprIs prog w y t
  | _, _, .nil, i, y, h => by simp at h
  | _, _, .cons h _, 0, y, e => by
    cases e
    exact ⟨_, rfl, h⟩
  | _, _, .cons _ t, i + 1, y, e => reprs_at t i y e
theorem call_reprG {X : Cx} {g : List Code} (hg : X.A.guards = some g) (hu : X.A.units + 64 < cLine) : CallR X (.builtin "repr") (fun xs H Q => ∃ v s, xs = [v] ∧ ReprG g H v s ∧ Q (.str s) H) := by
  rintro pins s σ H xs us Q I r ⟨v, x, rfl, h, q⟩
  cases h with
  | plain h => exact call_reprP pins s σ H [v] us Q I r ⟨v, x, rfl, h, q⟩
  | @lst a y ys ts e h z =>
    match us, r with
    | [_], .cons rx .nil =>
      cases rx
      obtain ⟨_, its, n, rv, ho⟩ := I.hok a _ e
      have hTy : s.TypeIs (.ref a) "list" := ⟨_, ho, rfl⟩
      cases rv with
      | cons r1 rs =>
        have ra := reprs_is (prog := X.prog) (w := X.w) h (.cons r1 rs)
        refine PySem.call_repr_slot (by omega) hTy F.slot_list_repr.toG (call_list_flat hTy hg ho rfl (by rw [← reprs_len h]; simp [rs.length]) (fun i y' hy => reprs_at ra i y' (by simpa using hy)) (fun h' u tk k => ⟨_, _, rfl, ⟨.str _, H, I.kept k, ⟨_, rfl⟩, q⟩⟩) z)
  | @tup a ys ts e h z =>
    match us, r with
    | [_], .cons rx .nil =>
      cases rx
      obtain ⟨_, its, rv, p⟩ := I.hok a _ e
      obtain ⟨⟨tc, tdd, tda, tsl⟩, hto, htc, n, htd⟩ := p
      dsimp only at htc htd
      subst htc htd
      have hTy : s.TypeIs (.ref a) "tuple" := ⟨_, hto, rfl⟩
      exact PySem.call_repr_slot (by omega) hTy F.slot_tuple_repr (call_tup_flat hTy hg hto rfl (by simpa using reprs_is h rv) (fun u tk => ⟨_, _, rfl, ⟨.str _, H, I.kept (t' := tk) fun _ _ z => z, ⟨_, rfl⟩, q⟩⟩) z)
  | @dic a e =>
    match us, r with
    | [_], .cons rx .nil =>
      cases rx
      obtain ⟨_, hsys, kvs, kv, o, es, ep, ho, ex, hd, kk, pr, _⟩ := I.hok a _ e
      cases kv
      have e0 : es = #[] := by
        have : es.toList = [] := by cases hh : es.toList with
          | nil => rfl
          | cons _ _ => rw [hh] at pr; cases pr
        exact Array.toList_eq_nil_iff.mp this
      subst e0
      have hTy : s.TypeIs (.ref a) "dict" := ⟨o, ho, ex.1⟩
      exact PySem.call_repr_slot (by omega) hTy F.slot_dict_repr (call_dict_flat hTy hg ho hd hsys fun u tk => ⟨_, _, rfl, ⟨.str _, H, I.kept (t' := tk) fun _ _ z => z, ⟨_, rfl⟩, q⟩⟩)
/-! ### try with several clauses, some of them naming their error -/
/-- a clause: what it names (a class), the slot of its name if it has one, its suite's reading -/
abbrev ClauseT := Value × Option Nat × (Addr → Value → Option Addr → TS)
def endsX (i : Nat) (D : Ends) : Ends := { nx := fun σ H => D.nx (σ.set i none) H, rt := D.rt, bk := fun σ H => D.bk (σ.set i none) H, ct := fun σ H => D.ct (σ.set i none) H }
/-- what the clauses, one behind another, ask of an error of the body -/
def wMix (K : PySem.W.Frag) (Wout : L2.WX) (D : Ends) : List ClauseT → L2.WX
  | [] => Wout
  | (c, none, ts) :: r => fun cls d σ H => ∃ b, PySem.W.exmOne K cls c = some b ∧ (b = true → ∀ a, H a = none → ts a cls d D σ H) ∧ (b = false → wMix K Wout D r cls d σ H)
  | (c, some i, ts) :: r => fun cls d σ H => ∃ b, PySem.W.exmOne K cls c = some b ∧ (b = true → ∀ a, H a = none → ts a cls d (endsX i D) (σ.set i (some (.ref a))) H) ∧ (b = false → wMix K Wout D r cls d σ H)
inductive ClsOk (X : Cx) : List ExceptHandler → List ClauseT → Prop
  | nil : ClsOk X [] []
  | plain {x : Str} {c : Value} {ts : Addr → Value → Option Addr → TS} {b₀ : Stmt} {suite : List Stmt} {np p2 : Pos} {hds : List ExceptHandler} {l : List ClauseT} (hc : L2.Names X x c)
      (hsu : ∀ (a : Addr) (oe : Obj) (cls : Value) (d : Option Addr) (pn : List (Addr × Obj)), L2.Zc cls d oe → (∃ vs, oe.data = .fields vs) → PSs (X.suite a ((a, oe) :: pn)) (b₀ :: suite) (ts a cls d)) (r : ClsOk X hds l) : ClsOk X (.ExceptHandler (some (.Name x np)) none (b₀ :: suite) p2 :: hds) ((c, none, ts) :: l)
  | named {x n : Str} {c : Value} {i : Nat} {ts : Addr → Value → Option Addr → TS} {b₀ : Stmt} {suite : List Stmt} {np p2 : Pos} {hds : List ExceptHandler} {l : List ClauseT} (hc : L2.Names X x c) (hi : X.N[i]? = some n) (hln : X.env.kindOf n = some .local)
      (hsu : ∀ (a : Addr) (oe : Obj) (cls : Value) (d : Option Addr) (pn : List (Addr × Obj)), L2.Zc cls d oe → (∃ vs, oe.data = .fields vs) → PSs (X.suite a ((a, oe) :: pn)) (b₀ :: suite) (ts a cls d)) (r : ClsOk X hds l) : ClsOk X (.ExceptHandler (some (.Name x np)) (some n) (b₀ :: suite) p2 :: hds) ((c, some i, ts) :: l)
section
variable {X : Cx} {body : List Stmt} {h₀ : ExceptHandler} {hds : List ExceptHandler} {l : List ClauseT} {pos : Pos} {tb : L2.WX → TS} {Wout : L2.WX}
theorem ps_try_mix (stk : X.stack = X.env :: X.outer) (frm : X.env.frame = some X.env.locals) (nd : X.N.Nodup) (tk : L2.Takes X Wout)
    (hbody : ∀ (W : L2.WX) (pn : List (Addr × Obj)) (xe : Value → Shared → Prop), L2.Takes (X.tr pn xe) W → PassesOwn (model X.prog X.w) X.A X.env xe → PSs (X.tr pn xe) body (tb W)) (hcl : ClsOk X (h₀ :: hds) l) :
    PS X (.Try body (h₀ :: hds) [] [] pos) (fun D σ H => tb (wMix X.K Wout D l) D σ H) := by
  refine ⟨fun pins s σ H D I start => ?_⟩
  have good := I.ok
  have frames : X.A.frames = some (X.env :: X.outer) := by rw [good.frames, stk]
  refine wpAny_Try_except ?_
  refine wpAny_mono ((hbody (wMix X.K Wout D l) (X.pn ++ pins) (fun er sA => wpAny (model X.prog X.w) X.A (noteFrame er X.env) (fun _ sB => wpAny (model X.prog X.w) X.A (setFlight er none) (fun _ sC => wpAny (model X.prog X.w) X.A (handleBy er X.env (h₀ :: hds)) (SP X pins D) X.xe sC) X.xe sB) X.xe sA) (fun u sX flying => ?_) PassesOwn.looking).run [] s σ H D (I.toTry _) start) (fun fl sN ended => ?_) (fun er sE out => out)
  rotate_left
  · match fl, ended with
    | .next, ⟨_, _, JN, q⟩ => exact wpAny_execs_nil ⟨_, _, JN.ofTry good, q⟩
    | .brk, ⟨_, _, JN, q⟩ => exact ⟨_, _, JN.ofTry good, q⟩
    | .cont, ⟨_, _, JN, q⟩ => exact ⟨_, _, JN.ofTry good, q⟩
    | .ret _, ⟨_, _, _, JN, r, q⟩ => exact ⟨_, _, _, JN.ofTry good, r, q⟩
  obtain ⟨ea, Bs, sI, pinsI, σI, HI, cls, d, rfl, JI, nbase, upS, skyS, fresh, osE, bareE, wished⟩ := flying
  have J := JI.ofTry good
  have skyX : L2.Sky Bs (X.env :: X.outer) ea (L2.Zc cls d) X.env.locals sX.heap := stk ▸ skyS
  show wpAny (model X.prog X.w) X.A (noteFrame (.ref ea) X.env) _ _ _
  refine L2.Sky.land L2.Zc.steady frames frm skyX fun hL flL upL => ?_
  have JL : Inv X pins σI HI { sX with heap := hL } := J.landed nbase flL.1 (upS.trans upL) osE bareE
  obtain ⟨oL, vL, getL, zL, dataL⟩ := flL.there
  have noFrame : ea ∉ frs (X.env :: X.outer) := fun mem => by
    obtain ⟨_, oM, getM, notFields⟩ := flL.2.2.1.mem mem
    rw [getL] at getM
    exact notFields _ (by cases getM; exact dataL)
  have notLocals : ea ≠ X.env.locals := fun eq => noFrame (List.mem_filterMap.mpr ⟨X.env, List.mem_cons_self, by rw [frm, eq]⟩)
  have notOuter : ea ∉ X.fs := fun mem => let ⟨en, inO, fr⟩ := List.mem_filterMap.mp mem; noFrame (List.mem_filterMap.mpr ⟨en, List.mem_cons_of_mem _ inO, fr⟩)
  have SL := JL.suite getL dataL fresh notLocals notOuter
  have named : ∀ {x : Str} {c : Value} {np : Pos} {Q E : Value → Shared → Prop}, L2.Names X x c → Q c { sX with heap := hL } → wpAny (model X.prog X.w) (X.A.mark (some (.ref ea))) (eval (.Name x np) X.env) Q E { sX with heap := hL } := by
    rintro x c np Q E ⟨glob, dbg, own | ⟨free, boot, notNone⟩⟩ goal
    · exact L2.ld_glob (X := X.suite ea ((ea, oL) :: (X.pn ++ pins))) SL glob own goal dbg
    · exact L2.ld_blt (X := X.suite ea ((ea, oL) :: (X.pn ++ pins))) SL glob free boot goal notNone dbg
  have typed : PySem.W.Looks (model X.prog X.w) hL (typeOf (.ref ea)) cls := fun _ _ _ _ more res => wpAny_typeOf_ref (more _ _ getL) (by rw [zL.1]; exact res)
  have walk : ∀ {hs2 : List ExceptHandler} {l2 : List ClauseT}, ClsOk X hs2 l2 → wMix X.K Wout D l2 cls d σI HI → wpAny (model X.prog X.w) X.A (handleBy (.ref ea) X.env hs2) (SP X pins D) X.xe { sX with heap := hL } := by
    intro hs2 l2 ok2
    induction ok2 with
    | nil =>
      intro wish
      refine wpAny_handleBy_nil ?_
      have flown := flL
      obtain ⟨_, _, _, oF, vF, TF, oT, _, getF, zF, dataF, tbF, _⟩ := flown
      unfold PySem.passOn
      refine wpAny_bind (wpAny_field getF dataF tbF ?_)
      rw [if_neg (by simp : ¬ ((Value.ref TF == Value.none) = true))]
      have up : wpAny (model X.prog X.w) X.A (setFlight (.ref ea) X.env.frame) (fun _ sU => wpAny (model X.prog X.w) X.A (throw (.ref ea) : Sem Flow) (SP X pins D) X.xe sU) X.xe { sX with heap := hL } := by
        rw [frm]
        exact HandSPX.setFlight_upZ flL fun hU heldU upU => wpAny_throw (tk _ _ ⟨ea, Bs, sI, pins, σI, HI, cls, d, rfl, J, nbase, (upS.trans upL).trans upU, .inr (.inr (stk ▸ heldU)), fresh, osE, bareE, wish⟩)
      first
        | exact wpAny_bind up
        | exact wpAny_bind (wpAny_pure (wpAny_bind up))
    | @plain x c ts b₀ suite np p2 hds3 l3 hc hsu r ih =>
      rintro ⟨b, look, yes, no⟩
      refine wpAny_handleBy_cons (codeAny_handlers_test ?_) (fun q => nomatch q)
      refine named hc ((PySem.W.exm_one (M := model X.prog X.w) JL.kIn typed look).here ?_)
      cases b with
      | false => exact ih (no rfl)
      | true =>
        refine codeAny_handlers_suite (HandSPX.lands_againZ flL fun hM flM upM => ?_)
        obtain ⟨oM, vM, getM, zM, dataM⟩ := flM.there
        have JM : Inv X pins σI HI { sX with heap := hM } := J.landed nbase flM.1 ((upS.trans upL).trans upM) osE bareE
        have SM := JM.suite getM dataM fresh notLocals notOuter
        refine wpAny_mono ((hsu ea oM cls d (X.pn ++ pins) zM ⟨_, dataM⟩).run [] _ _ HI _ SM (yes rfl ea fresh)) (fun fl sE done_ => ?_) (fun _ _ z => z.elim)
        match fl, done_ with
        | .next, ⟨_, _, SE, q⟩ => exact ⟨_, _, SE.unsuite good, q⟩
        | .brk, ⟨_, _, SE, q⟩ => exact ⟨_, _, SE.unsuite good, q⟩
        | .cont, ⟨_, _, SE, q⟩ => exact ⟨_, _, SE.unsuite good, q⟩
        | .ret _, ⟨_, _, _, SE, rv, q⟩ => exact ⟨_, _, _, SE.unsuite good, rv, q⟩
    | @named x n c i ts b₀ suite np p2 hds3 l3 hc hi hln hsu r ih =>
      rintro ⟨b, look, yes, no⟩
      refine wpAny_handleBy_cons (codeAny_handlers_test ?_) (fun q => nomatch q)
      refine named hc ((PySem.W.exm_one (M := model X.prog X.w) JL.kIn typed look).here ?_)
      cases b with
      | false => exact ih (no rfl)
      | true =>
        refine codeAny_handlers_suite_as (HandSPX.lands_againZ flL fun hM flM upM => ?_)
        obtain ⟨oM, vM, getM, zM, dataM⟩ := flM.there
        have JM : Inv X pins σI HI { sX with heap := hM } := J.landed nbase flM.1 ((upS.trans upL).trans upM) osE bareE
        have SM := JM.suite getM dataM fresh notLocals notOuter
        refine L2.store_ok (X := X.suite ea ((ea, oM) :: (X.pn ++ pins))) (v := .ref ea) SM nd hi (.inl hln) rfl (fun sB SB => ?_) (.inr hln)
        refine wpAny_mono ((hsu ea oM cls d (X.pn ++ pins) zM ⟨_, dataM⟩).run [] sB _ HI _ SB (yes rfl ea fresh)) (fun fl sE done_ => ?_) (fun _ _ z => z.elim)
        have gone : ∀ {σ6 : L2.St} {H6 : Hp} {Q : Shared → Prop}, Inv (X.suite ea ((ea, oM) :: (X.pn ++ pins))) [] σ6 H6 sE → (∀ sG, Inv X pins (σ6.set i none) H6 sG → Q sG) → wpAny (model X.prog X.w) X.A (do bindName X.env n .none; unbindBehindTheSuite X.env n p2) (fun _ sG => Q sG) X.xe sE :=
          fun SE more => L2.gone_ok (SE.unsuite good) nd hi hln more
        match fl, done_ with
        | .next, ⟨_, _, SE, q⟩ => exact gone SE fun _ JG => ⟨_, _, JG, q⟩
        | .brk, ⟨_, _, SE, q⟩ => exact gone SE fun _ JG => ⟨_, _, JG, q⟩
        | .cont, ⟨_, _, SE, q⟩ => exact gone SE fun _ JG => ⟨_, _, JG, q⟩
        | .ret _, ⟨_, _, _, SE, rv, q⟩ => exact gone SE fun _ JG => ⟨_, _, _, JG, rv, q⟩
  exact walk hcl wished
end
/-! ### defs whose bodies know of the guards around them -/
theorem FunT.okG {P : Program} {w : World} {K : PySem.W.Frag} {mg : Str → Option Value} {base : Heap} {x q : Str} {st : Stmt} {f c : Addr} {fd : FuncData} {N ps : List Str} {k : Nat} {sp : Sp} (F : FunT K x q st f c fd) (S : FnScope N ps (defScope st)) (len : ∀ vs H Q E, sp vs H Q E → vs.length = ps.length)
    (hbody : ∀ (g : List Code) (A : Around) (outer : List Env) (s : Shared) (H : Hp) (vs : List V) (Q : VK) (E : XK), A.guards = some g → Room k (A.deeper (PyProof.Rows.envOfC q (defScope st) s.heap.objs.size f (.ref c))) → sp vs H Q E →
      ∃ t, PSs (cxOf CX0 P w K mg base N q (defScope st) f (.ref c) A outer s H E).nox (defBody st) t ∧ t { nx := fun _ H' => Q .non H', rt := Q } (start N vs) H) : FnOk P w K mg base CX0 (k + 1) f fd ps sp := by
  obtain ⟨oc, od, kV, doc, pm, an, ct, osl, rfl, lk, hcd⟩ := F.ex
  refine ⟨len, fun A outer s H args us vs Q E hr e0 hb r hsp => codeAny_guards fun g => ?_⟩
  refine LamX.run_ofS (A := { A with guards := some g }) lk hcd S (N := N) ⟨hr.hd, hr.dp, hr.un⟩ ⟨e0.frames, e0.mod, e0.bs, e0.bsz, e0.funs, e0.frf, e0.hok, e0.bare⟩ hb r (len _ _ _ _ hsp) fun hr2 => ?_
  obtain ⟨t, h, z⟩ := hbody g { A with guards := some g } outer s H vs Q E rfl hr2 hsp
  exact ⟨t, h.nox, z⟩
theorem Fun.okG {P : Program} {w : World} {K : PySem.W.Frag} {mg : Str → Option Value} {base : Heap} {x q : Str} {st : Stmt} {f : Addr} {fd : FuncData} {N ps : List Str} {k : Nat} {sp : Sp} (F : Fun K x q st f fd) (S : FnScope N ps (defScope st)) (len : ∀ vs H Q E, sp vs H Q E → vs.length = ps.length)
    (hbody : ∀ (cdv : Value) (g : List Code) (A : Around) (outer : List Env) (s : Shared) (H : Hp) (vs : List V) (Q : VK) (E : XK), A.guards = some g → Room k (A.deeper (PyProof.Rows.envOfC q (defScope st) s.heap.objs.size f cdv)) → sp vs H Q E →
      ∃ t, PSs (cxOf CX0 P w K mg base N q (defScope st) f cdv A outer s H E).nox (defBody st) t ∧ t { nx := fun _ H' => Q .non H', rt := Q } (start N vs) H) : FnOk P w K mg base CX0 (k + 1) f fd ps sp := by
  obtain ⟨oc, od, kV, doc, pm, an, cdv, ct, osl, rfl, lk, hcd⟩ := F.ex
  refine ⟨len, fun A outer s H args us vs Q E hr e0 hb r hsp => codeAny_guards fun g => ?_⟩
  refine LamX.run_ofS (A := { A with guards := some g }) lk hcd S (N := N) ⟨hr.hd, hr.dp, hr.un⟩ ⟨e0.frames, e0.mod, e0.bs, e0.bsz, e0.funs, e0.frf, e0.hok, e0.bare⟩ hb r (len _ _ _ _ hsp) fun hr2 => ?_
  obtain ⟨t, h, z⟩ := hbody cdv g { A with guards := some g } outer s H vs Q E rfl hr2 hsp
  exact ⟨t, h.nox, z⟩
theorem deeper_guards {A : Around} {env : Env} {g : List Code} (h : A.guards = some g) : (A.deeper env).guards = some g := h
/-! ### methods and makings that may raise -/
structure MetX (P : Program) (w : World) (K : PySem.W.Frag) (mg : Str → Option Value) (base : Heap) (C : Addr) (m : Str) (k : Nat) (f : Addr) (ps : List Str) (sp : Sp) : Prop where
  ex : ∃ fd, FnOk P w K mg base (L2.CX P w) k f fd ps sp ∧ Binds K fd ps []
  me : Meth K C m f
theorem Mth.metX {P : Program} {w : World} {K : PySem.W.Frag} {mg : Str → Option Value} {base : Heap} {C : Addr} {m q : Str} {st : Stmt} {f : Addr} {ps : List Str} {k : Nat} {sp : Sp} (D : Mth K C m q st f ps) (h : ∀ fd, Fun K m q st f fd → FnOk P w K mg base (L2.CX P w) k f fd ps sp) : MetX P w K mg base C m k f ps sp := by
  obtain ⟨fd, F, b⟩ := D.ex
  exact ⟨⟨fd, h fd F, b⟩, ⟨D.at_, D.fn, F.kp⟩⟩
theorem pass1 {X : Cx} {E : XK} (tk : L2.Takes X fun cls d _ H => E cls d H) : Passes (L2.CX X.prog X.w) X E := fun pins σ H s e s' I c => L2.passAt tk σ pins H s e s' I c
theorem MetX.p_m1 {X : Cx} {C : Addr} {k : Nat} {f : Addr} {ps : List Str} {sp : Sp} {E : XK} {m : Str} {o e : Expr} {es : List Expr} {ta : TE} {t : TA} {apos pos : Pos} {pl : Sem Bool} (c : MetX X.prog X.w X.K X.mg X.base C m k f ps sp) (tk : L2.Takes X fun cls d _ H => E cls d H) (cl : Cls X.K C) (hr : Room k X.A) (he : PE X o ta) (ha : PA X (e :: es) t)
    (hst : starEach (e :: es) X.env = (false, eval e X.env) :: starEach es X.env := by rfl) (hpl : (backTo pos (starEach es X.env)).any (·.1) = false := by rfl)
    (ht : eval (.Call (.Attribute o m apos) (e :: es) [] pos) X.env = (do let ov ← eval o X.env; standAt apos.atName; let (f, first) ← holding [ov] (getMethod ov m pl); callWith pos f first (backTo pos (starEach (e :: es) X.env)) (backToKw pos (keywordEach [] X.env))) := by rfl) :
    PE X (.Call (.Attribute o m apos) (e :: es) [] pos) (tMeth C m sp [] E ta t) := by
  obtain ⟨fd, F, b⟩ := c.ex
  exact pe_meth he cl c.me F hr b .nil (pass1 tk) ha hst hpl ht
theorem raise2 {C : Addr} {f g : Str} {v u : V} {H : Hp} {Q E : XK} (k : ∀ d H', H' d = some (.xd [(g, u), (f, v)]) → Same H H' → Q (.ref C) (some d) H') : ∀ a, H a = none → spEI2 C f g [.ref a, v, u] (upd H a (L2.exo a C none))
    (fun x H2 => x = .non ∧ ∃ (d : Addr) (fs : List (Str × V)), H2 a = some (L2.exo a C (some d)) ∧ H2 d = some (L2.exd d fs) ∧ H d = none ∧ Q (.ref C) (some d) (upd (L2.del H2 a) d (.xd fs))) E := fun a na => by
  refine ⟨a, v, u, rfl, upd_same, fun dx nx ne => ⟨rfl, dx, [(g, u), (f, v)], ?_, upd_same, by rwa [upd_ne ne] at nx, k dx _ upd_same fun b o e => ?_⟩⟩
  · rw [upd_ne (Ne.symm ne), upd_same]
  · rw [upd_ne ne] at nx
    have ba : b ≠ a := ne_of_none e na
    have bd : b ≠ dx := ne_of_none e nx
    rw [upd_ne bd, L2.del_ne ba, upd_ne bd, upd_ne ba, upd_ne bd, upd_ne ba]
    exact e
/-! ### lambdas that are kept, with a default or none -/
namespace LamY
open PySem PySem.Spec PyProof.Rows L2 LamX
abbrev lamOb (X : Cx) (params : Arguments) (body : Expr) (scope : Scope) (dV doc pm : Value) (c' : Addr) (ctv : Value) : Obj := PySem.W.kdv_obj "<lambda>" (X.env.qual ++ "<lambda>") params (.expr body) scope (cloFrom X.env.cells scope.names []) dV doc pm c' ctv
/-- the function object of a lambda stands at f -/
def FunO (o : Obj) : HO := .frz o (.ext fun _ => True)
theorem funO_ne {o : Obj} (ps : Array Value) : FunO o ≠ .tbl ps := fun z => by
  unfold FunO at z
  cases z
/-- a table that tells one code object more -/
def grow (H : Hp) (P c : Addr) (ps : Array Value) (pos : Pos) (q : Str) : Hp := upd (upd H P (.tbl (ps ++ #[rawInt pos.line, rawInt pos.col, .ref c]))) c (CodeO c q)
theorem grow_ext {H : Hp} {P c : Addr} {ps : Array Value} {pos : Pos} {q : Str} (hP : H P = some (.tbl ps)) (nc : H c = none) : ExtN H (grow H P c ps pos q) := by
  intro b o e no
  have bc : b ≠ c := ne_of_none e nc
  have bP : b ≠ P := by
    intro z
    rw [z, hP] at e
    exact no ps (Option.some.inj e).symm
  unfold grow
  rw [upd_ne bc, upd_ne bP, e]
theorem grow_tabs {T : List (Addr × Str)} {H : Hp} {P c : Addr} {ps : Array Value} {pos : Pos} {q : Str} (tabs : Tabs T H) (hP : H P = some (.tbl ps)) (nc : H c = none) (one : ∀ p ∈ T, p.1 = P → p.2 = q) : Tabs T (grow H P c ps pos q) := by
  have Pc : P ≠ c := ne_of_none hP nc
  have ext := grow_ext (pos := pos) (q := q) hP nc
  rintro ⟨P', q'⟩ hp
  obtain ⟨qs, h1, h2, h3⟩ := tabs _ hp
  by_cases eq : P' = P
  · subst eq
    obtain rfl : q' = q := one _ hp rfl
    obtain rfl : ps = qs := by
      have h1 : H P' = some (.tbl qs) := h1
      rw [hP] at h1
      injection h1 with h1
      injection h1
    have two : (ps ++ #[rawInt pos.line, rawInt pos.col, Value.ref c]).toList = ps.toList ++ [rawInt pos.line, rawInt pos.col, .ref c] := by simp
    refine ⟨ps ++ #[rawInt pos.line, rawInt pos.col, .ref c], ?_, ?_, fun at_ cv told => ?_⟩
    · show grow H P' c ps pos q' P' = _
      unfold grow
      rw [upd_ne Pc, upd_same]
    · rw [two]
      exact PySem.TriplesOk_snoc _ _ _ _ h2
    · rw [two] at told
      rcases among_app _ h2 told with old | fresh
      · obtain ⟨d, e1, e2⟩ := h3 at_ cv old
        exact ⟨d, e1, ext _ _ e2 codeO_ne⟩
      · exact ⟨c, fresh, upd_same⟩
  · refine ⟨qs, ?_, h2, fun at_ cv told => ?_⟩
    · show grow H P c ps pos q P' = _
      have h1 : H P' = some (.tbl qs) := h1
      unfold grow
      rw [upd_ne (ne_of_none h1 nc), upd_ne eq, h1]
    · obtain ⟨d, e1, e2⟩ := h3 at_ cv told
      exact ⟨d, e1, ext _ _ e2 codeO_ne⟩
section
variable {X : Cx} {pins : List (Addr × Obj)} {σ : L2.St} {H HZ : Hp} {s s1 : Shared}
/-- an object that is made and known from now on -/
theorem inv_fun {o : Obj} {tk : Nat} (I : Inv X pins σ H s) (nf : o.isFreed = false) : Inv X pins σ (upd H s.heap.objs.size (FunO o)) { s with heap := s.heap.push o, toks := tk } :=
  I.laid (fun _ _ e => Heap.get?_push_of_some _ e) (Nat.le_refl _) ⟨Heap.get?_push_size _ nf, True.intro, ⟨o, Heap.get?_push_size _ nf⟩, fun _ _ _ _ => True.intro⟩
/-- the function object of a written lambda is made -/
theorem lam_keep {T : List (Addr × Str)} {c P : Addr} {params : Arguments} {body : Expr} {scope : Scope} {pos : Pos} {E : Value → Shared → Prop} {Q : Value → Shared → Prop} {dV : Value} (I : Inv X pins σ H s) (TB : TabB X.base X.mg c P) (hcode : X.env.code = .ref c)
    (hm : (P, X.env.qual ++ "<lambda>") ∈ T) (hu : ∀ p ∈ T, p.1 = P → p.2 = X.env.qual ++ "<lambda>") (hT : Tabs T H) (hfree : ∀ y ∈ scope.names, y.2 = .free → ∃ c, X.env.cells.lookup y.1 = some c)
    (h : ∀ (f c' : Addr) (doc pm ctv : Value) (H1 : Hp) (s' : Shared), Inv X pins σ (upd H1 f (FunO (lamOb X params body scope dV doc pm c' ctv))) s' → ExtN H H1 → Tabs T H1 → H1 f = none → H1 c' = some (CodeO c' (X.env.qual ++ "<lambda>")) → Q (.ref f) s') :
    wpAny (model X.prog X.w) X.A (makeTail "<lambda>" (X.env.qual ++ "<lambda>") params (.expr body) scope X.env dV .none .none pos pos.line) Q E s := by
  obtain ⟨ps, hP, triples, told⟩ := hT _ hm
  have builtins := TB.bm.keeps I.bk
  have code := TB.code.keeps I.bk
  have globals := I.mod.glob.keeps I.bk
  have table : s.heap.get? P = some { cls := .none, data := .fields ps } := I.hok P _ hP
  rcases among : codeAmong pos ps.toList with _ | cv
  · refine PySem.W.kdv_makeTail (mg := X.mg) (c := c) (P := P) (ps := ps) (closure_ok hfree) I.ok.glob globals hcode code table triples among TB.gP builtins fun c' ctv doc h' tk keeps above below record told' => ?_
    obtain ⟨_, oc, vs, t, same, isC, fs, nm⟩ := record
    cases same
    have fresh : H c' = none := I.hok.fresh above
    have J := inv_table (t' := tk) (more := #[rawInt pos.line, rawInt pos.col, .ref c']) I hP (fun b o n e => keeps b o n e) told' above ⟨oc, vs, t, isC, fs, nm⟩
    exact h _ c' doc _ ctv (grow H P c' ps pos (X.env.qual ++ "<lambda>")) _ (inv_fun J rfl) (grow_ext hP fresh) (grow_tabs hT hP fresh hu) (J.hok.fresh (Nat.le_refl _)) upd_same
  · obtain ⟨c', rfl, isC⟩ := told pos cv among
    refine PySem.W.kdv_makeTailHit (mg := X.mg) (c := c) (P := P) (ps := ps) (closure_ok hfree) I.ok.glob globals hcode code table triples among builtins fun ctv doc h' tk keeps _ => ?_
    have J : Inv X pins σ H { s with heap := h', toks := tk } := I.kept keeps
    exact h _ c' doc _ ctv H _ (inv_fun J rfl) (ExtN.refl H) hT (J.hok.fresh (Nat.le_refl _)) isC
end
/-- what a written lambda is as a value: no default -/
def tFn0 (X : Cx) (T : List (Addr × Str)) (params : Arguments) (body : Expr) (scope : Scope) : TE := fun _ H Q => Tabs T H ∧ ∀ (f c' : Addr) (doc pm ctv : Value) (H1 : Hp), ExtN H H1 → Tabs T H1 → H1 f = none → H1 c' = some (CodeO c' (X.env.qual ++ "<lambda>")) → Q (.ref f) (upd H1 f (FunO (lamOb X params body scope .none doc pm c' ctv)))
/-- .. one default, a whole number -/
def tFn1 (X : Cx) (T : List (Addr × Str)) (params : Arguments) (body : Expr) (scope : Scope) (i : Int) : TE := fun _ H Q => Tabs T H ∧ ∀ t, H t = none → ∀ (f c' : Addr) (doc pm ctv : Value) (H1 : Hp), ExtN (upd H t (.tup [.int i])) H1 → Tabs T H1 → H1 f = none → H1 c' = some (CodeO c' (X.env.qual ++ "<lambda>")) → Q (.ref f) (upd H1 f (FunO (lamOb X params body scope (.ref t) doc pm c' ctv)))
/-- the lambda's names: captured ones, globals, and own ones that the def has not -/
structure LamS (N : List Str) (sc scope : Scope) : Prop where
  kind : scope.kind = .function
  co : scope.isCoroutine = false
  gen : scope.isGenerator = false
  own : ∀ y ∈ scope.names, y.2 ≠ .cell ∧ (y.2 = .local → y.1 ∉ N)
  free : ∀ y ∈ scope.names, y.2 = .free → sc.names.lookup y.1 = some .cell ∨ sc.names.lookup y.1 = some .free
def lamSB (N : List Str) (sc scope : Scope) : Bool :=
  decide (scope.kind = .function) && !scope.isCoroutine && !scope.isGenerator && scope.names.all fun y => !decide (y.2 = .cell) && (!decide (y.2 = .local) || !N.contains y.1) && (!decide (y.2 = .free) || decide (sc.names.lookup y.1 = some .cell) || decide (sc.names.lookup y.1 = some .free))
theorem lamS_by {N : List Str} {sc scope : Scope} (h : lamSB N sc scope = true) : LamS N sc scope := by
  unfold lamSB at h
  simp only [Bool.and_eq_true, Bool.or_eq_true, Bool.not_eq_true', decide_eq_true_eq, decide_eq_false_iff_not, List.all_eq_true] at h
  obtain ⟨⟨⟨h1, h2⟩, h3⟩, h4⟩ := h
  refine ⟨h1, h2, h3, fun y hy => ⟨(h4 y hy).1.1, fun e m => ?_⟩, fun y hy e => ?_⟩
  · rcases (h4 y hy).1.2 with z | z
    · exact z e
    · rw [List.contains_iff_mem.mpr m] at z
      cases z
  · rcases (h4 y hy).2 with (z | z) | z
    · exact absurd e z
    · exact .inl z
    · exact .inr z
theorem LamS.has {X : Cx} {N : List Str} {scope : Scope} (L : LamS N X.env.scope scope) (ok : X.Ok) : ∀ y ∈ scope.names, y.2 = .free → ∃ c, X.env.cells.lookup y.1 = some c := fun y hy e => by
  rcases L.free y hy e with k | k
  · exact ok.has _ (.inl k)
  · exact ok.has _ (.inr k)
section
variable {X : Cx} {T : List (Addr × Str)} {c P : Addr} {params : Arguments} {body : Expr} {scope : Scope} {pos : Pos}
theorem pe_lam0 (TB : TabB X.base X.mg c P) (hcode : X.env.code = .ref c) (hm : (P, X.env.qual ++ "<lambda>") ∈ T) (hu : ∀ p ∈ T, p.1 = P → p.2 = X.env.qual ++ "<lambda>") (Ls : LamS X.N X.env.scope scope) (hdef : defaultsOf params X.env = ([], [])) : PE X (.Lambda params body scope pos) (tFn0 X T params body scope) := by
  refine ⟨fun pins s σ H Q I h => ?_⟩
  obtain ⟨hT, h⟩ := h
  refine PySem.W.kla_eval hdef ?_
  rw [makeFunction_eq]
  simp only [List.zip_nil_right, List.filterMap_nil, List.isEmpty_nil, if_true, pure_bind]
  exact lam_keep I TB hcode hm hu hT (Ls.has I.ok) fun f c' doc pm ctv H1 s' I1 e1 t1 nf hc => ⟨.ref f, _, I1, rfl, h f c' doc pm ctv H1 e1 t1 nf hc⟩
theorem pe_lam1 {i : Int} {e : Expr} (TB : TabB X.base X.mg c P) (hcode : X.env.code = .ref c) (hm : (P, X.env.qual ++ "<lambda>") ∈ T) (hu : ∀ p ∈ T, p.1 = P → p.2 = X.env.qual ++ "<lambda>") (Ls : LamS X.N X.env.scope scope) (hd : params.defaults = [e]) (hk : params.kw_defaults = []) (he : PE X e (tC (.int i))) : PE X (.Lambda params body scope pos) (tFn1 X T params body scope i) := by
  refine ⟨fun pins s σ H Q I h => ?_⟩
  obtain ⟨hT, h⟩ := h
  refine PySem.W.kdv_lam (by rw [hd]; rfl) hk ?_
  rw [hd]
  refine PySem.W.kdv_all1 (thn (he.run pins s σ H (fun v H1 => v = .int i ∧ H1 = H) I ⟨rfl, rfl⟩) fun u s1 ⟨v, H1, I1, r1, q1⟩ => PySem.W.kdv_all0 ?_)
  obtain ⟨ev, eH⟩ := q1
  subst ev
  rw [eH] at I1
  rw [makeFunction_eq]
  simp only [List.zip_nil_right, List.filterMap_nil, List.isEmpty_nil, List.isEmpty_cons, Bool.false_eq_true, if_false, if_true, pure_bind]
  refine wpAny_bind (wpAny_newTextTuple ?_)
  have hf : H s1.heap.objs.size = none := I1.hok.fresh (Nat.le_refl _)
  have I2 := I1.laid (a := s1.heap.objs.size) (o := .tup [.int i]) (t' := s1.toks) (h' := s1.heap.push { cls := .type "tuple", data := .seq [u].toArray }) (fun b u e => Heap.get?_push_of_some _ e) (Nat.le_refl _) ⟨(by show 1 ≤ sizeLine; decide), [u], .cons r1 .nil, ⟨_, Heap.get?_push_size _ rfl, rfl, _, rfl⟩⟩
  exact lam_keep I2 TB hcode hm hu (hT.ext fun b o e => by rw [upd_ne (ne_of_none e hf)]; exact e) (Ls.has I2.ok) fun f c' doc pm ctv H1 s' I3 e1 t1 nf hc => ⟨.ref f, _, I3, rfl, h _ hf f c' doc pm ctv H1 e1 t1 nf hc⟩
end
/-- what a closure's cells are -/
theorem clo_cells {cells : List (Str × Addr)} {names : List (Str × NameKind)} (fr : ∀ y ∈ names, y.2 = .free → ∃ c, cells.lookup y.1 = some c) {y : Str} {c : Addr} (e : (cloFrom cells names []).lookup y = some c) : cells.lookup y = some c := by
  rcases cloFrom_mem (PySem.mem_of_lookup e) with none_ | ⟨isFree, val⟩
  · cases none_
  · obtain ⟨d, hd⟩ := fr _ isFree rfl
    have hd : cells.lookup y = some d := hd
    rw [hd] at val
    rw [hd, val]
    rfl
theorem clo_has {cells : List (Str × Addr)} {names : List (Str × NameKind)} {y : Str} (h : names.lookup y = some .free) : ∃ c, (cloFrom cells names []).lookup y = some c := mem_lookup (cloFrom_has (cells := cells) (acc := []) (PySem.mem_of_lookup h))
/-- what a lambda captured, at the state of a call -/
structure CapAt (X : Cx) (scope : Scope) (σ : L2.St) (H : Hp) (s : Shared) : Prop where
  inj : ∀ x y c, X.env.cells.lookup x = some c → X.env.cells.lookup y = some c → x = y
  out : ∀ {y c}, (cloFrom X.env.cells scope.names []).lookup y = some c → X.env.cells.lookup y = some c
  cell : ∀ y c, (cloFrom X.env.cells scope.names []).lookup y = some c → H c = none ∧ ∃ v, s.heap.IsCell c v
  loc : ∀ (i : Nat) (y : Str) (v : V), X.N[i]? = some y → σ[i]? = some (some v) → scope.names.lookup y = some .free → ∃ (u : Value) (c : Addr), RelV v u ∧ (cloFrom X.env.cells scope.names []).lookup y = some c ∧ s.heap.IsCell c (some u)
  len : σ.length = X.N.length
theorem CapAt.of {X : Cx} {pins : List (Addr × Obj)} {σ : L2.St} {H : Hp} {s : Shared} {scope : Scope} (I : Inv X pins σ H s) (L : LamS X.N X.env.scope scope) : CapAt X scope σ H s where
  inj := I.ok.inj
  out := fun e => clo_cells (L.has I.ok) e
  cell := fun y c e => by
    have up := clo_cells (L.has I.ok) e
    exact ⟨I.freeC y c up, I.cell y c up⟩
  loc := fun i y v e1 e2 k => by
    have vis : Vis X.env.scope y := (L.free _ (PySem.mem_of_lookup k) rfl).elim (fun k => .inr (.inl k)) (fun k => .inr (.inr k))
    obtain ⟨m, _, look⟩ := I.loc
    obtain ⟨u, r, where_⟩ := look i y v e1 e2 vis
    obtain ⟨d, hd'⟩ := clo_has (cells := X.env.cells) k
    refine ⟨u, d, r, hd', ?_⟩
    have up := clo_cells (L.has I.ok) hd'
    rcases where_ with ⟨isLocal, _⟩ | ⟨_, d', hd2, isCell⟩
    · have isLocal : X.env.scope.names.lookup y = some .local := isLocal
      rcases L.free _ (PySem.mem_of_lookup k) rfl with q | q
      · rw [show X.env.scope.names.lookup y = _ from q] at isLocal
        cases isLocal
      · rw [show X.env.scope.names.lookup y = _ from q] at isLocal
        cases isLocal
    · rw [up] at hd2
      cases hd2
      exact isCell
  len := I.len
section
variable {X : Cx} {pins : List (Addr × Obj)} {σ : L2.St} {H HZ : Hp} {s s1 : Shared}
/-- the lambda's body is entered, its own names bound -/
theorem lam_in {A : Around} {outer stack : List Env} {E : XK} {scope : Scope} {f c' : Addr} {h₁ : Heap} {tk : Nat} {m₁ : Str → Option Value} (C : CapAt X scope σ H s) (L : LamS X.N X.env.scope scope) (e0 : Env0 X.prog X.w X.K X.mg X.base A outer s1 HZ) (hd : A.handled = none)
    (un : Un (frs stack) [] H HZ s.heap s1.heap) (hns : h₁.Ns s1.heap.objs.size m₁) (kp : ∀ b o, s1.heap.get? b = some o → h₁.get? b = some o) :
    Inv (lamCx X A outer s1 HZ E scope f c') [] σ HZ { s1 with heap := h₁, toks := tk } := by
  have noEx : ∀ {b : Addr} {p : Prop}, b ∈ (lamCx X A outer s1 HZ E scope f c').ex → p := fun z => nomatch (show _ ∈ ([] : List Addr) from z)
  have moved : ∀ {c : Addr} {v : Option Value}, H c = none → s.heap.IsCell c v → h₁.IsCell c v := by
    rintro c v free ⟨o, there, isCell⟩
    obtain ⟨sl, there'⟩ := un.any there free (by simp)
    exact ⟨{ o with slots := sl }, kp _ _ there', isCell⟩
  exact {
    ok := {
      mod := e0.mod, kind := L.kind, glob := rfl, blt := rfl, above := Nat.le_refl _
      inj := fun y z c e1 e2 => C.inj y z c (C.out e1) (C.out e2)
      has := fun y hy => by
        have hy : scope.names.lookup y = some .cell ∨ scope.names.lookup y = some .free := hy
        rcases hy with k | k
        · exact absurd rfl (L.own _ (PySem.mem_of_lookup k)).1
        · exact clo_has k
      cab := fun y c z _ => nomatch (show false = true from z)
      hd := fun _ => hd
      frames := Around.frames_deeper e0.frames
      stk := .inr ⟨rfl, rfl⟩
      exf := fun b z => noEx z
      bs := e0.bs, bsz := e0.bsz
      noex := fun b _ _ z => noEx z
      exfs := fun b z => noEx z
      funs := e0.funs, frf := e0.frf }
    os := rfl
    bare := e0.bare
    base := Un.kept kp
    loc := ⟨m₁, hns, fun i y v e1 e2 e3 => by
      have e3 : Vis scope y := e3
      rcases e3 with k | k | k
      · exact absurd (List.mem_of_getElem? e1) ((L.own _ (PySem.mem_of_lookup k)).2 rfl)
      · exact absurd rfl (L.own _ (PySem.mem_of_lookup k)).1
      · obtain ⟨u, d, r, hd', isCell⟩ := C.loc i y v e1 e2 k
        exact ⟨u, r, .inr ⟨.inr k, d, hd', moved (C.cell y d hd').1 isCell⟩⟩⟩
    cell := fun y c e => by
      obtain ⟨free, v, isCell⟩ := C.cell y c e
      exact ⟨v, moved free isCell⟩
    free := e0.hok.fresh (Nat.le_refl _)
    freeC := fun y c e => by
      obtain ⟨free, v, o, there, _⟩ := C.cell y c e
      exact un.free c o there free (by simp)
    pin := fun q hq => nomatch (show q ∈ ([] : List (Addr × Obj)) from hq)
    hok := e0.hok.kept kp
    len := C.len }
end
/-- a lambda of the text: its default, what it asks -/
structure LamK where
  params : Arguments
  body : Expr
  scope : Scope
  dflt : Option Int
  t : XK → TE
def Dfl (o : Option Int) (dV : Value) (H : Hp) : Prop := match o with
  | none => dV = .none
  | some i => ∃ t, dV = .ref t ∧ H t = some (.tup [.int i])
def DflS (o : Option Int) (dV : Value) (h : Heap) : Prop := match o with
  | none => dV = .none
  | some _ => ∃ (t : Addr) (ob : Obj) (n : Nat) (u : Value), dV = .ref t ∧ h.get? t = some ob ∧ ob.data = .seq [u].toArray n
theorem Dfl.ext {o : Option Int} {dV : Value} {H H' : Hp} (h : Dfl o dV H) (k : ExtN H H') : Dfl o dV H' := by
  cases o with
  | none => exact h
  | some i =>
    obtain ⟨t, e1, e2⟩ := h
    exact ⟨t, e1, k _ _ e2 fun _ z => nomatch z⟩
theorem Dfl.tup {o : Option Int} {dV : Value} {H H' : Hp} (h : Dfl o dV H) (k : ∀ b xs, H b = some (.tup xs) → H' b = some (.tup xs)) : Dfl o dV H' := by
  cases o with
  | none => exact h
  | some i =>
    obtain ⟨t, e1, e2⟩ := h
    exact ⟨t, e1, k _ _ e2⟩
theorem vals_one {v : V} {its : List Value} (h : Vals [v] its) : ∃ u, its = [u] := by
  cases h with
  | cons r t =>
    cases t
    exact ⟨_, rfl⟩
/-- its function object stands at f -/
def KeepAt (X : Cx) (L : LamK) (H : Hp) (f c' : Addr) : Prop := ∃ dV doc pm ctv : Value, H f = some (FunO (lamOb X L.params L.body L.scope dV doc pm c' ctv)) ∧ H c' = some (CodeO c' (X.env.qual ++ "<lambda>")) ∧ Dfl L.dflt dV H
theorem KeepAt.ext {X : Cx} {L : LamK} {H H' : Hp} {f c' : Addr} (h : KeepAt X L H f c') (k : ExtN H H') : KeepAt X L H' f c' := by
  obtain ⟨dV, doc, pm, ctv, h1, h2, h3⟩ := h
  exact ⟨dV, doc, pm, ctv, k _ _ h1 funO_ne, k _ _ h2 codeO_ne, h3.ext k⟩
structure LamOk (X : Cx) (k : Nat) (L : LamK) : Prop where
  ls : LamS X.N X.env.scope L.scope
  bind : ∀ (q : Str) (cl : List (Str × Addr)) (dV doc pm cdv ctv : Value) (s : Shared), DflS L.dflt dV s.heap → ∃ binds : List (Str × Value), (∀ y ∈ binds, L.scope.names.lookup y.1 = some .local) ∧ BindsTo s (PySem.W.kdv_fn "<lambda>" q L.params (.expr L.body) L.scope cl dV doc pm cdv ctv) ⟨[], []⟩ binds
  body : ∀ (A : Around) (outer : List Env) (s : Shared) (H : Hp) (E : XK) (f c' : Addr), Room k (A.deeper (lamEnv X L.scope s.heap.objs.size f c')) → PE (lamCx X A outer s H E L.scope f c') L.body (L.t E)
theorem dfl_tup {P : Program} {w : World} {i : Int} {t : Addr} {H : Hp} {h : Heap} (ht : H t = some (.tup [.int i])) (ok : HOk P w H h) : ∃ (ob : Obj) (n : Nat) (u : Value), h.get? t = some ob ∧ ob.data = .seq [u].toArray n := by
  have z : ObjOk P w H h t (.tup [.int i]) := ok t _ ht
  obtain ⟨_, its, vals, isTup⟩ := z
  obtain ⟨u, rfl⟩ := vals_one vals
  obtain ⟨ob, there, _, n, data⟩ := isTup
  exact ⟨ob, n, u, there, data⟩
theorem dfl_s {P : Program} {w : World} {o : Option Int} {dV : Value} {H : Hp} {h : Heap} (d : Dfl o dV H) (ok : HOk P w H h) : DflS o dV h := by
  cases o with
  | none => exact d
  | some i =>
    obtain ⟨t, e, ht⟩ := d
    obtain ⟨ob, n, u, there, data⟩ := dfl_tup ht ok
    exact ⟨t, ob, n, u, e, there, data⟩
section
variable {X : Cx} {pins : List (Addr × Obj)} {σ : L2.St} {H : Hp} {s : Shared}
/-- the kept lambda is called in the def that got it -/
theorem act_keep {CXg : CXT} {Eg : XK} {Ng : List Str} {qg : Str} {sg : Scope} {g f c' : Addr} {cdg : Value} {k i : Nat} {a : Str} {pn : List (Addr × Obj)} {xe : Value → Shared → Prop} {W : WX} {E : XK} {p1 p2 : Pos} {L : LamK}
    (I : Inv X pins σ H s) (ok : LamOk X k L) (at_ : KeepAt X L H f c')
    (tk : Takes ((cxOf CXg X.prog X.w X.K X.mg X.base Ng qg sg g cdg X.A X.stack s H Eg).tr pn xe) W) (hW : ∀ cls d σ' H', E cls d H' → W cls d σ' H') (hr : Room (k + 1) (X.A.deeper (envOfC qg sg s.heap.objs.size g cdg)))
    (hN : Ng[i]? = some a) (hv : Vis sg a) (hd : (a == ("__debug__" : Str)) = false := by decide) (hcd : (a == ("__classdict__" : Str)) = false := by decide) :
    PE ((cxOf CXg X.prog X.w X.K X.mg X.base Ng qg sg g cdg X.A X.stack s H Eg).tr pn xe) (.Call (.Name a p1) [] [] p2)
      (fun σZ HZ Q => σZ[i]? = some (some (.ref f)) ∧ HZ c' = some (CodeO c' (X.env.qual ++ "<lambda>")) ∧ L.t E σ HZ Q) := by
  obtain ⟨dV, doc, pm, ctv, hfun, _, hdf⟩ := at_
  refine ⟨fun pinsZ sZ σZ HZ Q IZ => ?_⟩
  rintro ⟨slot, isCode, asks⟩
  refine wpAny_Call_Name_kw (thn ((pe_var (pos := p1) (i := i) hN hv hd hcd).run pinsZ sZ σZ HZ (fun v H1 => v = .ref f ∧ H1 = HZ) IZ ⟨.ref f, slot, rfl, rfl⟩) fun u s1 got => ?_)
  obtain ⟨_, H1, I1, isRef, rfl, eH⟩ := got
  rw [eH] at I1
  obtain rfl : u = Value.ref f := isRef
  have un : Un (frs X.stack) [] H HZ s.heap s1.heap := I1.base
  have fun1 := un.frzs _ _ _ hfun
  have of1 := (I1.hok f _ fun1).1
  refine PySem.W.callWith_F0 ⟨_, _, _, _, of1⟩ ?_
  have dfl1 : DflS L.dflt dV s1.heap := dfl_s (hdf.tup un.tups) I1.hok
  obtain ⟨⟨oc, vs, t, hoc, hdc, hvc⟩, _, _⟩ := I1.hok c' _ isCode
  have ran : codeAny (model X.prog X.w) (X.A.deeper (envOfC qg sg s.heap.objs.size g cdg)) (.call (.ref f) ⟨[], []⟩) (CR (L2.CX X.prog X.w) (envOfC qg sg s.heap.objs.size g cdg :: X.stack) X.prog X.w HZ s1 Q E) s1 := by
    obtain ⟨binds, locals, bound⟩ := ok.bind (X.env.qual ++ "<lambda>") (cloFrom X.env.cells L.scope.names []) dV doc pm (.ref c') ctv s1 dfl1
    refine PySem.W.kla_callFunE hr.depth of1 rfl ok.ls.co ok.ls.gen rfl ⟨c', oc, vs, t, rfl, hoc, hdc, hvc⟩ (bound _ _ _ _ ?_)
    refine wpAny_newFunctionEnv (fun y hy => (ok.ls.own y hy).1) locals (fun h₁ hns hsb => ⟨I1.nolimit.fresh _ hsb, ?_⟩) ok.ls.kind
    have kp : ∀ b o, s1.heap.get? b = some o → h₁.get? b = some o := fun b o e => hsb.extBut b o (Nat.ne_of_lt (Heap.lt_size e)) (Heap.get?_push_of_some _ e)
    have J := lam_in (A := X.A.deeper (envOfC qg sg s.heap.objs.size g cdg)) (outer := envOfC qg sg s.heap.objs.size g cdg :: X.stack) (E := E) (f := f) (c' := c') (tk := s1.toks + binds.length) (CapAt.of I ok.ls) ok.ls I1.env0 hr.hd un hns kp
    refine PySem.W.kla_codeExpr (wpAny_mono ((ok.body _ _ s1 HZ E f c' (hr.deeper _)).run [] _ _ HZ Q J asks) (fun v s' done_ => ?_) fun e s' out => out)
    obtain ⟨v', H', J', rv, q⟩ := done_
    exact ⟨v', H', J'.os, J'.bare, J'.base, J'.hok, rv, q⟩
  have up : Passes (L2.CX X.prog X.w) ((cxOf CXg X.prog X.w X.K X.mg X.base Ng qg sg g cdg X.A X.stack s H Eg).tr pn xe) E := passes_call tk hW
  refine wpAny_call (codeAny_mono ran fun r s' hq => ?_)
  cases r with
  | error e => exact up pinsZ σZ HZ s1 e s' I1 hq
  | ok fl =>
    cases fl with
    | ret u => exact I1.after hq
    | next => exact False.elim hq
    | brk => exact False.elim hq
    | cont => exact False.elim hq
end
/-- x(e), x a def of the text, e what a kept lambda is -/
def tFnc (X : Cx) (Ok : LamK → Prop) (TT : (XK → Hp → VK → Prop) → Hp → VK → Prop) (t : TA) : TE := fun σ H Q => t σ H fun vs H1 => ∃ (L : LamK) (f c' : Addr), vs = [.ref f] ∧ Ok L ∧ KeepAt X L H1 f c' ∧ TT (fun E H' Q' => L.t E σ H' Q') H1 Q
theorem pe_fnc {X : Cx} {k : Nat} {Ok : LamK → Prop} {TT : (XK → Hp → VK → Prop) → Hp → VK → Prop} {x a : Str} {g : Addr} {st : Stmt} {Ng : List Str} {e : Expr} {t : TA} {p pos : Pos} (D : Dfn X.K X.mg x st g [a]) (Sg : FnScope Ng [a] (defScope st)) (hNg : Ng[0]? = some a) (hva : Vis (defScope st) a)
    (hG : ∀ cdv : Value, GivesTo X Ng x (defScope st) g cdv (defBody st) a (X.env.qual ++ "<lambda>") TT) (hr : Room (k + 2) X.A) (hok : ∀ L, Ok L → LamOk X k L) (ha : PA X [e] t)
    (hst : starEach (e :: []) X.env = (false, eval e X.env) :: starEach [] X.env := by rfl) (hpl : (backTo pos (starEach [] X.env)).any (·.1) = false := by rfl)
    (hg : Gl X x := by rfl) (hdb : (x == ("__debug__" : Str)) = false := by decide) (hd : (a == ("__debug__" : Str)) = false := by decide) (hcd : (a == ("__classdict__" : Str)) = false := by decide) :
    PE X (.Call (.Name x p) [e] [] pos) (tFnc X Ok TT t) := by
  obtain ⟨fd, F, b⟩ := D.ex
  obtain ⟨oc, od, kV, doc, pm, an, cdv, ct, osl, rfl, lk, hc⟩ := F.ex
  refine ⟨fun pins s σ H Q I h => ?_⟩
  refine wpAny_Call_Name_kw (ld_glob I hg D.g ?_ hdb)
  refine PySem.W.callWith_K (h₀ := X.base) I.ok.mod.kin F.kp (thn (ha.run pos pins s σ H _ I h) fun us s1 got => ?_) hst hpl
  obtain ⟨vs, H1, I1, r, L, f, c', rfl, ok, at_, asks⟩ := got
  refine ⟨I1.kIn, ?_⟩
  obtain rfl : us = [Value.ref f] := by
    match us, r with
    | [_], .cons r .nil => rw [show _ = Value.ref f from r]
  have isCode : H1 c' = some (CodeO c' (X.env.qual ++ "<lambda>")) := by
    obtain ⟨_, _, _, _, _, z, _⟩ := at_
    exact z
  have ran : codeAny (model X.prog X.w) X.A (.call (.ref g) ⟨[.ref f], []⟩) (CR C8.CX0 X.stack X.prog X.w H1 s1 Q C8.E0) s1 := by
    refine run_ofS (N := Ng) (ps := [a]) (us := [.ref f]) (vs := [.ref f]) lk hc Sg hr I1.env0 (b s1 [.ref f] I1.kIn rfl) (.cons rfl .nil) rfl fun hr' => ?_
    obtain ⟨t', ht', hq'⟩ := hG cdv f c' s1 H1 Q (fun E H' Q' => L.t E σ H' Q') (fun W pn xe E p1 p2 tk hW => act_keep (i := 0) I1 (hok L ok) at_ tk hW hr' hNg hva hd hcd) isCode asks
    exact ⟨t', ht'.nox, hq'⟩
  refine wpAny_call (codeAny_mono ran fun r s' hq => ?_)
  cases r with
  | error e => exact (show False from hq).elim
  | ok fl =>
    cases fl with
    | ret u => exact I1.after hq
    | next => exact False.elim hq
    | brk => exact False.elim hq
    | cont => exact False.elim hq
/-- a written lambda as a value: what it asks when it is called -/
def tFnL (X : Cx) (k : Nat) (T : List (Addr × Str)) (t : XK → TE) : TE := fun _ H Q => Tabs T H ∧ ∀ (L : LamK) (f c' : Addr) (H2 : Hp), LamOk X k L → L.t = t → ExtN H H2 → Tabs T H2 → KeepAt X L H2 f c' → Q (.ref f) H2
section
variable {X : Cx} {T : List (Addr × Str)} {c P : Addr} {params : Arguments} {body : Expr} {scope : Scope} {pos : Pos} {k : Nat} {t : XK → TE}
theorem pe_lamL0 (TB : TabB X.base X.mg c P) (hcode : X.env.code = .ref c) (hm : (P, X.env.qual ++ "<lambda>") ∈ T) (hu : ∀ p ∈ T, p.1 = P → p.2 = X.env.qual ++ "<lambda>") (Ls : LamS X.N X.env.scope scope) (hdef : defaultsOf params X.env = ([], []))
    (hbind : ∀ (q : Str) (cl : List (Str × Addr)) (doc pm cdv ctv : Value), bindArgs (PySem.W.kdv_fn "<lambda>" q params (.expr body) scope cl .none doc pm cdv ctv) ⟨[], []⟩ = pure [])
    (hbody : ∀ (A : Around) (outer : List Env) (s : Shared) (H : Hp) (E : XK) (f c' : Addr), Room k (A.deeper (lamEnv X scope s.heap.objs.size f c')) → PE (lamCx X A outer s H E scope f c') body (t E)) : PE X (.Lambda params body scope pos) (tFnL X k T t) := by
  refine ⟨fun pins s σ H Q I h => (pe_lam0 TB hcode hm hu Ls hdef).run pins s σ H Q I ?_⟩
  obtain ⟨tabs, h⟩ := h
  refine ⟨tabs, fun f c' doc pm ctv H1 e1 t1 nf isCode => ?_⟩
  have new : ∀ b o, H1 b = some o → upd H1 f (FunO (lamOb X params body scope .none doc pm c' ctv)) b = some o := fun b o e => by
    rw [upd_ne (ne_of_none e nf)]
    exact e
  refine h ⟨params, body, scope, none, t⟩ f c' _ ⟨Ls, fun q cl dV doc pm cdv ctv s d => ?_, hbody⟩ rfl (e1.trans (.of new)) (t1.ext new) ⟨.none, doc, pm, ctv, upd_same, new _ _ isCode, rfl⟩
  have d : dV = .none := d
  subst d
  exact ⟨[], fun y hy => (nomatch hy), .of_eq (hbind q cl doc pm cdv ctv)⟩
theorem pe_lamL1 {i : Int} {e : Expr} {a : Str} (TB : TabB X.base X.mg c P) (hcode : X.env.code = .ref c) (hm : (P, X.env.qual ++ "<lambda>") ∈ T) (hu : ∀ p ∈ T, p.1 = P → p.2 = X.env.qual ++ "<lambda>") (Ls : LamS X.N X.env.scope scope) (hd : params.defaults = [e]) (hk : params.kw_defaults = []) (he : PE X e (tC (.int i)))
    (hloc : scope.names.lookup a = some .local)
    (hbind : ∀ (q : Str) (cl : List (Str × Addr)) (tt : Addr) (ob : Obj) (n : Nat) (u doc pm cdv ctv : Value) (s : Shared), s.heap.get? tt = some ob → ob.data = .seq [u].toArray n → BindsTo s (PySem.W.kdv_fn "<lambda>" q params (.expr body) scope cl (.ref tt) doc pm cdv ctv) ⟨[], []⟩ [(a, u)])
    (hbody : ∀ (A : Around) (outer : List Env) (s : Shared) (H : Hp) (E : XK) (f c' : Addr), Room k (A.deeper (lamEnv X scope s.heap.objs.size f c')) → PE (lamCx X A outer s H E scope f c') body (t E)) : PE X (.Lambda params body scope pos) (tFnL X k T t) := by
  refine ⟨fun pins s σ H Q I h => (pe_lam1 TB hcode hm hu Ls hd hk he).run pins s σ H Q I ?_⟩
  obtain ⟨tabs, h⟩ := h
  refine ⟨tabs, fun tt nt f c' doc pm ctv H1 e1 t1 nf isCode => ?_⟩
  have new : ∀ b o, H1 b = some o → upd H1 f (FunO (lamOb X params body scope (.ref tt) doc pm c' ctv)) b = some o := fun b o e => by
    rw [upd_ne (ne_of_none e nf)]
    exact e
  have e0 : ExtN H (upd H tt (.tup [.int i])) := .of fun b o e => by
    rw [upd_ne (ne_of_none e nt)]
    exact e
  refine h ⟨params, body, scope, some i, t⟩ f c' _ ⟨Ls, fun q cl dV doc pm cdv ctv s d => ?_, hbody⟩ rfl ((e0.trans e1).trans (.of new)) (t1.ext new) ⟨.ref tt, doc, pm, ctv, upd_same, new _ _ isCode, tt, rfl, new _ _ (e1 _ _ upd_same fun _ z => nomatch z)⟩
  obtain ⟨t2, ob, n, u, e, there, data⟩ := d
  subst e
  refine ⟨[(a, u)], fun y hy => ?_, hbind q cl t2 ob n u doc pm cdv ctv s there data⟩
  obtain rfl : y = (a, u) := List.mem_singleton.mp hy
  exact hloc
end
end LamY
/-! ### a comprehension whose element knows the def's state at the block's entry -/
namespace LcK
open PySem PySem.Spec PyProof.Rows L2
/-- the element's promise in the block that is entered at s, H -/
abbrev ElK (X : Cx) (pins : List (Addr × Obj)) (σ : L2.St) (scope : Scope) (elt : Expr) (te : TE) : Prop := ∀ (s : Shared) (H : Hp) (C : Addr) (cl : List (Str × Addr)) (fp : List Addr), Inv X pins σ H s → (∀ b ∈ fp, FpOk X pins H b) → PE (X.blk s H scope (compEnvC scope cl C X.env) fp) elt te
variable {X : Cx}
theorem lc_coreK {pins : List (Addr × Obj)} {sh : Shared} {σ : L2.St} {H : Hp} {Q : VK} {elt tg src : Expr} {tests : List Expr} {scope : Scope} {own : List (Str × Nat)} {pos pos' : Pos} {wi : TI} {g : TG} {tt : TT} {te : TE} {use : Option (Value → Sem Unit)} {Qf : Value → Shared → Prop}
    (calm : X.calm = true) (nd : X.N.Nodup) (I : Inv X pins σ H sh) (hi : PI X tg src wi) (blk : BlkOk X.N X.env.scope scope own)
    (hg : ∀ (s : Shared) (H : Hp) (C : Addr) (cl : List (Str × Addr)) (fp : List Addr), PG (X.blk s H scope (compEnvC scope cl C X.env) fp) tg g)
    (ht : ∀ (s : Shared) (H : Hp) (C : Addr) (cl : List (Str × Addr)) (fp : List Addr), PTs (X.blk s H scope (compEnvC scope cl C X.env) fp) tests tt)
    (he : ElK X pins σ scope elt te) (plain : ∀ x, foldedSetIterable src X.env x = pure x) (ask : tLc wi g tt te (own.map (·.2)) σ H Q)
    (back : ∀ D C s' m H', Inv X pins σ H' s' → Q (.ref D) H' → s'.heap.Ns C m → FpOk X pins H' C → compPost (model X.prog X.w) X.A X.xe use Qf (.ref D) C (.ok .next) s') :
    wpAny (model X.prog X.w) X.A (comprehension (.ListComp elt [⟨tg, src, tests, 0⟩] scope pos) scope X.env pos' (newList []) false (eval src X.env) use) Qf X.xe sh := by
  have closed : ∀ y ∈ scope.names, y.2 = .free → ∃ c, X.env.cells.lookup y.1 = some c := fun y m k => I.ok.has _ (blk.free y m k)
  refine wpAny_comprehension_free (use := use) rfl plain (closure_ok closed) blk.kind (fun y m k => by rw [blk.uniq y m, k]) (thn (hi.run pins sh σ H _ I ask) fun v1 s1 h1 => thn h1 fun v2 s2 h2 => ?_)
  obtain ⟨it, fp, tn, J, Hi, rfl, Ii, T, at0, fpo, q⟩ := h2
  refine wpAny_newObj_type (newEnv_comp ?_) (by show 0 ≤ sizeLine; decide)
  -- the list that grows
  obtain ⟨D, hD⟩ : ∃ D, D = s2.heap.objs.size := ⟨_, rfl⟩
  rw [← hD]
  have fresh : Hi D = none := Ii.hok.fresh (Nat.le_of_eq hD.symm)
  obtain ⟨W, ⟨m0, w0⟩, turn⟩ := q D fresh
  obtain ⟨sl, hsl⟩ : ∃ sl : Shared, sl = { s2 with heap := s2.heap.push { cls := .type "list", data := .seq ([] : List Value).toArray } } := ⟨_, rfl⟩
  have heapl : sl.heap = s2.heap.push { cls := .type "list", data := .seq ([] : List Value).toArray } := by rw [hsl]
  obtain ⟨Hl, hHl⟩ : ∃ Hl, Hl = upd Hi D (.lst []) := ⟨_, rfl⟩
  have Il : Inv X pins σ Hl sl := by
    rw [hsl, hHl]
    exact Ii.laid (t' := s2.toks) (fun b o e => Heap.get?_push_of_some _ e) (Nat.le_of_eq hD.symm) ⟨Nat.zero_le _, [], 0, .nil, by rw [hD]; exact Heap.get?_push_size _ rfl⟩
  have below : ∀ b ∈ fp, b < s2.heap.objs.size := fun b m => by
    obtain ⟨o, e, _⟩ := T.obj _ _ at0 b m
    exact Heap.lt_size e
  have fpl : ∀ b ∈ fp, FpOk X pins Hl b ∧ b < sl.heap.objs.size := fun b m => by
    have lt := below b m
    refine ⟨⟨?_, (fpo b m).2⟩, by rw [heapl, Heap.size_push]; exact Nat.lt_succ_of_lt lt⟩
    rw [hHl, upd_ne (by rw [hD]; exact Nat.ne_of_lt lt)]
    exact (fpo b m).1
  have atl : tn 0 sl.heap := T.keep _ _ _ at0 fun b _ o e => by rw [heapl]; exact Heap.get?_push_of_some _ e
  have Ib := block_start Il blk nd fpl
  have pe := he sl Hl sl.heap.objs.size (cellsFrom (sl.heap.objs.size + 1) scope.names (cloFrom X.env.cells scope.names [])) fp Il fun b m => (fpl b m).1
  have pg := hg sl Hl sl.heap.objs.size (cellsFrom (sl.heap.objs.size + 1) scope.names (cloFrom X.env.cells scope.names [])) fp
  have pt := ht sl Hl sl.heap.objs.size (cellsFrom (sl.heap.objs.size + 1) scope.names (cloFrom X.env.cells scope.names [])) fp
  rw [← hsl]
  show codeAny _ _ (.compStart (.ListComp elt [⟨tg, src, tests, 0⟩] scope pos) 0 (.ref it) (.ref D) (compEnvC scope (cellsFrom (sl.heap.objs.size + 1) scope.names (cloFrom X.env.cells scope.names [])) sl.heap.objs.size X.env)) (compPost (model X.prog X.w) X.A X.xe use Qf (.ref D) sl.heap.objs.size) { sl with heap := pushCells (sl.heap.push { cls := .type "dict", data := .dict #[] }) scope.names }
  have nfp : ∀ b ∈ fp, Hl b = none := fun b m => (fpl b m).1.1
  rw [← hHl] at w0
  obtain ⟨ce, hce⟩ : ∃ ce, ce = compEnvC scope (cellsFrom (sl.heap.objs.size + 1) scope.names (cloFrom X.env.cells scope.names [])) sl.heap.objs.size X.env := ⟨_, rfl⟩
  rw [← hce] at Ib pe pg pt ⊢
  have cel : ce.locals = sl.heap.objs.size := by rw [hce]; rfl
  obtain ⟨sb, hsb⟩ : ∃ sb : Shared, sb = { sl with heap := pushCells (sl.heap.push { cls := .type "dict", data := .dict #[] }) scope.names } := ⟨_, rfl⟩
  rw [← hsb] at Ib ⊢
  have atb : tn 0 sb.heap := T.keep _ _ _ atl fun b _ o e => by rw [hsb]; exact pushCells_keeps _ _ _ _ (Heap.get?_push_of_some _ e)
  have calmB : ∀ {σ' : L2.St} {H' : Hp} {s' : Shared}, Inv (X.blk sl Hl scope ce fp) [] σ' H' s' → (∀ b ∈ fp, H' b = none) → ∀ b ∈ fp, FpOk (X.blk sl Hl scope ce fp) [] H' b := fun {σ' H' s'} J' hn b m =>
    ⟨hn b m, (J'.ok.exf b m).1, J'.ok.exfs b m, .inl m, fun x c e => (J'.ok.exf b m).2 x c e, fun p hp => absurd (show p ∈ ([] : List (Addr × Obj)) ++ [] from hp) (by simp)⟩
  refine codeAny_compStart_list (?_ : codeAny (model X.prog X.w) X.A (.compLoop (.ListComp elt [⟨tg, src, tests, 0⟩] scope pos) 0 (.ref it) (.ref D) ce) (compPost (model X.prog X.w) X.A X.xe use Qf (.ref D) sl.heap.objs.size) sb) (T.self X.A 0 _ _ _ atb ?_)
  all_goals
    refine compLoop_any (fun n s' => ∃ i H', Inv (X.blk sl Hl scope ce fp) [] (wipe σ (own.map (·.2))) H' s' ∧ tn i s'.heap ∧ (∀ b ∈ fp, H' b = none) ∧ W i n H') ?_ m0 ⟨0, Hl, Ib, atb, nfp, w0⟩
    rintro n s5 ⟨i, H5, I5, at5, n5, w5⟩
    rcases turn i n H5 w5 with ⟨stop, qq⟩ | ⟨go, Nx, nxt, step⟩
    · refine thnF (T.done (X.blk sl Hl scope ce fp) rfl rfl rfl calm i [] s5 _ H5 (fun _ _ => False) I5 (calmB I5 n5) at5 stop) fun r s6 ⟨er, I6⟩ => ?_
      subst er
      have I7 : Inv X pins σ H5 s6 := Il.call' (ch := fp) I6.os I6.base I6.hok I6.bare fun b m => ⟨(fpl b m).1.2.2.2.1, (fpl b m).1.2.1, (fpl b m).1.2.2.2.2.1, (fpl b m).1.2.2.2.2.2⟩
      have nC : H5 sl.heap.objs.size = none := cel ▸ I6.free
      obtain ⟨m, hn, _⟩ := I6.loc
      have hn : s6.heap.Ns ce.locals m := hn
      rw [cel] at hn
      exact back D sl.heap.objs.size s6 m H5 I7 qq hn (Il.fpOk (Nat.le_refl _) nC)
    · refine thnF (T.item (X.blk sl Hl scope ce fp) rfl rfl rfl calm i [] s5 _ H5 (fun _ _ => False) I5 (calmB I5 n5) at5 go) fun r s6 ⟨u, er, h6⟩ => ?_
      subst er
      refine thnF h6 fun _ s7 ⟨x, H7, I7, r7, y7, at7, n7⟩ => ?_
      refine thnF (pg.run _ s7 _ H7 x u _ (I7.pinned (calmB I7 n7) (T.obj _ _ at7)) r7 (step x H7 y7)) fun _ s8 ⟨σ8, H8, I8, ew, q8⟩ => ?_
      refine thnF (pt.run _ s8 σ8 H8 _ I8 q8) fun b s9 ⟨H9, I9, q9⟩ => ?_
      have turned : ∀ {s' : Shared} {H' : Hp}, Inv (X.blk sl Hl scope ce fp) ([] ++ pinsAt fp s7.heap) σ8 H' s' → Nx H' → ∃ m, m < n ∧ ∃ i H', Inv (X.blk sl Hl scope ce fp) [] (wipe σ (own.map (·.2))) H' s' ∧ tn i s'.heap ∧ (∀ b ∈ fp, H' b = none) ∧ W i m H' := fun {s' H'} J' nx => by
        obtain ⟨m', lt, w'⟩ := nxt H' nx
        have kept : ∀ b ∈ fp, ∀ o, s7.heap.get? b = some o → s'.heap.get? b = some o ∧ H' b = none := fun b m o e =>
          let z := J'.pin (b, o) (List.mem_append_right _ (List.mem_append_right _ (mem_pinsAt m e)))
          ⟨z.1, z.2.1⟩
        refine ⟨m', lt, i + 1, H', (J'.unpinned (pins := [])).weak (by rw [← ew, wipe_length]) (fun j v e => ?_), T.keep _ _ _ at7 fun b m o e => (kept b m o e).1, fun b m => ?_, w'⟩
        · rw [← ew] at e
          exact (wipe_some e).1
        · obtain ⟨o, e, _⟩ := T.obj _ _ at7 b m
          exact (kept b m o e).2
      cases b with
      | false =>
        simp only [Bool.false_eq_true, if_false] at q9 ⊢
        exact turned I9 q9
      | true =>
        simp only [if_true] at q9 ⊢
        refine thnF (pe.run _ s9 σ8 H9 _ I9 q9) fun z s10 ⟨yv, H10, I10, r10, ac, hD10, hz10, nx⟩ => ?_
        exact app_ok (X := X.blk sl Hl scope ce fp) I10 hD10 hz10 r10 fun s11 I11 => turned I11 nx
/-- .. as a value; what the element asks may go by the def's variables at the entry -/
def tLcK (wi : TI) (g : TG) (tt : TT) (te : L2.St → TE) (vs : List Nat) : TE := fun σ H Q => tLc wi g tt (te σ) vs σ H Q
theorem pe_lcK {elt tg src : Expr} {tests : List Expr} {scope : Scope} {own : List (Str × Nat)} {pos : Pos} {wi : TI} {g : TG} {tt : TT} {te : L2.St → TE} (calm : X.calm = true) (nd : X.N.Nodup) (hi : PI X tg src wi) (blk : BlkOk X.N X.env.scope scope own)
    (hg : ∀ (s : Shared) (H : Hp) (C : Addr) (cl : List (Str × Addr)) (fp : List Addr), PG (X.blk s H scope (compEnvC scope cl C X.env) fp) tg g)
    (ht : ∀ (s : Shared) (H : Hp) (C : Addr) (cl : List (Str × Addr)) (fp : List Addr), PTs (X.blk s H scope (compEnvC scope cl C X.env) fp) tests tt)
    (he : ∀ (pins : List (Addr × Obj)) (σ : L2.St), ElK X pins σ scope elt (te σ)) (plain : ∀ x, foldedSetIterable src X.env x = pure x := by intro _; rfl) : PE X (.ListComp elt [⟨tg, src, tests, 0⟩] scope pos) (tLcK wi g tt te (own.map (·.2))) := by
  refine ⟨fun pins s σ H Q I ask => ?_⟩
  rw [eval_ListComp]
  refine lc_coreK calm nd I hi blk hg ht (he pins σ) plain ask fun D C s' m H' I' q hn f => ⟨m, hn, fun h2 keep => ?_⟩
  obtain ⟨f0, f1, f2, f3, f4, f5⟩ := f
  exact ⟨.ref D, H', I'.turned (t' := s'.toks) (fun b o nb e => (keep.2 b nb).trans e) f0 f1 f3 f4 f5, rfl, q⟩
end LcK
/-! ### kept lambdas called in a comprehension's block -/
namespace LamY
open PySem PySem.Spec PyProof.Rows L2 LamX
/-- what a lambda captured, within a block of its def -/
theorem CapAt.blk {X : Cx} {pins pinsB : List (Addr × Obj)} {σ σB : L2.St} {H H1 : Hp} {s s1 : Shared} {scope bsc : Scope} {ce : Env} {fp : List Addr} (I : Inv X pins σ H s) (hf : ∀ b ∈ fp, FpOk X pins H b) (L : LamS X.N X.env.scope scope) (J : Inv (X.blk s H bsc ce fp) pinsB σB H1 s1) : CapAt X scope σ H1 s1 := by
  have C := CapAt.of I L
  have un : Un (frs X.stack) fp H H1 s.heap s1.heap := J.base
  have off : ∀ {y : Str} {c : Addr}, (cloFrom X.env.cells scope.names []).lookup y = some c → c ∉ fp := fun {y c} e m => (hf c m).2.2.2.2.1 y c (C.out e) rfl
  have moved : ∀ {c : Addr} {v : Option Value}, c ∉ fp → H c = none → s.heap.IsCell c v → s1.heap.IsCell c v := by
    rintro c v nf free ⟨o, there, isCell⟩
    obtain ⟨sl, there'⟩ := un.any there free nf
    exact ⟨{ o with slots := sl }, there', isCell⟩
  exact {
    inj := C.inj, out := C.out, len := C.len
    cell := fun y c e => by
      obtain ⟨free, v, isCell⟩ := C.cell y c e
      obtain ⟨o, there, _⟩ := id isCell
      exact ⟨un.free c o there free (off e), v, moved (off e) free isCell⟩
    loc := fun i y v e1 e2 k => by
      obtain ⟨u, c, r, e, isCell⟩ := C.loc i y v e1 e2 k
      exact ⟨u, c, r, e, moved (off e) (C.cell y c e).1 isCell⟩ }
section
variable {X : Cx} {pinsB : List (Addr × Obj)} {σ σB : L2.St} {H H0 : Hp} {s s0 : Shared} {bsc : Scope} {ce : Env} {fp : List Addr}
/-- the kept lambda is called in the def that got it from the block -/
theorem act_keepB {CXg : CXT} {Eg : XK} {Ng : List Str} {qg : Str} {sg : Scope} {g f c' : Addr} {cdg : Value} {k i : Nat} {a : Str} {pn : List (Addr × Obj)} {xe : Value → Shared → Prop} {W : WX} {E : XK} {p1 p2 : Pos} {L : LamK}
    (I : Inv (X.blk s0 H0 bsc ce fp) pinsB σB H s) (Cp : CapAt X L.scope σ H s) (ok : LamOk X k L) (at_ : KeepAt X L H f c')
    (tk : Takes ((cxOf CXg X.prog X.w X.K X.mg X.base Ng qg sg g cdg X.A (X.blk s0 H0 bsc ce fp).stack s H Eg).tr pn xe) W) (hW : ∀ cls d σ' H', E cls d H' → W cls d σ' H') (hr : Room (k + 1) (X.A.deeper (envOfC qg sg s.heap.objs.size g cdg)))
    (hN : Ng[i]? = some a) (hv : Vis sg a) (hd : (a == ("__debug__" : Str)) = false := by decide) (hcd : (a == ("__classdict__" : Str)) = false := by decide) :
    PE ((cxOf CXg X.prog X.w X.K X.mg X.base Ng qg sg g cdg X.A (X.blk s0 H0 bsc ce fp).stack s H Eg).tr pn xe) (.Call (.Name a p1) [] [] p2)
      (fun σZ HZ Q => σZ[i]? = some (some (.ref f)) ∧ HZ c' = some (CodeO c' (X.env.qual ++ "<lambda>")) ∧ L.t E σ HZ Q) := by
  obtain ⟨dV, doc, pm, ctv, hfun, _, hdf⟩ := at_
  refine ⟨fun pinsZ sZ σZ HZ Q IZ => ?_⟩
  rintro ⟨slot, isCode, asks⟩
  refine wpAny_Call_Name_kw (thn ((pe_var (pos := p1) (i := i) hN hv hd hcd).run pinsZ sZ σZ HZ (fun v H1 => v = .ref f ∧ H1 = HZ) IZ ⟨.ref f, slot, rfl, rfl⟩) fun u s1 got => ?_)
  obtain ⟨_, H1, I1, isRef, rfl, eH⟩ := got
  rw [eH] at I1
  obtain rfl : u = Value.ref f := isRef
  have un : Un (frs (X.blk s0 H0 bsc ce fp).stack) [] H HZ s.heap s1.heap := I1.base
  have fun1 := un.frzs _ _ _ hfun
  have of1 := (I1.hok f _ fun1).1
  refine PySem.W.callWith_F0 ⟨_, _, _, _, of1⟩ ?_
  have dfl1 : DflS L.dflt dV s1.heap := dfl_s (hdf.tup un.tups) I1.hok
  obtain ⟨⟨oc, vs, t, hoc, hdc, hvc⟩, _, _⟩ := I1.hok c' _ isCode
  have ran : codeAny (model X.prog X.w) (X.A.deeper (envOfC qg sg s.heap.objs.size g cdg)) (.call (.ref f) ⟨[], []⟩) (CR (L2.CX X.prog X.w) (envOfC qg sg s.heap.objs.size g cdg :: (X.blk s0 H0 bsc ce fp).stack) X.prog X.w HZ s1 Q E) s1 := by
    obtain ⟨binds, locals, bound⟩ := ok.bind (X.env.qual ++ "<lambda>") (cloFrom X.env.cells L.scope.names []) dV doc pm (.ref c') ctv s1 dfl1
    refine PySem.W.kla_callFunE hr.depth of1 rfl ok.ls.co ok.ls.gen rfl ⟨c', oc, vs, t, rfl, hoc, hdc, hvc⟩ (bound _ _ _ _ ?_)
    refine wpAny_newFunctionEnv (fun y hy => (ok.ls.own y hy).1) locals (fun h₁ hns hsb => ⟨I1.nolimit.fresh _ hsb, ?_⟩) ok.ls.kind
    have kp : ∀ b o, s1.heap.get? b = some o → h₁.get? b = some o := fun b o e => hsb.extBut b o (Nat.ne_of_lt (Heap.lt_size e)) (Heap.get?_push_of_some _ e)
    have J := lam_in (A := X.A.deeper (envOfC qg sg s.heap.objs.size g cdg)) (outer := envOfC qg sg s.heap.objs.size g cdg :: (X.blk s0 H0 bsc ce fp).stack) (E := E) (f := f) (c' := c') (tk := s1.toks + binds.length) Cp ok.ls I1.env0 hr.hd un hns kp
    refine PySem.W.kla_codeExpr (wpAny_mono ((ok.body _ _ s1 HZ E f c' (hr.deeper _)).run [] _ _ HZ Q J asks) (fun v s' done_ => ?_) fun e s' out => out)
    obtain ⟨v', H', J', rv, q⟩ := done_
    exact ⟨v', H', J'.os, J'.bare, J'.base, J'.hok, rv, q⟩
  have up : Passes (L2.CX X.prog X.w) ((cxOf CXg X.prog X.w X.K X.mg X.base Ng qg sg g cdg X.A (X.blk s0 H0 bsc ce fp).stack s H Eg).tr pn xe) E := passes_call tk hW
  refine wpAny_call (codeAny_mono ran fun r s' hq => ?_)
  cases r with
  | error e => exact up pinsZ σZ HZ s1 e s' I1 hq
  | ok fl =>
    cases fl with
    | ret u => exact I1.after hq
    | next => exact False.elim hq
    | brk => exact False.elim hq
    | cont => exact False.elim hq
end
/-- x(e) in a block of X, σ the variables of X at its entry -/
def tFncB (X : Cx) (σ : L2.St) (Ok : LamK → Prop) (TT : (XK → Hp → VK → Prop) → Hp → VK → Prop) (t : TA) : TE := fun σB H Q => t σB H fun vs H1 => ∃ (L : LamK) (f c' : Addr), vs = [.ref f] ∧ Ok L ∧ KeepAt X L H1 f c' ∧ TT (fun E H' Q' => L.t E σ H' Q') H1 Q
theorem pe_fncB {X : Cx} {pins : List (Addr × Obj)} {σ : L2.St} {H0 : Hp} {s0 : Shared} {bsc : Scope} {ce : Env} {fp : List Addr} {k : Nat} {Ok : LamK → Prop} {TT : (XK → Hp → VK → Prop) → Hp → VK → Prop} {x a : Str} {g : Addr} {st : Stmt} {Ng : List Str} {e : Expr} {t : TA} {p pos : Pos}
    (I0 : Inv X pins σ H0 s0) (hf : ∀ b ∈ fp, FpOk X pins H0 b) (D : Dfn X.K X.mg x st g [a]) (Sg : FnScope Ng [a] (defScope st)) (hNg : Ng[0]? = some a) (hva : Vis (defScope st) a)
    (hG : ∀ cdv : Value, GivesTo (X.blk s0 H0 bsc ce fp) Ng x (defScope st) g cdv (defBody st) a (X.env.qual ++ "<lambda>") TT) (hr : Room (k + 2) X.A) (hok : ∀ L, Ok L → LamOk X k L) (ha : PA (X.blk s0 H0 bsc ce fp) [e] t)
    (hg : Gl (X.blk s0 H0 bsc ce fp) x) (hst : starEach (e :: []) (X.blk s0 H0 bsc ce fp).env = (false, eval e (X.blk s0 H0 bsc ce fp).env) :: starEach [] (X.blk s0 H0 bsc ce fp).env := by rfl) (hpl : (backTo pos (starEach [] (X.blk s0 H0 bsc ce fp).env)).any (·.1) = false := by rfl)
    (hdb : (x == ("__debug__" : Str)) = false := by decide) (hd : (a == ("__debug__" : Str)) = false := by decide) (hcd : (a == ("__classdict__" : Str)) = false := by decide) :
    PE (X.blk s0 H0 bsc ce fp) (.Call (.Name x p) [e] [] pos) (tFncB X σ Ok TT t) := by
  obtain ⟨fd, F, b⟩ := D.ex
  obtain ⟨oc, od, kV, doc, pm, an, cdv, ct, osl, rfl, lk, hc⟩ := F.ex
  refine ⟨fun pinsB s σB H Q I h => ?_⟩
  refine wpAny_Call_Name_kw (ld_glob I hg D.g ?_ hdb)
  refine PySem.W.callWith_K (h₀ := X.base) I.ok.mod.kin F.kp (thn (ha.run pos pinsB s σB H _ I h) fun us s1 got => ?_) hst hpl
  obtain ⟨vs, H1, I1, r, L, f, c', rfl, ok, at_, asks⟩ := got
  refine ⟨I1.kIn, ?_⟩
  obtain rfl : us = [Value.ref f] := by
    match us, r with
    | [_], .cons r .nil => rw [show _ = Value.ref f from r]
  have isCode : H1 c' = some (CodeO c' (X.env.qual ++ "<lambda>")) := by
    obtain ⟨_, _, _, _, _, z, _⟩ := at_
    exact z
  have ran : codeAny (model X.prog X.w) X.A (.call (.ref g) ⟨[.ref f], []⟩) (CR C8.CX0 (X.blk s0 H0 bsc ce fp).stack X.prog X.w H1 s1 Q C8.E0) s1 := by
    refine run_ofS (N := Ng) (ps := [a]) (us := [.ref f]) (vs := [.ref f]) lk hc Sg hr I1.env0 (b s1 [.ref f] I1.kIn rfl) (.cons rfl .nil) rfl fun hr' => ?_
    obtain ⟨t', ht', hq'⟩ := hG cdv f c' s1 H1 Q (fun E H' Q' => L.t E σ H' Q') (fun W pn xe E p1 p2 tk hW => act_keepB (i := 0) I1 (CapAt.blk I0 hf (hok L ok).ls I1) (hok L ok) at_ tk hW hr' hNg hva hd hcd) isCode asks
    exact ⟨t', ht'.nox, hq'⟩
  refine wpAny_call (codeAny_mono ran fun r s' hq => ?_)
  cases r with
  | error e => exact (show False from hq).elim
  | ok fl =>
    cases fl with
    | ret u => exact I1.after hq
    | next => exact False.elim hq
    | brk => exact False.elim hq
    | cont => exact False.elim hq
end LamY
/-! ### k41: which error a call raises (_law_raised) -/
abbrev N_wraised : List Str := ["_law_call", "_law_found", "e", "_law_marks"]
theorem sc_wraised : FnScope N_wraised ["_law_call"] (defScope st__law_raised) := ⟨rfl, rfl, rfl, by decide +kernel, rfl, by decide +kernel, by decide +kernel⟩
theorem lt_mem_wlimitsright {K : PySem.W.Frag} {mg : Str → Option Value} {L : LA} (T : LX K mg L) : (L.t__law_limits_right, (("_law_limits_right" : Str) ++ ".<locals>.") ++ "<lambda>") ∈ LT L := by simp [LT]
theorem lt_one_wlimitsright {K : PySem.W.Frag} {mg : Str → Option Value} {L : LA} (T : LX K mg L) : ∀ p ∈ LT L, p.1 = L.t__law_limits_right → p.2 = (("_law_limits_right" : Str) ++ ".<locals>.") ++ "<lambda>" := by
  intro p hp e
  simp only [LT, List.mem_cons, List.mem_nil_iff, or_false] at hp
  rcases hp with rfl | rfl | rfl
  · rfl
  · exact absurd e (fun z => T.nt__law_limits_right__law_later_right z.symm)
  · exact absurd e (fun z => T.nt__law_limits_right_law z.symm)
theorem lt_mem_wlaterright {K : PySem.W.Frag} {mg : Str → Option Value} {L : LA} (T : LX K mg L) : (L.t__law_later_right, (("_law_later_right" : Str) ++ ".<locals>.") ++ "<lambda>") ∈ LT L := by simp [LT]
theorem lt_one_wlaterright {K : PySem.W.Frag} {mg : Str → Option Value} {L : LA} (T : LX K mg L) : ∀ p ∈ LT L, p.1 = L.t__law_later_right → p.2 = (("_law_later_right" : Str) ++ ".<locals>.") ++ "<lambda>" := by
  intro p hp e
  simp only [LT, List.mem_cons, List.mem_nil_iff, or_false] at hp
  rcases hp with rfl | rfl | rfl
  · exact absurd e T.nt__law_limits_right__law_later_right
  · rfl
  · exact absurd e (fun z => T.nt__law_later_right_law z.symm)
theorem lt_mem_law {K : PySem.W.Frag} {mg : Str → Option Value} {L : LA} (T : LX K mg L) : (L.t_law, (("law" : Str) ++ ".<locals>.") ++ "<lambda>") ∈ LT L := by simp [LT]
theorem lt_one_law {K : PySem.W.Frag} {mg : Str → Option Value} {L : LA} (T : LX K mg L) : ∀ p ∈ LT L, p.1 = L.t_law → p.2 = (("law" : Str) ++ ".<locals>.") ++ "<lambda>" := by
  intro p hp e
  simp only [LT, List.mem_cons, List.mem_nil_iff, or_false] at hp
  rcases hp with rfl | rfl | rfl
  · exact absurd e T.nt__law_limits_right_law
  · exact absurd e T.nt__law_later_right_law
  · rfl

inductive RsdA (K : PySem.W.Frag) (L : LA) (g0 : List Code) (dd : Addr) (H : Hp) (Q : VK) : Addr → Prop where
  | index (v : V) (z : Str) (h : H dd = some (.xd [("index", v)])) (r : ReprG g0 H v z) (k : ∀ p H', H' p = some (.tup [.str "index", .str z]) → Same H H' → Q (.ref p) H') : RsdA K L g0 dd H Q L.e_InvalidIndex
  | bound (v : V) (h : H dd = some (.xd [("part", v)])) (k : ∀ p H', H' p = some (.tup [.str "bound", v]) → Same H H' → Q (.ref p) H') : RsdA K L g0 dd H Q L.e_InvalidBound
  | limit (v : V) (h : H dd = some (.xd [("limit", v)])) (k : ∀ p H', H' p = some (.tup [.str "limit", v]) → Same H H' → Q (.ref p) H') : RsdA K L g0 dd H Q L.e_LimitExceeded
def RsdR (K : PySem.W.Frag) (L : LA) (g0 : List Code) (cls : Value) (d : Option Addr) (H : Hp) (Q : VK) : Prop := ∃ D dd : Addr, cls = .ref D ∧ d = some dd ∧ RsdA K L g0 dd H Q D
def mk3 (a b c : Bool) : PyData := .list [.bool a, .bool b, .bool c]
theorem sh3 (a b c : Bool) : SeqAt.shaped (mk3 a b c) = true := Bool.and_eq_true_iff.mpr ⟨by simp [mk3, PyData.canLay0, PyData.canLayAll0], decide_eq_true (by simp [mk3, PyData.depth, PyData.depthAll])⟩
theorem ask3 {K : PySem.W.Frag} {σ : L2.St} {H : Hp} {p : Addr} {x y z a b c r : Bool} {Q : VK} (h1 : σ[3]? = some (some (.ref p))) (h2 : H p = some (.lst [.bl x, .bl y, .bl z])) (hr : PyData.eqv (mk3 x y z) (mk3 a b c) = r) (q : ∀ H', Same H H' → Q (.bl r) H') :
    tOp (rEqD K) (tVar 3) (tLst (tCons (tC (.bl a)) (tCons (tC (.bl b)) (tCons (tC (.bl c)) tNil)))) σ H Q :=
  ⟨_, h1, (by show 3 ≤ sizeLine; decide), fun p2 n2 => by
    have S := Same.upd (o := .lst [.bl a, .bl b, .bl c]) n2
    exact ⟨mk3 x y z, mk3 a b c, .lst (SqL.of (S _ _ h2)) (.cons (.bl _) (.cons (.bl _) (.cons (.bl _) .nil))), .lst (SqL.of upd_same) (.cons (.bl _) (.cons (.bl _) (.cons (.bl _) .nil))), sh3 _ _ _, sh3 _ _ _, by rw [hr]; exact q _ S⟩⟩
/-- the lambda ends well, or with such an error -/
def TTrsd (K : PySem.W.Frag) (L : LA) (g0 : List Code) : (XK → Hp → VK → Prop) → Hp → VK → Prop := fun tl H Q => ∀ (E : XK) (N : VK) (H1 : Hp), Same H H1 → (∀ cls d H', RsdR K L g0 cls d H' Q → E cls d H') → (∀ v H', Q .non H' → N v H') → tl E H1 N
theorem Takes.long {X : Cx} {W : L2.WX} (tk : L2.Takes X W) : L2.Takes X (fun cls d σ H => σ.length = X.N.length → W cls d σ H) := fun u s' x => by
  obtain ⟨a, B, sI, pins, σ, H, cls, d, e, I, nb, up, sky, na, os, ag, w⟩ := x
  exact tk u s' ⟨a, B, sI, pins, σ, H, cls, d, e, I, nb, up, sky, na, os, ag, w I.len⟩
theorem rsd_gives {X : Cx} {L : LA} (T : LX X.K X.mg L) (hr9 : Room 3 X.A) {g0 : List Code} (hgd : X.A.guards = some g0) {g : Addr} {cdg : Value} {q : Str} : LamX.GivesTo X N_wraised "_law_raised" (defScope st__law_raised) g cdg (defBody st__law_raised) "_law_call" q (TTrsd X.K L g0) := by
  intro f c' s H Q tl act hc h
  have nd := sc_wraised.nd
  have hr := hr9.deeper (PyProof.Rows.envOfC "_law_raised" (defScope st__law_raised) s.heap.objs.size g cdg)
  refine ⟨_, (pss_cons (ps_set (i := 1) nd rfl (Or.inl rfl) (pe_tup (pa_cons pe_str (pa_cons pe_non pa_nil)))) (pss_cons (ps_try_as (i := 2) (Wout := fun _ _ _ _ => False) (tb := fun W => tSeq (fun D σ H => ∃ Ech : XK, (∀ cls d (σ' : L2.St) H', σ'.length = 4 → Ech cls d H' → W cls d σ' H') ∧ σ[0]? = some (some (.ref f)) ∧ H c' = some (LamX.CodeO c' q) ∧ tl Ech H fun _ H' => D.nx σ H') (tAsg (tC .non) (gName 1))) rfl rfl nd rfl rfl ⟨rfl, by decide, Or.inl T.ge_BreakerError⟩ takes0 (fun W pn xe tk _ => ?_) (fun a oe cls d pn hz hf => by exact (pss_cons (ps_set (i := 3) nd rfl (Or.inl rfl) (pe_lst (pa_cons (pe_callB (call_isZ (K := X.K) (by rfl) hz hf) (by rfl) T.b_isinstance (by decide +kernel) (pa_cons (pv 2) (pa_cons (pe_glob rfl T.ge_InvalidIndex rr) pa_nil))) (pa_cons (pe_callB (call_isZ (K := X.K) (by rfl) hz hf) (by rfl) T.b_isinstance (by decide +kernel) (pa_cons (pv 2) (pa_cons (pe_glob rfl T.ge_InvalidBound rr) pa_nil))) (pa_cons (pe_callB (call_isZ (K := X.K) (by rfl) hz hf) (by rfl) T.b_isinstance (by decide +kernel) (pa_cons (pv 2) (pa_cons (pe_glob rfl T.ge_LimitExceeded rr) pa_nil))) pa_nil)))))
 (pss_cons (ps_if (pt_cmpR (op_eqDK (K := X.K) rfl hr.units) (pv 3) (pe_lst (pa_cons pe_bl (pa_cons pe_bl (pa_cons pe_bl pa_nil)))) (nomark _)) (pss_one (ps_set (i := 1) nd rfl (Or.inl rfl) (pe_tup (pa_cons pe_str (pa_cons (pe_callB (call_reprG (g := g0) (by exact hgd) (by exact hr.units)) (by rfl) T.b_repr (by decide +kernel) (pa_cons (pe_xfZ (K := X.K) (by rfl) hz hf (pv 2)) pa_nil)) pa_nil))))) pss_nil)
 (pss_cons (ps_if (pt_cmpR (op_eqDK (K := X.K) rfl hr.units) (pv 3) (pe_lst (pa_cons pe_bl (pa_cons pe_bl (pa_cons pe_bl pa_nil)))) (nomark _)) (pss_one (ps_set (i := 1) nd rfl (Or.inl rfl) (pe_tup (pa_cons pe_str (pa_cons (pe_xfZ (K := X.K) (by rfl) hz hf (pv 2)) pa_nil))))) pss_nil)
 (pss_one (ps_if (pt_cmpR (op_eqDK (K := X.K) rfl hr.units) (pv 3) (pe_lst (pa_cons pe_bl (pa_cons pe_bl (pa_cons pe_bl pa_nil)))) (nomark _)) (pss_one (ps_set (i := 1) nd rfl (Or.inl rfl) (pe_tup (pa_cons pe_str (pa_cons (pe_xfZ (K := X.K) (by rfl) hz hf (pv 2)) pa_nil))))) pss_nil))))))) (pss_one (ps_ret (pv 1))))), ?_⟩
  · refine pss_cons ⟨fun pins s' σ H' D I h' => ?_⟩ (pss_one (ps_set (i := 1) nd rfl (Or.inl rfl) pe_non))
    obtain ⟨Ech, hW, h1, h2, h3⟩ := h'
    exact (ps_expr (act _ pn xe Ech _ _ (Takes.long tk) (fun cls d σ' H' e z => hW cls d σ' H' z e))).run pins s' σ H' D I ⟨h1, h2, h3⟩
  · refine ⟨(by show 2 ≤ sizeLine; decide), fun t0 n0 => ?_⟩
    have S0 := Same.upd (o := .tup [.str "another", .non]) n0
    generalize upd H t0 (.tup [.str "another", .non]) = H1 at S0 ⊢
    refine ⟨fun cls d H' => RsdR X.K L g0 cls d H' Q, fun cls d σ' H' hl z => ?_, rfl, S0 _ _ hc, h _ _ _ S0 (fun _ _ _ z => z) fun _ H' z => ⟨_, rfl, z⟩⟩
    obtain ⟨D, dd, rfl, rfl, alt⟩ := z
    obtain ⟨s0, s1, s2, s3, rfl⟩ : ∃ a0 a1 a2 a3, σ' = [a0, a1, a2, a3] := by
      match σ', hl with
      | [a0, a1, a2, a3], _ => exact ⟨a0, a1, a2, a3, rfl⟩
    have fld : ∀ {D a : Addr} {f : Str} {v : V} {fs' : List (Str × V)} {Qx : VK} {a0 a1 a3 : Option V} {Hx : Hp}, L2.XfC X.K D → PySem.W.findIn X.K (.ref D) f = some none → Hx dd = some (.xd fs') → fs'.lookup f = some v → Qx v Hx → tXfZ X.K a (.ref D) (some dd) f (tVar 2) [a0, a1, some (.ref a), a3] Hx Qx := fun {D a f v fs' Qx a0 a1 a3 Hx} xf no h1 h2 q => ⟨D, xf, no, _, rfl, rfl, rfl, dd, _, _, rfl, h1, h2, q⟩
    have isz : ∀ {D a : Addr} {fs : List (Str × V)} {v : V} {C : Value} {x : Bool} {Hx : Hp} {Qx : VK}, IsC X.K D → PySem.W.kitOne X.K (.ref D) C = some x → (∀ u, L2.RelV v u → u = C) → Hx dd = some (.xd fs) → Qx (.bl x) Hx → rIsZ X.K a (.ref D) (some dd) [.ref a, v] Hx Qx := fun {D a fs v C x Hx Qx} h0 h1 h2 h3 h4 => ⟨D, dd, rfl, rfl, h0, v, C, x, fs, rfl, h3, h2, h1, h4⟩
    have ir : ∀ (p : Addr) (u : Value), L2.RelV (.ref p) u → u = .ref p := fun p u hu => hu
    cases alt with
    | index v z hd r k =>
      refine ⟨true, exm_of T.xe_BreakerError T.te_BreakerError T.se_InvalidIndex_BreakerError, fun _ a na => ?_, fun z => nomatch z⟩
      refine ⟨_, rfl, isz T.is_InvalidIndex (kit_of T.xe_InvalidIndex T.te_InvalidIndex T.se_InvalidIndex_InvalidIndex T.se_InvalidIndex_InvalidIndex) (ir _) hd ⟨_, rfl, isz T.is_InvalidIndex (kit_of T.xe_InvalidBound T.te_InvalidBound T.se_InvalidIndex_InvalidIndex T.se_InvalidIndex_InvalidBound) (ir _) hd ⟨_, rfl, isz T.is_InvalidIndex (kit_of T.xe_LimitExceeded T.te_LimitExceeded T.se_InvalidIndex_InvalidIndex T.se_InvalidIndex_LimitExceeded) (ir _) hd ?_⟩⟩⟩
      refine ⟨(by show 3 ≤ sizeLine; decide), fun p1 n1 => ?_⟩
      have S1 := Same.upd (o := .lst [.bl true, .bl false, .bl false]) n1
      have e1 := upd_same (H := H') (a := p1) (o := .lst [.bl true, .bl false, .bl false])
      generalize upd H' p1 (.lst [.bl true, .bl false, .bl false]) = H2 at S1 e1 ⊢
      have hd := S1 _ _ hd
      refine ask3 rfl e1 (by simp [mk3, PyData.eqv, PyData.eqvAll]) fun J0 T0 => ⟨_, rfl, iteT ?_⟩
      have hd := T0 _ _ hd
      have ex0 := T0 _ _ e1
      refine fld T.xe_InvalidIndex T.ne_InvalidIndex_index hd rfl ?_
      refine ⟨_, _, rfl, r.mv (fun b o _ e _ => (S1.trans T0) _ _ e), ?_⟩
      refine ⟨(by show 2 ≤ sizeLine; decide), fun p5 n5 => ?_⟩
      have S5 := Same.upd (o := .tup [.str "index", .str z]) n5
      have e5 := upd_same (H := J0) (a := p5) (o := .tup [.str "index", .str z])
      generalize upd J0 p5 (.tup [.str "index", .str z]) = H5 at S5 e5 ⊢
      have hd := S5 _ _ hd
      have e1 := S5 _ _ ex0
      have exx := e1
      refine ask3 rfl exx (by simp [mk3, PyData.eqv, PyData.eqvAll]) fun J1 T1 => ⟨_, rfl, iteF ?_⟩
      have hd := T1 _ _ hd
      have e5 := T1 _ _ e5
      have ex1 := T1 _ _ exx
      refine ask3 rfl ex1 (by simp [mk3, PyData.eqv, PyData.eqvAll]) fun J2 T2 => ⟨_, rfl, iteF ?_⟩
      have hd := T2 _ _ hd
      have e5 := T2 _ _ e5
      have ex2 := T2 _ _ ex1
      exact ⟨_, rfl, k _ _ e5 ((((S1.trans T0).trans S5).trans T1).trans T2)⟩
    | bound v hd k =>
      refine ⟨true, exm_of T.xe_BreakerError T.te_BreakerError T.se_InvalidBound_BreakerError, fun _ a na => ?_, fun z => nomatch z⟩
      refine ⟨_, rfl, isz T.is_InvalidBound (kit_of T.xe_InvalidIndex T.te_InvalidIndex T.se_InvalidBound_InvalidBound T.se_InvalidBound_InvalidIndex) (ir _) hd ⟨_, rfl, isz T.is_InvalidBound (kit_of T.xe_InvalidBound T.te_InvalidBound T.se_InvalidBound_InvalidBound T.se_InvalidBound_InvalidBound) (ir _) hd ⟨_, rfl, isz T.is_InvalidBound (kit_of T.xe_LimitExceeded T.te_LimitExceeded T.se_InvalidBound_InvalidBound T.se_InvalidBound_LimitExceeded) (ir _) hd ?_⟩⟩⟩
      refine ⟨(by show 3 ≤ sizeLine; decide), fun p1 n1 => ?_⟩
      have S1 := Same.upd (o := .lst [.bl false, .bl true, .bl false]) n1
      have e1 := upd_same (H := H') (a := p1) (o := .lst [.bl false, .bl true, .bl false])
      generalize upd H' p1 (.lst [.bl false, .bl true, .bl false]) = H2 at S1 e1 ⊢
      have hd := S1 _ _ hd
      refine ask3 rfl e1 (by simp [mk3, PyData.eqv, PyData.eqvAll]) fun J0 T0 => ⟨_, rfl, iteF ?_⟩
      have hd := T0 _ _ hd
      have ex0 := T0 _ _ e1
      refine ask3 rfl ex0 (by simp [mk3, PyData.eqv, PyData.eqvAll]) fun J1 T1 => ⟨_, rfl, iteT ?_⟩
      have hd := T1 _ _ hd
      have ex1 := T1 _ _ ex0
      refine fld T.xe_InvalidBound T.ne_InvalidBound_part hd rfl ?_
      refine ⟨(by show 2 ≤ sizeLine; decide), fun p5 n5 => ?_⟩
      have S5 := Same.upd (o := .tup [.str "bound", v]) n5
      have e5 := upd_same (H := J1) (a := p5) (o := .tup [.str "bound", v])
      generalize upd J1 p5 (.tup [.str "bound", v]) = H5 at S5 e5 ⊢
      have hd := S5 _ _ hd
      have e1 := S5 _ _ ex1
      have exx := e1
      refine ask3 rfl exx (by simp [mk3, PyData.eqv, PyData.eqvAll]) fun J2 T2 => ⟨_, rfl, iteF ?_⟩
      have hd := T2 _ _ hd
      have e5 := T2 _ _ e5
      have ex2 := T2 _ _ exx
      exact ⟨_, rfl, k _ _ e5 ((((S1.trans T0).trans T1).trans S5).trans T2)⟩
    | limit v hd k =>
      refine ⟨true, exm_of T.xe_BreakerError T.te_BreakerError T.se_LimitExceeded_BreakerError, fun _ a na => ?_, fun z => nomatch z⟩
      refine ⟨_, rfl, isz T.is_LimitExceeded (kit_of T.xe_InvalidIndex T.te_InvalidIndex T.se_LimitExceeded_LimitExceeded T.se_LimitExceeded_InvalidIndex) (ir _) hd ⟨_, rfl, isz T.is_LimitExceeded (kit_of T.xe_InvalidBound T.te_InvalidBound T.se_LimitExceeded_LimitExceeded T.se_LimitExceeded_InvalidBound) (ir _) hd ⟨_, rfl, isz T.is_LimitExceeded (kit_of T.xe_LimitExceeded T.te_LimitExceeded T.se_LimitExceeded_LimitExceeded T.se_LimitExceeded_LimitExceeded) (ir _) hd ?_⟩⟩⟩
      refine ⟨(by show 3 ≤ sizeLine; decide), fun p1 n1 => ?_⟩
      have S1 := Same.upd (o := .lst [.bl false, .bl false, .bl true]) n1
      have e1 := upd_same (H := H') (a := p1) (o := .lst [.bl false, .bl false, .bl true])
      generalize upd H' p1 (.lst [.bl false, .bl false, .bl true]) = H2 at S1 e1 ⊢
      have hd := S1 _ _ hd
      refine ask3 rfl e1 (by simp [mk3, PyData.eqv, PyData.eqvAll]) fun J0 T0 => ⟨_, rfl, iteF ?_⟩
      have hd := T0 _ _ hd
      have ex0 := T0 _ _ e1
      refine ask3 rfl ex0 (by simp [mk3, PyData.eqv, PyData.eqvAll]) fun J1 T1 => ⟨_, rfl, iteF ?_⟩
      have hd := T1 _ _ hd
      have ex1 := T1 _ _ ex0
      refine ask3 rfl ex1 (by simp [mk3, PyData.eqv, PyData.eqvAll]) fun J2 T2 => ⟨_, rfl, iteT ?_⟩
      have hd := T2 _ _ hd
      have ex2 := T2 _ _ ex1
      refine fld T.xe_LimitExceeded T.ne_LimitExceeded_limit hd rfl ?_
      refine ⟨(by show 2 ≤ sizeLine; decide), fun p5 n5 => ?_⟩
      have S5 := Same.upd (o := .tup [.str "limit", v]) n5
      have e5 := upd_same (H := J2) (a := p5) (o := .tup [.str "limit", v])
      generalize upd J2 p5 (.tup [.str "limit", v]) = H5 at S5 e5 ⊢
      have hd := S5 _ _ hd
      have e1 := S5 _ _ ex2
      have exx := e1
      exact ⟨_, rfl, k _ _ e5 ((((S1.trans T0).trans T1).trans T2).trans S5)⟩
/-! ### k41: what is no index of a breaker, no wait, no order -/
theorem FnOk.or0 {P : Program} {w : World} {K : PySem.W.Frag} {mg : Str → Option Value} {base : Heap} {CX : CXT} {k : Nat} {f : Addr} {fd : FuncData} {ps : List Str} {sp1 sp2 : Sp} (F1 : FnOk P w K mg base CX k f fd ps sp1) (F2 : FnOk P w K mg base CX k f fd ps sp2) : FnOk P w K mg base CX k f fd ps (fun vs H Q E => sp1 vs H Q E ∨ sp2 vs H Q E) :=
  ⟨fun vs H Q E h => h.elim (F1.len vs H Q E) (F2.len vs H Q E), fun A outer s H args us vs Q E hr e0 hb hv h => h.elim (F1.run A outer s H args us vs Q E hr e0 hb hv) (F2.run A outer s H args us vs Q E hr e0 hb hv)⟩
theorem FnOk.orX {P : Program} {w : World} {K : PySem.W.Frag} {mg : Str → Option Value} {base : Heap} {k : Nat} {f : Addr} {fd : FuncData} {ps : List Str} {sp1 sp2 : Sp} (F1 : FnOk P w K mg base CX0 k f fd ps sp1) (F2 : FnOk P w K mg base (L2.CX P w) k f fd ps sp2) : FnOk P w K mg base (L2.CX P w) k f fd ps (fun vs H Q E => sp1 vs H Q E0 ∨ sp2 vs H Q E) := by
  refine ⟨fun vs H Q E h => h.elim (F1.len vs H Q E0) (F2.len vs H Q E), fun A outer s H args us vs Q E hr e0 hb hv h => ?_⟩
  rcases h with h | h
  · refine codeAny_mono (F1.run A outer s H args us vs Q E0 hr e0 hb hv h) fun r s' z => ?_
    cases r with
    | error e => exact z.elim
    | ok fl => cases fl <;> exact z
  · exact F2.run A outer s H args us vs Q E hr e0 hb hv h
theorem Kd.sameK {H H' : Hp} {v : V} {nm : String} (k : Kd H v nm) (s : Same H H') : Kd H' v nm := by
  cases k with
  | non => exact .non
  | bl b => exact .bl b
  | int i => exact .int i
  | str x => exact .str x
  | lst e => exact .lst (s _ _ e)
  | tup e => exact .tup (s _ _ e)
  | dK e => exact .dK (s _ _ e)
def Wb (H : Hp) (l m : Int) (v : V) : Prop := ∃ nm, Kd H v nm ∧ (isI v && (decide (l ≤ toI v) && decide (toI v ≤ m))) = false
theorem Wb.same {H H' : Hp} {l m : Int} {v : V} (h : Wb H l m v) (s : Same H H') : Wb H' l m v := by
  obtain ⟨nm, k, b⟩ := h
  exact ⟨nm, Kd.sameK k s, b⟩
inductive NoOrd (H : Hp) (m : Nat) : V → Prop
  | kind {v : V} {nm : String} (k : Kd H v nm) (n : nm ≠ "list") : NoOrd H m v
  | len {a : Addr} {xs : List V} (e : H a = some (.lst xs)) (n : xs.length ≠ m) : NoOrd H m (.ref a)
  | item {a : Addr} {pre : List Int} {post : List V} {x : V} {nm : String} (e : H a = some (.lst (pre.map V.int ++ x :: post))) (k : Kd H x nm) (bad : isI x = false) : NoOrd H m (.ref a)
  | srt {a : Addr} {ns : List Int} (e : H a = some (.lst (ns.map V.int))) (n : ¬ ns.Perm ((List.range m).map fun (k : Nat) => (k : Int))) : NoOrd H m (.ref a)
theorem NoOrd.same {H H' : Hp} {m : Nat} {v : V} (h : NoOrd H m v) (s : Same H H') : NoOrd H' m v := by
  cases h with
  | kind k n => exact .kind (Kd.sameK k s) n
  | len e n => exact .len (s _ _ e) n
  | item e k bad => exact .item (s _ _ e) (Kd.sameK k s) bad
  | srt e n => exact .srt (s _ _ e) n
def spIsOrdN : Sp := fun vs H Q _ => ∃ (x : V) (m : Nat), vs = [x, .int (m : Int)] ∧ NoOrd H m x ∧ m ≤ 12 ∧ ∀ H', Same H H' → Q (.bl false) H'
namespace N
section
variable {P : Program} {w : World} {K : PySem.W.Frag} {mg : Str → Option Value} {base : Heap} {L : LA}
abbrev N_isorder : List Str := ["value", "length", "at"]
theorem sc_isorder : FnScope N_isorder ["value", "length"] (defScope st_is_order) := ⟨rfl, rfl, rfl, by decide +kernel, rfl, by decide +kernel, by decide +kernel⟩
theorem fn_isorder (T : LX K mg L) {fd : FuncData} (F : Fun K "is_order" "is_order" st_is_order L.f_is_order fd) : FnOk P w K mg base CX0 2 L.f_is_order fd ["value", "length"] (spIsOrdN) := by
  have G_isinteger := ok_isinteger (P := P) (w := w) (base := base) T
  have nd := sc_isorder.nd
  refine F.ok sc_isorder (fun vs H Q E h => ?_) (fun cdv A outer S H vs Q E hr h => ?_)
  · obtain ⟨x, m, rfl, _⟩ := h
    rfl
  · obtain ⟨x, m, rfl, bad, m12, k⟩ := h
    refine ⟨_, (pss_cons (ps_if (PW.pt (pw_or (pt_not (pt_val (pe_callB call_isi (by rfl) T.b_isinstance (by decide +kernel) (pa_cons (pv 0) (pa_cons (pe_bltn (by rfl) T.b_list (by decide +kernel : bootBuiltins "list" = some (.type "list")) (v := .ty "list") rfl) pa_nil))))) (pw_or1 (pt_cmpR op_ne (pe_callB call_len_seq (by rfl) T.b_len PySem.boot_len (pa_cons (pv 0) pa_nil)) (pv 1) (nomark _))))) (pss_one (ps_ret pe_bl)) pss_nil)
       (pss_cons (ps_for PassesOwn.never rfl (pi_list (pv 0)) (pg_name (i := 2) nd rfl (Or.inl rfl)) (pss_one (ps_if (pt_not (pt_val (pe_c G_isinteger (hr.mono (by decide)) rfl (pa_cons (pv 2) pa_nil)))) (pss_one (ps_ret pe_bl)) pss_nil)))
       (pss_one (ps_ret (pe_cmpR (op_eqD hr.units) (pe_callB cr_sorted (by rfl) T.b_sorted (by decide +kernel) (pa_cons (pv 0) pa_nil)) (pe_listRg rfl (by rfl) T.b_list (prg_1 (by rfl) T.b_range (pv 1))) (nomark _)))))), ?_⟩
    cases bad with
    | @kind _ nm kd n =>
      refine ⟨_, rfl, _, .ty "list", _, _, _, rfl, .ty "list", kd.ty, kd.kit "list" _ (.inr ⟨by decide, by decide, rfl⟩), _, rfl, ?_⟩
      rw [show (nm == "list") = false from beq_false_of_ne n]
      exact iteT (iteT (k _ (Same.refl _)))
    | @len a xs e n =>
      refine ⟨_, rfl, _, .ty "list", _, _, _, rfl, .ty "list", (Kd.lst e).ty, (Kd.lst e).kit "list" _ (.inr ⟨by decide, by decide, rfl⟩), _, rfl, iteF ?_⟩
      refine ⟨_, rfl, a, _, rfl, .inl (SqL.of e), _, rfl, rfl, _, rfl, ?_⟩
      rw [decide_eq_false (fun z => n (by have := V.int.inj z; omega))]
      exact iteT (k _ (Same.refl _))
    | @item a pre post x nm e kd bad =>
      have e' := e
      generalize hz : pre.map V.int ++ x :: post = zs at e'
      refine ⟨_, rfl, _, .ty "list", _, _, _, rfl, .ty "list", (Kd.lst e').ty, (Kd.lst e').kit "list" _ (.inr ⟨by decide, by decide, rfl⟩), _, rfl, iteF ?_⟩
      refine ⟨_, rfl, a, _, rfl, .inl (SqL.of e'), _, rfl, rfl, _, rfl, ?_⟩
      refine ite2 (fun _ => k _ (Same.refl _)) (fun _ => ?_)
      refine ⟨_, rfl, a, rfl, ⟨_, SqL.of e'⟩, ?_⟩
      refine for_list (K := K) (a := a) (xs := zs) (fun i σ Hx => ∃ v2 : Option V, σ = [some (.ref a), some (.int (m : Int)), v2] ∧ Hx = H ∧ i ≤ pre.length) ⟨_, rfl, rfl, Nat.zero_le _⟩ (fun i σ Hx _ ⟨_, _, e, _⟩ => by rw [e]; exact SqL.of e') ?_ ?_
      · rintro i y σ Hx hxi ⟨v2, rfl, rfl, il⟩
        rw [← hz] at hxi
        rcases Nat.lt_or_eq_of_le il with q | q
        · rw [List.getElem?_append_left (by rw [List.length_map]; exact q), List.getElem?_map] at hxi
          obtain ⟨c, hc, rfl⟩ := Option.map_eq_some_iff.mp hxi
          exact ⟨_, rfl, _, _, rfl, .int _, _, rfl, iteF ⟨_, rfl, rfl, q⟩⟩
        · rw [List.getElem?_append_right (by rw [List.length_map]; omega), List.length_map, q, Nat.sub_self] at hxi
          obtain rfl : x = y := Option.some.inj hxi
          refine ⟨_, rfl, _, _, rfl, kd, _, rfl, ?_⟩
          rw [bad]
          exact iteT (k _ (Same.refl _))
      · rintro σ Hx ⟨v2, rfl, rfl, il⟩
        exfalso
        rw [← hz, List.length_append, List.length_map, List.length_cons] at il
        omega
    | @srt a ns e n =>
      have ln : (ns.map V.int).length = ns.length := List.length_map ..
      refine ⟨_, rfl, _, .ty "list", _, _, _, rfl, .ty "list", (Kd.lst e).ty, (Kd.lst e).kit "list" _ (.inr ⟨by decide, by decide, rfl⟩), _, rfl, iteF ?_⟩
      refine ⟨_, rfl, a, _, rfl, .inl (SqL.of e), _, rfl, rfl, _, rfl, ?_⟩
      refine ite2 (fun _ => k _ (Same.refl _)) (fun c => ?_)
      have nm : ns.length = m := by
        have c : decide (V.int ((ns.map V.int).length : Int) = V.int (m : Int)) = true := by
          revert c
          cases decide (V.int ((ns.map V.int).length : Int) = V.int (m : Int)) <;> simp
        have := V.int.inj (of_decide_eq_true c)
        omega
      refine ⟨_, rfl, a, rfl, ⟨_, SqL.of e⟩, ?_⟩
      refine for_list (K := K) (a := a) (xs := ns.map V.int) (fun i σ Hx => ∃ v2 : Option V, σ = [some (.ref a), some (.int (m : Int)), v2] ∧ Hx = H) ⟨_, rfl, rfl⟩ (fun i σ Hx _ ⟨_, _, z⟩ => by rw [z]; exact SqL.of e) ?_ ?_
      · rintro i y σ Hx hxi ⟨v2, rfl, rfl⟩
        rw [List.getElem?_map] at hxi
        obtain ⟨c, hc, rfl⟩ := Option.map_eq_some_iff.mp hxi
        exact ⟨_, rfl, _, _, rfl, .int _, _, rfl, iteF ⟨_, rfl, rfl⟩⟩
      · rintro σ Hx ⟨v2, rfl, rfl⟩
        refine ⟨_, rfl, a, _, rfl, SqL.of e, by omega, fun us p pm pw hp => ?_⟩
        have s1 := Same.upd (o := .lst (us.map V.int)) hp
        refine ⟨_, rfl, (m : Int), rfl, .of_le (by omega) (by omega) (by omega) (by omega), fun q hq => ?_⟩
        have er : rgV 0 (m : Int) = ((List.range m).map fun (k : Nat) => (k : Int)).map V.int := by
          unfold rgV
          rw [List.map_map, Int.sub_zero, Int.toNat_natCast]
          refine List.map_congr_left fun i _ => ?_
          show V.int (0 + (i : Int)) = V.int (i : Int)
          rw [Int.zero_add]
        rw [er]
        have s2 := Same.upd (o := .lst (((List.range m).map fun (k : Nat) => (k : Int)).map V.int)) hq
        refine ⟨_, _, Dp.ints (s2 _ _ upd_same), Dp.ints upd_same, shInts _, shInts _, ?_⟩
        rw [eqInts, decide_eq_false (fun z => n (by rw [← z]; exact pm.symm))]
        exact k _ (s1.trans s2)
theorem ok_isorder (T : LX K mg L) : Cal P w K mg base "is_order" 2 L.f_is_order ["value", "length"] (spIsOrdN) := T.d_is_order.cal fun fd F => fn_isorder T F
end
end N
def ixX (L : LA) (H : Hp) (E : XK) (v : V) : Prop := ∀ d H', H' d = some (.xd [("index", v)]) → Same H H' → E (.ref L.e_InvalidIndex) (some d) H'
def bdX (L : LA) (H : Hp) (E : XK) (s : Str) : Prop := ∀ d H', H' d = some (.xd [("part", .str s)]) → Same H H' → E (.ref L.e_InvalidBound) (some d) H'
def lmX (L : LA) (H : Hp) (E : XK) (n : Int) : Prop := ∀ d H', H' d = some (.xd [("limit", .int n)]) → Same H H' → E (.ref L.e_LimitExceeded) (some d) H'
def spCkX (L : LA) : Sp := fun vs H _ E => ∃ r B xs ts st ph v, vs = [.ref r, v] ∧ RowAt L.c_Row H r B xs ts st ph ∧ Wb H 0 ((ts.length : Nat) - 1 : Int) v ∧ ixX L H E v
def spReX (L : LA) : Sp := fun vs H _ E => ∃ r B xs ts st ph v, vs = [.ref r, v] ∧ RowAt L.c_Row H r B xs ts st ph ∧ NoOrd H ts.length v ∧ bdX L H E "order"
def spWwX (L : LA) : Sp := fun vs H _ E => ∃ r B xs ts st ph v x, vs = [.ref r, v, x] ∧ RowAt L.c_Row H r B xs ts st ph ∧ ((Wb H 0 ((ts.length : Nat) - 1 : Int) v ∧ ixX L H E v) ∨ ∃ i : Nat, v = .int i ∧ i < ts.length ∧ Wb H 1 1000000000000000000000000000000 x ∧ bdX L H E "wait")
def spAoX (L : LA) : Sp := fun vs H _ E => ∃ r B xs ts st ph, vs = [.ref r] ∧ RowAt L.c_Row H r B xs ts st ph ∧ 7 < ts.length ∧ lmX L H E 7
def spHlX (L : LA) : Sp := fun vs H _ E => ∃ r B xs ts st ph v, vs = [.ref r, v] ∧ RowAt L.c_Row H r B xs ts st ph ∧ ((Wb H 0 ((ts.length : Nat) - 1 : Int) v ∧ ixX L H E v) ∨ ∃ (k : Nat) (t : Tri), v = .int k ∧ ts[k]? = some t ∧ rupI t.2.1 (perW st (wtsT (ts.take k))) ≤ 1000000000000000000000000000000 ∧ 2001 < stepsUp t.2.1 (perW st (wtsT (ts.take k))) ∧ lmX L H E 2000)
def spBrX (L : LA) : Sp := fun vs H _ E => ∃ r B xs ts st ph v x, vs = [.ref r, v, x] ∧ RowAt L.c_Row H r B xs ts st ph ∧ ((Wb H 0 ((ts.length : Nat) - 1 : Int) v ∧ ixX L H E v) ∨ ∃ (k : Nat) (t : Tri), v = .int k ∧ ts[k]? = some t ∧
  ((Wb H t.2.1 1000000000000000000000000000000 x ∧ bdX L H E "most") ∨ ∃ m : Int, x = .int m ∧ t.2.1 ≤ m ∧ m ≤ 1000000000000000000000000000000 ∧ rupI t.2.1 (perW st (wtsT (ts.take k))) ≤ 1000000000000000000000000000000 ∧ 2000 * perW st (wtsT (ts.take k)) < rupI m (perW st (wtsT (ts.take k))) - rupI t.2.1 (perW st (wtsT (ts.take k))) ∧ lmX L H E 2000))
namespace EX
section
variable {P : Program} {w : World} {K : PySem.W.Frag} {mg : Str → Option Value} {base : Heap} {L : LA}
namespace R
theorem fn_checkindex (T : LX K mg L) {fd : FuncData} (F : Fun K "check_index" "check_index" st_check_index L.f_check_index fd) : FnOk P w K mg base (L2.CX P w) 3 L.f_check_index fd ["row", "index"] (spCkX L) := by
  have G_iswithin := ok_iswithin (P := P) (w := w) (base := base) T
  have G_Rowlen := ok_Rowlen (P := P) (w := w) (base := base) T
  have nd := sc_checkindex.nd
  refine F.okX sc_checkindex (fun vs H Q E h => ?_) (fun cdv A outer S H vs Q E hr h => ?_)
  · obtain ⟨r, B, xs, ts, st, ph, v, rfl, _⟩ := h
    rfl
  · obtain ⟨r, B, xs, ts, st, ph, v, rfl, R, ⟨nm, kd, bad⟩, k⟩ := h
    refine ⟨_, (pss_one (ps_if (pt_not (pt_val (pe_c G_iswithin (hr.mono (by decide)) rfl (pa_cons (pv 1) (pa_cons pe_int (pa_cons (pe_op op_sub (pe_callB (G_Rowlen.c_len (hr.mono (by decide))) (by rfl) T.b_len PySem.boot_len (pa_cons (pv 0) pa_nil)) pe_int) pa_nil)))))) (pss_one (ps_raise rfl (takes_of rfl rfl rfl rfl) (mk_InvalidIndex T (hr.mono (by decide)) rfl (pa_cons (pv 1) pa_nil)))) pss_nil)), ?_⟩
    have xl := R.br.len
    have ln := R.ln
    obtain ⟨dr, hr'⟩ := R.ob
    refine ⟨_, rfl, _, rfl, r, dr, _, rfl, hr', r, B, xs, ts, st, ph, rfl, R, _, rfl, by omega, by omega, _, _, rfl, rfl, _, _, _, _, rfl, kd, _, rfl, ?_⟩
    rw [xl, bad]
    exact iteT ⟨_, rfl, (by show 1 ≤ 1000; decide), fun e he => raise1 k e he⟩
theorem ok_checkindex (T : LX K mg L) : CalX P w K mg base "check_index" 3 L.f_check_index ["row", "index"] (spCkX L) := T.d_check_index.calX fun fd F => fn_checkindex T F
theorem fn_allorders (T : LX K mg L) {fd : FuncData} (F : Fun K "all_orders" "all_orders" st_all_orders L.f_all_orders fd) : FnOk P w K mg base (L2.CX P w) 4 L.f_all_orders fd ["row"] (spAoX L) := by
  have G_Rowlen := ok_Rowlen (P := P) (w := w) (base := base) T
  obtain ⟨tk_MOST_ORDERED, c_MOST_ORDERED⟩ := T.n_MOST_ORDERED
  have G_Rowbreakerlist := ok_Rowbreakerlist (P := P) (w := w) (base := base) T
  have G_Rowsteplength := ok_Rowsteplength (P := P) (w := w) (base := base) T
  have G_roundedup := ok_roundedup (P := P) (w := w) (base := base) T
  have nd := sc_allorders.nd
  refine F.okX sc_allorders (fun vs H Q E h => ?_) (fun cdv A outer S H vs Q E hr h => ?_)
  · obtain ⟨r, B, xs, ts, st, ph, rfl, _⟩ := h
    rfl
  · obtain ⟨r, B, xs, ts, st, ph, rfl, R, l7, k⟩ := h
    refine ⟨_, (pss_cons (ps_if (pt_cmpR op_gt (pe_callB (G_Rowlen.c_len (hr.mono (by decide))) (by rfl) T.b_len PySem.boot_len (pa_cons (pv 0) pa_nil)) (pe_gI c_MOST_ORDERED) (nomark _)) (pss_one (ps_raise rfl (takes_of rfl rfl rfl rfl) (mk_LimitExceeded T (hr.mono (by decide)) rfl (pa_cons (pe_gI c_MOST_ORDERED) pa_nil)))) pss_nil)
       (pss_cons (ps_set (i := 1) nd rfl (Or.inr rfl) (pe_lc (own := [("breaker", 4)]) (g := gName 4) (tt := tYes) rfl nd (pi_list (G_Rowbreakerlist.p_m0 T.cf_Row.cl (hr.mono (by decide)) (pv 0))) (blkOk_by (own := [("breaker", 4)]) (N := N_allorders) (sc := defScope st_all_orders) (by decide +kernel)) (fun _ _ _ _ _ => pg_name (i := 4) nd rfl (Or.inl rfl)) (fun _ _ _ _ _ => pts_nil) (fun _ _ _ _ _ => (pe_ix (r := rIxT K) ix_tup (pv 4) pe_int (fun _ _ => rfl)))))
       (pss_cons (ps_set (i := 2) nd rfl (Or.inl rfl) (pe_lst (pa_cons (pe_tup (pa_cons (G_Rowsteplength.p_m0 T.cf_Row.cl (hr.mono (by decide)) (pv 0)) (pa_cons (pe_lst pa_nil) pa_nil))) pa_nil)))
       (pss_cons (ps_for (passes_of rfl) rfl (pi_range1 rfl T.b_range (pa_cons (pe_callB call_len_seq (by rfl) T.b_len PySem.boot_len (pa_cons (pv 1) pa_nil)) pa_nil)) (pg_name (i := 3) nd rfl (Or.inl rfl)) (pss_one (ps_setLc2 (i := 2) (own := [("period", 5), ("order", 6), ("at", 7), ("wait", 8)]) (vs1 := [7, 8]) (g := gTup K 2 (gCons (gName 5) (gCons (gName 6) (gNil)))) (tt := tYes) (g1 := gTup K 2 (gCons (gName 7) (gCons (gName 8) (gNil)))) (wi1 := iEnum K _) rfl nd rfl rfl (sw_true rfl rfl rfl (by decide +kernel)) (pi_list (pv 2)) (blkOk_by (own := [("period", 5), ("order", 6), ("at", 7), ("wait", 8)]) (N := N_allorders) (sc := defScope st_all_orders) (by decide +kernel)) (by simp) (fun _ _ _ _ _ => pg_tup rfl (pgs_cons (pg_name (i := 5) nd rfl (Or.inl rfl)) (pgs_cons (pg_name (i := 6) nd rfl (Or.inl rfl)) pgs_nil))) (fun _ _ _ _ _ => pts_nil) (fun _ _ _ _ _ => (pi_enum (by rfl) T.b_enumerate (pa_cons (pv 1) pa_nil))) (fun _ _ _ _ _ => pg_tup rfl (pgs_cons (pg_name (i := 7) nd rfl (Or.inl rfl)) (pgs_cons (pg_name (i := 8) nd rfl (Or.inl rfl)) pgs_nil))) (fun _ _ _ _ _ => pts_one (pt_cmpR (op_notInK (K := K) rfl) (pv 7) (pv 6) rfl)) (fun _ _ _ _ _ => (pe_tup (pa_cons (pe_c G_roundedup (hr.mono (by decide)) rfl (pa_cons (pv 8) (pa_cons (pv 5) pa_nil))) (pa_cons (pe_op op_cat (pv 6) (pe_lst (pa_cons (pv 7) pa_nil))) pa_nil)))))))
       (pss_one (ps_ret (pv 2))))))), ?_⟩
    have xl := R.br.len
    have ln := R.ln
    obtain ⟨dr, hr'⟩ := R.ob
    refine ⟨_, rfl, r, dr, _, rfl, hr', r, B, xs, ts, st, ph, rfl, R, _, rfl, by omega, by omega, _, _, rfl, rfl, _, rfl, ?_⟩
    rw [decide_eq_true (show (7 : Int) < (xs.length : Nat) by omega)]
    exact iteT ⟨(by show 1 ≤ 1000; decide), fun e he => raise1 k e he⟩
theorem ok_allorders (T : LX K mg L) : CalX P w K mg base "all_orders" 4 L.f_all_orders ["row"] (spAoX L) := T.d_all_orders.calX fun fd F => fn_allorders T F
end R
theorem ok_checkindex (T : LX K mg L) : CalX P w K mg base "check_index" 3 L.f_check_index ["row", "index"] (fun vs H Q E => spCkIx L.c_Row vs H Q E0 ∨ spCkX L vs H Q E) := T.d_check_index.calX fun fd F => FnOk.orX (Toy.fn_checkindex T F) (R.fn_checkindex T F)
theorem ok_allorders (T : LX K mg L) : CalX P w K mg base "all_orders" 4 L.f_all_orders ["row"] (spAoX L) := T.d_all_orders.calX fun fd F => R.fn_allorders T F
theorem fn_reordered (T : LX K mg L) {fd : FuncData} (F : Fun K "reordered" "reordered" st_reordered L.f_reordered fd) : FnOk P w K mg base (L2.CX P w) 8 L.f_reordered fd ["row", "order"] (spReX L) := by
  have G_rowof := ok_rowof (P := P) (w := w) (base := base) T
  have G_isorder := ok_isorder (P := P) (w := w) (base := base) T
  have G_Rowlen := ok_Rowlen (P := P) (w := w) (base := base) T
  have G_Rowgetitem := ok_Rowgetitem (P := P) (w := w) (base := base) T
  have nd := sc_reordered.nd
  refine F.okX sc_reordered (fun vs H Q E h => ?_) (fun cdv A outer S H vs Q E hr h => ?_)
  · obtain ⟨r, B, xs, ts, st, ph, v, rfl, _⟩ := h
    rfl
  · obtain ⟨r, B, xs, ts, st, ph, v, rfl, R, bad, k⟩ := h
    refine ⟨_, (pss_cons (ps_if (pt_not (pt_val (pe_c (N.ok_isorder (P := P) (w := w) (base := base) T) (hr.mono (by decide)) rfl (pa_cons (pv 1) (pa_cons (pe_callB (G_Rowlen.c_len (hr.mono (by decide))) (by rfl) T.b_len PySem.boot_len (pa_cons (pv 0) pa_nil)) pa_nil))))) (pss_one (ps_raise rfl (takes_of rfl rfl rfl rfl) (mk_InvalidBound T (hr.mono (by decide)) rfl (pa_cons pe_str pa_nil)))) pss_nil)
       (pss_one (ps_ret (pe_c G_rowof (hr.mono (by decide)) rfl (pa_cons (pv 0) (pa_cons (pe_lc (own := [("at", 2)]) (g := gName 2) (tt := tYes) rfl nd (pi_list (pv 1)) (blkOk_by (own := [("at", 2)]) (N := N_reordered) (sc := defScope st_reordered) (by decide +kernel)) (fun _ _ _ _ _ => pg_name (i := 2) nd rfl (Or.inl rfl)) (fun _ _ _ _ _ => pts_nil) (fun _ _ _ _ _ => (G_Rowgetitem.p_ix (hr.mono (by decide)) (pv 0) (pv 2)))) pa_nil)))))), ?_⟩
    obtain ⟨dr, hr'⟩ := R.ob
    have xl := R.br.len
    have ln := R.ln
    refine ⟨_, rfl, _, rfl, r, dr, _, rfl, hr', r, B, xs, ts, st, ph, rfl, R, _, rfl, by omega, by omega, ?_⟩
    rw [xl]
    exact ⟨v, ts.length, rfl, bad, ln, fun H1 s1 => ⟨_, rfl, iteT ⟨(by show 1 ≤ 1000; decide), fun e he => raise1 (fun d H' hd s => k d H' hd (s1.trans s)) e he⟩⟩⟩
theorem ok_reordered (T : LX K mg L) : CalX P w K mg base "reordered" 8 L.f_reordered ["row", "order"] (spReX L) := T.d_reordered.calX fun fd F => fn_reordered T F
theorem fn_without (T : LX K mg L) {fd : FuncData} (F : Fun K "without" "without" st_without L.f_without fd) : FnOk P w K mg base (L2.CX P w) 8 L.f_without fd ["row", "index"] (spCkX L) := by
  have G_Rowbreakerlist := ok_Rowbreakerlist (P := P) (w := w) (base := base) T
  have G_checkindex := ok_checkindex (P := P) (w := w) (base := base) T
  have G_rowof := ok_rowof (P := P) (w := w) (base := base) T
  have nd := sc_without.nd
  refine F.okX sc_without (fun vs H Q E h => ?_) (fun cdv A outer S H vs Q E hr h => ?_)
  · obtain ⟨r, B, xs, ts, st, ph, v, rfl, _⟩ := h
    rfl
  · obtain ⟨r, B, xs, ts, st, ph, v, rfl, R, bad, k⟩ := h
    refine ⟨_, (pss_cons (ps_expr (pe_cX (EX.ok_checkindex (P := P) (w := w) (base := base) T) (hr.mono (by decide)) rfl (fun σ => passAt (takes_of rfl rfl rfl rfl) σ) (pa_cons (pv 0) (pa_cons (pv 1) pa_nil))))
       (pss_cons (ps_set (i := 2) nd rfl (Or.inl rfl) (G_Rowbreakerlist.p_m0 T.cf_Row.cl (hr.mono (by decide)) (pv 0)))
       (pss_one (ps_ret (pe_c G_rowof (hr.mono (by decide)) rfl (pa_cons (pv 0) (pa_cons (pe_op op_cat (pe_slice (r := rSlL K) sl_list (pv 2) po_none (po_some (pv 1))) (pe_slice (r := rSlL K) sl_list (pv 2) (po_some (pe_op op_add (pv 1) pe_int)) po_none)) pa_nil))))))), ?_⟩
    exact ⟨_, rfl, _, rfl, .inr ⟨r, B, xs, ts, st, ph, v, rfl, R, bad, k⟩⟩
theorem ok_without (T : LX K mg L) : CalX P w K mg base "without" 8 L.f_without ["row", "index"] (spCkX L) := T.d_without.calX fun fd F => fn_without T F
theorem fn_bestorder (T : LX K mg L) {fd : FuncData} (F : Fun K "best_order" "best_order" st_best_order L.f_best_order fd) : FnOk P w K mg base (L2.CX P w) 5 L.f_best_order fd ["row"] (spAoX L) := by
  have G_allorders := ok_allorders (P := P) (w := w) (base := base) T
  have nd := sc_bestorder.nd
  refine F.okX sc_bestorder (fun vs H Q E h => ?_) (fun cdv A outer S H vs Q E hr h => ?_)
  · obtain ⟨r, B, xs, ts, st, ph, rfl, _⟩ := h
    rfl
  · obtain ⟨r, B, xs, ts, st, ph, rfl, R, l7, k⟩ := h
    refine ⟨_, (pss_one (ps_ret (pe_callB (call_minD hr.units) (by rfl) T.b_min (by decide +kernel) (pa_cons (pe_cX (EX.ok_allorders (P := P) (w := w) (base := base) T) (hr.mono (by decide)) rfl (fun σ => passAt (takes_of rfl rfl rfl rfl) σ) (pa_cons (pv 0) pa_nil)) pa_nil)))), ?_⟩
    exact ⟨_, rfl, r, B, xs, ts, st, ph, rfl, R, l7, k⟩
theorem ok_bestorder (T : LX K mg L) : CalX P w K mg base "best_order" 5 L.f_best_order ["row"] (spAoX L) := T.d_best_order.calX fun fd F => fn_bestorder T F
theorem fn_worstorder (T : LX K mg L) {fd : FuncData} (F : Fun K "worst_order" "worst_order" st_worst_order L.f_worst_order fd) : FnOk P w K mg base (L2.CX P w) 5 L.f_worst_order fd ["row"] (spAoX L) := by
  have G_allorders := ok_allorders (P := P) (w := w) (base := base) T
  have nd := sc_worstorder.nd
  refine F.okX sc_worstorder (fun vs H Q E h => ?_) (fun cdv A outer S H vs Q E hr h => ?_)
  · obtain ⟨r, B, xs, ts, st, ph, rfl, _⟩ := h
    rfl
  · obtain ⟨r, B, xs, ts, st, ph, rfl, R, l7, k⟩ := h
    refine ⟨_, (pss_cons (ps_set (i := 1) nd rfl (Or.inl rfl) (pe_cX (EX.ok_allorders (P := P) (w := w) (base := base) T) (hr.mono (by decide)) rfl (fun σ => passAt (takes_of rfl rfl rfl rfl) σ) (pa_cons (pv 0) pa_nil)))
       (pss_cons (ps_set (i := 2) nd rfl (Or.inl rfl) (pe_ix (r := rIxL K) ix_list (pv 1) pe_int (fun _ _ => rfl)))
       (pss_cons (ps_for (passes_of rfl) rfl (pi_list (pv 1)) (pg_name (i := 3) nd rfl (Or.inl rfl)) (pss_one (ps_if (pt_cmpR op_gt (pe_ix (r := rIxT K) ix_tup (pv 3) pe_int (fun _ _ => rfl)) (pe_ix (r := rIxT K) ix_tup (pv 2) pe_int (fun _ _ => rfl)) (nomark _)) (pss_one (ps_set (i := 2) nd rfl (Or.inl rfl) (pv 3))) pss_nil)))
       (pss_one (ps_ret (pv 2)))))), ?_⟩
    exact ⟨_, rfl, r, B, xs, ts, st, ph, rfl, R, l7, k⟩
theorem ok_worstorder (T : LX K mg L) : CalX P w K mg base "worst_order" 5 L.f_worst_order ["row"] (spAoX L) := T.d_worst_order.calX fun fd F => fn_worstorder T F
theorem fn_withwait (T : LX K mg L) {fd : FuncData} (F : Fun K "with_wait" "with_wait" st_with_wait L.f_with_wait fd) : FnOk P w K mg base (L2.CX P w) 8 L.f_with_wait fd ["row", "index", "wait"] (spWwX L) := by
  have G_Rowbreakerlist := ok_Rowbreakerlist (P := P) (w := w) (base := base) T
  have G_checkindex := ok_checkindex (P := P) (w := w) (base := base) T
  have G_rowof := ok_rowof (P := P) (w := w) (base := base) T
  have G_iswithin := ok_iswithin (P := P) (w := w) (base := base) T
  obtain ⟨tk_MOST_TIME, c_MOST_TIME⟩ := T.n_MOST_TIME
  have nd := sc_withwait.nd
  refine F.okX sc_withwait (fun vs H Q E h => ?_) (fun cdv A outer S H vs Q E hr h => ?_)
  · obtain ⟨r, B, xs, ts, st, ph, v, x, rfl, _⟩ := h
    rfl
  · obtain ⟨r, B, xs, ts, st, ph, v, x, rfl, R, alt⟩ := h
    refine ⟨_, (pss_cons (ps_expr (pe_cX (EX.ok_checkindex (P := P) (w := w) (base := base) T) (hr.mono (by decide)) rfl (fun σ => passAt (takes_of rfl rfl rfl rfl) σ) (pa_cons (pv 0) (pa_cons (pv 1) pa_nil))))
       (pss_cons (ps_if (pt_not (pt_val (pe_c G_iswithin (hr.mono (by decide)) rfl (pa_cons (pv 2) (pa_cons pe_int (pa_cons (pe_gI c_MOST_TIME) pa_nil)))))) (pss_one (ps_raise rfl (takes_of rfl rfl rfl rfl) (mk_InvalidBound T (hr.mono (by decide)) rfl (pa_cons pe_str pa_nil)))) pss_nil)
       (pss_cons (ps_set (i := 3) nd rfl (Or.inl rfl) (G_Rowbreakerlist.p_m0 T.cf_Row.cl (hr.mono (by decide)) (pv 0)))
       (pss_cons (ps_asg (pe_ix (r := rIxL K) ix_list (pv 3) (pv 1) (fun _ _ => rfl)) (pg_tup rfl (pgs_cons (pg_name (i := 4) nd rfl (Or.inl rfl)) (pgs_cons (pg_name (i := 5) nd rfl (Or.inl rfl)) (pgs_cons (pg_name (i := 6) nd rfl (Or.inl rfl)) pgs_nil)))))
       (pss_cons (ps_asg (pe_tup (pa_cons (pv 4) (pa_cons (pv 2) (pa_cons (pv 6) pa_nil)))) (pg_sub (pv 3) (pv 1) set_list))
       (pss_one (ps_ret (pe_c G_rowof (hr.mono (by decide)) rfl (pa_cons (pv 0) (pa_cons (pv 3) pa_nil)))))))))), ?_⟩
    rcases alt with ⟨bad, k⟩ | ⟨i, rfl, hi, ⟨nm, kd, bad⟩, k⟩
    · exact ⟨_, rfl, _, rfl, .inr ⟨r, B, xs, ts, st, ph, v, rfl, R, bad, k⟩⟩
    · refine ⟨_, rfl, _, rfl, .inl ⟨r, B, xs, ts, st, ph, i, rfl, R, hi, ?_⟩⟩
      refine ⟨_, rfl, _, _, _, _, rfl, kd, _, rfl, ?_⟩
      rw [bad]
      exact iteT ⟨(by show 1 ≤ 1000; decide), fun e he => raise1 k e he⟩
theorem ok_withwait (T : LX K mg L) : CalX P w K mg base "with_wait" 8 L.f_with_wait ["row", "index", "wait"] (spWwX L) := T.d_with_wait.calX fun fd F => fn_withwait T F
namespace R
theorem fn_harmfullowerings (T : LX K mg L) {fd : FuncData} (F : Fun K "harmful_lowerings" "harmful_lowerings" st_harmful_lowerings L.f_harmful_lowerings fd) : FnOk P w K mg base (L2.CX P w) 9 L.f_harmful_lowerings fd ["row", "index"] (spHlX L) := by
  have G_checkindex := ok_checkindex (P := P) (w := w) (base := base) T
  have G_Rowbreakerlist := ok_Rowbreakerlist (P := P) (w := w) (base := base) T
  have G_rowperiod := ok_rowperiod (P := P) (w := w) (base := base) T
  have G_periods := ok_periods (P := P) (w := w) (base := base) T
  obtain ⟨tk_MOST_PERIODS, c_MOST_PERIODS⟩ := T.n_MOST_PERIODS
  have G_periodbehind := ok_periodbehind (P := P) (w := w) (base := base) T
  have nd := sc_harmfullowerings.nd
  refine F.okX sc_harmfullowerings (fun vs H Q E h => ?_) (fun cdv A outer S H vs Q E hr h => ?_)
  · obtain ⟨r, B, xs, ts, st, ph, v, rfl, _⟩ := h
    rfl
  · obtain ⟨r, B, xs, ts, st, ph, v, rfl, R, alt⟩ := h
    refine ⟨_, (pss_cons (ps_expr (pe_cX (EX.ok_checkindex (P := P) (w := w) (base := base) T) (hr.mono (by decide)) rfl (fun σ => passAt (takes_of rfl rfl rfl rfl) σ) (pa_cons (pv 0) (pa_cons (pv 1) pa_nil))))
       (pss_cons (ps_asg (pe_slice (r := rSlL K) sl_list (pe_c G_periods (hr.mono (by decide)) rfl (pa_cons (pv 0) pa_nil)) (po_some (pv 1)) (po_some (pe_op op_add (pv 1) pe_int))) (pg_lst rfl (pgs_cons (pg_name (i := 2) nd rfl (Or.inl rfl)) (pgs_cons (pg_name (i := 3) nd rfl (Or.inl rfl)) pgs_nil))))
       (pss_cons (ps_if (pt_cmpR op_gt (pv 3) (pe_op op_mulW (pe_op op_add (pe_gI c_MOST_PERIODS) pe_int) (pv 2)) (nomark _)) (pss_one (ps_raise rfl (takes_of rfl rfl rfl rfl) (mk_LimitExceeded T (hr.mono (by decide)) rfl (pa_cons (pe_gI c_MOST_PERIODS) pa_nil)))) pss_nil)
       (pss_cons (ps_set (i := 4) nd rfl (Or.inl rfl) (pe_slice (r := rSlL K) sl_list (G_Rowbreakerlist.p_m0 T.cf_Row.cl (hr.mono (by decide)) (pv 0)) (po_some (pe_op op_add (pv 1) pe_int)) po_none))
       (pss_cons (ps_set (i := 5) nd rfl (Or.inl rfl) (pe_c G_rowperiod (hr.mono (by decide)) rfl (pa_cons (pv 0) pa_nil)))
       (pss_cons (ps_set (i := 6) nd rfl (Or.inl rfl) (pe_lst pa_nil))
       (pss_cons (ps_for (passes_of rfl) rfl (pi_range3W rfl T.b_range (pa_cons (pv 2) (pa_cons (pv 3) (pa_cons (pv 2) pa_nil)))) (pg_name (i := 7) nd rfl (Or.inl rfl)) (pss_one (ps_if (pt_cmpR op_gt (pe_c G_periodbehind (hr.mono (by decide)) rfl (pa_cons (pv 7) (pa_cons (pv 4) pa_nil))) (pv 5) (nomark _)) (pss_cons (ps_set (i := 8) nd rfl (Or.inl rfl) (pe_op op_add (pe_op op_sub (pv 7) (pv 2)) pe_int))
       (pss_cons (ps_if (PW.pt (pw_and (pt_truth (pv 6) (fun _ => rfl)) (pw_and1 (pt_cmpR op_eq (pe_op op_add (pe_ix (r := rIxT K) ix_tup (pe_ix (r := rIxL K) ix_list (pv 6) (pe_un un_neg pe_int) (fun _ _ => rfl)) pe_int (fun _ _ => rfl)) pe_int) (pv 8) (nomark _))))) (pss_one (ps_set (i := 8) nd rfl (Or.inl rfl) (pe_ix (r := rIxT K) ix_tup (pe_bm0 PySem.F.plainAttrs_list PySem.F.slot_list_pop PySem.F.type_list_pop mt_pop (pv 6)) pe_int (fun _ _ => rfl)))) pss_nil)
       (pss_one (ps_expr (pe_bm PySem.F.plainAttrs_list PySem.F.slot_list_append PySem.F.type_list_append mt_append (pv 6) (pa_cons (pe_tup (pa_cons (pv 8) (pa_cons (pv 7) pa_nil))) pa_nil)))))) pss_nil)))
       (pss_one (ps_ret (pv 6)))))))))), ?_⟩
    rcases alt with ⟨bad, k⟩ | ⟨i, t, rfl, ht, pB, mB, k⟩
    · exact ⟨_, rfl, _, rfl, .inr ⟨r, B, xs, ts, st, ph, v, rfl, R, bad, k⟩⟩
    have xl := R.br.len
    have ln := R.ln
    have hi := (List.getElem?_eq_some_iff.mp ht).1
    have okt := R.ok t (List.mem_of_getElem? ht)
    obtain ⟨u, hu⟩ : ∃ u, u = perW st (wtsT (ts.take i)) := ⟨_, rfl⟩
    have u1 : 1 ≤ u := by rw [hu]; exact perW_1 R.s0 fun w hw => (wts_ok (fun b hb => R.ok b (List.mem_of_mem_take hb)) w hw).1
    rw [← hu] at pB mB
    obtain ⟨m, hm⟩ : ∃ m, m = stepsUp t.2.1 u := ⟨_, rfl⟩
    obtain ⟨m1, r1, r2, r3, _⟩ := rup_is okt.2.2.1 u1
    have eown : rupI t.2.1 u = m * u := by rw [hm]; rfl
    rw [← hm] at m1 mB
    rw [eown] at pB r1 r2 r3
    refine ⟨_, rfl, _, rfl, .inl ⟨r, B, xs, ts, st, ph, i, rfl, R, hi, ?_⟩⟩
    refine ⟨_, rfl, r, B, xs, ts, st, ph, rfl, R, fun lp H1 hlp s1 np => ⟨_, rfl, (i : Int), rfl, _, rfl, _, _, rfl, rfl, (i : Int) + 2, rfl, lp, _, rfl, SqL.of hlp, fun l1 hl1 => ?_⟩⟩
    have g1 : ((List.range (ts.length + 1)).map fun i => V.int (perW st (wtsT (ts.take i))))[i]? = some (.int u) := by
      rw [List.getElem?_map, List.getElem?_range (by omega), hu]
      rfl
    have g2 : ((List.range (ts.length + 1)).map fun i => V.int (perW st (wtsT (ts.take i))))[i + 1]? = some (.int (m * u)) := by
      rw [List.getElem?_map, List.getElem?_range (by omega)]
      show some (V.int (perW st (wtsT (ts.take (i + 1))))) = _
      rw [List.take_add_one, ht, ← eown]
      unfold wtsT
      show some (V.int (perW st ((ts.take i ++ [t]).map _))) = _
      rw [List.map_append, perW_app, hu]
      rfl
    rw [cut_two g1 g2]
    have s2 := Same.upd (o := .lst [.int u, .int (m * u)]) hl1
    refine ⟨l1, _, rfl, SqL.of upd_same, rfl, _, _, rfl, _, _, rfl, rfl, ?_⟩
    generalize upd H1 l1 (.lst [.int u, .int (m * u)]) = H2 at s2 ⊢
    have s02 := s1.trans s2
    -- the limit
    have cm : CMulW 2001 u := by
      have eB : PdB = 13000000000000000000000000000000 := rfl
      have bb := pd_bb
      exact mulBB (by decide) (by have := BB0; omega) (by omega) (by omega)
    have nl : (2000 + 1) * u < m * u := by
      have := Int.mul_le_mul_of_nonneg_right (show 2002 ≤ m by omega) (show 0 ≤ u by omega)
      omega
    exact ⟨_, rfl, _, _, rfl, rfl, _, rfl, _, _, rfl, rfl, cm, _, _, rfl, rfl, _, congrArg V.bl (decide_eq_true nl), iteT ⟨(by show 1 ≤ 1000; decide), fun e he => raise1 (fun d H' hd s => k d H' hd (s02.trans s)) e he⟩⟩
theorem ok_harmfullowerings (T : LX K mg L) : CalX P w K mg base "harmful_lowerings" 9 L.f_harmful_lowerings ["row", "index"] (spHlX L) := T.d_harmful_lowerings.calX fun fd F => fn_harmfullowerings T F
theorem fn_bestraise (T : LX K mg L) {fd : FuncData} (F : Fun K "best_raise" "best_raise" st_best_raise L.f_best_raise fd) : FnOk P w K mg base (L2.CX P w) 9 L.f_best_raise fd ["row", "index", "most"] (spBrX L) := by
  have G_checkindex := ok_checkindex (P := P) (w := w) (base := base) T
  have G_Rowgetitem := ok_Rowgetitem (P := P) (w := w) (base := base) T
  have G_roundedup := ok_roundedup (P := P) (w := w) (base := base) T
  have G_Rowbreakerlist := ok_Rowbreakerlist (P := P) (w := w) (base := base) T
  have G_iswithin := ok_iswithin (P := P) (w := w) (base := base) T
  obtain ⟨tk_MOST_TIME, c_MOST_TIME⟩ := T.n_MOST_TIME
  have G_periods := ok_periods (P := P) (w := w) (base := base) T
  obtain ⟨tk_MOST_PERIODS, c_MOST_PERIODS⟩ := T.n_MOST_PERIODS
  have G_periodbehind := ok_periodbehind (P := P) (w := w) (base := base) T
  have nd := sc_bestraise.nd
  refine F.okX sc_bestraise (fun vs H Q E h => ?_) (fun cdv A outer S H vs Q E hr h => ?_)
  · obtain ⟨r, B, xs, ts, st, ph, v, x, rfl, _⟩ := h
    rfl
  · obtain ⟨r, B, xs, ts, st, ph, v, x, rfl, R, alt⟩ := h
    refine ⟨_, (pss_cons (ps_expr (pe_cX (EX.ok_checkindex (P := P) (w := w) (base := base) T) (hr.mono (by decide)) rfl (fun σ => passAt (takes_of rfl rfl rfl rfl) σ) (pa_cons (pv 0) (pa_cons (pv 1) pa_nil))))
       (pss_cons (ps_set (i := 3) nd rfl (Or.inl rfl) (pe_ix (r := rIxT K) ix_tup (G_Rowgetitem.p_ix (hr.mono (by decide)) (pv 0) (pv 1)) pe_int (fun _ _ => rfl)))
       (pss_cons (ps_if (pt_not (pt_val (pe_c G_iswithin (hr.mono (by decide)) rfl (pa_cons (pv 2) (pa_cons (pv 3) (pa_cons (pe_gI c_MOST_TIME) pa_nil)))))) (pss_one (ps_raise rfl (takes_of rfl rfl rfl rfl) (mk_InvalidBound T (hr.mono (by decide)) rfl (pa_cons pe_str pa_nil)))) pss_nil)
       (pss_cons (ps_asg (pe_slice (r := rSlL K) sl_list (pe_c G_periods (hr.mono (by decide)) rfl (pa_cons (pv 0) pa_nil)) (po_some (pv 1)) (po_some (pe_op op_add (pv 1) pe_int))) (pg_lst rfl (pgs_cons (pg_name (i := 4) nd rfl (Or.inl rfl)) (pgs_cons (pg_name (i := 5) nd rfl (Or.inl rfl)) pgs_nil))))
       (pss_cons (ps_set (i := 6) nd rfl (Or.inl rfl) (pe_c G_roundedup (hr.mono (by decide)) rfl (pa_cons (pv 2) (pa_cons (pv 4) pa_nil))))
       (pss_cons (ps_if (pt_cmpR op_gt (pe_op op_sub (pv 6) (pv 5)) (pe_op op_mulW (pe_gI c_MOST_PERIODS) (pv 4)) (nomark _)) (pss_one (ps_raise rfl (takes_of rfl rfl rfl rfl) (mk_LimitExceeded T (hr.mono (by decide)) rfl (pa_cons (pe_gI c_MOST_PERIODS) pa_nil)))) pss_nil)
       (pss_cons (ps_set (i := 7) nd rfl (Or.inl rfl) (pe_slice (r := rSlL K) sl_list (G_Rowbreakerlist.p_m0 T.cf_Row.cl (hr.mono (by decide)) (pv 0)) (po_some (pe_op op_add (pv 1) pe_int)) po_none))
       (pss_cons (ps_set (i := 8) nd rfl (Or.inl rfl) (pe_lst (pa_cons (pe_tup (pa_cons (pe_c G_periodbehind (hr.mono (by decide)) rfl (pa_cons (pv 5) (pa_cons (pv 7) pa_nil))) (pa_cons (pv 3) pa_nil))) pa_nil)))
       (pss_cons (ps_for (passes_of rfl) rfl (pi_range3W rfl T.b_range (pa_cons (pe_op op_add (pv 5) (pv 4)) (pa_cons (pe_op op_add (pv 6) pe_int) (pa_cons (pv 4) pa_nil)))) (pg_name (i := 9) nd rfl (Or.inl rfl)) (pss_one (ps_expr (pe_bm PySem.F.plainAttrs_list PySem.F.slot_list_append PySem.F.type_list_append mt_append (pv 8) (pa_cons (pe_tup (pa_cons (pe_c G_periodbehind (hr.mono (by decide)) rfl (pa_cons (pv 9) (pa_cons (pv 7) pa_nil))) (pa_cons (pe_op op_add (pe_op op_sub (pv 9) (pv 4)) pe_int) pa_nil))) pa_nil)))))
       (pss_one (ps_ret (pe_callB (call_minD hr.units) (by rfl) T.b_min (by decide +kernel) (pa_cons (pv 8) pa_nil))))))))))))), ?_⟩
    rcases alt with ⟨bad, k⟩ | ⟨i, t, rfl, ht, alt⟩
    · exact ⟨_, rfl, _, rfl, .inr ⟨r, B, xs, ts, st, ph, v, rfl, R, bad, k⟩⟩
    have xl := R.br.len
    have ln := R.ln
    have hi := (List.getElem?_eq_some_iff.mp ht).1
    have okt := R.ok t (List.mem_of_getElem? ht)
    obtain ⟨dr, hr'⟩ := R.ob
    refine ⟨_, rfl, _, rfl, .inl ⟨r, B, xs, ts, st, ph, i, rfl, R, hi, ?_⟩⟩
    -- the wait
    obtain ⟨y, hy⟩ : ∃ y, xs[i]? = some y := ⟨_, List.getElem?_eq_getElem (by omega)⟩
    obtain ⟨t', ht', c, rfl, hc⟩ := paired_get R.br hy
    rw [ht] at ht'
    cases ht'
    refine ⟨_, rfl, _, rfl, r, dr, _, rfl, hr', r, B, xs, ts, st, ph, (i : Int), .ref c, rfl, R, by omega, atI_nat hy, by omega, c, _, 1, .int t.2.1, rfl, rfl, SqT.of hc, rfl, ?_⟩
    rcases alt with ⟨⟨nm, kd, bad⟩, k⟩ | ⟨most, rfl, w1, w2, pB, lt, k⟩
    · refine ⟨_, rfl, _, rfl, _, _, _, _, rfl, kd, _, rfl, ?_⟩
      rw [bad]
      exact iteT ⟨(by show 1 ≤ 1000; decide), fun e he => raise1 k e he⟩
    obtain ⟨u, hu⟩ : ∃ u, u = perW st (wtsT (ts.take i)) := ⟨_, rfl⟩
    have u1 : 1 ≤ u := by rw [hu]; exact perW_1 R.s0 fun w hw => (wts_ok (fun b hb => R.ok b (List.mem_of_mem_take hb)) w hw).1
    rw [← hu] at pB lt
    obtain ⟨own, ho⟩ : ∃ own, own = rupI t.2.1 u := ⟨_, rfl⟩
    obtain ⟨m1, r1, r2, r3, _⟩ := rup_is okt.2.2.1 u1
    rw [← ho] at pB lt r1 r2 r3
    have eB : PdB = 13000000000000000000000000000000 := rfl
    have bb := pd_bb
    refine ⟨_, rfl, _, rfl, _, _, _, _, rfl, .int _, _, rfl, ?_⟩
    show if (!(decide (t.2.1 ≤ most) && decide (most ≤ 1000000000000000000000000000000))) = true then _ else _
    rw [k6_pos w1 w2]
    refine iteF ?_
    refine ⟨_, rfl, r, B, xs, ts, st, ph, rfl, R, fun lp H1 hlp s1 np => ⟨_, rfl, (i : Int), rfl, _, rfl, _, _, rfl, rfl, (i : Int) + 2, rfl, lp, _, rfl, SqL.of hlp, fun l1 hl1 => ?_⟩⟩
    have g1 : ((List.range (ts.length + 1)).map fun i => V.int (perW st (wtsT (ts.take i))))[i]? = some (.int u) := by
      rw [List.getElem?_map, List.getElem?_range (by omega), hu]
      rfl
    have g2 : ((List.range (ts.length + 1)).map fun i => V.int (perW st (wtsT (ts.take i))))[i + 1]? = some (.int own) := by
      rw [List.getElem?_map, List.getElem?_range (by omega)]
      show some (V.int (perW st (wtsT (ts.take (i + 1))))) = _
      rw [List.take_add_one, ht, ho]
      unfold wtsT
      show some (V.int (perW st ((ts.take i ++ [t]).map _))) = _
      rw [List.map_append, perW_app, hu]
      rfl
    rw [cut_two g1 g2]
    have s2 := Same.upd (o := .lst [.int u, .int own]) hl1
    refine ⟨l1, _, rfl, SqL.of upd_same, rfl, _, _, rfl, _, _, rfl, rfl, ?_⟩
    generalize upd H1 l1 (.lst [.int u, .int own]) = H2 at s2 ⊢
    have s02 := s1.trans s2
    -- the top
    obtain ⟨a1, a2, a3⟩ := rup_ask (show 1 ≤ most by have := okt.2.2.1; omega) (show most ≤ PdB by omega) u1 (show u ≤ PdB by omega)
    refine ⟨_, rfl, _, rfl, most, u, rfl, a1, a2, a3, ?_⟩
    have lt : 2000 * u < stepsUp most u * u - own := lt
    have cm : CMulW 2000 u := mulBB (by decide) (by have := BB0; omega) (by omega) (by omega)
    exact ⟨_, rfl, _, rfl, _, _, rfl, rfl, _, rfl, _, _, rfl, rfl, cm, _, _, rfl, rfl, _, congrArg V.bl (decide_eq_true lt), iteT ⟨(by show 1 ≤ 1000; decide), fun e he => raise1 (fun d H' hd s => k d H' hd (s02.trans s)) e he⟩⟩
theorem ok_bestraise (T : LX K mg L) : CalX P w K mg base "best_raise" 9 L.f_best_raise ["row", "index", "most"] (spBrX L) := T.d_best_raise.calX fun fd F => fn_bestraise T F
end R
theorem ok_harmfullowerings (T : LX K mg L) : CalX P w K mg base "harmful_lowerings" 9 L.f_harmful_lowerings ["row", "index"] (fun vs H Q E => spHL L.c_Row vs H Q E0 ∨ spHlX L vs H Q E) := T.d_harmful_lowerings.calX fun fd F => FnOk.orX (Toy.fn_harmfullowerings T F) (R.fn_harmfullowerings T F)
theorem ok_bestraise (T : LX K mg L) : CalX P w K mg base "best_raise" 9 L.f_best_raise ["row", "index", "most"] (fun vs H Q E => spBR L.c_Row vs H Q E0 ∨ spBrX L vs H Q E) := T.d_best_raise.calX fun fd F => FnOk.orX (Toy.fn_bestraise T F) (R.fn_bestraise T F)
end
end EX
/-! ### .. whose element and tests know it -/
namespace LcT
open PySem PySem.Spec PyProof.Rows L2
/-- the element's promise in the block that is entered at s, H -/
abbrev ElK (X : Cx) (pins : List (Addr × Obj)) (σ : L2.St) (scope : Scope) (elt : Expr) (te : TE) : Prop := ∀ (s : Shared) (H : Hp) (C : Addr) (cl : List (Str × Addr)) (fp : List Addr), Inv X pins σ H s → (∀ b ∈ fp, FpOk X pins H b) → PE (X.blk s H scope (compEnvC scope cl C X.env) fp) elt te
abbrev ElT (X : Cx) (pins : List (Addr × Obj)) (σ : L2.St) (scope : Scope) (tests : List Expr) (tt : TT) : Prop := ∀ (s : Shared) (H : Hp) (C : Addr) (cl : List (Str × Addr)) (fp : List Addr), Inv X pins σ H s → (∀ b ∈ fp, FpOk X pins H b) → PTs (X.blk s H scope (compEnvC scope cl C X.env) fp) tests tt
variable {X : Cx}
theorem lc_coreT {pins : List (Addr × Obj)} {sh : Shared} {σ : L2.St} {H : Hp} {Q : VK} {elt tg src : Expr} {tests : List Expr} {scope : Scope} {own : List (Str × Nat)} {pos pos' : Pos} {wi : TI} {g : TG} {tt : TT} {te : TE} {use : Option (Value → Sem Unit)} {Qf : Value → Shared → Prop}
    (calm : X.calm = true) (nd : X.N.Nodup) (I : Inv X pins σ H sh) (hi : PI X tg src wi) (blk : BlkOk X.N X.env.scope scope own)
    (hg : ∀ (s : Shared) (H : Hp) (C : Addr) (cl : List (Str × Addr)) (fp : List Addr), PG (X.blk s H scope (compEnvC scope cl C X.env) fp) tg g)
    (ht : ElT X pins σ scope tests tt)
    (he : ElK X pins σ scope elt te) (plain : ∀ x, foldedSetIterable src X.env x = pure x) (ask : tLc wi g tt te (own.map (·.2)) σ H Q)
    (back : ∀ D C s' m H', Inv X pins σ H' s' → Q (.ref D) H' → s'.heap.Ns C m → FpOk X pins H' C → compPost (model X.prog X.w) X.A X.xe use Qf (.ref D) C (.ok .next) s') :
    wpAny (model X.prog X.w) X.A (comprehension (.ListComp elt [⟨tg, src, tests, 0⟩] scope pos) scope X.env pos' (newList []) false (eval src X.env) use) Qf X.xe sh := by
  have closed : ∀ y ∈ scope.names, y.2 = .free → ∃ c, X.env.cells.lookup y.1 = some c := fun y m k => I.ok.has _ (blk.free y m k)
  refine wpAny_comprehension_free (use := use) rfl plain (closure_ok closed) blk.kind (fun y m k => by rw [blk.uniq y m, k]) (thn (hi.run pins sh σ H _ I ask) fun v1 s1 h1 => thn h1 fun v2 s2 h2 => ?_)
  obtain ⟨it, fp, tn, J, Hi, rfl, Ii, T, at0, fpo, q⟩ := h2
  refine wpAny_newObj_type (newEnv_comp ?_) (by show 0 ≤ sizeLine; decide)
  -- the list that grows
  obtain ⟨D, hD⟩ : ∃ D, D = s2.heap.objs.size := ⟨_, rfl⟩
  rw [← hD]
  have fresh : Hi D = none := Ii.hok.fresh (Nat.le_of_eq hD.symm)
  obtain ⟨W, ⟨m0, w0⟩, turn⟩ := q D fresh
  obtain ⟨sl, hsl⟩ : ∃ sl : Shared, sl = { s2 with heap := s2.heap.push { cls := .type "list", data := .seq ([] : List Value).toArray } } := ⟨_, rfl⟩
  have heapl : sl.heap = s2.heap.push { cls := .type "list", data := .seq ([] : List Value).toArray } := by rw [hsl]
  obtain ⟨Hl, hHl⟩ : ∃ Hl, Hl = upd Hi D (.lst []) := ⟨_, rfl⟩
  have Il : Inv X pins σ Hl sl := by
    rw [hsl, hHl]
    exact Ii.laid (t' := s2.toks) (fun b o e => Heap.get?_push_of_some _ e) (Nat.le_of_eq hD.symm) ⟨Nat.zero_le _, [], 0, .nil, by rw [hD]; exact Heap.get?_push_size _ rfl⟩
  have below : ∀ b ∈ fp, b < s2.heap.objs.size := fun b m => by
    obtain ⟨o, e, _⟩ := T.obj _ _ at0 b m
    exact Heap.lt_size e
  have fpl : ∀ b ∈ fp, FpOk X pins Hl b ∧ b < sl.heap.objs.size := fun b m => by
    have lt := below b m
    refine ⟨⟨?_, (fpo b m).2⟩, by rw [heapl, Heap.size_push]; exact Nat.lt_succ_of_lt lt⟩
    rw [hHl, upd_ne (by rw [hD]; exact Nat.ne_of_lt lt)]
    exact (fpo b m).1
  have atl : tn 0 sl.heap := T.keep _ _ _ at0 fun b _ o e => by rw [heapl]; exact Heap.get?_push_of_some _ e
  have Ib := block_start Il blk nd fpl
  have pe := he sl Hl sl.heap.objs.size (cellsFrom (sl.heap.objs.size + 1) scope.names (cloFrom X.env.cells scope.names [])) fp Il fun b m => (fpl b m).1
  have pg := hg sl Hl sl.heap.objs.size (cellsFrom (sl.heap.objs.size + 1) scope.names (cloFrom X.env.cells scope.names [])) fp
  have pt := ht sl Hl sl.heap.objs.size (cellsFrom (sl.heap.objs.size + 1) scope.names (cloFrom X.env.cells scope.names [])) fp Il fun b m => (fpl b m).1
  rw [← hsl]
  show codeAny _ _ (.compStart (.ListComp elt [⟨tg, src, tests, 0⟩] scope pos) 0 (.ref it) (.ref D) (compEnvC scope (cellsFrom (sl.heap.objs.size + 1) scope.names (cloFrom X.env.cells scope.names [])) sl.heap.objs.size X.env)) (compPost (model X.prog X.w) X.A X.xe use Qf (.ref D) sl.heap.objs.size) { sl with heap := pushCells (sl.heap.push { cls := .type "dict", data := .dict #[] }) scope.names }
  have nfp : ∀ b ∈ fp, Hl b = none := fun b m => (fpl b m).1.1
  rw [← hHl] at w0
  obtain ⟨ce, hce⟩ : ∃ ce, ce = compEnvC scope (cellsFrom (sl.heap.objs.size + 1) scope.names (cloFrom X.env.cells scope.names [])) sl.heap.objs.size X.env := ⟨_, rfl⟩
  rw [← hce] at Ib pe pg pt ⊢
  have cel : ce.locals = sl.heap.objs.size := by rw [hce]; rfl
  obtain ⟨sb, hsb⟩ : ∃ sb : Shared, sb = { sl with heap := pushCells (sl.heap.push { cls := .type "dict", data := .dict #[] }) scope.names } := ⟨_, rfl⟩
  rw [← hsb] at Ib ⊢
  have atb : tn 0 sb.heap := T.keep _ _ _ atl fun b _ o e => by rw [hsb]; exact pushCells_keeps _ _ _ _ (Heap.get?_push_of_some _ e)
  have calmB : ∀ {σ' : L2.St} {H' : Hp} {s' : Shared}, Inv (X.blk sl Hl scope ce fp) [] σ' H' s' → (∀ b ∈ fp, H' b = none) → ∀ b ∈ fp, FpOk (X.blk sl Hl scope ce fp) [] H' b := fun {σ' H' s'} J' hn b m =>
    ⟨hn b m, (J'.ok.exf b m).1, J'.ok.exfs b m, .inl m, fun x c e => (J'.ok.exf b m).2 x c e, fun p hp => absurd (show p ∈ ([] : List (Addr × Obj)) ++ [] from hp) (by simp)⟩
  refine codeAny_compStart_list (?_ : codeAny (model X.prog X.w) X.A (.compLoop (.ListComp elt [⟨tg, src, tests, 0⟩] scope pos) 0 (.ref it) (.ref D) ce) (compPost (model X.prog X.w) X.A X.xe use Qf (.ref D) sl.heap.objs.size) sb) (T.self X.A 0 _ _ _ atb ?_)
  all_goals
    refine compLoop_any (fun n s' => ∃ i H', Inv (X.blk sl Hl scope ce fp) [] (wipe σ (own.map (·.2))) H' s' ∧ tn i s'.heap ∧ (∀ b ∈ fp, H' b = none) ∧ W i n H') ?_ m0 ⟨0, Hl, Ib, atb, nfp, w0⟩
    rintro n s5 ⟨i, H5, I5, at5, n5, w5⟩
    rcases turn i n H5 w5 with ⟨stop, qq⟩ | ⟨go, Nx, nxt, step⟩
    · refine thnF (T.done (X.blk sl Hl scope ce fp) rfl rfl rfl calm i [] s5 _ H5 (fun _ _ => False) I5 (calmB I5 n5) at5 stop) fun r s6 ⟨er, I6⟩ => ?_
      subst er
      have I7 : Inv X pins σ H5 s6 := Il.call' (ch := fp) I6.os I6.base I6.hok I6.bare fun b m => ⟨(fpl b m).1.2.2.2.1, (fpl b m).1.2.1, (fpl b m).1.2.2.2.2.1, (fpl b m).1.2.2.2.2.2⟩
      have nC : H5 sl.heap.objs.size = none := cel ▸ I6.free
      obtain ⟨m, hn, _⟩ := I6.loc
      have hn : s6.heap.Ns ce.locals m := hn
      rw [cel] at hn
      exact back D sl.heap.objs.size s6 m H5 I7 qq hn (Il.fpOk (Nat.le_refl _) nC)
    · refine thnF (T.item (X.blk sl Hl scope ce fp) rfl rfl rfl calm i [] s5 _ H5 (fun _ _ => False) I5 (calmB I5 n5) at5 go) fun r s6 ⟨u, er, h6⟩ => ?_
      subst er
      refine thnF h6 fun _ s7 ⟨x, H7, I7, r7, y7, at7, n7⟩ => ?_
      refine thnF (pg.run _ s7 _ H7 x u _ (I7.pinned (calmB I7 n7) (T.obj _ _ at7)) r7 (step x H7 y7)) fun _ s8 ⟨σ8, H8, I8, ew, q8⟩ => ?_
      refine thnF (pt.run _ s8 σ8 H8 _ I8 q8) fun b s9 ⟨H9, I9, q9⟩ => ?_
      have turned : ∀ {s' : Shared} {H' : Hp}, Inv (X.blk sl Hl scope ce fp) ([] ++ pinsAt fp s7.heap) σ8 H' s' → Nx H' → ∃ m, m < n ∧ ∃ i H', Inv (X.blk sl Hl scope ce fp) [] (wipe σ (own.map (·.2))) H' s' ∧ tn i s'.heap ∧ (∀ b ∈ fp, H' b = none) ∧ W i m H' := fun {s' H'} J' nx => by
        obtain ⟨m', lt, w'⟩ := nxt H' nx
        have kept : ∀ b ∈ fp, ∀ o, s7.heap.get? b = some o → s'.heap.get? b = some o ∧ H' b = none := fun b m o e =>
          let z := J'.pin (b, o) (List.mem_append_right _ (List.mem_append_right _ (mem_pinsAt m e)))
          ⟨z.1, z.2.1⟩
        refine ⟨m', lt, i + 1, H', (J'.unpinned (pins := [])).weak (by rw [← ew, wipe_length]) (fun j v e => ?_), T.keep _ _ _ at7 fun b m o e => (kept b m o e).1, fun b m => ?_, w'⟩
        · rw [← ew] at e
          exact (wipe_some e).1
        · obtain ⟨o, e, _⟩ := T.obj _ _ at7 b m
          exact (kept b m o e).2
      cases b with
      | false =>
        simp only [Bool.false_eq_true, if_false] at q9 ⊢
        exact turned I9 q9
      | true =>
        simp only [if_true] at q9 ⊢
        refine thnF (pe.run _ s9 σ8 H9 _ I9 q9) fun z s10 ⟨yv, H10, I10, r10, ac, hD10, hz10, nx⟩ => ?_
        exact app_ok (X := X.blk sl Hl scope ce fp) I10 hD10 hz10 r10 fun s11 I11 => turned I11 nx
/-- .. as a value; what the element asks may go by the def's variables at the entry -/
def tLcT (wi : TI) (g : TG) (tt : L2.St → TT) (te : L2.St → TE) (vs : List Nat) : TE := fun σ H Q => tLc wi g (tt σ) (te σ) vs σ H Q
theorem pe_lcT {elt tg src : Expr} {tests : List Expr} {scope : Scope} {own : List (Str × Nat)} {pos : Pos} {wi : TI} {g : TG} {tt : L2.St → TT} {te : L2.St → TE} (calm : X.calm = true) (nd : X.N.Nodup) (hi : PI X tg src wi) (blk : BlkOk X.N X.env.scope scope own)
    (hg : ∀ (s : Shared) (H : Hp) (C : Addr) (cl : List (Str × Addr)) (fp : List Addr), PG (X.blk s H scope (compEnvC scope cl C X.env) fp) tg g)
    (ht : ∀ (pins : List (Addr × Obj)) (σ : L2.St), ElT X pins σ scope tests (tt σ))
    (he : ∀ (pins : List (Addr × Obj)) (σ : L2.St), ElK X pins σ scope elt (te σ)) (plain : ∀ x, foldedSetIterable src X.env x = pure x := by intro _; rfl) : PE X (.ListComp elt [⟨tg, src, tests, 0⟩] scope pos) (tLcT wi g tt te (own.map (·.2))) := by
  refine ⟨fun pins s σ H Q I ask => ?_⟩
  rw [eval_ListComp]
  refine lc_coreT calm nd I hi blk hg (ht pins σ) (he pins σ) plain ask fun D C s' m H' I' q hn f => ⟨m, hn, fun h2 keep => ?_⟩
  obtain ⟨f0, f1, f2, f3, f4, f5⟩ := f
  exact ⟨.ref D, H', I'.turned (t' := s'.toks) (fun b o nb e => (keep.2 b nb).trans e) f0 f1 f3 f4 f5, rfl, q⟩
end LcT
/-! ### k41: the ranges that are due -/
def spDue : Sp := fun vs H Q _ => ∃ (u last : Int) (m : Nat), vs = [.int u, .int last, .int (m : Int)] ∧ 1 ≤ u ∧ u ≤ 10000 ∧ 1 ≤ last ∧ last ≤ 1000000000 ∧ 2 ≤ m ∧ m ≤ 40 ∧
  ∀ l ws H', H' l = some (.lst ws) → Paired (PrI H') ws (Bg (fun p => decide (rupI last p > rupI last (u * m))) u (m - 1)) → Same H H' → H l = none → Q (.ref l) H'
section
variable {P : Program} {w : World} {K : PySem.W.Frag} {mg : Str → Option Value} {base : Heap} {L : LA}
abbrev N_wdueranges : List Str := ["_law_unit", "_law_last", "_law_many", "_law_found", "_law_whole", "_law_now", "_law_k", "_law_low"]
theorem sc_wdueranges : FnScope N_wdueranges ["_law_unit", "_law_last", "_law_many"] (defScope st__law_due_ranges) := ⟨rfl, rfl, rfl, by decide +kernel, rfl, by decide +kernel, by decide +kernel⟩
theorem fn_wdueranges (T : LX K mg L) {fd : FuncData} (F : Fun K "_law_due_ranges" "_law_due_ranges" st__law_due_ranges L.f__law_due_ranges fd) : FnOk P w K mg base CX0 1 L.f__law_due_ranges fd ["_law_unit", "_law_last", "_law_many"] (spDue) := by
  have nd := sc_wdueranges.nd
  refine F.ok sc_wdueranges (fun vs H Q E h => ?_) (fun cdv A outer S H vs Q E hr h => ?_)
  · obtain ⟨u, last, m, rfl, _⟩ := h
    rfl
  · obtain ⟨u, last, m, rfl, u0, u1, a0, a1, m0, m1, k⟩ := h
    refine ⟨_, (pss_cons (ps_par (i := 3) (j := 4) (by rfl) nd rfl rfl (by decide) rfl rfl (pa_cons (pe_lst pa_nil) (pa_cons (pe_op op_mulW (pv 0) (pv 2)) pa_nil)) (by rfl))
       (pss_cons (ps_set (i := 5) nd rfl (Or.inl rfl) (pe_op op_mulW (pe_op op_fdivW (pe_op op_sub (pe_op op_add (pv 1) (pv 4)) pe_int) (pv 4)) (pv 4)))
       (pss_cons (ps_for PassesOwn.never rfl (pi_range2 rfl T.b_range (pa_cons pe_int (pa_cons (pv 2) pa_nil))) (pg_name (i := 6) nd rfl (Or.inl rfl)) (pss_one (ps_if (pt_cmpR op_gt (pe_op op_mulW (pe_op op_mulW (pe_op op_fdivW (pe_op op_sub (pe_op op_add (pv 1) (pe_op op_mulW (pv 0) (pv 6))) pe_int) (pe_op op_mulW (pv 0) (pv 6))) (pv 0)) (pv 6)) (pv 5) (nomark _)) (pss_cons (ps_set (i := 7) nd rfl (Or.inl rfl) (pe_op op_add (pe_op op_mulW (pv 0) (pe_op op_sub (pv 6) pe_int)) pe_int))
       (pss_cons (ps_if (PW.pt (pw_and (pt_cmpR (op_neD hr.units) (pv 3) (pe_lst pa_nil) (nomark _)) (pw_and1 (pt_cmpR op_eq (pe_ix (r := rIxT K) ix_tup (pe_ix (r := rIxL K) ix_list (pv 3) (pe_un un_neg pe_int) (fun _ _ => rfl)) pe_int (fun _ _ => rfl)) (pe_op op_sub (pv 7) pe_int) (nomark _))))) (pss_one (ps_set (i := 7) nd rfl (Or.inl rfl) (pe_ix (r := rIxT K) ix_tup (pe_bm0 PySem.F.plainAttrs_list PySem.F.slot_list_pop PySem.F.type_list_pop mt_pop (pv 3)) pe_int (fun _ _ => rfl)))) pss_nil)
       (pss_one (ps_expr (pe_bm PySem.F.plainAttrs_list PySem.F.slot_list_append PySem.F.type_list_append mt_append (pv 3) (pa_cons (pe_tup (pa_cons (pv 7) (pa_cons (pe_op op_mulW (pv 0) (pv 6)) pa_nil))) pa_nil)))))) pss_nil)))
       (pss_one (ps_ret (pv 3)))))), ?_⟩
    have eB : PdB = 13000000000000000000000000000000 := rfl
    have bb := pd_bb
    have um1 : u * m ≤ 10000 * 40 := Int.mul_le_mul u1 (show (m : Int) ≤ 40 by omega) (by omega) (by omega)
    have um0 : 1 * 2 ≤ u * m := Int.mul_le_mul u0 (show (2 : Int) ≤ m by omega) (by omega) (by omega)
    refine ⟨(by show 0 ≤ sizeLine; decide), fun lf nlf => ?_⟩
    have s0 := Same.upd (o := .lst []) nlf
    have g0 : upd H lf (.lst []) lf = some (.lst []) := upd_same
    generalize upd H lf (.lst []) = H1 at s0 g0 ⊢
    refine ⟨_, rfl, _, rfl, _, _, rfl, rfl, mulBB (by omega) (by omega) (by omega) (by omega), ?_⟩
    refine ⟨_, _, rfl, ?_⟩
    have n0 : (last + u * m - 1) / (u * m) * (u * m) = rupI last (u * m) := rup_div a0 (by omega)
    obtain ⟨_, r1, r2, r3, _⟩ := rup_is a0 (show 1 ≤ u * m by omega)
    have d0 : 0 ≤ (last + u * m - 1) / (u * m) ∧ (last + u * m - 1) / (u * m) ≤ last + u * m - 1 := ⟨Int.ediv_nonneg (by omega) (by omega), Int.ediv_le_self _ (by omega)⟩
    refine ⟨_, rfl, _, rfl, _, _, rfl, rfl, _, _, rfl, rfl, _, rfl, _, _, rfl, rfl, ⟨by omega, divBB (by omega) (by omega)⟩, _, rfl, _, _, rfl, rfl, mulBB (by omega) (by omega) (by omega) (by omega), ?_⟩
    show gName 5 (.int ((last + u * m - 1) / (u * m) * (u * m))) _ _ _
    rw [n0]
    obtain ⟨now, hnow⟩ : ∃ now, now = rupI last (u * m) := ⟨_, rfl⟩
    rw [← hnow] at r1 r2 r3 ⊢
    obtain ⟨hb, ehb⟩ : ∃ hb : Int → Bool, hb = fun p => decide (rupI last p > rupI last (u * m)) := ⟨_, rfl⟩
    rw [← ehb] at k
    have hbn : ∀ p, hb p = decide (now < rupI last p) := fun p => by rw [ehb, hnow]
    refine ⟨_, rfl, _, _, rfl, ⟨by omega, by omega, by omega, by omega⟩, ?_⟩
    rw [show ((m : Int) - 1).toNat = m - 1 by omega]
    refine for_range (lo := 1) (n := m - 1) (fun j σ Hx => ∃ (ws : List V) (v6 v7 : Option V), σ = [some (.int u), some (.int last), some (.int m), some (.ref lf), some (.int (u * m)), some (.int now), v6, v7] ∧ Hx lf = some (.lst ws) ∧ Paired (PrI Hx) ws (Bg hb u j) ∧ Same H Hx) ⟨[], none, none, rfl, g0, .nil, s0⟩ ?_ ?_
    rotate_left
    · rintro σ Hx ⟨ws, v6, v7, rfl, hf, hp, sx⟩
      exact ⟨_, rfl, k lf ws Hx hf hp sx nlf⟩
    rintro j σ Hx hj ⟨ws, v6, v7, rfl, hf, hp, sx⟩
    have wl := paired_len hp
    have bl := Bg_len hb u j
    have ek : u * (1 + (j : Nat)) = u + (j : Int) * u := by rw [Int.mul_add, Int.mul_one, Int.mul_comm u (j : Int)]
    have j0 : 0 ≤ (j : Int) * u := Int.mul_nonneg (by omega) (by omega)
    have j1 : (j : Int) * u ≤ 40 * 10000 := Int.mul_le_mul (show (j : Int) ≤ 40 by omega) u1 (by omega) (by omega)
    have cm : CMulW u (1 + (j : Nat)) := mulBB (by omega) (by omega) (by omega) (by omega)
    have cj : CMulW u (1 + (j : Nat) - 1) := mulBB (by omega) (by omega) (by omega) (by omega)
    have uk1 : 1 ≤ u * (1 + (j : Nat)) := by omega
    have dk : 0 ≤ (last + u * (1 + (j : Nat)) - 1) / (u * (1 + (j : Nat))) ∧ (last + u * (1 + (j : Nat)) - 1) / (u * (1 + (j : Nat))) ≤ last + u * (1 + (j : Nat)) - 1 := ⟨Int.ediv_nonneg (by omega) (by omega), Int.ediv_le_self _ (by omega)⟩
    have cd : CDivW (last + u * (1 + (j : Nat)) - 1) (u * (1 + (j : Nat))) := ⟨by omega, divBB uk1 (by omega)⟩
    have q1 : (last + u * (1 + (j : Nat)) - 1) / (u * (1 + (j : Nat))) * u ≤ 2000000000 * 10000 := Int.mul_le_mul (by omega) u1 (by omega) (by omega)
    have q0 := Int.mul_nonneg dk.1 (show 0 ≤ u by omega)
    have cq : CMulW ((last + u * (1 + (j : Nat)) - 1) / (u * (1 + (j : Nat)))) u := mulBB (by omega) (by omega) (by omega) (by omega)
    have cq2 : CMulW ((last + u * (1 + (j : Nat)) - 1) / (u * (1 + (j : Nat))) * u) (1 + (j : Nat)) := mulBB (by omega) (by omega) (by omega) (by omega)
    have hq : (last + u * (1 + (j : Nat)) - 1) / (u * (1 + (j : Nat))) * u * (1 + (j : Nat)) = rupI last (u + (j : Int) * u) := by
      rw [Int.mul_assoc, rup_div a0 uk1, ek]
    refine ⟨_, rfl, _, rfl, _, rfl, _, _, rfl, rfl, cm, _, _, rfl, rfl, _, _, rfl, rfl, _, rfl, _, rfl, _, _, rfl, rfl, cm, _, _, rfl, rfl, cd, _, rfl, _, _, rfl, rfl, cq, _, rfl, _, _, rfl, rfl, cq2, _, rfl, _, _, rfl, rfl, _, rfl, ?_⟩
    rw [hq, ← hbn, Bg_succ]
    refine ite2 (fun c => ?_) (fun c => ?_)
    rotate_left
    · rw [if_neg c]
      exact ⟨ws, _, _, rfl, hf, hp, sx⟩
    rw [if_pos c]
    refine ⟨_, rfl, _, rfl, _, _, rfl, rfl, _, _, rfl, rfl, cj, _, _, rfl, rfl, ?_⟩
    obtain ⟨lo, hlo⟩ : ∃ lo, lo = (j : Int) * u + 1 := ⟨_, rfl⟩
    show gName 7 (.int (u * (1 + (j : Int) - 1) + 1)) _ _ _
    rw [show u * (1 + (j : Int) - 1) + 1 = lo by rw [show (1 : Int) + j - 1 = j by omega, Int.mul_comm, hlo], ← hlo]
    -- the last step: a pair more
    have fin : ∀ {Hy : Hp} {ws' : List V} {F' : List Pr} {lo' : Int} {tq : Addr}, Hy lf = some (.lst ws') → Paired (PrI Hy) ws' F' → Same H Hy → Hy tq = none → F' ++ [(lo', u + (j : Int) * u)] = addB (Bg hb u j) lo (u + (j : Int) * u) →
        (upd Hy tq (.tup [.int lo', .int (u * (1 + (j : Nat)))])) lf = some (.lst ws') ∧ (upd (upd Hy tq (.tup [.int lo', .int (u * (1 + (j : Nat)))])) lf (.lst (ws' ++ [.ref tq]))) lf = some (.lst (ws' ++ [.ref tq])) ∧ Paired (PrI (upd (upd Hy tq (.tup [.int lo', .int (u * (1 + (j : Nat)))])) lf (.lst (ws' ++ [.ref tq])))) (ws' ++ [.ref tq]) (addB (Bg hb u j) lo (u + (j : Int) * u)) ∧ Same H (upd (upd Hy tq (.tup [.int lo', .int (u * (1 + (j : Nat)))])) lf (.lst (ws' ++ [.ref tq]))) := fun {Hy ws' F' lo' tq} h1 h2 h3 h4 h5 => by
      have sq := Same.upd (o := .tup [.int lo', .int (u * (1 + (j : Nat)))]) h4
      have hq := sq _ _ h1
      have n7 := NL.upd (o := .lst (ws' ++ [.ref tq])) hq
      refine ⟨hq, upd_same, ?_, fun b o e => by rw [upd_ne (ne_of_none e nlf)]; exact sq _ _ (h3 _ _ e)⟩
      rw [← h5]
      exact paired_app (L2.Paired.mapP h2 fun _ _ z => z.nl ((NL.of sq).trans n7)) (.cons ⟨tq, rfl, n7 _ _ (by rw [upd_same, ek]) fun _ z => nomatch z⟩ .nil)
    obtain ⟨F, hF⟩ : ∃ F, F = Bg hb u j := ⟨_, rfl⟩
    rw [← hF] at hp wl bl fin ⊢
    refine ⟨_, rfl, (by show 0 ≤ sizeLine; decide), fun p9 n9 => ?_⟩
    have s9 := Same.upd (o := .lst []) n9
    have e9 : upd Hx p9 (.lst []) p9 = some (.lst []) := upd_same
    generalize upd Hx p9 (.lst []) = Hx at s9 e9 ⊢
    have hf := s9 _ _ hf
    have hp : Paired (PrI Hx) ws F := L2.Paired.mapP hp fun _ _ z => z.nl (NL.of s9)
    have sx := sx.trans s9
    refine ⟨.list (F.map prD), .list [], .lst (SqL.of hf) (pri_dp hp), .lst (SqL.of e9) .nil, sh_prs _, rfl, ?_⟩
    rcases snoc_cases F with rfl | ⟨G, q, rfl⟩
    · cases hp
      refine ⟨_, rfl, iteF (iteF ?_)⟩
      refine ⟨_, rfl, .inl ⟨rfl, _, SqL.of hf⟩, _, rfl, _, rfl, _, rfl, _, _, rfl, rfl, cm, (by show 2 ≤ sizeLine; decide), fun tq htq => ?_⟩
      obtain ⟨a1, a2, a3, a4⟩ := fin (lo' := lo) hf .nil sx htq (addB_nil _ _).symm
      exact ⟨lf, _, _, rfl, rfl, a1, small1 (by decide), _, _, _, rfl, a2, a3, a4⟩
    rw [show PyData.eqv (.list ((G ++ [q]).map prD)) (.list []) = false by rw [List.map_append]; cases G <;> simp [PyData.eqv, PyData.eqvAll]]
    refine ⟨_, rfl, iteT ?_⟩
    have fin2 := addB_snoc G q lo (u + (j : Int) * u)
    obtain ⟨wG, v, rfl⟩ : ∃ wG v, ws = wG ++ [v] := by
      rcases List.eq_nil_or_concat ws with h | ⟨a, b, h⟩
      · rw [h, List.length_append] at wl
        exact absurd wl (Nat.succ_ne_zero _).symm
      · exact ⟨a, b, by rw [h, List.concat_eq_append]⟩
    have wgl : wG.length = G.length := by
      rw [List.length_append, List.length_append] at wl
      exact Nat.succ.inj wl
    obtain ⟨q', hq', Tq, rfl, hTq⟩ := paired_get hp (i := wG.length) (x := v) (by rw [List.getElem?_append_right (Nat.le_refl _), Nat.sub_self]; rfl)
    rw [wgl, List.getElem?_append_right (Nat.le_refl _), Nat.sub_self] at hq'
    obtain rfl : q = q' := Option.some.inj hq'
    have hpG : Paired (PrI Hx) wG G := by
      have := paired_takeB G.length hp
      rwa [← wgl, List.take_left, wgl, List.take_left] at this
    rw [List.length_append] at bl
    have bl : G.length + 1 ≤ j := bl
    refine ⟨_, rfl, 1, rfl, lf, _, -1, .ref Tq, rfl, rfl, SqL.of hf, atI_last _ _, Tq, _, 1, .int q.2, rfl, rfl, SqT.of hTq, rfl, _, rfl, _, _, rfl, rfl, rfl, _, rfl, ?_⟩
    refine ite2 (fun z => ?_) (fun z => ?_)
    · have z : q.2 + 1 = lo := by have := V.int.inj (of_decide_eq_true z); omega
      rw [if_pos z] at fin2
      refine ⟨_, rfl, .inl ⟨rfl, _, SqL.of hf⟩, lf, _, .ref Tq, rfl, rfl, hf, by rw [List.length_append, List.getElem?_append_right (by show wG.length ≤ wG.length + 1 - 1; omega), show wG.length + [V.ref Tq].length - 1 - wG.length = 0 by show wG.length + 1 - 1 - wG.length = 0; omega]; rfl, ?_⟩
      rw [List.dropLast_concat]
      have n7 := NL.upd (o := .lst wG) hf
      have hf7 : (upd Hx lf (.lst wG)) lf = some (.lst wG) := upd_same
      have s7 : Same H (upd Hx lf (.lst wG)) := fun b o e => by rw [upd_ne (ne_of_none e nlf)]; exact sx _ _ e
      have hp7 : Paired (PrI (upd Hx lf (.lst wG))) wG G := L2.Paired.mapP hpG fun _ _ z => z.nl n7
      refine ⟨Tq, _, 0, .int q.1, rfl, rfl, SqT.of (n7 _ _ hTq fun _ z => nomatch z), rfl, ?_⟩
      generalize upd Hx lf (.lst wG) = H7 at n7 hf7 s7 hp7 ⊢
      refine ⟨_, rfl, .inl ⟨rfl, _, SqL.of hf7⟩, _, rfl, _, rfl, _, rfl, _, _, rfl, rfl, cm, (by show 2 ≤ sizeLine; decide), fun tq htq => ?_⟩
      obtain ⟨a1, a2, a3, a4⟩ := fin (lo' := q.1) hf7 hp7 s7 htq fin2.symm
      exact ⟨lf, _, _, rfl, rfl, a1, small1 (by omega), _, _, _, rfl, a2, a3, a4⟩
    · have z : ¬ q.2 + 1 = lo := fun y => z (decide_eq_true (congrArg V.int (by omega)))
      rw [if_neg z] at fin2
      refine ⟨_, rfl, .inl ⟨rfl, _, SqL.of hf⟩, _, rfl, _, rfl, _, rfl, _, _, rfl, rfl, cm, (by show 2 ≤ sizeLine; decide), fun tq htq => ?_⟩
      obtain ⟨a1, a2, a3, a4⟩ := fin (lo' := lo) hf hp sx htq fin2.symm
      exact ⟨lf, _, _, rfl, rfl, a1, small1 (by rw [List.length_append]; show wG.length + 1 ≤ 100000; omega), _, _, _, rfl, a2, a3, a4⟩
theorem ok_wdueranges (T : LX K mg L) : Cal P w K mg base "_law_due_ranges" 1 L.f__law_due_ranges ["_law_unit", "_law_last", "_law_many"] (spDue) := T.d__law_due_ranges.cal fun fd F => fn_wdueranges T F
end
/-! ### facts over calls that make lambdas (the general part of X24b) -/
theorem Kd.ext {H H' : Hp} {v : V} {nm : String} (k : Kd H v nm) (s : LamX.ExtN H H') : Kd H' v nm := by
  cases k with
  | non => exact .non
  | bl b => exact .bl b
  | int i => exact .int i
  | str x => exact .str x
  | lst e => exact .lst (s _ _ e fun _ z => nomatch z)
  | tup e => exact .tup (s _ _ e fun _ z => nomatch z)
  | dK e => exact .dK (s _ _ e fun _ z => nomatch z)
theorem Tabs.nl {T : List (Addr × Str)} {H H' : Hp} (t : LamX.Tabs T H) (n : NL H H') : LamX.Tabs T H' := fun p hp => by
  obtain ⟨ps, h1, h2, h3⟩ := t p hp
  refine ⟨ps, n _ _ h1 (fun _ z => nomatch z), h2, fun pos cv hc => ?_⟩
  obtain ⟨c, e1, e2⟩ := h3 pos cv hc
  exact ⟨c, e1, n _ _ e2 (fun _ z => by unfold LamX.CodeO at z; cases z)⟩
theorem KeepAt.nl {X : Cx} {Lm : LamY.LamK} {H H' : Hp} {f c' : Addr} (h : LamY.KeepAt X Lm H f c') (k : NL H H') : LamY.KeepAt X Lm H' f c' := by
  obtain ⟨dV, doc, pm, ctv, h1, h2, h3⟩ := h
  refine ⟨dV, doc, pm, ctv, k _ _ h1 (fun xs z => by unfold LamY.FunO at z; cases z), k _ _ h2 (fun xs z => by unfold LamX.CodeO at z; cases z), ?_⟩
  unfold LamY.Dfl at h3 ⊢
  split
  · rename_i e
    rw [e] at h3
    exact h3
  · rename_i i e
    rw [e] at h3
    obtain ⟨t, e1, e2⟩ := h3
    exact ⟨t, e1, k _ _ e2 (fun xs z => nomatch z)⟩
abbrev Dl (s : Addr) (H : Hp) : Hp := L2.del H s
theorem Dl.sub (s : Addr) (H : Hp) : LamX.ExtN (Dl s H) H := fun b o e _ => by
  have e : L2.del H s b = some o := e
  by_cases c : b = s
  · rw [c, L2.del_same] at e
    cases e
  · rwa [L2.del_ne c] at e
theorem Dl.gen {s : Addr} {H H' : Hp} (k : ∀ b o, b ≠ s → H b = some o → (∀ ps, o ≠ .tbl ps) → H' b = some o) : LamX.ExtN (Dl s H) (Dl s H') := fun b o h n => by
  have h : L2.del H s b = some o := h
  show L2.del H' s b = some o
  by_cases c : b = s
  · rw [c, L2.del_same] at h
    cases h
  · rw [L2.del_ne c] at h ⊢
    exact k _ _ c h n
theorem Dl.ext {s : Addr} {H H' : Hp} (e : LamX.ExtN H H') : LamX.ExtN (Dl s H) (Dl s H') := Dl.gen fun b o _ h n => e b o h n
theorem Dl.kp {s : Addr} {H H' : Hp} (k : Kp s H H') : LamX.ExtN (Dl s H) (Dl s H') := Dl.gen fun b o c h _ => k b o c h
theorem Dl.at {s : Addr} {H : Hp} {b : Addr} {o : HO} (h : H b = some o) (n : b ≠ s) : Dl s H b = some o := by
  show L2.del H s b = some o
  rw [L2.del_ne n]
  exact h
def KS (s : Addr) (H H' : Hp) : Prop := ∀ b o, b ≠ s → H b = some o → (∀ ps, o ≠ .tbl ps) → H' b = some o
theorem KS.of {s : Addr} {H H' : Hp} (h : Kp s H H') : KS s H H' := fun b o n e _ => h b o n e
theorem KS.ext {s : Addr} {H H' : Hp} (h : LamX.ExtN H H') : KS s H H' := fun b o _ e n => h b o e n
theorem KS.trans {s : Addr} {H H1 H2 : Hp} (h : KS s H H1) (h' : KS s H1 H2) : KS s H H2 := fun b o n e z => h' b o n (h b o n e z) z
theorem strOk_ite {c : Bool} {a b : Str} (ha : PyData.strOk a = true) (hb : PyData.strOk b = true) : PyData.strOk (if c then a else b) = true := by
  cases c
  · exact hb
  · exact ha

theorem row_made38 {C : Addr} {H : Hp} {Q : Addr → Hp → Prop} {a : Addr} {st ph : Int} {xs : List V} {ts : List Tri} (ha : H a = some (.lst xs)) (hb : Brs H xs ts) (ho : ∀ t ∈ ts, OkT t) (hl : ts.length ≤ 12)
    (bd : 1 ≤ st ∧ st ≤ 1000000000000000000000000000000 ∧ 0 ≤ ph ∧ ph ≤ 1000000000000000000000000000000) (k : ∀ p T H', RowAt C H' p T xs ts st ph → Same H H' → H p = none → Q p H') :
    ∀ x dx, H x = none → H dx = none → dx ≠ x → spRInit C [.ref x, .ref a, .int st, .int ph] (upd (upd H dx (.own x)) x (.ins C dx [])) (fun v H3 => v = .non ∧ Q x H3) E0 := by
  intro x dx hx hd hne
  have s0 : Same H (upd (upd H dx (.own x)) x (.ins C dx [])) := fun b o e => by
    rw [upd_ne (ne_of_none e hx), upd_ne (ne_of_none e hd)]
    exact e
  refine ⟨x, a, st, ph, xs, ts, dx, rfl, upd_same, s0 _ _ ha, hb.nl (NL.of s0), ho, hl, bd, fun T H' R kp => ⟨rfl, k x T H' R (fun b o e => kp b o (ne_of_none e hx) (s0 b o e)) hx⟩⟩
theorem RowAt.ext {C : Addr} {H H' : Hp} {r B : Addr} {xs : List V} {ts : List Tri} {st ph : Int} (R : RowAt C H r B xs ts st ph) (k : LamX.ExtN H H') : RowAt C H' r B xs ts st ph := by
  obtain ⟨dx, ob⟩ := R.ob
  exact ⟨⟨dx, k _ _ ob fun _ z => nomatch z⟩, k _ _ R.tp fun _ z => (nomatch z), L2.Paired.mapP R.br fun _ _ ⟨a, e, h⟩ => ⟨a, e, k _ _ h fun _ z => (nomatch z)⟩, R.ok, R.ln, R.s0, R.s1, R.p0, R.p1⟩
def tgD (a z : Str) : PyData := .tuple [.str a, .str z]
theorem dpTg {K : PySem.W.Frag} {H : Hp} {p : Addr} {a z : Str} (h : H p = some (.tup [.str a, .str z])) : Dp K H (.ref p) (tgD a z) := .tup (SqT.of h) (.cons (.str _) (.cons (.str _) .nil))
theorem shTg {a z : Str} (ha : PyData.strOk a = true) (hz : PyData.strOk z = true) : SeqAt.shaped (tgD a z) = true := by
  refine Bool.and_eq_true_iff.mpr ⟨by simp [tgD, PyData.canLay0, PyData.canLayAll0, ha, hz], decide_eq_true (by simp [tgD, PyData.depth, PyData.depthAll])⟩
theorem eqTg {a z : Str} (ha : PyData.strOk a = true) (hz : PyData.strOk z = true) : PyData.eqv (tgD a z) (tgD a z) = true := SeqAt.eqv_refl _ (Bool.and_eq_true_iff.mp (shTg ha hz)).1
theorem ok_index : PyData.strOk "index" = true := by decide +kernel
theorem nl_dl {H : Hp} {s : Addr} {y : List V} (h : H s = some (.lst y)) : NL H (Dl s H) := fun b o e n => Dl.at e fun z => by
  subst z
  rw [h] at e
  exact n _ (Option.some.inj e).symm
theorem Src.ext {H H' : Hp} {a : Addr} {n : Nat} (h : Src H a n) (s : LamX.ExtN H H') : Src H' a n := by
  obtain ⟨x, y, z, e, r⟩ := h
  exact ⟨x, y, z, ExtN.lst s e, r⟩
/-- the answer "limit" with a number -/
def lmD (n : Int) : PyData := .tuple [.str "limit", .int n]
theorem dpLm {K : PySem.W.Frag} {H : Hp} {p : Addr} {n : Int} (h : H p = some (.tup [.str "limit", .int n])) : Dp K H (.ref p) (lmD n) := .tup (SqT.of h) (.cons (.str _) (.cons (.int _) .nil))
theorem shLm (n : Int) : SeqAt.shaped (lmD n) = true := by
  refine Bool.and_eq_true_iff.mpr ⟨by simp [lmD, PyData.canLay0, PyData.canLayAll0]; decide +kernel, decide_eq_true (by simp [lmD, PyData.depth, PyData.depthAll])⟩
theorem eqLm (n : Int) : PyData.eqv (lmD n) (lmD n) = true := SeqAt.eqv_refl _ (Bool.and_eq_true_iff.mp (shLm n)).1
theorem ok_bound : PyData.strOk "bound" = true := by decide +kernel
/-! ### k41: the limits -/
theorem rup_mulI {s n : Int} (s1 : 1 ≤ s) (n1 : 1 ≤ n) : rupI (s * n) s = s * n ∧ stepsUp (s * n) s = n := by
  have w1 : 1 ≤ s * n := by have := Int.mul_le_mul s1 n1 (by omega) (by omega); omega
  obtain ⟨_, r1, _, _, r4⟩ := rup_is w1 s1
  have h := r4 n (by omega) (by rw [Int.mul_comm]; exact Int.le_refl _)
  rw [Int.mul_comm n s] at h
  have e : rupI (s * n) s = s * n := by omega
  refine ⟨e, ?_⟩
  have e2 : stepsUp (s * n) s * s = n * s := by rw [Int.mul_comm n s]; exact e
  exact Int.eq_of_mul_eq_mul_right (by omega) e2
theorem Bg_none {hb : Int → Bool} {u : Int} : ∀ {n : Nat}, (∀ i : Nat, i < n → hb (u + (i : Int) * u) = false) → Bg hb u n = []
  | 0, _ => rfl
  | n + 1, h => by
    rw [Bg_succ, h n (Nat.lt_succ_self n), Bg_none fun i hi => h i (Nat.lt_succ_of_lt hi)]
    rfl
theorem minP_first {x : Pr} {xs : List Pr} (h : ∀ y ∈ xs, x.1 < y.1) : minP x xs = x := by
  obtain ⟨h1, h2⟩ := minP_is xs x
  rcases List.mem_cons.mp h1 with e | e
  · exact e
  · have := h2 x (List.mem_cons_self ..)
    rw [(ltP_iff _ _).mpr (.inl (h _ e))] at this
    cases this
theorem said_ix {K : PySem.W.Frag} {L : LA} {g0 : List Code} {Q : VK} {E : XK} (hE : ∀ cls d H', RsdR K L g0 cls d H' Q → E cls d H') {Hy : Hp} {v : V} {z : Str} (r : ReprG g0 Hy v z) (k : ∀ p H', H' p = some (.tup [.str "index", .str z]) → Same Hy H' → Q (.ref p) H') : ixX L Hy E v :=
  fun d H' hd s => hE _ _ _ ⟨L.e_InvalidIndex, d, rfl, rfl, .index v z hd (r.mv fun b o _ e _ => s _ _ e) fun p H'' hp s2 => k p H'' hp (s.trans s2)⟩
theorem said_bd {K : PySem.W.Frag} {L : LA} {g0 : List Code} {Q : VK} {E : XK} (hE : ∀ cls d H', RsdR K L g0 cls d H' Q → E cls d H') {Hy : Hp} {pt : Str} (k : ∀ p H', H' p = some (.tup [.str "bound", .str pt]) → Same Hy H' → Q (.ref p) H') : bdX L Hy E pt :=
  fun d H' hd s => hE _ _ _ ⟨L.e_InvalidBound, d, rfl, rfl, .bound _ hd fun p H'' hp s2 => k p H'' hp (s.trans s2)⟩
theorem said_lm {K : PySem.W.Frag} {L : LA} {g0 : List Code} {Q : VK} {E : XK} (hE : ∀ cls d H', RsdR K L g0 cls d H' Q → E cls d H') {Hy : Hp} {n : Int} (k : ∀ p H', H' p = some (.tup [.str "limit", .int n]) → Same Hy H' → Q (.ref p) H') : lmX L Hy E n :=
  fun d H' hd s => hE _ _ _ ⟨L.e_LimitExceeded, d, rfl, rfl, .limit _ hd fun p H'' hp s2 => k p H'' hp (s.trans s2)⟩
/-! ### k41: the limits, walked -/
def spLim41 (L : LA) : Sp := fun vs H Q _ => ∃ (s : Addr) (n : Nat), vs = [.ref s] ∧ Src H s n ∧ n ≤ 800000 ∧ LamX.Tabs (LT L) H ∧ ∀ H', KS s H H' → LamX.Tabs (LT L) H' → Q (.bl true) H'
section
variable {P : Program} {w : World} {K : PySem.W.Frag} {mg : Str → Option Value} {base : Heap} {L : LA}
abbrev N_wlimitsright : List Str := ["_law_source", "_law_far", "_law_many", "_law_step"]
theorem sc_wlimitsright : FnScope N_wlimitsright ["_law_source"] (defScope st__law_limits_right) := ⟨rfl, rfl, rfl, by decide +kernel, rfl, by decide +kernel, by decide +kernel⟩
theorem fn_wlimitsright (T : LX K mg L) (B : TX base mg L) {fd : FuncData} (F : FunT K "_law_limits_right" "_law_limits_right" st__law_limits_right L.f__law_limits_right L.k__law_limits_right fd) : FnOk P w K mg base CX0 13 L.f__law_limits_right fd ["_law_source"] (spLim41 L) := by
  have G_wnext := ok_wnext (P := P) (w := w) (base := base) T
  have G_bestraise := ok_bestraise (P := P) (w := w) (base := base) T
  have G_harmfullowerings := ok_harmfullowerings (P := P) (w := w) (base := base) T
  have nd := sc_wlimitsright.nd
  refine F.okG sc_wlimitsright (fun vs H Q E h => ?_) (fun g0 A outer S H vs Q E hgd hr h => ?_)
  · obtain ⟨s, n, rfl, _⟩ := h
    rfl
  · obtain ⟨s, n, rfl, src, n0, tabs, k⟩ := h
    refine ⟨_, (pss_cons (ps_set (i := 3) nd rfl (Or.inr rfl) (pe_op op_add pe_int (pe_c G_wnext (hr.mono (by decide)) rfl (pa_cons (pv 0) (pa_cons (pe_op op_pow pe_int pe_int) pa_nil)))))
       (pss_cons (ps_set (i := 2) nd rfl (Or.inr rfl) (pe_c G_wnext (hr.mono (by decide)) rfl (pa_cons (pv 0) (pa_cons (pe_op op_pow pe_int pe_int) pa_nil))))
       (pss_cons (ps_set (i := 1) nd rfl (Or.inr rfl) (pe_mkRow T (hr.mono (by decide)) rfl (pa_cons (pe_lst (pa_cons (pe_tup (pa_cons pe_int (pa_cons (pe_op op_mulW (pv 3) (pe_op op_add pe_int (pv 2))) (pa_cons pe_int pa_nil)))) pa_nil)) (pa_cons (pv 3) pa_nil))))
       (pss_cons (ps_if (pt_cmpR (op_neD hr.units) (pe_lamc (T := LT L) (TT := TTrsd K L g0) (c := L.k__law_limits_right) (P := L.t__law_limits_right) (k := 10) T.d__law_raised sc_wraised rfl (Or.inl rfl) (fun _ => rsd_gives T (hr.mono (by decide)) (by exact hgd)) B.b__law_limits_right rfl (lt_mem_wlimitsright T) (lt_one_wlimitsright T) (hr.mono (by decide)) (LamX.lamS_by (sc := defScope st__law_limits_right) (by decide +kernel)) rfl (fun _ _ _ _ _ => rfl) (fun A outer s H E f c2 hr => by exact (pe_cX (EX.ok_harmfullowerings (P := P) (w := w) (base := base) T) (hr.mono (by decide)) rfl (fun σ => passAt (takes_of rfl rfl rfl rfl) σ) (pa_cons (pv 1) (pa_cons pe_int pa_nil))))) (pe_tup (pa_cons pe_str (pa_cons pe_int pa_nil))) (nomark _)) (pss_one (ps_ret pe_bl)) pss_nil)
       (pss_cons (ps_if (pt_cmpR (op_neD hr.units) (pe_lamc (T := LT L) (TT := TTrsd K L g0) (c := L.k__law_limits_right) (P := L.t__law_limits_right) (k := 10) T.d__law_raised sc_wraised rfl (Or.inl rfl) (fun _ => rsd_gives T (hr.mono (by decide)) (by exact hgd)) B.b__law_limits_right rfl (lt_mem_wlimitsright T) (lt_one_wlimitsright T) (hr.mono (by decide)) (LamX.lamS_by (sc := defScope st__law_limits_right) (by decide +kernel)) rfl (fun _ _ _ _ _ => rfl) (fun A outer s H E f c2 hr => by exact (pe_cX (EX.ok_bestraise (P := P) (w := w) (base := base) T) (hr.mono (by decide)) rfl (fun σ => passAt (takes_of rfl rfl rfl rfl) σ) (pa_cons (pv 1) (pa_cons pe_int (pa_cons (pe_op op_add (pe_op op_add (pe_op op_mulW (pv 3) (pe_op op_add pe_int (pv 2))) (pe_op op_mulW pe_int (pv 3))) pe_int) pa_nil)))))) (pe_tup (pa_cons pe_str (pa_cons pe_int pa_nil))) (nomark _)) (pss_one (ps_ret pe_bl)) pss_nil)
       (pss_cons (ps_if (pt_cmpR (op_neD hr.units) (pe_c G_bestraise (hr.mono (by decide)) rfl (pa_cons (pv 1) (pa_cons pe_int (pa_cons (pe_op op_mulW (pv 3) (pe_op op_add pe_int (pv 2))) pa_nil)))) (pe_tup (pa_cons (pe_op op_mulW (pv 3) (pe_op op_add pe_int (pv 2))) (pa_cons (pe_op op_mulW (pv 3) (pe_op op_add pe_int (pv 2))) pa_nil))) (nomark _)) (pss_one (ps_ret pe_bl)) pss_nil)
       (pss_cons (ps_if (pt_cmpR (op_neD hr.units) (pe_c G_harmfullowerings (hr.mono (by decide)) rfl (pa_cons (pe_mkRow T (hr.mono (by decide)) rfl (pa_cons (pe_lst (pa_cons (pe_tup (pa_cons pe_int (pa_cons (pe_op op_mulW (pv 3) pe_int) (pa_cons pe_int pa_nil)))) pa_nil)) (pa_cons (pv 3) pa_nil))) (pa_cons pe_int pa_nil))) (pe_lst pa_nil) (nomark _)) (pss_one (ps_ret pe_bl)) pss_nil)
       (pss_one (ps_ret pe_bl))))))))), ?_⟩
    have e20 : (10 : Int) ^ (20 : Int).toNat = 100000000000000000000 := by decide +kernel
    have e6 : (10 : Int) ^ (6 : Int).toNat = 1000000 := by decide +kernel
    have cp20 : CPow 10 20 := ⟨by decide, by decide, by decide⟩
    have cp6 : CPow 10 6 := ⟨by decide, by decide, by decide⟩
    obtain ⟨y0, hy0⟩ := src.has
    refine ⟨_, rfl, _, _, rfl, rfl, cp20, s, _, n, rfl, by rw [e20]; decide, by rw [e20]; decide, src, by omega, fun r1 H1 r10 r11 src1 k1 => ⟨_, _, rfl, rfl, ?_⟩⟩
    rw [e20] at r11
    show gName 3 (.int (1 + r1)) _ _ _
    generalize hst : 1 + r1 = st
    refine ⟨_, rfl, _, _, rfl, rfl, cp6, s, _, _, rfl, by rw [e6]; decide, by rw [e6]; decide, src1, by omega, fun mn H2 m0 m1 src2 k2 => ?_⟩
    rw [e6] at m1
    have st1 : 1 ≤ st ∧ st ≤ 100000000000000000000 := by omega
    obtain ⟨y2, hy2⟩ := src2.has
    have K2 := k1.trans k2
    have tabs := Tabs.nl tabs (Kp.nl K2 hy0)
    have k : ∀ H', LamX.ExtN H2 H' → LamX.Tabs (LT L) H' → Q (.bl true) H' := fun H' e t => k H' ((KS.of K2).trans (KS.ext e)) t
    clear src src1 src2 k1 k2 K2 r10 r11 hst
    have W0 := Int.mul_le_mul st1.2 (show 2002 + mn ≤ 1002002 by omega) (by omega) (by omega)
    have W1 := Int.mul_le_mul st1.1 (show 2002 ≤ 2002 + mn by omega) (by omega) (by omega)
    have bb := pd_bb
    have eB : PdB = 13000000000000000000000000000000 := rfl
    have cm : CMulW st (2002 + mn) := mulBB (by omega) (by omega) (by omega) (by omega)
    refine ⟨_, rfl, _, rfl, _, _, rfl, rfl, _, _, rfl, rfl, cm, (by show 3 ≤ sizeLine; decide), fun t1 n1 => ⟨(by show 1 ≤ sizeLine; decide), fun l1 n2 => ?_⟩⟩
    dsimp only at n2 ⊢
    have S1 := Same.upd (o := .tup [.int 1, .int (st * (2002 + mn)), .int 1]) n1
    have b1 := upd_same (H := H2) (a := t1) (o := .tup [.int 1, .int (st * (2002 + mn)), .int 1])
    generalize upd H2 t1 (.tup [.int 1, .int (st * (2002 + mn)), .int 1]) = H3 at S1 b1 n2 ⊢
    have S2 := Same.upd (o := .lst [.ref t1]) n2
    have b2 := upd_same (H := H3) (a := l1) (o := .lst [.ref t1])
    have b1 := S2 _ _ b1
    generalize upd H3 l1 (.lst [.ref t1]) = H4 at S2 b1 b2 ⊢
    have okT : ∀ t ∈ ([(1, st * (2002 + mn), 1)] : List Tri), OkT t := fun t ht => by
      rw [List.mem_singleton.mp ht]
      exact ⟨by show (1 : Int) ≤ 1; decide, by show (1 : Int) ≤ _; decide, by show 1 ≤ st * (2002 + mn); omega, by show st * (2002 + mn) ≤ _; omega, by show (1 : Int) ≤ 1; decide, by show (1 : Int) ≤ _; decide⟩
    refine ⟨_, rfl, row_made38 b2 (ts := [(1, st * (2002 + mn), 1)]) (.cons ⟨_, rfl, b1⟩ .nil) okT (Nat.le_of_ble_eq_true rfl) ⟨by omega, by omega, by decide, by decide⟩ fun r B H5 R s5 n5 => ?_⟩
    have S5 := (S1.trans S2).trans s5
    have tabs := Tabs.nl tabs (NL.of S5)
    have k : ∀ H', LamX.ExtN H5 H' → LamX.Tabs (LT L) H' → Q (.bl true) H' := fun H' e t => k H' ((LamX.ExtN.of S5).trans e) t
    obtain ⟨eW, eS⟩ := rup_mulI st1.1 (show 1 ≤ 2002 + mn by omega)
    clear b1 b2 n1 n2 S1 S2 s5 n5 S5
    -- too many lowerings
    refine ⟨tabs, fun Hw exW txW E N Hx sx hE hN => ?_⟩
    refine ⟨_, rfl, .inr ⟨r, B, _, _, st, 0, .int 0, rfl, (R.ext exW).nl (NL.of sx), .inr ⟨0, _, rfl, rfl, by show rupI (st * (2002 + mn)) st ≤ _; rw [eW]; omega, by show 2001 < stepsUp (st * (2002 + mn)) st; rw [eS]; omega, said_lm hE fun q Hu hq su => ?_⟩⟩⟩
    refine ⟨(by show 2 ≤ sizeLine; decide), fun q6 m6 => ?_⟩
    have S6 := Same.upd (o := .tup [.str "limit", .int 2000]) m6
    refine ⟨lmD 2000, lmD 2000, dpLm (S6 _ _ hq), dpLm upd_same, shLm _, shLm _, ?_⟩
    rw [eqLm]
    have exZ := exW.trans (LamX.ExtN.of (sx.trans (su.trans S6)))
    have tabs := Tabs.nl txW (NL.of (sx.trans (su.trans S6)))
    generalize upd Hu q6 (.tup [.str "limit", .int 2000]) = HZ at exZ tabs ⊢
    refine ⟨_, rfl, iteF ?_⟩
    have R := R.ext exZ
    have k : ∀ H', LamX.ExtN HZ H' → LamX.Tabs (LT L) H' → Q (.bl true) H' := fun H' e t => k H' (exZ.trans e) t
    clear hE hN exW txW sx su S6 hq m6 exZ
    -- a bound too far
    have cm2 : CMulW 2000 st := mulBB (by decide) (by have := BB0; omega) (by omega) (by omega)
    obtain ⟨M, hM⟩ : ∃ M, M = st * (2002 + mn) + 2000 * st + 1 := ⟨_, rfl⟩
    obtain ⟨_, rM, _⟩ := rup_is (w := M) (p := st) (by omega) st1.1
    refine ⟨tabs, fun Hw exW txW E N Hx sx hE hN => ?_⟩
    refine ⟨_, rfl, _, rfl, _, rfl, _, _, rfl, rfl, _, _, rfl, rfl, cm, _, rfl, _, _, rfl, rfl, cm2, _, _, rfl, rfl, _, _, rfl, rfl, .inr ⟨r, B, _, _, st, 0, .int 0, .int M, by rw [hM], (R.ext exW).nl (NL.of sx), .inr ⟨0, _, rfl, rfl, .inr ⟨M, rfl, by show st * (2002 + mn) ≤ M; omega, by omega, by show rupI (st * (2002 + mn)) st ≤ _; rw [eW]; omega, by show 2000 * st < rupI M st - rupI (st * (2002 + mn)) st; rw [eW]; omega, said_lm hE fun q Hu hq su => ?_⟩⟩⟩⟩
    refine ⟨(by show 2 ≤ sizeLine; decide), fun q6 m6 => ?_⟩
    have S6 := Same.upd (o := .tup [.str "limit", .int 2000]) m6
    refine ⟨lmD 2000, lmD 2000, dpLm (S6 _ _ hq), dpLm upd_same, shLm _, shLm _, ?_⟩
    rw [eqLm]
    have exZ := exW.trans (LamX.ExtN.of (sx.trans (su.trans S6)))
    have tabs := Tabs.nl txW (NL.of (sx.trans (su.trans S6)))
    generalize upd Hu q6 (.tup [.str "limit", .int 2000]) = HY at exZ tabs ⊢
    refine ⟨_, rfl, iteF ?_⟩
    have R := R.ext exZ
    have k : ∀ H', LamX.ExtN HY H' → LamX.Tabs (LT L) H' → Q (.bl true) H' := fun H' e t => k H' (exZ.trans e) t
    clear hE hN exW txW sx su S6 hq m6 exZ
    -- the best raise
    have V0 := Int.mul_le_mul st1.2 (show 4002 + mn ≤ 1004002 by omega) (by omega) (by omega)
    have cm4 : CMulW st (4002 + mn) := mulBB (by omega) (by omega) (by omega) (by omega)
    have e4 : st * (4002 + mn) = st * (2002 + mn) + 2000 * st := by
      rw [show (4002 : Int) + mn = 2002 + mn + 2000 by omega, Int.mul_add, Int.mul_comm st 2000]
    obtain ⟨eV, _⟩ := rup_mulI st1.1 (show 1 ≤ 4002 + mn by omega)
    refine ⟨_, rfl, _, rfl, _, rfl, _, _, rfl, rfl, _, _, rfl, rfl, cm4, r, B, _, _, st, 0, _, 0, 2000, _, rfl, R, rfl, by show st * (2002 + mn) ≤ st * (4002 + mn); omega, by show st * (4002 + mn) ≤ _; omega, by show rupI (st * (4002 + mn)) st = rupI (st * (2002 + mn)) st + _ * st; rw [eV, eW, e4]; rfl, by decide, by show rupI (st * (4002 + mn)) st ≤ _; rw [eV]; omega, fun v H7 pv s7 => ?_⟩
    have pv : PrI H7 v (minP (st * (2002 + mn), st * (2002 + mn)) (brL [] st (st * (2002 + mn)) 2000)) := by
      have z : PrI H7 v (minP (rupI (st * (2002 + mn)) st, st * (2002 + mn)) (brL [] st (rupI (st * (2002 + mn)) st) 2000)) := pv
      rwa [eW] at z
    rw [minP_first fun y hy => by
      obtain ⟨i, _, rfl⟩ := List.mem_map.mp hy
      show st * (2002 + mn) < st * (2002 + mn) + st + (i : Int) * st
      have := Int.mul_nonneg (show (0 : Int) ≤ (i : Nat) by omega) (show 0 ≤ st by omega)
      omega] at pv
    refine ⟨_, rfl, _, rfl, _, _, rfl, rfl, _, _, rfl, rfl, cm, _, rfl, _, rfl, _, _, rfl, rfl, _, _, rfl, rfl, cm, (by show 2 ≤ sizeLine; decide), fun q7 n7 => ?_⟩
    dsimp only
    have S7 := Same.upd (o := .tup [.int (st * (2002 + mn)), .int (st * (2002 + mn))]) n7
    refine ⟨prD (st * (2002 + mn), st * (2002 + mn)), prD (st * (2002 + mn), st * (2002 + mn)), (pv.nl (NL.of S7)).dp, .tup (SqT.of upd_same) (.cons (.int _) (.cons (.int _) .nil)), sh_pr _, sh_pr _, ?_⟩
    rw [eq_pr]
    have S8 := s7.trans S7
    have tabs := Tabs.nl tabs (NL.of S8)
    have k : ∀ H', LamX.ExtN (upd H7 q7 (.tup [.int (st * (2002 + mn)), .int (st * (2002 + mn))])) H' → LamX.Tabs (LT L) H' → Q (.bl true) H' := fun H' e t => k H' ((LamX.ExtN.of S8).trans e) t
    generalize upd H7 q7 (.tup [.int (st * (2002 + mn)), .int (st * (2002 + mn))]) = H8 at tabs k ⊢
    refine ⟨_, rfl, iteF ?_⟩
    -- just few enough
    have U0 := Int.mul_le_mul st1.2 (show (2001 : Int) ≤ 2001 by omega) (by omega) (by omega)
    have cm1 : CMulW st 2001 := mulBB (by omega) (by omega) (by decide) (by have := BB0; omega)
    obtain ⟨eU, eT⟩ := rup_mulI st1.1 (show (1 : Int) ≤ 2001 by omega)
    refine ⟨_, rfl, _, _, rfl, rfl, cm1, (by show 3 ≤ sizeLine; decide), fun t2 m2 => ⟨(by show 1 ≤ sizeLine; decide), fun l2 m3 => ?_⟩⟩
    dsimp only at m3 ⊢
    have S1 := Same.upd (o := .tup [.int 1, .int (st * 2001), .int 1]) m2
    have b1 := upd_same (H := H8) (a := t2) (o := .tup [.int 1, .int (st * 2001), .int 1])
    generalize upd H8 t2 (.tup [.int 1, .int (st * 2001), .int 1]) = H9 at S1 b1 m3 ⊢
    have S2 := Same.upd (o := .lst [.ref t2]) m3
    have b2 := upd_same (H := H9) (a := l2) (o := .lst [.ref t2])
    have b1 := S2 _ _ b1
    generalize upd H9 l2 (.lst [.ref t2]) = H10 at S2 b1 b2 ⊢
    have okT : ∀ t ∈ ([(1, st * 2001, 1)] : List Tri), OkT t := fun t ht => by
      rw [List.mem_singleton.mp ht]
      exact ⟨by show (1 : Int) ≤ 1; decide, by show (1 : Int) ≤ _; decide, by show 1 ≤ st * 2001; omega, by show st * 2001 ≤ _; omega, by show (1 : Int) ≤ 1; decide, by show (1 : Int) ≤ _; decide⟩
    refine ⟨_, rfl, row_made38 b2 (ts := [(1, st * 2001, 1)]) (.cons ⟨_, rfl, b1⟩ .nil) okT (Nat.le_of_ble_eq_true rfl) ⟨by omega, by omega, by decide, by decide⟩ fun r2 B2 H11 R2 s11 n11 => ?_⟩
    refine ⟨r2, B2, _, _, st, 0, _, 0, rfl, R2, rfl, by show rupI (st * 2001) st ≤ _; rw [eU]; omega, by show stepsUp (st * 2001) st ≤ 2001; rw [eT]; exact Int.le_refl _, fun l ws H12 hl hp s12 n12 => ?_⟩
    have hp : Paired (PrI H12) ws [] := by
      have z : Paired (PrI H12) ws (Bg (hbT [(1, st * 2001, 1)] st 0) st (stepsUp (st * 2001) st - 1).toNat) := hp
      rwa [Bg_none fun i hi => by
        rw [eT] at hi
        have hi : i < 2000 := hi
        show decide (st + (i : Int) * st > rupI (st * 2001) st) = false
        rw [eU]
        have := Int.mul_le_mul_of_nonneg_right (show (i : Int) + 1 ≤ 2000 by omega) (show 0 ≤ st by omega)
        rw [Int.add_mul, Int.one_mul] at this
        exact decide_eq_false (by omega)] at z
    cases hp
    refine ⟨(by show 0 ≤ sizeLine; decide), fun p9 n9 => ?_⟩
    have s9 := Same.upd (o := .lst []) n9
    refine ⟨.list [], .list [], .lst (SqL.of (s9 _ _ hl)) .nil, .lst (SqL.of upd_same) .nil, rfl, rfl, ⟨_, rfl, iteF ?_⟩⟩
    have SE := (S1.trans S2).trans (s11.trans (s12.trans s9))
    exact k _ (LamX.ExtN.of SE) (Tabs.nl tabs (NL.of SE))
theorem ok_wlimitsright (T : LX K mg L) (B : TX base mg L) : Cal P w K mg base "_law_limits_right" 13 L.f__law_limits_right ["_law_source"] (spLim41 L) := T.d__law_limits_right.cal fun fd F => fn_wlimitsright T B F
end
/-! ### k41: breakers behind it -/
theorem rup_nr {s n e : Int} (s1 : 1 ≤ s) (n1 : 1 ≤ n) (e0 : 0 ≤ e) (e1 : e < s) : rupI (s * n - e) s = s * n ∧ stepsUp (s * n - e) s = n := by
  have q : s * 1 ≤ s * n := Int.mul_le_mul_of_nonneg_left n1 (by omega)
  rw [Int.mul_one] at q
  have w1 : 1 ≤ s * n - e := by omega
  obtain ⟨a1, r1, _, _, r4⟩ := rup_is w1 s1
  have h := r4 n (by omega) (by rw [Int.mul_comm n s]; omega)
  rw [Int.mul_comm n s] at h
  have e2 : stepsUp (s * n - e) s = n := by
    rcases Int.lt_or_le (stepsUp (s * n - e) s) n with c | c
    · exfalso
      have z : stepsUp (s * n - e) s * s ≤ (n - 1) * s := Int.mul_le_mul_of_nonneg_right (by omega) (by omega)
      rw [Int.sub_mul, Int.one_mul, Int.mul_comm n s] at z
      have r1 : s * n - e ≤ stepsUp (s * n - e) s * s := r1
      omega
    · rcases Int.lt_or_le n (stepsUp (s * n - e) s) with d | d
      · exfalso
        have z : (n + 1) * s ≤ stepsUp (s * n - e) s * s := Int.mul_le_mul_of_nonneg_right (by omega) (by omega)
        rw [Int.add_mul, Int.one_mul, Int.mul_comm n s] at z
        have h : stepsUp (s * n - e) s * s ≤ s * n := h
        omega
      · omega
  refine ⟨?_, e2⟩
  show stepsUp (s * n - e) s * s = s * n
  rw [e2, Int.mul_comm]
/-- the first j of what a raise may give -/
def dueL (last u own wt : Int) : Nat → List Pr
  | 0 => []
  | i + 1 => (rupI last own, wt) :: brL [last] u own i
def dueE (last u own wt : Int) (j : Nat) : Pr := (rupI last (own + (j : Int) * u), if j = 0 then wt else own + (j : Int) * u - u + 1)
theorem dueL_succ (last u own wt : Int) (j : Nat) : dueL last u own wt (j + 1) = dueL last u own wt j ++ [dueE last u own wt j] := by
  cases j with
  | zero =>
    show [(rupI last own, wt)] = [(rupI last (own + (0 : Int) * u), wt)]
    rw [Int.zero_mul, Int.add_zero]
  | succ i =>
    show (rupI last own, wt) :: brL [last] u own (i + 1) = (rupI last own, wt) :: brL [last] u own i ++ [dueE last u own wt (i + 1)]
    rw [brL_succ, List.cons_append]
    have e : own + ((i + 1 : Nat) : Int) * u = own + u + (i : Int) * u := by rw [Int.natCast_add, Int.add_mul]; omega
    show _ :: (_ ++ [(rupI last (own + u + (i : Int) * u), own + u + (i : Int) * u - u + 1)]) = _ :: (_ ++ [(rupI last (own + ((i + 1 : Nat) : Int) * u), own + ((i + 1 : Nat) : Int) * u - u + 1)])
    rw [e]
theorem dueL_len (last u own wt : Int) : ∀ j : Nat, (dueL last u own wt j).length = j
  | 0 => rfl
  | i + 1 => by
    show (brL [last] u own i).length + 1 = i + 1
    unfold brL
    rw [List.length_map, List.length_range]
theorem Src.ne {H : Hp} {a t : Addr} {n : Nat} {us : List V} (S : Src H a n) (h : H t = some (.tup us)) : t ≠ a := fun z => by
  obtain ⟨y, hy⟩ := S.has
  rw [z, hy] at h
  cases h
/-! ### k41: breakers behind it, walked -/
def spLat41 (L : LA) : Sp := fun vs H Q _ => ∃ (s : Addr) (n : Nat), vs = [.ref s] ∧ Src H s n ∧ n ≤ 800000 ∧ LamX.Tabs (LT L) H ∧ ∀ H', KS s H H' → LamX.Tabs (LT L) H' → Q (.bl true) H'
section
variable {P : Program} {w : World} {K : PySem.W.Frag} {mg : Str → Option Value} {base : Heap} {L : LA}
abbrev N_wlaterright : List Str := ["_law_source", "_law_step", "_law_first", "_law_last", "_law_wait", "_law_due", "_law_k", "_law_count", "_law_told", "_law_far", "_law_many", "_law_near", "_law_unit"]
theorem sc_wlaterright : FnScope N_wlaterright ["_law_source"] (defScope st__law_later_right) := ⟨rfl, rfl, rfl, by decide +kernel, rfl, by decide +kernel, by decide +kernel⟩
theorem fn_wlaterright (T : LX K mg L) (B : TX base mg L) {fd : FuncData} (F : FunT K "_law_later_right" "_law_later_right" st__law_later_right L.f__law_later_right L.k__law_later_right fd) : FnOk P w K mg base CX0 13 L.f__law_later_right fd ["_law_source"] (spLat41 L) := by
  have G_wnext := ok_wnext (P := P) (w := w) (base := base) T
  have G_harmfullowerings := ok_harmfullowerings (P := P) (w := w) (base := base) T
  have G_wdueranges := ok_wdueranges (P := P) (w := w) (base := base) T
  have G_bestraise := ok_bestraise (P := P) (w := w) (base := base) T
  have nd := sc_wlaterright.nd
  refine F.okG sc_wlaterright (fun vs H Q E h => ?_) (fun g0 A outer S H vs Q E hgd hr h => ?_)
  · obtain ⟨s, n, rfl, _⟩ := h
    rfl
  · obtain ⟨s, n, rfl, src, n0, tabs, k⟩ := h
    refine ⟨_, (pss_cons (ps_set (i := 1) nd rfl (Or.inl rfl) (pe_op op_add pe_int (pe_c G_wnext (hr.mono (by decide)) rfl (pa_cons (pv 0) (pa_cons pe_int pa_nil)))))
       (pss_cons (ps_asg (pe_tup (pa_cons (pe_op op_mulW (pv 1) (pe_op op_add pe_int (pe_c G_wnext (hr.mono (by decide)) rfl (pa_cons (pv 0) (pa_cons pe_int pa_nil))))) (pa_cons (pe_op op_add pe_int (pe_c G_wnext (hr.mono (by decide)) rfl (pa_cons (pv 0) (pa_cons pe_int pa_nil)))) pa_nil))) (pg_tup rfl (pgs_cons (pg_name (i := 12) nd rfl (Or.inr rfl)) (pgs_cons (pg_name (i := 10) nd rfl (Or.inr rfl)) pgs_nil))))
       (pss_cons (ps_par (i := 2) (j := 3) (by rfl) nd rfl rfl (by decide) rfl rfl (pa_cons (pe_tup (pa_cons pe_int (pa_cons (pe_op op_sub (pv 12) (pe_c G_wnext (hr.mono (by decide)) rfl (pa_cons (pv 0) (pa_cons (pv 1) pa_nil)))) (pa_cons pe_int pa_nil)))) (pa_cons (pe_op op_add pe_int (pe_c G_wnext (hr.mono (by decide)) rfl (pa_cons (pv 0) (pa_cons (pe_op op_pow pe_int pe_int) pa_nil)))) pa_nil)) (by rfl))
       (pss_cons (ps_set (i := 4) nd rfl (Or.inl rfl) (pe_op op_sub (pe_op op_mulW (pv 12) (pv 10)) (pe_c G_wnext (hr.mono (by decide)) rfl (pa_cons (pv 0) (pa_cons (pv 12) pa_nil)))))
       (pss_cons (ps_set (i := 11) nd rfl (Or.inr rfl) (pe_mkRow T (hr.mono (by decide)) rfl (pa_cons (pe_lst (pa_cons (pv 2) (pa_cons (pe_tup (pa_cons pe_int (pa_cons (pv 4) (pa_cons pe_int pa_nil)))) (pa_cons (pe_tup (pa_cons pe_int (pa_cons (pv 3) (pa_cons pe_int pa_nil)))) pa_nil)))) (pa_cons (pv 1) pa_nil))))
       (pss_cons (ps_if (pt_cmpR (op_neD hr.units) (pe_c G_harmfullowerings (hr.mono (by decide)) rfl (pa_cons (pv 11) (pa_cons pe_int pa_nil))) (pe_c G_wdueranges (hr.mono (by decide)) rfl (pa_cons (pv 12) (pa_cons (pv 3) (pa_cons (pv 10) pa_nil)))) (nomark _)) (pss_one (ps_ret pe_bl)) pss_nil)
       (pss_cons (ps_set (i := 5) nd rfl (Or.inl rfl) (pe_lst pa_nil))
       (pss_cons (ps_for PassesOwn.never rfl (pi_range2 rfl T.b_range (pa_cons (pv 10) (pa_cons (pe_op op_add (pv 10) pe_int) pa_nil))) (pg_name (i := 6) nd rfl (Or.inl rfl)) (pss_one (ps_expr (pe_bm PySem.F.plainAttrs_list PySem.F.slot_list_append PySem.F.type_list_append mt_append (pv 5) (pa_cons (pe_tup (pa_cons (pe_op op_mulW (pe_op op_mulW (pe_op op_fdivW (pe_op op_sub (pe_op op_add (pv 3) (pe_op op_mulW (pv 12) (pv 6))) pe_int) (pe_op op_mulW (pv 12) (pv 6))) (pv 12)) (pv 6)) (pa_cons (pe_ifExp (pt_cmpR op_eq (pv 6) (pv 10) (nomark _)) (pv 4) (pe_op op_add (pe_op op_mulW (pv 12) (pe_op op_sub (pv 6) pe_int)) pe_int)) pa_nil))) pa_nil)))))
       (pss_cons (ps_if (pt_cmpR (op_neD hr.units) (pe_c G_bestraise (hr.mono (by decide)) rfl (pa_cons (pv 11) (pa_cons pe_int (pa_cons (pe_op op_mulW (pv 12) (pe_op op_add (pv 10) pe_int)) pa_nil)))) (pe_callB (call_minD hr.units) (by rfl) T.b_min (by decide +kernel) (pa_cons (pv 5) pa_nil)) (nomark _)) (pss_one (ps_ret pe_bl)) pss_nil)
       (pss_cons (ps_if (pt_cmpR (op_neD hr.units) (pe_lamc (T := LT L) (TT := TTrsd K L g0) (c := L.k__law_later_right) (P := L.t__law_later_right) (k := 10) T.d__law_raised sc_wraised rfl (Or.inl rfl) (fun _ => rsd_gives T (hr.mono (by decide)) (by exact hgd)) B.b__law_later_right rfl (lt_mem_wlaterright T) (lt_one_wlaterright T) (hr.mono (by decide)) (LamX.lamS_by (sc := defScope st__law_later_right) (by decide +kernel)) rfl (fun _ _ _ _ _ => rfl) (fun A outer s H E f c2 hr => by exact (pe_cX (EX.ok_bestraise (P := P) (w := w) (base := base) T) (hr.mono (by decide)) rfl (fun σ => passAt (takes_of rfl rfl rfl rfl) σ) (pa_cons (pv 11) (pa_cons pe_int (pa_cons (pe_op op_add (pe_op op_mulW (pv 12) (pe_op op_add (pv 10) pe_int)) pe_int) pa_nil)))))) (pe_tup (pa_cons pe_str (pa_cons pe_int pa_nil))) (nomark _)) (pss_one (ps_ret pe_bl)) pss_nil)
       (pss_cons (ps_if (pt_cmp (pc_notN (pe_lamc (T := LT L) (TT := TTrsd K L g0) (c := L.k__law_later_right) (P := L.t__law_later_right) (k := 10) T.d__law_raised sc_wraised rfl (Or.inl rfl) (fun _ => rsd_gives T (hr.mono (by decide)) (by exact hgd)) B.b__law_later_right rfl (lt_mem_wlaterright T) (lt_one_wlaterright T) (hr.mono (by decide)) (LamX.lamS_by (sc := defScope st__law_later_right) (by decide +kernel)) rfl (fun _ _ _ _ _ => rfl) (fun A outer s H E f c2 hr => by exact (pe_cX (EX.ok_bestraise (P := P) (w := w) (base := base) T) (hr.mono (by decide)) rfl (fun σ => passAt (takes_of rfl rfl rfl rfl) σ) (pa_cons (pv 11) (pa_cons pe_int (pa_cons (pe_op op_mulW (pv 12) (pe_op op_add (pv 10) pe_int)) pa_nil)))))))) (pss_one (ps_ret pe_bl)) pss_nil)
       (pss_cons (ps_for PassesOwn.never rfl (pi_tup (pe_tup (pa_cons (pe_tup (pa_cons pe_int (pa_cons pe_non pa_nil))) (pa_cons (pe_tup (pa_cons pe_int (pa_cons (pe_tup (pa_cons pe_str (pa_cons pe_int pa_nil))) pa_nil))) pa_nil)))) (pg_tup rfl (pgs_cons (pg_name (i := 7) nd rfl (Or.inl rfl)) (pgs_cons (pg_name (i := 8) nd rfl (Or.inl rfl)) pgs_nil))) (pss_cons (ps_set (i := 9) nd rfl (Or.inr rfl) (pe_mkRow T (hr.mono (by decide)) rfl (pa_cons (pe_lst (pa_cons (pv 2) (pa_cons (pe_tup (pa_cons pe_int (pa_cons (pe_op op_sub (pe_op op_mulW (pv 12) (pv 7)) (pe_c G_wnext (hr.mono (by decide)) rfl (pa_cons (pv 0) (pa_cons (pv 12) pa_nil)))) (pa_cons pe_int pa_nil)))) (pa_cons (pe_tup (pa_cons pe_int (pa_cons (pv 3) (pa_cons pe_int pa_nil)))) pa_nil)))) (pa_cons (pv 1) pa_nil))))
       (pss_one (ps_if (pt_cmpR (op_neD hr.units) (pe_lamc (T := LT L) (TT := TTrsd K L g0) (c := L.k__law_later_right) (P := L.t__law_later_right) (k := 10) T.d__law_raised sc_wraised rfl (Or.inl rfl) (fun _ => rsd_gives T (hr.mono (by decide)) (by exact hgd)) B.b__law_later_right rfl (lt_mem_wlaterright T) (lt_one_wlaterright T) (hr.mono (by decide)) (LamX.lamS_by (sc := defScope st__law_later_right) (by decide +kernel)) rfl (fun _ _ _ _ _ => rfl) (fun A outer s H E f c2 hr => by exact (pe_cX (EX.ok_harmfullowerings (P := P) (w := w) (base := base) T) (hr.mono (by decide)) rfl (fun σ => passAt (takes_of rfl rfl rfl rfl) σ) (pa_cons (pv 9) (pa_cons pe_int pa_nil))))) (pv 8) (nomark _)) (pss_one (ps_ret pe_bl)) pss_nil))))
       (pss_one (ps_ret (pe_cmpR (op_eqD hr.units) (pe_c G_harmfullowerings (hr.mono (by decide)) rfl (pa_cons (pe_mkRow T (hr.mono (by decide)) rfl (pa_cons (pe_lst (pa_cons (pv 2) (pa_cons (pe_tup (pa_cons pe_int (pa_cons (pe_op op_mulW (pv 12) pe_int) (pa_cons pe_int pa_nil)))) pa_nil))) (pa_cons (pv 1) pa_nil))) (pa_cons pe_int pa_nil))) (pe_lst pa_nil) (nomark _)))))))))))))))), ?_⟩
    have e9 : (10 : Int) ^ (9 : Int).toNat = 1000000000 := by decide +kernel
    have cp9 : CPow 10 9 := ⟨by decide, by decide, by decide⟩
    have bb := pd_bb
    have eB : PdB = 13000000000000000000000000000000 := rfl
    obtain ⟨y0, hy0⟩ := src.has
    refine ⟨_, rfl, s, 50, n, rfl, by decide, by decide, src, by omega, fun r1 H1 r10 r11 src1 k1 => ⟨_, _, rfl, rfl, ?_⟩⟩
    show gName 1 (.int (1 + r1)) _ _ _
    obtain ⟨st, hst⟩ : ∃ st, st = 1 + r1 := ⟨_, rfl⟩
    rw [← hst]
    have st1 : 1 ≤ st ∧ st ≤ 50 := by omega
    clear hst
    refine ⟨_, rfl, _, rfl, s, 99, _, rfl, by decide, by decide, src1, by omega, fun r2 H2 r20 r21 src2 k2 => ⟨_, _, rfl, rfl, ?_⟩⟩
    have ca : CMulW st (2 + r2) := mulBB (by omega) (by omega) (by omega) (by omega)
    refine ⟨_, _, rfl, rfl, ca, _, rfl, s, 30, _, rfl, by decide, by decide, src2, by omega, fun r3 H3 r30 r31 src3 k3 => ⟨_, _, rfl, rfl, (by show 2 ≤ sizeLine; decide), fun tp np => ?_⟩⟩
    dsimp only
    have Sp := Same.upd (o := .tup [.int (st * (2 + r2)), .int (2 + r3)]) np
    have ep := upd_same (H := H3) (a := tp) (o := .tup [.int (st * (2 + r2)), .int (2 + r3)])
    obtain ⟨u, hu⟩ : ∃ u, u = st * (2 + r2) := ⟨_, rfl⟩
    rw [← hu] at Sp ep ⊢
    have src3 := src3.same Sp
    have K3 := ((k1.trans k2).trans k3).trans (Kp.of Sp)
    generalize upd H3 tp (.tup [.int u, .int (2 + r3)]) = H4 at ep src3 K3 ⊢
    have u1 : u ≤ 50 * 101 := by rw [hu]; exact Int.mul_le_mul st1.2 (show 2 + r2 ≤ 101 by omega) (by omega) (by omega)
    have u0 : st * 2 ≤ u := by rw [hu]; exact Int.mul_le_mul_of_nonneg_left (by omega) (by omega)
    obtain ⟨mc, hmc⟩ : ∃ mc : Nat, 2 + r3 = (mc : Int) := ⟨(2 + r3).toNat, by omega⟩
    rw [hmc] at ep
    have mcb : 2 ≤ mc ∧ mc ≤ 31 := by omega
    refine ⟨tp, _, rfl, SqT.of ep, rfl, _, _, rfl, _, _, rfl, rfl, ?_⟩
    -- the first breaker and the last wait
    refine ⟨_, rfl, _, rfl, _, rfl, s, st, _, rfl, by omega, Nat.lt_of_le_of_lt (show st.natAbs ≤ 50 by omega) (by decide +kernel), src3, by omega, fun r4 H5 r40 r41 src4 k4 => ⟨_, _, rfl, rfl, (by show 3 ≤ sizeLine; decide), fun tf nf => ?_⟩⟩
    dsimp only at nf ⊢
    have nsf : tf ≠ s := by
      obtain ⟨y, hy⟩ := src4.has
      exact fun z => by rw [z, hy] at nf; cases nf
    have Sf := Same.upd (o := .tup [.int 2, .int (u - r4), .int 1]) nf
    have ef := upd_same (H := H5) (a := tf) (o := .tup [.int 2, .int (u - r4), .int 1])
    obtain ⟨f, hf⟩ : ∃ f, f = u - r4 := ⟨_, rfl⟩
    rw [← hf] at Sf ef ⊢
    have src4 := src4.same Sf
    have K4 := (K3.trans k4).trans (Kp.of Sf)
    generalize upd H5 tf (.tup [.int 2, .int f, .int 1]) = H6 at ef src4 K4 ⊢
    refine ⟨_, rfl, _, _, rfl, rfl, cp9, s, _, _, rfl, by rw [e9]; decide, by rw [e9]; decide, src4, by omega, fun r5 H7 r50 r51 src5 k5 => ⟨_, _, rfl, rfl, _, _, rfl, ?_⟩⟩
    rw [e9] at r51
    have ef := k5 _ _ nsf ef
    obtain ⟨last, hlast⟩ : ∃ last, last = 1 + r5 := ⟨_, rfl⟩
    have la : 1 ≤ last ∧ last ≤ 1000000000 := by omega
    dsimp only
    rw [← hlast]
    have K5 := K4.trans k5
    -- the wait
    have um1 : u * mc ≤ 5050 * 31 := Int.mul_le_mul u1 (show (mc : Int) ≤ 31 by omega) (by omega) (by omega)
    have um0 : u * 2 ≤ u * mc := Int.mul_le_mul_of_nonneg_left (by omega) (by omega)
    have cum : CMulW u mc := mulBB (by omega) (by omega) (by omega) (by omega)
    refine ⟨_, rfl, _, rfl, _, _, rfl, rfl, cum, _, rfl, _, rfl, s, u, _, rfl, by omega, Nat.lt_of_le_of_lt (show u.natAbs ≤ 5050 by omega) (by decide +kernel), src5, by omega, fun r6 H8 r60 r61 src6 k6 => ⟨_, _, rfl, rfl, ?_⟩⟩
    have ef := k6 _ _ nsf ef
    have K6 := K5.trans k6
    show gName 4 (.int (u * mc - r6)) _ _ _
    obtain ⟨wt, hwt⟩ : ∃ wt, wt = u * mc - r6 := ⟨_, rfl⟩
    rw [← hwt]
    -- the row
    refine ⟨_, rfl, _, rfl, (by show 3 ≤ sizeLine; decide), fun t2 m2 => ?_⟩
    have T2 := Same.upd (o := .tup [.int 1, .int wt, .int 2]) m2
    have g2 := upd_same (H := H8) (a := t2) (o := .tup [.int 1, .int wt, .int 2])
    have ef := T2 _ _ ef
    generalize upd H8 t2 (.tup [.int 1, .int wt, .int 2]) = H9 at T2 g2 ef ⊢
    refine ⟨_, rfl, (by show 3 ≤ sizeLine; decide), fun t3 m3 => ⟨(by show 3 ≤ sizeLine; decide), fun l1 m4 => ?_⟩⟩
    have T3 := Same.upd (o := .tup [.int 3, .int last, .int 1]) m3
    have g3 := upd_same (H := H9) (a := t3) (o := .tup [.int 3, .int last, .int 1])
    have ef := T3 _ _ ef
    have g2 := T3 _ _ g2
    generalize upd H9 t3 (.tup [.int 3, .int last, .int 1]) = H10 at T3 g2 g3 ef m4 ⊢
    have T4 := Same.upd (o := .lst [.ref tf, .ref t2, .ref t3]) m4
    have g4 := upd_same (H := H10) (a := l1) (o := .lst [.ref tf, .ref t2, .ref t3])
    have ef := T4 _ _ ef
    have g2 := T4 _ _ g2
    have g3 := T4 _ _ g3
    generalize upd H10 l1 (.lst [.ref tf, .ref t2, .ref t3]) = H11 at T4 g2 g3 g4 ef ⊢
    have f1 : 1 ≤ f ∧ f ≤ 5050 := by omega
    have w1 : 1 ≤ wt ∧ wt ≤ u * mc := by omega
    have okT : ∀ t ∈ ([(2, f, 1), (1, wt, 2), (3, last, 1)] : List Tri), OkT t := fun t ht => by
      simp only [List.mem_cons, List.mem_nil_iff, or_false] at ht
      rcases ht with rfl | rfl | rfl
      · exact ⟨by show (1 : Int) ≤ 2; decide, by show (2 : Int) ≤ _; decide, by show 1 ≤ f; omega, by show f ≤ _; omega, by show (1 : Int) ≤ 1; decide, by show (1 : Int) ≤ _; decide⟩
      · exact ⟨by show (1 : Int) ≤ 1; decide, by show (1 : Int) ≤ _; decide, by show 1 ≤ wt; omega, by show wt ≤ _; omega, by show (1 : Int) ≤ 2; decide, by show (2 : Int) ≤ _; decide⟩
      · exact ⟨by show (1 : Int) ≤ 3; decide, by show (3 : Int) ≤ _; decide, by show 1 ≤ last; omega, by show last ≤ _; omega, by show (1 : Int) ≤ 1; decide, by show (1 : Int) ≤ _; decide⟩
    refine ⟨_, rfl, row_made38 g4 (ts := [(2, f, 1), (1, wt, 2), (3, last, 1)]) (.cons ⟨_, rfl, ef⟩ (.cons ⟨_, rfl, g2⟩ (.cons ⟨_, rfl, g3⟩ .nil))) okT (Nat.le_of_ble_eq_true rfl) ⟨by omega, by omega, by decide, by decide⟩ fun r B H12 R s12 n12 => ?_⟩
    have TT := (T2.trans T3).trans (T4.trans s12)
    have src := src6.same TT
    have K7 := K6.trans (Kp.of TT)
    have ef := s12 _ _ ef
    have tabs := Tabs.nl tabs (Kp.nl K7 hy0)
    have k : ∀ H', KS s H12 H' → LamX.Tabs (LT L) H' → Q (.bl true) H' := fun H' e t => k H' ((KS.of K7).trans e) t
    obtain ⟨eF, _⟩ := rup_nr (s := st) (n := 2 + r2) (e := r4) st1.1 (by omega) r40 r41
    rw [← hu, ← hf] at eF
    obtain ⟨eW, eS⟩ := rup_nr (s := u) (n := (mc : Int)) (e := r6) (by omega) (by omega) r60 r61
    rw [← hwt] at eW eS
    clear T2 T3 T4 TT g2 g3 g4 m2 m3 m4 s12 n12 K3 K4 K5 K6 K7 k1 k2 k3 k4 k5 k6 src1 src2 src3 src4 src5 src6 Sp Sf np nf ep
    -- the lowerings
    have hBG : Bg (hbT [(2, f, 1), (1, wt, 2), (3, last, 1)] st 1) (rupI f st) (stepsUp wt (rupI f st) - 1).toNat = Bg (fun p => decide (rupI last p > rupI last (u * mc))) u (mc - 1) := by
      rw [eF, eS, show ((mc : Int) - 1).toNat = mc - 1 by omega]
      have e : hbT [(2, f, 1), (1, wt, 2), (3, last, 1)] st 1 = fun p => decide (rupI last p > rupI last (u * mc)) := by
        funext p
        show decide (rupI last p > rupI last (rupI wt (rupI f st))) = _
        rw [eF, eW]
      rw [e]
    refine ⟨_, rfl, r, B, _, _, st, 0, _, 1, rfl, R, rfl, by show rupI wt (rupI f st) ≤ _; rw [eF, eW]; omega, by show stepsUp wt (rupI f st) ≤ 2001; rw [eF, eS]; omega, fun lh wh H13 hlh hph s13 n13 => ?_⟩
    have hph : Paired (PrI H13) wh (Bg (fun p => decide (rupI last p > rupI last (u * mc))) u (mc - 1)) := by
      rw [← hBG]
      exact hph
    refine ⟨_, rfl, _, rfl, _, rfl, u, last, mc, rfl, by omega, by omega, la.1, la.2, by omega, by omega, fun ld wd H14 hld hpd s14 n14 => ?_⟩
    refine ⟨.list ((Bg (fun p => decide (rupI last p > rupI last (u * mc))) u (mc - 1)).map prD), .list ((Bg (fun p => decide (rupI last p > rupI last (u * mc))) u (mc - 1)).map prD), .lst (SqL.of (s14 _ _ hlh)) (pri_dp (L2.Paired.mapP hph fun _ _ z => z.nl (NL.of s14))), .lst (SqL.of hld) (pri_dp hpd), sh_prs _, sh_prs _, ?_⟩
    rw [show ∀ F : List Pr, PyData.eqv (.list (F.map prD)) (.list (F.map prD)) = true from fun F => by rw [PyData.eqv]; exact eq_prs F]
    refine ⟨_, rfl, iteF ?_⟩
    have sB := s13.trans s14
    have src := src.same sB
    have ef := sB _ _ ef
    have R := R.nl (NL.of sB)
    have tabs := Tabs.nl tabs (NL.of sB)
    have k : ∀ H', KS s H14 H' → LamX.Tabs (LT L) H' → Q (.bl true) H' := fun H' e t => k H' ((KS.of (Kp.of sB)).trans e) t
    clear sB s13 s14 hlh hph hld hpd n13 n14 hBG
    -- what is due
    refine ⟨(by show 0 ≤ sizeLine; decide), fun lu nlu => ?_⟩
    have s0 := Same.upd (o := .lst []) nlu
    have g0 := upd_same (H := H14) (a := lu) (o := .lst [])
    generalize upd H14 lu (.lst []) = H15 at s0 g0 ⊢
    refine ⟨_, rfl, _, rfl, _, _, rfl, rfl, _, _, rfl, ⟨by omega, by omega, by omega, by omega⟩, ?_⟩
    rw [show ((mc : Int) + 41 - mc).toNat = 41 by omega]
    refine for_range (lo := (mc : Int)) (n := 41) (fun j σ Hx => ∃ (ws : List V) (v6 : Option V), σ = [some (.ref s), some (.int st), some (.ref tf), some (.int last), some (.int wt), some (.ref lu), v6, none, none, none, some (.int mc), some (.ref r), some (.int u)] ∧ Hx lu = some (.lst ws) ∧ Paired (PrI Hx) ws (dueL last u (u * mc) wt j) ∧ Same H14 Hx) ⟨[], none, rfl, g0, .nil, s0⟩ ?_ ?_
    · rintro j σ Hx hj ⟨ws, v6, rfl, hf, hp, sx⟩
      have wl := paired_len hp
      rw [dueL_len] at wl
      have ek : u * ((mc : Int) + (j : Nat)) = u * mc + (j : Int) * u := by rw [Int.mul_add, Int.mul_comm u (j : Int)]
      have j0 : 0 ≤ (j : Int) * u := Int.mul_nonneg (by omega) (by omega)
      have j1 : (j : Int) * u ≤ 41 * 5050 := Int.mul_le_mul (show (j : Int) ≤ 41 by omega) u1 (by omega) (by omega)
      have cm : CMulW u ((mc : Int) + (j : Nat)) := mulBB (by omega) (by omega) (by omega) (by omega)
      have cj : CMulW u ((mc : Int) + (j : Nat) - 1) := mulBB (by omega) (by omega) (by omega) (by omega)
      have uk1 : 1 ≤ u * ((mc : Int) + (j : Nat)) := by omega
      obtain ⟨uk, huk⟩ : ∃ uk, uk = u * ((mc : Int) + (j : Nat)) := ⟨_, rfl⟩
      have dk : 0 ≤ (last + uk - 1) / uk ∧ (last + uk - 1) / uk ≤ last + uk - 1 := ⟨Int.ediv_nonneg (by omega) (by omega), Int.ediv_le_self _ (by omega)⟩
      have cd : CDivW (last + uk - 1) uk := ⟨by omega, divBB (by omega) (by omega)⟩
      have q1 : (last + uk - 1) / uk * u ≤ 2000000000 * 5050 := Int.mul_le_mul (by omega) u1 (by omega) (by omega)
      have q0 := Int.mul_nonneg dk.1 (show 0 ≤ u by omega)
      have cq : CMulW ((last + uk - 1) / uk) u := mulBB (by omega) (by omega) (by omega) (by omega)
      have cq2 : CMulW ((last + uk - 1) / uk * u) ((mc : Int) + (j : Nat)) := mulBB (by omega) (by omega) (by omega) (by omega)
      have hq : (last + uk - 1) / uk * u * ((mc : Int) + (j : Nat)) = rupI last (u * mc + (j : Int) * u) := by
        rw [Int.mul_assoc, ← huk, rup_div la.1 (by omega), huk, ek]
      rw [huk] at cd cq cq2 hq
      refine ⟨_, rfl, .inl ⟨rfl, _, SqL.of hf⟩, _, rfl, _, rfl, _, rfl, _, _, rfl, rfl, cm, _, _, rfl, rfl, _, _, rfl, rfl, _, rfl, _, rfl, _, _, rfl, rfl, cm, _, _, rfl, rfl, cd, _, rfl, _, _, rfl, rfl, cq, _, rfl, _, _, rfl, rfl, cq2, ?_⟩
      dsimp only
      rw [hq]
      refine ⟨_, rfl, _, rfl, rfl, _, rfl, ?_⟩
      refine ite2 (fun c => ?_) (fun c => ?_)
      · have c : j = 0 := by have := V.int.inj (of_decide_eq_true c); omega
        refine ⟨_, rfl, (by show 2 ≤ sizeLine; decide), fun tq ntq => ?_⟩
        have e2 : wt = (dueE last u (u * mc) wt j).2 := by unfold dueE; exact (if_pos c).symm
        rw [show (V.int wt) = V.int (dueE last u (u * mc) wt j).2 from congrArg V.int e2]
        have sq := Same.upd (o := .tup [.int (rupI last (u * mc + (j : Int) * u)), .int (dueE last u (u * mc) wt j).2]) ntq
        have eq_ : upd Hx tq (.tup [.int (rupI last (u * mc + (j : Int) * u)), .int (dueE last u (u * mc) wt j).2]) tq = some (.tup [.int (rupI last (u * mc + (j : Int) * u)), .int (dueE last u (u * mc) wt j).2]) := upd_same
        have hfq := sq _ _ hf
        have n7 := NL.upd (o := .lst (ws ++ [.ref tq])) hfq
        refine ⟨lu, ws, _, rfl, rfl, hfq, small1 (by omega), ws ++ [.ref tq], _, rfl, upd_same, ?_, fun b o e => by rw [upd_ne (ne_of_none e nlu)]; exact sq _ _ (sx _ _ e)⟩
        rw [dueL_succ]
        exact paired_app (L2.Paired.mapP hp fun _ _ z => z.nl ((NL.of sq).trans n7)) (.cons ⟨tq, rfl, n7 _ _ eq_ fun _ z => nomatch z⟩ .nil)
      · have c : j ≠ 0 := fun z => c (decide_eq_true (congrArg V.int (by omega)))
        refine ⟨_, rfl, _, rfl, _, _, rfl, rfl, _, _, rfl, rfl, cj, _, _, rfl, rfl, (by show 2 ≤ sizeLine; decide), fun tq ntq => ?_⟩
        dsimp only
        have e2 : u * ((mc : Int) + (j : Nat) - 1) + 1 = (dueE last u (u * mc) wt j).2 := by
          unfold dueE
          rw [if_neg c, show (mc : Int) + (j : Nat) - 1 = mc + ((j : Nat) - 1 : Int) by omega, Int.mul_add, Int.mul_sub, Int.mul_one, Int.mul_comm u (j : Int)]
          omega
        rw [e2]
        have sq := Same.upd (o := .tup [.int (rupI last (u * mc + (j : Int) * u)), .int (dueE last u (u * mc) wt j).2]) ntq
        have eq_ : upd Hx tq (.tup [.int (rupI last (u * mc + (j : Int) * u)), .int (dueE last u (u * mc) wt j).2]) tq = some (.tup [.int (rupI last (u * mc + (j : Int) * u)), .int (dueE last u (u * mc) wt j).2]) := upd_same
        have hfq := sq _ _ hf
        have n7 := NL.upd (o := .lst (ws ++ [.ref tq])) hfq
        refine ⟨lu, ws, _, rfl, rfl, hfq, small1 (by omega), ws ++ [.ref tq], _, rfl, upd_same, ?_, fun b o e => by rw [upd_ne (ne_of_none e nlu)]; exact sq _ _ (sx _ _ e)⟩
        rw [dueL_succ]
        exact paired_app (L2.Paired.mapP hp fun _ _ z => z.nl ((NL.of sq).trans n7)) (.cons ⟨tq, rfl, n7 _ _ eq_ fun _ z => nomatch z⟩ .nil)
    rintro σ H16 ⟨ws, v6, rfl, hlu, hpu, s16⟩
    have hpu : Paired (PrI H16) ws ((rupI last (u * mc), wt) :: brL [last] u (u * mc) 40) := hpu
    have src := src.same s16
    have ef := s16 _ _ ef
    have R := R.nl (NL.of s16)
    have tabs := Tabs.nl tabs (NL.of s16)
    have k : ∀ H', KS s H16 H' → LamX.Tabs (LT L) H' → Q (.bl true) H' := fun H' e t => k H' ((KS.of (Kp.of s16)).trans e) t
    clear s16 s0 g0 nlu
    have rl : ∀ N : Nat, (N : Int) ≤ 2000 → u * ((mc : Int) + N) = u * mc + (N : Int) * u ∧ (N : Int) * u ≤ 2000 * 5050 ∧ 0 ≤ (N : Int) * u := fun N hN => ⟨by rw [Int.mul_add, Int.mul_comm u (N : Int)], Int.mul_le_mul hN u1 (by omega) (by omega), Int.mul_nonneg (by omega) (by omega)⟩
    obtain ⟨p40, p41, p42⟩ := rl 40 (by decide)
    have p40 : u * ((mc : Int) + 40) = u * mc + 40 * u := p40
    have p41 : 40 * u ≤ 2000 * 5050 := p41
    have c40 : CMulW u ((mc : Int) + 40) := mulBB (by omega) (by omega) (by omega) (by omega)
    have t40 := (rup_mulI (s := u) (n := (mc : Int) + 40) (by omega) (by omega)).1
    refine ⟨_, rfl, _, rfl, _, rfl, _, _, rfl, rfl, _, _, rfl, rfl, c40, r, B, _, _, st, 0, _, 1, 40, _, rfl, R, rfl, by show wt ≤ u * ((mc : Int) + 40); omega, by show u * ((mc : Int) + 40) ≤ _; omega, by show rupI (u * ((mc : Int) + 40)) (rupI f st) = rupI wt (rupI f st) + _ * rupI f st; rw [eF, eW, t40, p40]; rfl, by decide, by show rupI (u * ((mc : Int) + 40)) (rupI f st) ≤ _; rw [eF, t40]; omega, fun v H17 pv s17 => ?_⟩
    have pv : PrI H17 v (minP (rupI last (u * mc), wt) (brL [last] u (u * mc) 40)) := by
      have z : PrI H17 v (minP (rupI last (rupI wt (rupI f st)), wt) (brL [last] (rupI f st) (rupI wt (rupI f st)) 40)) := pv
      rwa [eF, eW] at z
    refine ⟨.ref lu, rfl, ?_⟩
    unfold tNil
    dsimp only
    refine min_pr (s17 _ _ hlu) (L2.Paired.mapP hpu fun _ _ z => z.nl (NL.of s17)) fun v2 pv2 => ?_
    refine ⟨_, _, pv.dp, pv2.dp, sh_pr _, sh_pr _, ?_⟩
    rw [eq_pr]
    refine ⟨_, rfl, iteF ?_⟩
    have src := src.same s17
    have ef := s17 _ _ ef
    have R := R.nl (NL.of s17)
    have tabs := Tabs.nl tabs (NL.of s17)
    have k : ∀ H', KS s H17 H' → LamX.Tabs (LT L) H' → Q (.bl true) H' := fun H' e t => k H' ((KS.of (Kp.of s17)).trans e) t
    clear s17 hlu hpu pv pv2
    -- a bound too far
    obtain ⟨p20, p21, p22⟩ := rl 2000 (by decide)
    have p20 : u * ((mc : Int) + 2000) = u * mc + 2000 * u := p20
    have p21 : 2000 * u ≤ 2000 * 5050 := p21
    have c20 : CMulW u ((mc : Int) + 2000) := mulBB (by omega) (by omega) (by omega) (by omega)
    have t20 := (rup_mulI (s := u) (n := (mc : Int) + 2000) (by omega) (by omega)).1
    obtain ⟨_, rM, _⟩ := rup_is (w := u * ((mc : Int) + 2000) + 1) (p := u) (by omega) (by omega)
    refine ⟨tabs, fun Hw exW txW E N Hx sx hE hN => ?_⟩
    refine ⟨_, rfl, _, rfl, _, rfl, _, _, rfl, rfl, _, _, rfl, rfl, c20, _, _, rfl, rfl, .inr ⟨r, B, _, _, st, 0, .int 1, _, rfl, (R.ext exW).nl (NL.of sx), .inr ⟨1, _, rfl, rfl, .inr ⟨u * ((mc : Int) + 2000) + 1, rfl, by show wt ≤ _; omega, by omega, by show rupI wt (rupI f st) ≤ _; rw [eF, eW]; omega, by show 2000 * rupI f st < rupI (u * ((mc : Int) + 2000) + 1) (rupI f st) - rupI wt (rupI f st); rw [eF, eW]; omega, said_lm hE fun q Hu hq su => ?_⟩⟩⟩⟩
    refine ⟨(by show 2 ≤ sizeLine; decide), fun q6 m6 => ?_⟩
    have S6 := Same.upd (o := .tup [.str "limit", .int 2000]) m6
    refine ⟨lmD 2000, lmD 2000, dpLm (S6 _ _ hq), dpLm upd_same, shLm _, shLm _, ?_⟩
    rw [eqLm]
    have exZ := exW.trans (LamX.ExtN.of (sx.trans (su.trans S6)))
    have tabs := Tabs.nl txW (NL.of (sx.trans (su.trans S6)))
    generalize upd Hu q6 (.tup [.str "limit", .int 2000]) = HY at exZ tabs ⊢
    refine ⟨_, rfl, iteF ?_⟩
    have R := R.ext exZ
    have src := src.ext exZ
    have ef := exZ _ _ ef fun _ z => nomatch z
    have k : ∀ H', KS s HY H' → LamX.Tabs (LT L) H' → Q (.bl true) H' := fun H' e t => k H' ((KS.ext exZ).trans e) t
    clear hE hN exW txW sx su S6 hq m6 exZ rM
    -- .. and one that is not
    refine ⟨tabs, fun Hw exW txW E N Hx sx hE hN => ?_⟩
    refine ⟨_, rfl, _, rfl, _, rfl, _, _, rfl, rfl, _, _, rfl, rfl, c20, .inl ⟨r, B, _, _, st, 0, _, 1, 2000, _, rfl, (R.ext exW).nl (NL.of sx), rfl, by show wt ≤ _; omega, by show u * ((mc : Int) + 2000) ≤ _; omega, by show rupI (u * ((mc : Int) + 2000)) (rupI f st) = rupI wt (rupI f st) + _ * rupI f st; rw [eF, eW, t20, p20]; rfl, by decide, by show rupI (u * ((mc : Int) + 2000)) (rupI f st) ≤ _; rw [eF, t20]; omega, fun v H18 pv s18 => hN _ _ ?_⟩⟩
    refine ⟨_, rfl, iteF ?_⟩
    have exZ := exW.trans (LamX.ExtN.of (sx.trans s18))
    have tabs := Tabs.nl txW (NL.of (sx.trans s18))
    have src := src.ext exZ
    have ef := exZ _ _ ef fun _ z => nomatch z
    have k : ∀ H', KS s H18 H' → LamX.Tabs (LT L) H' → Q (.bl true) H' := fun H' e t => k H' ((KS.ext exZ).trans e) t
    clear hE hN exW txW sx s18 exZ R
    have src := src.mono (m := n + 6606) (by omega)
    -- as many ranges as there may be, and one more
    refine ⟨(by show 2 ≤ sizeLine; decide), fun ta na => ⟨(by show 2 ≤ sizeLine; decide), fun tl nl => ⟨(by show 2 ≤ sizeLine; decide), fun tb nb => ⟨(by show 2 ≤ sizeLine; decide), fun tt nt => ?_⟩⟩⟩⟩
    have Sa := Same.upd (o := .tup [.int 2001, .non]) na
    have ea := upd_same (H := H18) (a := ta) (o := .tup [.int 2001, .non])
    generalize upd H18 ta (.tup [.int 2001, .non]) = I1 at Sa ea nl nb nt ⊢
    have Sl := Same.upd (o := .tup [.str "limit", .int 2000]) nl
    have el := upd_same (H := I1) (a := tl) (o := .tup [.str "limit", .int 2000])
    have ea := Sl _ _ ea
    generalize upd I1 tl (.tup [.str "limit", .int 2000]) = I2 at Sl ea el nb nt ⊢
    have Sb := Same.upd (o := .tup [.int 2002, .ref tl]) nb
    have eb := upd_same (H := I2) (a := tb) (o := .tup [.int 2002, .ref tl])
    have ea := Sb _ _ ea
    have el := Sb _ _ el
    generalize upd I2 tb (.tup [.int 2002, .ref tl]) = I3 at Sb ea el eb nt ⊢
    have St := Same.upd (o := .tup [.ref ta, .ref tb]) nt
    have et := upd_same (H := I3) (a := tt) (o := .tup [.ref ta, .ref tb])
    have ea := St _ _ ea
    have el := St _ _ el
    have eb := St _ _ eb
    generalize upd I3 tt (.tup [.ref ta, .ref tb]) = I4 at St ea el eb et ⊢
    have SS := (Sa.trans Sl).trans (Sb.trans St)
    have src := src.same SS
    have ef := SS _ _ ef
    have tabs := Tabs.nl tabs (NL.of SS)
    have k : ∀ H', KS s I4 H' → LamX.Tabs (LT L) H' → Q (.bl true) H' := fun H' e t => k H' ((KS.of (Kp.of SS)).trans e) t
    clear Sa Sl Sb St SS na nl nb nt
    refine ⟨tt, rfl, ⟨_, SqT.of et⟩, for_tup (K := K) (a := tt) (xs := [.ref ta, .ref tb]) (fun i σ Hx => ∃ v7 v8 v9 : Option V, σ = [some (.ref s), some (.int st), some (.ref tf), some (.int last), some (.int wt), some (.ref lu), v6, v7, v8, v9, some (.int mc), some (.ref r), some (.int u)] ∧ Src Hx s (n + 6606 + 1101 * i) ∧ LamX.Tabs (LT L) Hx ∧ Hx tf = some (.tup [.int 2, .int f, .int 1]) ∧ Hx ta = some (.tup [.int 2001, .non]) ∧ Hx tl = some (.tup [.str "limit", .int 2000]) ∧ Hx tb = some (.tup [.int 2002, .ref tl]) ∧ Hx tt = some (.tup [.ref ta, .ref tb]) ∧ KS s I4 Hx)
      ⟨_, _, _, rfl, src, tabs, ef, ea, el, eb, et, fun _ _ _ e _ => e⟩ (fun i σ Hx _ ⟨_, _, _, _, _, _, _, _, _, _, e, _⟩ => SqT.of e) ?_ ?_⟩
    · rintro i x σ Hx hxi ⟨v7, v8, v9, rfl, src, tabs, ef, ea, el, eb, et, ks⟩
      have il := (List.getElem?_eq_some_iff.mp hxi).1
      have il : i < 2 := il
      obtain ⟨t, c, told, rfl, hte, c0, c1, alt⟩ : ∃ (t : Addr) (c : Int) (told : V), x = .ref t ∧ Hx t = some (.tup [.int c, told]) ∧ 2001 ≤ c ∧ c ≤ 2002 ∧ ((c = 2001 ∧ told = .non) ∨ (c = 2002 ∧ told = .ref tl)) := by
        match i, hxi with
        | 0, hxi => exact ⟨ta, 2001, .non, (Option.some.inj hxi).symm, ea, by decide, by decide, .inl ⟨rfl, rfl⟩⟩
        | 1, hxi => exact ⟨tb, 2002, .ref tl, (Option.some.inj hxi).symm, eb, by decide, by decide, .inr ⟨rfl, rfl⟩⟩
      refine ⟨t, _, rfl, SqT.of hte, rfl, _, _, rfl, _, _, rfl, rfl, ?_⟩
      have uc1 : u * c ≤ 5050 * 2002 := Int.mul_le_mul u1 c1 (by omega) (by omega)
      have uc0 : u * 2001 ≤ u * c := Int.mul_le_mul_of_nonneg_left c0 (by omega)
      have cc : CMulW u c := mulBB (by omega) (by omega) (by omega) (by omega)
      refine ⟨_, rfl, _, rfl, _, rfl, _, _, rfl, rfl, cc, _, rfl, _, rfl, s, u, _, rfl, by omega, Nat.lt_of_le_of_lt (show u.natAbs ≤ 5050 by omega) (by decide +kernel), src, by omega, fun r7 Hd r70 r71 srcd kd => ⟨_, _, rfl, rfl, (by show 3 ≤ sizeLine; decide), fun t5 n5 => ?_⟩⟩
      dsimp only at n5 ⊢
      have nes : ∀ {b : Addr} {us : List V}, Hx b = some (.tup us) → b ≠ s := fun h => src.ne h
      have ef := kd _ _ (nes ef) ef
      have ea := kd _ _ (nes ea) ea
      have el := kd _ _ (nes el) el
      have eb := kd _ _ (nes eb) eb
      have et := kd _ _ (nes et) et
      obtain ⟨yx, hyx⟩ := src.has
      have tabs := Tabs.nl tabs (Kp.nl kd hyx)
      obtain ⟨w2, hw2⟩ : ∃ w2, w2 = u * c - r7 := ⟨_, rfl⟩
      obtain ⟨eW2, eS2⟩ := rup_nr (s := u) (n := c) (e := r7) (by omega) (by omega) r70 r71
      rw [← hw2] at eW2 eS2 ⊢
      have S5 := Same.upd (o := .tup [.int 1, .int w2, .int 1]) n5
      have g5 := upd_same (H := Hd) (a := t5) (o := .tup [.int 1, .int w2, .int 1])
      generalize upd Hd t5 (.tup [.int 1, .int w2, .int 1]) = J1 at S5 g5 ⊢
      refine ⟨_, rfl, (by show 3 ≤ sizeLine; decide), fun t6 n6 => ⟨(by show 3 ≤ sizeLine; decide), fun l5 n7 => ?_⟩⟩
      have S6 := Same.upd (o := .tup [.int 1, .int last, .int 1]) n6
      have g6 := upd_same (H := J1) (a := t6) (o := .tup [.int 1, .int last, .int 1])
      have g5 := S6 _ _ g5
      generalize upd J1 t6 (.tup [.int 1, .int last, .int 1]) = J2 at S6 g5 g6 n7 ⊢
      have S7 := Same.upd (o := .lst [.ref tf, .ref t5, .ref t6]) n7
      have g7 := upd_same (H := J2) (a := l5) (o := .lst [.ref tf, .ref t5, .ref t6])
      have g5 := S7 _ _ g5
      have g6 := S7 _ _ g6
      have ST := (S5.trans S6).trans S7
      have ef' := ST _ _ ef
      generalize upd J2 l5 (.lst [.ref tf, .ref t5, .ref t6]) = J3 at S7 ST g5 g6 g7 ef' ⊢
      have okT : ∀ t ∈ ([(2, f, 1), (1, w2, 1), (1, last, 1)] : List Tri), OkT t := fun t ht => by
        simp only [List.mem_cons, List.mem_nil_iff, or_false] at ht
        rcases ht with rfl | rfl | rfl
        · exact ⟨by show (1 : Int) ≤ 2; decide, by show (2 : Int) ≤ _; decide, by show 1 ≤ f; omega, by show f ≤ _; omega, by show (1 : Int) ≤ 1; decide, by show (1 : Int) ≤ _; decide⟩
        · exact ⟨by show (1 : Int) ≤ 1; decide, by show (1 : Int) ≤ _; decide, by show 1 ≤ w2; omega, by show w2 ≤ _; omega, by show (1 : Int) ≤ 1; decide, by show (1 : Int) ≤ _; decide⟩
        · exact ⟨by show (1 : Int) ≤ 1; decide, by show (1 : Int) ≤ _; decide, by show 1 ≤ last; omega, by show last ≤ _; omega, by show (1 : Int) ≤ 1; decide, by show (1 : Int) ≤ _; decide⟩
      refine ⟨_, rfl, row_made38 g7 (ts := [(2, f, 1), (1, w2, 1), (1, last, 1)]) (.cons ⟨_, rfl, ef'⟩ (.cons ⟨_, rfl, g5⟩ (.cons ⟨_, rfl, g6⟩ .nil))) okT (Nat.le_of_ble_eq_true rfl) ⟨by omega, by omega, by decide, by decide⟩ fun r' B' J4 R' sj nj => ?_⟩
      have ST := ST.trans sj
      have tabs := Tabs.nl tabs (NL.of ST)
      have fin : ∀ (HZ : Hp) (v7 v8 v9 : Option V), LamX.ExtN J4 HZ → LamX.Tabs (LT L) HZ → ∃ w7 w8 w9 : Option V, ([some (.ref s), some (.int st), some (.ref tf), some (.int last), some (.int wt), some (.ref lu), v6, v7, v8, v9, some (.int mc), some (.ref r), some (.int u)] : L2.St) = [some (.ref s), some (.int st), some (.ref tf), some (.int last), some (.int wt), some (.ref lu), v6, w7, w8, w9, some (.int mc), some (.ref r), some (.int u)] ∧ Src HZ s (n + 6606 + 1101 * (i + 1)) ∧ LamX.Tabs (LT L) HZ ∧ HZ tf = some (.tup [.int 2, .int f, .int 1]) ∧ HZ ta = some (.tup [.int 2001, .non]) ∧ HZ tl = some (.tup [.str "limit", .int 2000]) ∧ HZ tb = some (.tup [.int 2002, .ref tl]) ∧ HZ tt = some (.tup [.ref ta, .ref tb]) ∧ KS s I4 HZ := fun HZ v7 v8 v9 ex tx => by
        have mv : ∀ {b : Addr} {us : List V}, Hd b = some (.tup us) → HZ b = some (.tup us) := fun h => ex _ _ (ST _ _ h) fun _ z => nomatch z
        exact ⟨v7, v8, v9, rfl, ((srcd.same ST).ext ex).mono (by omega), tx, mv ef, mv ea, mv el, mv eb, mv et, ((ks.trans (KS.of kd)).trans (KS.of (Kp.of ST))).trans (KS.ext ex)⟩
      have el4 := ST _ _ el
      refine ⟨tabs, fun Hw exW txW E N Hy sx hE hN => ?_⟩
      rcases alt with ⟨rfl, rfl⟩ | ⟨rfl, rfl⟩
      · refine ⟨_, rfl, .inl ⟨r', B', _, _, st, 0, _, 1, rfl, (R'.ext exW).nl (NL.of sx), rfl, by show rupI w2 (rupI f st) ≤ _; rw [eF, eW2]; omega, by show stepsUp w2 (rupI f st) ≤ 2001; rw [eF, eS2]; exact Int.le_refl _, fun l' ws' J5 hl' hp' s5 n5' => hN _ _ ?_⟩⟩
        refine ⟨_, rfl, .none, .none, .non, .non, rfl, rfl, ⟨_, rfl, iteF ?_⟩⟩
        exact fin _ _ _ _ (exW.trans (LamX.ExtN.of (sx.trans s5))) (Tabs.nl txW (NL.of (sx.trans s5)))
      · refine ⟨_, rfl, .inr ⟨r', B', _, _, st, 0, .int 1, rfl, (R'.ext exW).nl (NL.of sx), .inr ⟨1, _, rfl, rfl, by show rupI w2 (rupI f st) ≤ _; rw [eF, eW2]; omega, by show 2001 < stepsUp w2 (rupI f st); rw [eF, eS2]; decide, said_lm hE fun q Hu hq su => ?_⟩⟩⟩
        have elu := su _ _ (sx _ _ (exW _ _ el4 fun _ z => nomatch z))
        refine ⟨_, rfl, lmD 2000, lmD 2000, dpLm hq, dpLm elu, shLm _, shLm _, ?_⟩
        rw [eqLm]
        refine ⟨_, rfl, iteF ?_⟩
        exact fin _ _ _ _ (exW.trans (LamX.ExtN.of (sx.trans su))) (Tabs.nl txW (NL.of (sx.trans su)))
    rintro σ K1 ⟨v7, v8, v9, rfl, src, tabs, ef, ea, el, eb, et, ks⟩
    have c21 : CMulW u 2001 := mulBB (by omega) (by omega) (by decide) (by have := BB0; omega)
    obtain ⟨eU, eT⟩ := rup_mulI (s := u) (n := 2001) (by omega) (by decide)
    refine ⟨_, rfl, _, rfl, _, _, rfl, rfl, c21, (by show 3 ≤ sizeLine; decide), fun t8 n8 => ⟨(by show 2 ≤ sizeLine; decide), fun l8 n9 => ?_⟩⟩
    dsimp only at n9 ⊢
    have S8 := Same.upd (o := .tup [.int 1, .int (u * 2001), .int 1]) n8
    have g8 := upd_same (H := K1) (a := t8) (o := .tup [.int 1, .int (u * 2001), .int 1])
    have ef := S8 _ _ ef
    generalize upd K1 t8 (.tup [.int 1, .int (u * 2001), .int 1]) = K2 at S8 g8 ef n9 ⊢
    have S9 := Same.upd (o := .lst [.ref tf, .ref t8]) n9
    have g9 := upd_same (H := K2) (a := l8) (o := .lst [.ref tf, .ref t8])
    have ef := S9 _ _ ef
    have g8 := S9 _ _ g8
    generalize upd K2 l8 (.lst [.ref tf, .ref t8]) = K3 at S9 g8 g9 ef ⊢
    have okT : ∀ t ∈ ([(2, f, 1), (1, u * 2001, 1)] : List Tri), OkT t := fun t ht => by
      simp only [List.mem_cons, List.mem_nil_iff, or_false] at ht
      rcases ht with rfl | rfl
      · exact ⟨by show (1 : Int) ≤ 2; decide, by show (2 : Int) ≤ _; decide, by show 1 ≤ f; omega, by show f ≤ _; omega, by show (1 : Int) ≤ 1; decide, by show (1 : Int) ≤ _; decide⟩
      · exact ⟨by show (1 : Int) ≤ 1; decide, by show (1 : Int) ≤ _; decide, by show 1 ≤ u * 2001; omega, by show u * 2001 ≤ _; omega, by show (1 : Int) ≤ 1; decide, by show (1 : Int) ≤ _; decide⟩
    refine ⟨_, rfl, row_made38 g9 (ts := [(2, f, 1), (1, u * 2001, 1)]) (.cons ⟨_, rfl, ef⟩ (.cons ⟨_, rfl, g8⟩ .nil)) okT (Nat.le_of_ble_eq_true rfl) ⟨by omega, by omega, by decide, by decide⟩ fun r2 B2 K4 R2 s4 m4 => ?_⟩
    refine ⟨r2, B2, _, _, st, 0, _, 1, rfl, R2, rfl, by show rupI (u * 2001) (rupI f st) ≤ _; rw [eF, eU]; omega, by show stepsUp (u * 2001) (rupI f st) ≤ 2001; rw [eF, eT]; exact Int.le_refl _, fun l ws K5 hl hp s5 m5 => ?_⟩
    have hp : Paired (PrI K5) ws [] := by
      have z : Paired (PrI K5) ws (Bg (hbT [(2, f, 1), (1, u * 2001, 1)] st 1) (rupI f st) (stepsUp (u * 2001) (rupI f st) - 1).toNat) := hp
      rw [eF] at z
      rwa [Bg_none fun i hi => by
        rw [eT] at hi
        have hi : i < 2000 := hi
        show decide (u + (i : Int) * u > rupI (u * 2001) (rupI f st)) = false
        rw [eF, eU]
        have := Int.mul_le_mul_of_nonneg_right (show (i : Int) + 1 ≤ 2000 by omega) (show 0 ≤ u by omega)
        rw [Int.add_mul, Int.one_mul] at this
        exact decide_eq_false (by omega)] at z
    cases hp
    refine ⟨(by show 0 ≤ sizeLine; decide), fun p9 m9 => ?_⟩
    have s9 := Same.upd (o := .lst []) m9
    refine ⟨.list [], .list [], .lst (SqL.of (s9 _ _ hl)) .nil, .lst (SqL.of upd_same) .nil, rfl, rfl, ?_⟩
    have SE := (S8.trans S9).trans (s4.trans (s5.trans s9))
    exact k _ (ks.trans (KS.of (Kp.of SE))) (Tabs.nl tabs (NL.of SE))
theorem ok_wlaterright (T : LX K mg L) (B : TX base mg L) : Cal P w K mg base "_law_later_right" 13 L.f__law_later_right ["_law_source"] (spLat41 L) := T.d__law_later_right.cal fun fd F => fn_wlaterright T B F
end
/-! ### k41: seven equal breakers -/
theorem getD_rep {a : Nat} (h : a < 7) : (List.replicate 7 (5 : Int)).getD a 0 = 5 := by
  rw [List.getD_eq_getElem?_getD, List.getElem?_replicate, if_pos h]
  rfl
theorem per_five {o : List Nat} (l : o.length = 7) (b : ∀ a ∈ o, a < 7) : perW 1 (wsAt (List.replicate 7 5) o) = 5 := by
  match o, l, b with
  | a :: r, _, b =>
    show perW 1 ((List.replicate 7 (5 : Int)).getD a 0 :: wsAt (List.replicate 7 5) r) = 5
    rw [getD_rep (b a (List.mem_cons_self ..)), perW_cons, show rupI 5 1 = 5 by decide +kernel]
    refine perW_same (by decide) fun w hw => ?_
    obtain ⟨c, hc, rfl⟩ := List.mem_map.mp hw
    show 1 ≤ (List.replicate 7 (5 : Int)).getD c 0 ∧ (List.replicate 7 (5 : Int)).getD c 0 ≤ 5
    rw [getD_rep (b c (List.mem_cons_of_mem _ hc))]
    exact ⟨by decide, by decide⟩
theorem head_seven : (ordG 7 7).head? = some [0, 1, 2, 3, 4, 5, 6] := by decide +kernel
theorem min_seven {x : Int × List Nat} {xs : List (Int × List Nat)} (h : waysG 1 (List.replicate 7 5) 7 = x :: xs) : minG x xs = (5, [0, 1, 2, 3, 4, 5, 6]) := by
  have all : ∀ y ∈ x :: xs, y.1 = 5 := fun y hy => by
    rw [← h] at hy
    obtain ⟨e, ho⟩ := ways_ok hy
    obtain ⟨l, _, b⟩ := ord_mem ho
    rw [e]
    exact per_five l b
  have pw : (x :: xs).Pairwise fun a b => lxN a.2 b.2 = true := by
    rw [← h]
    exact List.pairwise_map.mpr (ord_asc 7 7)
  rw [minG_first all pw]
  have hx : x.2 = [0, 1, 2, 3, 4, 5, 6] := by
    have z : ((ordG 7 7).map (wayG 1 (List.replicate 7 5))).head? = some x := by
      show (waysG 1 (List.replicate 7 5) 7).head? = some x
      rw [h]
      rfl
    rw [List.head?_map, head_seven] at z
    rw [← Option.some.inj z]
    rfl
  obtain ⟨x1, x2⟩ := x
  have h1 : x1 = 5 := all (x1, x2) (List.mem_cons_self ..)
  have hx : x2 = _ := hx
  rw [h1, hx]
/-! ### k41: kept lambdas that end in the same error -/
def AskU (X : Cx) (K : PySem.W.Frag) (L : LA) (g0 : List Code) (σ : L2.St) (us : List V) (H : Hp) (x : V) : Prop := ∃ (Lm : LamY.LamK) (f c' : Addr), x = .ref f ∧ LamY.LamOk X 10 Lm ∧ LamY.KeepAt X Lm H f c' ∧
  ∀ (Hy : Hp) (Q N : VK) (E : XK), LamX.ExtN H Hy → (∀ cls d H', RsdR K L g0 cls d H' Q → E cls d H') → (∀ p H', H' p = some (.tup us) → Same Hy H' → Q (.ref p) H') → Lm.t E σ Hy N
def TuAt (us : List V) (H : Hp) (x : V) : Prop := ∃ p, x = .ref p ∧ H p = some (.tup us)
theorem tus_dp {K : PySem.W.Frag} {H : Hp} {us : List V} {d : PyData} (hd : ∀ p, H p = some (.tup us) → Dp K H (.ref p) d) : ∀ {xs : List V}, (∀ x ∈ xs, TuAt us H x) → DpAll K H xs (List.replicate xs.length d)
  | [], _ => .nil
  | x :: r, h => by
    obtain ⟨p, rfl, e⟩ := h x (List.mem_cons_self ..)
    exact .cons (hd p e) (tus_dp hd fun y hy => h y (List.mem_cons_of_mem _ hy))
theorem asks_us (i : Nat) {X : Cx} {K : PySem.W.Frag} {L : LA} {g0 : List Code} {σ : L2.St} {us : List V} {H : Hp} {la D : Addr} {xs : List V} {Qd : Hp → Prop} (hw : (L2.wipe σ [i])[i]? = some none) (h6 : ∀ v : V, L2.wipe ((L2.wipe σ [i]).set i (some v)) [i] = L2.wipe σ [i]) (hl : H la = some (.lst xs)) (lx : xs.length ≤ 9) (all : ∀ x ∈ xs, AskU X K L g0 σ us H x) (tabs : LamX.Tabs (LT L) H) (nD : H D = none)
    (k : ∀ ys H', H' D = some (.lst ys) → (∀ y ∈ ys, TuAt us H' y) → ys.length = xs.length → LamX.ExtN H H' → LamX.Tabs (LT L) H' → Qd H') :
    ∃ W : Nat → Nat → Hp → Prop, (∃ m, W 0 m (upd H D (.lst []))) ∧ ∀ j m Hx, W j m Hx →
      ((Itl K la).stop j Hx ∧ Qd Hx) ∨ ((Itl K la).go j Hx ∧ ∃ Nx : Hp → Prop, (∀ H', Nx H' → ∃ m', m' < m ∧ W (j + 1) m' H') ∧ ∀ x H', (Itl K la).yld j Hx x H' → gName i x (L2.wipe σ [i]) H' fun σ2 H2 => L2.wipe σ2 [i] = L2.wipe σ [i] ∧ tYes σ2 H2 fun b H3 =>
        if b = true then LamY.tFncB X σ (LamY.LamOk X 10) (TTrsd K L g0) (tCons (tVar i) tNil) σ2 H3 fun y H4 => ∃ acc, H4 D = some (.lst acc) ∧ acc.length < sizeLine ∧ Nx (upd H4 D (.lst (acc ++ [y]))) else Nx H3) := by
  have s0 := Same.upd (o := .lst []) nD
  refine lc_list (K := K) (a := la) (xs := xs) (fun j Hy => ∃ ys, Hy D = some (.lst ys) ∧ (∀ y ∈ ys, TuAt us Hy y) ∧ ys.length = j ∧ LamX.ExtN H Hy ∧ LamX.Tabs (LT L) Hy) ⟨[], upd_same, (fun x h => nomatch h), rfl, LamX.ExtN.of s0, Tabs.nl tabs (NL.of s0)⟩ (fun j Hy _ ⟨_, _, _, _, ex, _⟩ => SqL.of (ExtN.lst ex hl)) ?_ ?_
  · rintro j x Hy hxj ⟨ys, hD, ly, yl, ex, tx⟩
    have hj := (List.getElem?_eq_some_iff.mp hxj).1
    obtain ⟨Lm, f, c', rfl, ok, kp, ask⟩ := all x (List.mem_of_getElem? hxj)
    refine ⟨h6 _, tYes_of ⟨_, ?_, Lm, f, c', rfl, ok, kp.ext ex, fun E N Hs ss hE _ => ask _ _ N E (ex.trans (LamX.ExtN.of ss)) hE fun p H' hp s2 => ?_⟩⟩
    · have lt : i < (L2.wipe σ [i]).length := (List.getElem?_eq_some_iff.mp hw).1
      rw [List.getElem?_set_self lt]
    · have s2 := ss.trans s2
      have hD2 := s2 _ _ hD
      refine ⟨ys, hD2, small1 (by omega), ys ++ [.ref p], upd_same, ?_, by rw [List.length_append, yl]; rfl, ?_, ?_⟩
      · intro x hx
        rcases List.mem_append.mp hx with hx | hx
        · obtain ⟨q, rfl, hq⟩ := ly x hx
          have := s2 _ _ hq
          exact ⟨q, rfl, by rw [upd_ne (fun z => by rw [z, hD2] at this; cases this)]; exact this⟩
        · rw [List.mem_singleton.mp hx]
          exact ⟨p, rfl, by rw [upd_ne (fun z => by rw [z, hD2] at hp; cases hp)]; exact hp⟩
      · intro b o e n
        rw [upd_ne (ne_of_none e nD)]
        exact s2 _ _ (ex _ _ e n)
      · refine Tabs.nl tx fun b o e n => ?_
        rw [upd_ne (fun z => by rw [z, hD] at e; exact n _ (Option.some.inj e).symm)]
        exact s2 _ _ e
  · rintro Hy ⟨ys, hD, ly, yl, ex, tx⟩
    exact k ys Hy hD ly yl ex tx
theorem SqL.ks {K : PySem.W.Frag} {H H0 H' : Hp} {s a : Addr} {xs : List V} (h : SqL K H a xs) (hs : H s = none) (y : Same H H0) (k : KS s H0 H') : SqL K H' a xs := by
  rcases h with (h | ⟨o, h⟩) | h
  · exact .inl (.inl (k _ _ (ne_of_none h hs) (y _ _ h) fun _ z => nomatch z))
  · exact .inl (.inr ⟨o, k _ _ (ne_of_none h hs) (y _ _ h) fun _ z => nomatch z⟩)
  · exact .inr h
theorem NoOrd.ext {H H' : Hp} {m : Nat} {v : V} (h : NoOrd H m v) (s : LamX.ExtN H H') : NoOrd H' m v := by
  cases h with
  | kind k n => exact .kind (Kd.ext k s) n
  | len e n => exact .len (s _ _ e fun _ z => nomatch z) n
  | item e k bad => exact .item (s _ _ e fun _ z => nomatch z) (Kd.ext k s) bad
  | srt e n => exact .srt (s _ _ e fun _ z => nomatch z) n
theorem ok_order : PyData.strOk "order" = true := by decide +kernel
/-- the odd values of the law: no index, no wait -/
inductive Od41 (H : Hp) : V → Prop
  | non : Od41 H .non
  | neg : Od41 H (.int (-1))
  | far : Od41 H (.int (-100000000000000000000))
  | bl (b : Bool) : Od41 H (.bl b)
  | str : Od41 H (.str "0")
  | lst {a : Addr} (e : H a = some (.lst [.int 0])) : Od41 H (.ref a)
  | tup {a : Addr} (e : H a = some (.tup [.int 0])) : Od41 H (.ref a)
  | dic {a : Addr} (e : H a = some (.dK [])) : Od41 H (.ref a)
theorem Od41.ext {H H' : Hp} {v : V} (h : Od41 H v) (s : LamX.ExtN H H') : Od41 H' v := by
  cases h with
  | non => exact .non
  | neg => exact .neg
  | far => exact .far
  | bl b => exact .bl b
  | str => exact .str
  | lst e => exact .lst (s _ _ e fun _ z => nomatch z)
  | tup e => exact .tup (s _ _ e fun _ z => nomatch z)
  | dic e => exact .dic (s _ _ e fun _ z => nomatch z)
theorem Od41.wb {H : Hp} {v : V} (h : Od41 H v) {l m : Int} (h0 : 0 ≤ l) : Wb H l m v := by
  cases h with
  | neg => exact ⟨_, .int _, by
      show (true && (decide (l ≤ -1) && decide ((-1 : Int) ≤ m))) = false
      rw [decide_eq_false (show ¬ l ≤ -1 by omega)]
      rfl⟩
  | far => exact ⟨_, .int _, by
      show (true && (decide (l ≤ -100000000000000000000) && decide ((-100000000000000000000 : Int) ≤ m))) = false
      rw [decide_eq_false (show ¬ l ≤ -100000000000000000000 by omega)]
      rfl⟩
  | non => exact ⟨_, .non, rfl⟩
  | bl b => exact ⟨_, .bl b, rfl⟩
  | str => exact ⟨_, .str _, rfl⟩
  | lst e => exact ⟨_, .lst e, rfl⟩
  | tup e => exact ⟨_, .tup e, rfl⟩
  | dic e => exact ⟨_, .dK e, rfl⟩
theorem Od41.rep {H : Hp} {v : V} (h : Od41 H v) (g0 : List Code) : ∃ z, ReprG g0 H v z ∧ PyData.strOk z = true := by
  cases h with
  | neg => exact ⟨_, .plain (.int _ (by decide +kernel)), by decide +kernel⟩
  | far => exact ⟨_, .plain (.int _ (by decide +kernel)), by decide +kernel⟩
  | bl b => cases b <;> exact ⟨_, .plain (.bl _), by decide +kernel⟩
  | non => exact ⟨_, .plain .non, by decide +kernel⟩
  | str => exact ⟨_, .plain (.str _ (by decide +kernel)), by decide +kernel⟩
  | lst e => exact ⟨_, .lst e (.cons (.int _ (by decide +kernel)) .nil) (by decide +kernel), strOk_ite (by decide +kernel) (by decide +kernel)⟩
  | dic e => exact ⟨_, .dic e, strOk_ite (by decide +kernel) (by decide +kernel)⟩
  | tup e => exact ⟨_, .tup e (.cons (.int _ (by decide +kernel)) .nil) (by decide +kernel), strOk_ite (by decide +kernel) (by decide +kernel)⟩
/-! ### k41: the law -/
def spLawT (K : PySem.W.Frag) (L : LA) : Sp := fun vs H Q _ => ∃ (a : Addr) (ns : List Int), vs = [.ref a] ∧ SqL K H a (ns.map V.int) ∧ ns.length ≤ 63 ∧ LamX.Tabs (LT L) H ∧ ∀ H', Q (.bl true) H'
section
variable {P : Program} {w : World} {K : PySem.W.Frag} {mg : Str → Option Value} {base : Heap} {L : LA}
abbrev N_law : List Str := ["_law_script", "_law_cell", "_law_calls", "_law_index", "_law_odd", "_law_row", "_law_source", "_law_wait", "_law_wide", "_law_wrong", "_law_call"]
theorem sc_law : FnScope N_law ["_law_script"] (defScope st_law) := ⟨rfl, rfl, rfl, by decide +kernel, rfl, by decide +kernel, by decide +kernel⟩
theorem ok_law {aLaw : Addr} {fd : FuncData} (F : FunT K "law" "law" st_law aLaw L.k_law fd) (T : LX K mg L) (B : TX base mg L) : FnOk P w K mg base CX0 14 aLaw fd ["_law_script"] (spLawT K L) := by
  have G_wlaterright := ok_wlaterright (P := P) (w := w) (base := base) T B
  have G_wsourceof := ok_wsourceof (P := P) (w := w) (base := base) T
  have G_wone := ok_wone (P := P) (w := w) (base := base) T
  have G_bestorder := ok_bestorder (P := P) (w := w) (base := base) T
  have G_wcellat := ok_wcellat (P := P) (w := w) (base := base) T
  have G_wlimitsright := ok_wlimitsright (P := P) (w := w) (base := base) T B
  have G_worstorder := ok_worstorder (P := P) (w := w) (base := base) T
  have G_reordered := ok_reordered (P := P) (w := w) (base := base) T
  have G_without := ok_without (P := P) (w := w) (base := base) T
  have G_withwait := ok_withwait (P := P) (w := w) (base := base) T
  have G_bestraise := ok_bestraise (P := P) (w := w) (base := base) T
  have G_wnext := ok_wnext (P := P) (w := w) (base := base) T
  have G_harmfullowerings := ok_harmfullowerings (P := P) (w := w) (base := base) T
  have nd := sc_law.nd
  refine F.okG sc_law (fun vs H Q E h => ?_) (fun g0 A outer S H vs Q E hgd hr h => ?_)
  · obtain ⟨a, ns, rfl, _⟩ := h
    rfl
  · obtain ⟨a, ns, rfl, hS, ln, tabs, k⟩ := h
    refine ⟨_, (pss_cons (ps_if (pt_not (pt_val (pe_c G_wlaterright (hr.mono (by decide)) rfl (pa_cons (pe_c G_wsourceof (hr.mono (by decide)) rfl (pa_cons (pe_c G_wcellat (hr.mono (by decide)) rfl (pa_cons (pv 0) (pa_cons pe_int pa_nil))) pa_nil)) pa_nil)))) (pss_one (ps_ret pe_bl)) pss_nil)
       (pss_cons (ps_for PassesOwn.never rfl (pi_list (pe_op op_cat (pe_lst (pa_cons (pe_c G_wcellat (hr.mono (by decide)) rfl (pa_cons (pv 0) (pa_cons pe_int pa_nil))) pa_nil)) (pe_slice (r := rSlL K) sl_list (pv 0) (po_some pe_int) (po_some pe_int)))) (pg_name (i := 1) nd rfl (Or.inl rfl)) (pss_cons (ps_set (i := 6) nd rfl (Or.inr rfl) (pe_c G_wsourceof (hr.mono (by decide)) rfl (pa_cons (pv 1) pa_nil)))
       (pss_cons (ps_set (i := 5) nd rfl (Or.inr rfl) (pe_mkRow T (hr.mono (by decide)) rfl (pa_cons (pe_lst (pa_cons (pe_tup (pa_cons pe_int (pa_cons pe_int (pa_cons pe_int pa_nil)))) (pa_cons (pe_tup (pa_cons pe_int (pa_cons pe_int (pa_cons pe_int pa_nil)))) (pa_cons (pe_tup (pa_cons pe_int (pa_cons pe_int (pa_cons pe_int pa_nil)))) pa_nil)))) (pa_cons pe_int pa_nil))))
       (pss_cons (ps_set (i := 9) nd rfl (Or.inr rfl) (pe_lst (pa_cons pe_non (pa_cons (pe_tup (pa_cons pe_int (pa_cons pe_int (pa_cons pe_int pa_nil)))) (pa_cons (pe_lst (pa_cons pe_int (pa_cons pe_int pa_nil))) (pa_cons (pe_lst (pa_cons pe_int (pa_cons pe_int (pa_cons pe_int pa_nil)))) (pa_cons (pe_lst (pa_cons pe_int (pa_cons pe_int (pa_cons pe_int pa_nil)))) (pa_cons (pe_lst (pa_cons pe_int (pa_cons pe_int (pa_cons pe_int (pa_cons pe_int pa_nil))))) (pa_cons (pe_lst (pa_cons pe_int (pa_cons pe_bl (pa_cons pe_int pa_nil)))) (pa_cons (pe_lst (pa_cons pe_str (pa_cons pe_int (pa_cons pe_int pa_nil)))) (pa_cons pe_dnewK (pa_cons pe_int pa_nil))))))))))))
       (pss_cons (ps_expr (pe_bm PySem.F.plainAttrs_list PySem.F.slot_list_append PySem.F.type_list_append mt_append (pv 9) (pa_cons (pe_lst (pa_cons pe_int (pa_cons (pe_un un_neg pe_int) (pa_cons pe_int pa_nil)))) pa_nil)))
       (pss_cons (ps_if (pt_cmpR (op_neD hr.units) (pe_lamc (T := LT L) (TT := TTrsd K L g0) (c := L.k_law) (P := L.t_law) (k := 10) T.d__law_raised sc_wraised rfl (Or.inl rfl) (fun _ => rsd_gives T (hr.mono (by decide)) (by exact hgd)) B.b_law rfl (lt_mem_law T) (lt_one_law T) (hr.mono (by decide)) (LamX.lamS_by (sc := defScope st_law) (by decide +kernel)) rfl (fun _ _ _ _ _ => rfl) (fun A outer s H E f c2 hr => by exact (pe_cX (EX.ok_reordered (P := P) (w := w) (base := base) T) (hr.mono (by decide)) rfl (fun σ => passAt (takes_of rfl rfl rfl rfl) σ) (pa_cons (pv 5) (pa_cons (pe_c G_wone (hr.mono (by decide)) rfl (pa_cons (pv 6) (pa_cons (pv 9) pa_nil))) pa_nil))))) (pe_tup (pa_cons pe_str (pa_cons pe_str pa_nil))) (nomark _)) (pss_one (ps_ret pe_bl)) pss_nil)
       (pss_cons (ps_set (i := 4) nd rfl (Or.inr rfl) (pe_c G_wone (hr.mono (by decide)) rfl (pa_cons (pv 6) (pa_cons (pe_lst (pa_cons pe_non (pa_cons (pe_un un_neg pe_int) (pa_cons pe_bl (pa_cons pe_str (pa_cons (pe_lst (pa_cons pe_int pa_nil)) (pa_cons (pe_tup (pa_cons pe_int pa_nil)) (pa_cons pe_dnewK (pa_cons (pe_op op_sub pe_int (pe_op op_pow pe_int pe_int)) pa_nil))))))))) pa_nil))))
       (pss_cons (ps_for PassesOwn.never rfl (pi_list (pe_lst (pa_cons (pv 4) (pa_cons pe_int (pa_cons (pe_op op_pow pe_int pe_int) pa_nil))))) (pg_name (i := 3) nd rfl (Or.inr rfl)) (pss_cons (ps_set (i := 2) nd rfl (Or.inl rfl) (pe_lst (pa_cons (LamY.pe_lamL0 (k := 10) (T := LT L) (c := L.k_law) (P := L.t_law) B.b_law rfl (lt_mem_law T) (lt_one_law T) (LamY.lamS_by (N := N_law) (sc := defScope st_law) (by decide +kernel)) rfl (fun _ _ _ _ _ _ => rfl) (fun A outer s H E f c2 hr => by exact (pe_cX (EX.ok_without (P := P) (w := w) (base := base) T) (hr.mono (by decide)) rfl (fun σ => passAt (takes_of rfl rfl rfl rfl) σ) (pa_cons (pv 5) (pa_cons (pv 3) pa_nil))))) (pa_cons (LamY.pe_lamL1 (k := 10) (T := LT L) (c := L.k_law) (P := L.t_law) (i := 0) (a := "_law_of") B.b_law rfl (lt_mem_law T) (lt_one_law T) (LamY.lamS_by (N := N_law) (sc := defScope st_law) (by decide +kernel)) rfl rfl pe_int rfl (fun _ _ _ _ _ _ _ _ _ _ _ h1 h2 => .of_defaults rfl h1 h2 rfl rfl) (fun A outer s H E f c2 hr => by exact (pe_cX (EX.ok_withwait (P := P) (w := w) (base := base) T) (hr.mono (by decide)) rfl (fun σ => passAt (takes_of rfl rfl rfl rfl) σ) (pa_cons (pv 5) (pa_cons (pv 3) (pa_cons (pv 4) pa_nil)))))) pa_nil))))
       (pss_cons (ps_set (i := 2) nd rfl (Or.inl rfl) (pe_op op_cat (pv 2) (pe_lst (pa_cons (LamY.pe_lamL0 (k := 10) (T := LT L) (c := L.k_law) (P := L.t_law) B.b_law rfl (lt_mem_law T) (lt_one_law T) (LamY.lamS_by (N := N_law) (sc := defScope st_law) (by decide +kernel)) rfl (fun _ _ _ _ _ _ => rfl) (fun A outer s H E f c2 hr => by exact (pe_cX (EX.ok_harmfullowerings (P := P) (w := w) (base := base) T) (hr.mono (by decide)) rfl (fun σ => passAt (takes_of rfl rfl rfl rfl) σ) (pa_cons (pv 5) (pa_cons (pv 3) pa_nil))))) (pa_cons (LamY.pe_lamL1 (k := 10) (T := LT L) (c := L.k_law) (P := L.t_law) (i := 0) (a := "_law_of") B.b_law rfl (lt_mem_law T) (lt_one_law T) (LamY.lamS_by (N := N_law) (sc := defScope st_law) (by decide +kernel)) rfl rfl pe_int rfl (fun _ _ _ _ _ _ _ _ _ _ _ h1 h2 => .of_defaults rfl h1 h2 rfl rfl) (fun A outer s H E f c2 hr => by exact (pe_cX (EX.ok_bestraise (P := P) (w := w) (base := base) T) (hr.mono (by decide)) rfl (fun σ => passAt (takes_of rfl rfl rfl rfl) σ) (pa_cons (pv 5) (pa_cons (pv 3) (pa_cons (pv 4) pa_nil)))))) pa_nil)))))
       (pss_one (ps_if (pt_cmpR (op_neD hr.units) (LcT.pe_lcT (own := [("_law_call", 10)]) (g := gName 10) rfl nd (pi_list (pv 2)) (blkOk_by (own := [("_law_call", 10)]) (N := N_law) (sc := defScope st_law) (by decide +kernel)) (fun _ _ _ _ _ => pg_name (i := 10) nd rfl (Or.inl rfl)) (fun pins σ s H C cl fp I0 hf => pts_one (pt_cmpR (op_neDK (K := K) rfl hr.units) (LamY.pe_fncB (k := 10) (TT := TTrsd K L g0) (Ok := LamY.LamOk _ 10) I0 hf T.d__law_raised sc_wraised rfl (Or.inl rfl) (fun _ => rsd_gives T (hr.mono (by decide)) (by exact hgd)) (hr.mono (by decide)) (fun _ h => h) (pa_cons (pv 10) pa_nil) rfl) ((pe_tup (pa_cons pe_str (pa_cons (pe_callB (call_reprG (g := g0) (by exact hgd) (by exact hr.units)) (by rfl) T.b_repr (by decide +kernel) (pa_cons (pv 3) pa_nil)) pa_nil)))) rfl)) (fun pins σ s H C cl fp I0 hf => pe_int)) (pe_lst pa_nil) (nomark _)) (pss_one (ps_ret pe_bl)) pss_nil)))))
       (pss_cons (ps_for PassesOwn.never rfl (pi_list (pe_lst (pa_cons (pv 4) (pa_cons pe_int (pa_cons (pe_op op_add (pe_op op_pow pe_int pe_int) pe_int) pa_nil))))) (pg_name (i := 7) nd rfl (Or.inr rfl)) (pss_cons (ps_if (pt_cmpR (op_neD hr.units) (pe_lamc (T := LT L) (TT := TTrsd K L g0) (c := L.k_law) (P := L.t_law) (k := 10) T.d__law_raised sc_wraised rfl (Or.inl rfl) (fun _ => rsd_gives T (hr.mono (by decide)) (by exact hgd)) B.b_law rfl (lt_mem_law T) (lt_one_law T) (hr.mono (by decide)) (LamX.lamS_by (sc := defScope st_law) (by decide +kernel)) rfl (fun _ _ _ _ _ => rfl) (fun A outer s H E f c2 hr => by exact (pe_cX (EX.ok_withwait (P := P) (w := w) (base := base) T) (hr.mono (by decide)) rfl (fun σ => passAt (takes_of rfl rfl rfl rfl) σ) (pa_cons (pv 5) (pa_cons pe_int (pa_cons (pv 7) pa_nil)))))) (pe_tup (pa_cons pe_str (pa_cons pe_str pa_nil))) (nomark _)) (pss_one (ps_ret pe_bl)) pss_nil)
       (pss_one (ps_if (pt_cmpR (op_neD hr.units) (pe_lamc (T := LT L) (TT := TTrsd K L g0) (c := L.k_law) (P := L.t_law) (k := 10) T.d__law_raised sc_wraised rfl (Or.inl rfl) (fun _ => rsd_gives T (hr.mono (by decide)) (by exact hgd)) B.b_law rfl (lt_mem_law T) (lt_one_law T) (hr.mono (by decide)) (LamX.lamS_by (sc := defScope st_law) (by decide +kernel)) rfl (fun _ _ _ _ _ => rfl) (fun A outer s H E f c2 hr => by exact (pe_cX (EX.ok_bestraise (P := P) (w := w) (base := base) T) (hr.mono (by decide)) rfl (fun σ => passAt (takes_of rfl rfl rfl rfl) σ) (pa_cons (pv 5) (pa_cons pe_int (pa_cons (pv 7) pa_nil)))))) (pe_tup (pa_cons pe_str (pa_cons pe_str pa_nil))) (nomark _)) (pss_one (ps_ret pe_bl)) pss_nil))))
       (pss_cons (ps_if (pt_cmpR (op_neD hr.units) (pe_lamc (T := LT L) (TT := TTrsd K L g0) (c := L.k_law) (P := L.t_law) (k := 10) T.d__law_raised sc_wraised rfl (Or.inl rfl) (fun _ => rsd_gives T (hr.mono (by decide)) (by exact hgd)) B.b_law rfl (lt_mem_law T) (lt_one_law T) (hr.mono (by decide)) (LamX.lamS_by (sc := defScope st_law) (by decide +kernel)) rfl (fun _ _ _ _ _ => rfl) (fun A outer s H E f c2 hr => by exact (pe_cX (EX.ok_bestraise (P := P) (w := w) (base := base) T) (hr.mono (by decide)) rfl (fun σ => passAt (takes_of rfl rfl rfl rfl) σ) (pa_cons (pv 5) (pa_cons pe_int (pa_cons pe_int pa_nil)))))) (pe_tup (pa_cons pe_str (pa_cons pe_str pa_nil))) (nomark _)) (pss_one (ps_ret pe_bl)) pss_nil)
       (pss_cons (ps_set (i := 8) nd rfl (Or.inr rfl) (pe_mkRow T (hr.mono (by decide)) rfl (pa_cons (pe_op op_rep (pe_lst (pa_cons (pe_tup (pa_cons pe_int (pa_cons pe_int (pa_cons pe_int pa_nil)))) pa_nil)) (pe_op op_add pe_int (pe_c G_wnext (hr.mono (by decide)) rfl (pa_cons (pv 6) (pa_cons pe_int pa_nil))))) (pa_cons pe_int pa_nil))))
       (pss_cons (ps_set (i := 2) nd rfl (Or.inl rfl) (pe_lst (pa_cons (LamY.pe_lamL0 (k := 10) (T := LT L) (c := L.k_law) (P := L.t_law) B.b_law rfl (lt_mem_law T) (lt_one_law T) (LamY.lamS_by (N := N_law) (sc := defScope st_law) (by decide +kernel)) rfl (fun _ _ _ _ _ _ => rfl) (fun A outer s H E f c2 hr => by exact (pe_cX (EX.ok_bestorder (P := P) (w := w) (base := base) T) (hr.mono (by decide)) rfl (fun σ => passAt (takes_of rfl rfl rfl rfl) σ) (pa_cons (pv 8) pa_nil)))) (pa_cons (LamY.pe_lamL1 (k := 10) (T := LT L) (c := L.k_law) (P := L.t_law) (i := 0) (a := "_law_of") B.b_law rfl (lt_mem_law T) (lt_one_law T) (LamY.lamS_by (N := N_law) (sc := defScope st_law) (by decide +kernel)) rfl rfl pe_int rfl (fun _ _ _ _ _ _ _ _ _ _ _ h1 h2 => .of_defaults rfl h1 h2 rfl rfl) (fun A outer s H E f c2 hr => by exact (pe_cX (EX.ok_worstorder (P := P) (w := w) (base := base) T) (hr.mono (by decide)) rfl (fun σ => passAt (takes_of rfl rfl rfl rfl) σ) (pa_cons (pv 8) pa_nil)))) pa_nil))))
       (pss_cons (ps_if (pt_cmpR (op_neD hr.units) (LcK.pe_lcK (own := [("_law_call", 10)]) (g := gName 10) (tt := tYes) rfl nd (pi_list (pv 2)) (blkOk_by (own := [("_law_call", 10)]) (N := N_law) (sc := defScope st_law) (by decide +kernel)) (fun _ _ _ _ _ => pg_name (i := 10) nd rfl (Or.inl rfl)) (fun _ _ _ _ _ => pts_nil) (fun pins σ s H C cl fp I0 hf => LamY.pe_fncB (k := 10) (TT := TTrsd K L g0) (Ok := LamY.LamOk _ 10) I0 hf T.d__law_raised sc_wraised rfl (Or.inl rfl) (fun _ => rsd_gives T (hr.mono (by decide)) (by exact hgd)) (hr.mono (by decide)) (fun _ h => h) (pa_cons (pv 10) pa_nil) rfl)) (pe_op op_rep (pe_lst (pa_cons (pe_tup (pa_cons pe_str (pa_cons pe_int pa_nil))) pa_nil)) pe_int) (nomark _)) (pss_one (ps_ret pe_bl)) pss_nil)
       (pss_one (ps_if (pt_not (pt_val (pe_c G_wlimitsright (hr.mono (by decide)) rfl (pa_cons (pv 6) pa_nil)))) (pss_one (ps_ret pe_bl)) pss_nil)))))))))))))))
       (pss_one (ps_ret (pe_cmpR (op_eqD hr.units) (pe_c G_bestorder (hr.mono (by decide)) rfl (pa_cons (pe_mkRow T (hr.mono (by decide)) rfl (pa_cons (pe_op op_rep (pe_lst (pa_cons (pe_tup (pa_cons pe_int (pa_cons pe_int (pa_cons pe_int pa_nil)))) pa_nil)) pe_int) (pa_cons pe_int pa_nil))) pa_nil)) (pe_tup (pa_cons pe_int (pa_cons (pe_lst (pa_cons pe_int (pa_cons pe_int (pa_cons pe_int (pa_cons pe_int (pa_cons pe_int (pa_cons pe_int (pa_cons pe_int pa_nil)))))))) pa_nil))) (nomark _)))))), ?_⟩
    have cp20 : CPow 10 20 := ⟨by decide, by decide, by decide⟩
    refine ⟨_, rfl, a, ns, 0, rfl, hS, Int.le_refl _, fun z0 => ⟨z0, rfl, fun s0 H0 hs0 y0 src0 => ⟨s0, 0, rfl, src0, by decide, Tabs.nl tabs (NL.of y0), fun H1 k1 tabs => ⟨_, rfl, iteF ?_⟩⟩⟩⟩
    have hS := SqL.ks hS hs0 y0 k1
    refine ⟨_, rfl, a, ns, 0, rfl, hS, Int.le_refl _, fun z => ⟨(by show 1 ≤ sizeLine; decide), fun l1 hl1 => ?_⟩⟩
    have z1 : Same H1 (upd H1 l1 (.lst [.int z])) := Same.upd hl1
    refine ⟨_, rfl, 1, rfl, 6, rfl, a, ns.map V.int, rfl, z1.seq hS, fun l2 hl2 => ?_⟩
    refine ⟨l1, l2, _, _, rfl, rfl, (Same.upd hl2) _ _ upd_same, upd_same, small2 (by have := cutV_length (ns.map V.int) (some 1) (some 6); rw [List.length_map] at this; show 1 + _ ≤ 100000; omega), fun l3 hl3 => ?_⟩
    have items : ∀ v ∈ [V.int z] ++ cutV (ns.map V.int) (some 1) (some 6), ∃ c, v = .int c := fun v hv => by
      rcases List.mem_append.mp hv with hv | hv
      · exact ⟨z, by simpa using hv⟩
      · obtain ⟨c, _, e⟩ := List.mem_map.mp (List.mem_of_mem_drop (List.mem_of_mem_take hv))
        exact ⟨c, e.symm⟩
    have sI : Same H1 (upd (upd (upd H1 l1 (.lst [.int z])) l2 (.lst (cutV (ns.map V.int) (some 1) (some 6)))) l3 (.lst ([.int z] ++ cutV (ns.map V.int) (some 1) (some 6)))) := (z1.trans (Same.upd hl2)).trans (Same.upd hl3)
    generalize hit : [V.int z] ++ cutV (ns.map V.int) (some 1) (some 6) = its at items sI ⊢
    refine ⟨l3, rfl, ⟨_, SqL.of upd_same⟩, ?_⟩
    refine for_list (K := K) (a := l3) (xs := its) (fun i σ H2 => ∃ v1 v2 v3 v4 v5 v6 v7 v8 v9 : Option V, σ = [some (.ref a), v1, v2, v3, v4, v5, v6, v7, v8, v9, none] ∧ H2 l3 = some (.lst its) ∧ LamX.Tabs (LT L) H2)
      ⟨none, none, none, none, none, none, none, none, none, rfl, by rw [upd_same], Tabs.nl tabs (NL.of sI)⟩ (fun i σ H2 _ ⟨_, _, _, _, _, _, _, _, _, _, e, _⟩ => SqL.of e) ?_ ?_
    rotate_left
    · rintro σ H2 ⟨v1, v2, v3, v4, v5, v6, v7, v8, v9, rfl, hL, tabs⟩
      -- seven equal breakers
      refine ⟨(by show 3 ≤ sizeLine; decide), fun t1 n1 => ⟨(by show 1 ≤ sizeLine; decide), fun q1 n2 => ⟨q1, 7, [.ref t1], rfl, rfl, upd_same, by decide, by decide, (by show 1 * 7 ≤ sizeLine; decide), fun q2 n3 => ?_⟩⟩⟩
      have S1 := Same.upd (o := .tup [.int 1, .int 5, .int 1]) n1
      have e1 := upd_same (H := H2) (a := t1) (o := .tup [.int 1, .int 5, .int 1])
      generalize upd H2 t1 (.tup [.int 1, .int 5, .int 1]) = I1 at S1 e1 n2 n3 ⊢
      have S2 := Same.upd (o := .lst [.ref t1]) n2
      have e1 := S2 _ _ e1
      generalize upd I1 q1 (.lst [.ref t1]) = I2 at S2 e1 n3 ⊢
      have S3 := Same.upd (o := .lst (List.replicate (7 : Int).toNat [V.ref t1]).flatten) n3
      have e1 := S3 _ _ e1
      have e2 : upd I2 q2 (.lst (List.replicate (7 : Int).toNat [V.ref t1]).flatten) q2 = some (.lst [.ref t1, .ref t1, .ref t1, .ref t1, .ref t1, .ref t1, .ref t1]) := upd_same
      generalize upd I2 q2 (.lst (List.replicate (7 : Int).toNat [V.ref t1]).flatten) = I3 at S3 e1 e2 ⊢
      have okT : ∀ t ∈ ([(1, 5, 1), (1, 5, 1), (1, 5, 1), (1, 5, 1), (1, 5, 1), (1, 5, 1), (1, 5, 1)] : List Tri), OkT t := fun t ht => by
        simp only [List.mem_cons, List.mem_nil_iff, or_false, or_self] at ht
        rw [ht]
        exact ⟨by decide, by decide, by decide, by decide, by decide, by decide⟩
      have bt : ∀ n : Nat, Brs I3 (List.replicate n (V.ref t1)) (List.replicate n ((1, 5, 1) : Tri)) := fun n => by
        induction n with
        | zero => exact .nil
        | succ n ih => exact .cons ⟨_, rfl, e1⟩ ih
      refine row_made38 e2 (ts := [(1, 5, 1), (1, 5, 1), (1, 5, 1), (1, 5, 1), (1, 5, 1), (1, 5, 1), (1, 5, 1)]) (bt 7) okT (by decide) ⟨by decide, by decide, by decide, by decide⟩ fun r B I4 R s4 n4 => ?_
      refine ⟨r, B, _, _, 1, 0, rfl, R, by decide, fun v x xs' I5 ew wy s5 => ?_⟩
      rw [min_seven ew] at wy
      obtain ⟨D, wy⟩ := wy
      refine ⟨(by show 7 ≤ sizeLine; decide), fun q9 n9 => ⟨(by show 2 ≤ sizeLine; decide), fun t9 m9 => ?_⟩⟩
      have S9 := Same.upd (o := .lst [.int 0, .int 1, .int 2, .int 3, .int 4, .int 5, .int 6]) n9
      have e9 := upd_same (H := I5) (a := q9) (o := .lst [.int 0, .int 1, .int 2, .int 3, .int 4, .int 5, .int 6])
      generalize upd I5 q9 (.lst [.int 0, .int 1, .int 2, .int 3, .int 4, .int 5, .int 6]) = I6 at S9 e9 m9 ⊢
      have T9 := Same.upd (o := .tup [.int 5, .ref q9]) m9
      have S := S9.trans T9
      refine ⟨wayD (5, [0, 1, 2, 3, 4, 5, 6]), wayD (5, [0, 1, 2, 3, 4, 5, 6]), (wy.mv (NL.of S) fun b o _ e => S _ _ e).dp, .tup (SqT.of upd_same) (.cons (.int _) (.cons (.lst (SqL.of (T9 _ _ e9)) (ons_dp [0, 1, 2, 3, 4, 5, 6])) .nil)), ?_, ?_, ?_⟩
      · exact Bool.and_eq_true_iff.mpr ⟨(way_depth _).2, decide_eq_true (Nat.le_trans (way_depth _).1 (by decide))⟩
      · exact Bool.and_eq_true_iff.mpr ⟨(way_depth _).2, decide_eq_true (Nat.le_trans (way_depth _).1 (by decide))⟩
      · rw [SeqAt.eqv_refl _ (way_depth _).2]
        exact k _
    rintro i v σ H2 hi ⟨v1, v2, v3, v4, v5, v6, v7, v8, v9, rfl, hL, tabs⟩
    obtain ⟨cc, rfl⟩ := items v (List.mem_of_getElem? hi)
    refine ⟨_, rfl, cc, rfl, fun s H3 hs3 y3 src => ?_⟩
    have nls : l3 ≠ s := ne_of_none hL hs3
    -- the row
    refine ⟨(by show 3 ≤ sizeLine; decide), fun t1 m1 => ?_⟩
    have S1 := Same.upd (o := .tup [.int 2, .int 3, .int 1]) m1
    have b1 := upd_same (H := H3) (a := t1) (o := .tup [.int 2, .int 3, .int 1])
    generalize upd H3 t1 (.tup [.int 2, .int 3, .int 1]) = J1 at S1 b1 ⊢
    refine ⟨(by show 3 ≤ sizeLine; decide), fun t2 m2 => ?_⟩
    have S2 := Same.upd (o := .tup [.int 1, .int 4, .int 1]) m2
    have b2 := upd_same (H := J1) (a := t2) (o := .tup [.int 1, .int 4, .int 1])
    have b1 := S2 _ _ b1
    generalize upd J1 t2 (.tup [.int 1, .int 4, .int 1]) = J2 at S2 b1 b2 ⊢
    refine ⟨(by show 3 ≤ sizeLine; decide), fun t3 m3 => ⟨(by show 3 ≤ sizeLine; decide), fun l4 m4 => ?_⟩⟩
    have S3 := Same.upd (o := .tup [.int 1, .int 9, .int 2]) m3
    have b3 := upd_same (H := J2) (a := t3) (o := .tup [.int 1, .int 9, .int 2])
    have b1 := S3 _ _ b1
    have b2 := S3 _ _ b2
    generalize upd J2 t3 (.tup [.int 1, .int 9, .int 2]) = J3 at S3 b1 b2 b3 m4 ⊢
    have S4 := Same.upd (o := .lst [.ref t1, .ref t2, .ref t3]) m4
    have b4 := upd_same (H := J3) (a := l4) (o := .lst [.ref t1, .ref t2, .ref t3])
    have b1 := S4 _ _ b1
    have b2 := S4 _ _ b2
    have b3 := S4 _ _ b3
    generalize upd J3 l4 (.lst [.ref t1, .ref t2, .ref t3]) = J4 at S4 b1 b2 b3 b4 ⊢
    have okT : ∀ t ∈ ([(2, 3, 1), (1, 4, 1), (1, 9, 2)] : List Tri), OkT t := fun t ht => by
      simp only [List.mem_cons, List.mem_nil_iff, or_false] at ht
      rcases ht with rfl | rfl | rfl <;> exact ⟨by decide, by decide, by decide, by decide, by decide, by decide⟩
    refine row_made38 b4 (ts := [(2, 3, 1), (1, 4, 1), (1, 9, 2)]) (.cons ⟨_, rfl, b1⟩ (.cons ⟨_, rfl, b2⟩ (.cons ⟨_, rfl, b3⟩ .nil))) okT (by decide) ⟨by decide, by decide, by decide, by decide⟩ fun r B HA0 R s5 n5 => ?_
    have SR := ((S1.trans S2).trans (S3.trans S4)).trans s5
    have src := src.same SR
    have tabs := Tabs.nl tabs (NL.of (y3.trans SR))
    have hL := SR _ _ (y3 _ _ hL)
    obtain ⟨ys, hys⟩ := src.has
    clear S1 S2 S3 S4 SR s5 n5 m1 m2 m3 m4 b1 b2 b3 b4
    refine ⟨(by show 3 ≤ sizeLine; decide), fun w_a1 w_n1 => ?_⟩
    have w_o1 : w_a1 ≠ s := fun z => by rw [z, hys] at w_n1; cases w_n1
    have w_s1 := Same.upd (o := .tup [.int 0, .int 1, .int 2]) w_n1
    have w_e1 : upd HA0 w_a1 (.tup [.int 0, .int 1, .int 2]) w_a1 = some (.tup [.int 0, .int 1, .int 2]) := upd_same
    have w_r1 := w_s1 _ _ hys
    generalize upd HA0 w_a1 (.tup [.int 0, .int 1, .int 2]) = w_H1 at w_s1 w_e1 w_r1 ⊢
    refine ⟨(by show 2 ≤ sizeLine; decide), fun w_a2 w_n2 => ?_⟩
    have w_o2 : w_a2 ≠ s := fun z => by rw [z, w_r1] at w_n2; cases w_n2
    have w_s2 := Same.upd (o := .lst [.int 0, .int 1]) w_n2
    have w_e2 : upd w_H1 w_a2 (.lst [.int 0, .int 1]) w_a2 = some (.lst [.int 0, .int 1]) := upd_same
    have w_r2 := w_s2 _ _ w_r1
    generalize upd w_H1 w_a2 (.lst [.int 0, .int 1]) = w_H2 at w_s2 w_e2 w_r2 ⊢
    refine ⟨(by show 3 ≤ sizeLine; decide), fun w_a3 w_n3 => ?_⟩
    have w_o3 : w_a3 ≠ s := fun z => by rw [z, w_r2] at w_n3; cases w_n3
    have w_s3 := Same.upd (o := .lst [.int 0, .int 1, .int 1]) w_n3
    have w_e3 : upd w_H2 w_a3 (.lst [.int 0, .int 1, .int 1]) w_a3 = some (.lst [.int 0, .int 1, .int 1]) := upd_same
    have w_r3 := w_s3 _ _ w_r2
    generalize upd w_H2 w_a3 (.lst [.int 0, .int 1, .int 1]) = w_H3 at w_s3 w_e3 w_r3 ⊢
    refine ⟨(by show 3 ≤ sizeLine; decide), fun w_a4 w_n4 => ?_⟩
    have w_o4 : w_a4 ≠ s := fun z => by rw [z, w_r3] at w_n4; cases w_n4
    have w_s4 := Same.upd (o := .lst [.int 0, .int 1, .int 3]) w_n4
    have w_e4 : upd w_H3 w_a4 (.lst [.int 0, .int 1, .int 3]) w_a4 = some (.lst [.int 0, .int 1, .int 3]) := upd_same
    have w_r4 := w_s4 _ _ w_r3
    generalize upd w_H3 w_a4 (.lst [.int 0, .int 1, .int 3]) = w_H4 at w_s4 w_e4 w_r4 ⊢
    refine ⟨(by show 4 ≤ sizeLine; decide), fun w_a5 w_n5 => ?_⟩
    have w_o5 : w_a5 ≠ s := fun z => by rw [z, w_r4] at w_n5; cases w_n5
    have w_s5 := Same.upd (o := .lst [.int 0, .int 1, .int 2, .int 2]) w_n5
    have w_e5 : upd w_H4 w_a5 (.lst [.int 0, .int 1, .int 2, .int 2]) w_a5 = some (.lst [.int 0, .int 1, .int 2, .int 2]) := upd_same
    have w_r5 := w_s5 _ _ w_r4
    generalize upd w_H4 w_a5 (.lst [.int 0, .int 1, .int 2, .int 2]) = w_H5 at w_s5 w_e5 w_r5 ⊢
    refine ⟨(by show 3 ≤ sizeLine; decide), fun w_a6 w_n6 => ?_⟩
    have w_o6 : w_a6 ≠ s := fun z => by rw [z, w_r5] at w_n6; cases w_n6
    have w_s6 := Same.upd (o := .lst [.int 0, .bl true, .int 2]) w_n6
    have w_e6 : upd w_H5 w_a6 (.lst [.int 0, .bl true, .int 2]) w_a6 = some (.lst [.int 0, .bl true, .int 2]) := upd_same
    have w_r6 := w_s6 _ _ w_r5
    generalize upd w_H5 w_a6 (.lst [.int 0, .bl true, .int 2]) = w_H6 at w_s6 w_e6 w_r6 ⊢
    refine ⟨(by show 3 ≤ sizeLine; decide), fun w_a7 w_n7 => ?_⟩
    have w_o7 : w_a7 ≠ s := fun z => by rw [z, w_r6] at w_n7; cases w_n7
    have w_s7 := Same.upd (o := .lst [.str "0", .int 1, .int 2]) w_n7
    have w_e7 : upd w_H6 w_a7 (.lst [.str "0", .int 1, .int 2]) w_a7 = some (.lst [.str "0", .int 1, .int 2]) := upd_same
    have w_r7 := w_s7 _ _ w_r6
    generalize upd w_H6 w_a7 (.lst [.str "0", .int 1, .int 2]) = w_H7 at w_s7 w_e7 w_r7 ⊢
    refine fun w_a8 w_n8 => ?_
    have w_o8 : w_a8 ≠ s := fun z => by rw [z, w_r7] at w_n8; cases w_n8
    have w_s8 := Same.upd (o := .dK []) w_n8
    have w_e8 : upd w_H7 w_a8 (.dK []) w_a8 = some (.dK []) := upd_same
    have w_r8 := w_s8 _ _ w_r7
    generalize upd w_H7 w_a8 (.dK []) = w_H8 at w_s8 w_e8 w_r8 ⊢
    refine ⟨(by show 10 ≤ sizeLine; decide), fun w_a9 w_n9 => ?_⟩
    have w_o9 : w_a9 ≠ s := fun z => by rw [z, w_r8] at w_n9; cases w_n9
    have w_s9 := Same.upd (o := .lst [(.non : V), (.ref w_a1 : V), (.ref w_a2 : V), (.ref w_a3 : V), (.ref w_a4 : V), (.ref w_a5 : V), (.ref w_a6 : V), (.ref w_a7 : V), (.ref w_a8 : V), (.int 5 : V)]) w_n9
    have w_e9 : upd w_H8 w_a9 (.lst [(.non : V), (.ref w_a1 : V), (.ref w_a2 : V), (.ref w_a3 : V), (.ref w_a4 : V), (.ref w_a5 : V), (.ref w_a6 : V), (.ref w_a7 : V), (.ref w_a8 : V), (.int 5 : V)]) w_a9 = some (.lst [(.non : V), (.ref w_a1 : V), (.ref w_a2 : V), (.ref w_a3 : V), (.ref w_a4 : V), (.ref w_a5 : V), (.ref w_a6 : V), (.ref w_a7 : V), (.ref w_a8 : V), (.int 5 : V)]) := upd_same
    have w_r9 := w_s9 _ _ w_r8
    generalize upd w_H8 w_a9 (.lst [(.non : V), (.ref w_a1 : V), (.ref w_a2 : V), (.ref w_a3 : V), (.ref w_a4 : V), (.ref w_a5 : V), (.ref w_a6 : V), (.ref w_a7 : V), (.ref w_a8 : V), (.int 5 : V)]) = w_H9 at w_s9 w_e9 w_r9 ⊢
    refine ⟨_, rfl, .inl ⟨rfl, _, SqL.of w_e9⟩, 1, rfl, (by show 3 ≤ sizeLine; decide), fun w_a10 w_n10 => ?_⟩
    have w_o10 : w_a10 ≠ s := fun z => by rw [z, w_r9] at w_n10; cases w_n10
    have w_s10 := Same.upd (o := .lst [.int 0, .int (-1), .int 1]) w_n10
    have w_e10 : upd w_H9 w_a10 (.lst [.int 0, .int (-1), .int 1]) w_a10 = some (.lst [.int 0, .int (-1), .int 1]) := upd_same
    have w_r10 := w_s10 _ _ w_r9
    generalize upd w_H9 w_a10 (.lst [.int 0, .int (-1), .int 1]) = w_H10 at w_s10 w_e10 w_r10 ⊢
    refine ⟨w_a9, _, _, rfl, rfl, (w_s10 _ _ w_e9), (by show 10 < sizeLine; decide), ?_⟩
    have w_s11 : Kp w_a9 w_H10 (upd w_H10 w_a9 (.lst ([(.non : V), (.ref w_a1 : V), (.ref w_a2 : V), (.ref w_a3 : V), (.ref w_a4 : V), (.ref w_a5 : V), (.ref w_a6 : V), (.ref w_a7 : V), (.ref w_a8 : V), (.int 5 : V)] ++ [(.ref w_a10 : V)]))) := Kp.upd
    have w_f : upd w_H10 w_a9 (.lst ([(.non : V), (.ref w_a1 : V), (.ref w_a2 : V), (.ref w_a3 : V), (.ref w_a4 : V), (.ref w_a5 : V), (.ref w_a6 : V), (.ref w_a7 : V), (.ref w_a8 : V), (.int 5 : V)] ++ [(.ref w_a10 : V)])) w_a9 = some (.lst [(.non : V), (.ref w_a1 : V), (.ref w_a2 : V), (.ref w_a3 : V), (.ref w_a4 : V), (.ref w_a5 : V), (.ref w_a6 : V), (.ref w_a7 : V), (.ref w_a8 : V), (.int 5 : V), (.ref w_a10 : V)]) := upd_same
    have w_r11 := w_s11 _ _ w_o9.symm w_r10
    generalize upd w_H10 w_a9 (.lst ([(.non : V), (.ref w_a1 : V), (.ref w_a2 : V), (.ref w_a3 : V), (.ref w_a4 : V), (.ref w_a5 : V), (.ref w_a6 : V), (.ref w_a7 : V), (.ref w_a8 : V), (.int 5 : V)] ++ [(.ref w_a10 : V)])) = w_H11 at w_s11 w_f w_r11 ⊢
    have w_Z11 := Same.refl w_H11
    have w_P10 := Same.refl w_H10
    have w_P9 := w_s10.trans w_P10
    have w_P8 := w_s9.trans w_P9
    have w_P7 := w_s8.trans w_P8
    have w_P6 := w_s7.trans w_P7
    have w_P5 := w_s6.trans w_P6
    have w_P4 := w_s5.trans w_P5
    have w_P3 := w_s4.trans w_P4
    have w_P2 := w_s3.trans w_P3
    have w_P1 := w_s2.trans w_P2
    have w_P0 := w_s1.trans w_P1
    have w_Q8 := Same.refl w_H8
    have w_Q7 := w_s8.trans w_Q8
    have w_Q6 := w_s7.trans w_Q7
    have w_Q5 := w_s6.trans w_Q6
    have w_Q4 := w_s5.trans w_Q5
    have w_Q3 := w_s4.trans w_Q4
    have w_Q2 := w_s3.trans w_Q3
    have w_Q1 := w_s2.trans w_Q2
    have w_Q0 := w_s1.trans w_Q1
    have w_R9 := Same.refl w_H9
    have w_R10 := w_R9.trans w_s10
    have w_S0 : Same HA0 w_H11 := fun c o h => w_Z11 _ _ (w_s11 _ _ (ne_of_none (w_Q0 _ _ h) w_n9) (w_P0 _ _ h))
    have w_E1 := Dl.at (s := s) (w_Z11 _ _ (w_s11 _ _ (ne_of_none (w_Q1 _ _ w_e1) w_n9) (w_P1 _ _ w_e1))) w_o1
    have w_E2 := Dl.at (s := s) (w_Z11 _ _ (w_s11 _ _ (ne_of_none (w_Q2 _ _ w_e2) w_n9) (w_P2 _ _ w_e2))) w_o2
    have w_E3 := Dl.at (s := s) (w_Z11 _ _ (w_s11 _ _ (ne_of_none (w_Q3 _ _ w_e3) w_n9) (w_P3 _ _ w_e3))) w_o3
    have w_E4 := Dl.at (s := s) (w_Z11 _ _ (w_s11 _ _ (ne_of_none (w_Q4 _ _ w_e4) w_n9) (w_P4 _ _ w_e4))) w_o4
    have w_E5 := Dl.at (s := s) (w_Z11 _ _ (w_s11 _ _ (ne_of_none (w_Q5 _ _ w_e5) w_n9) (w_P5 _ _ w_e5))) w_o5
    have w_E6 := Dl.at (s := s) (w_Z11 _ _ (w_s11 _ _ (ne_of_none (w_Q6 _ _ w_e6) w_n9) (w_P6 _ _ w_e6))) w_o6
    have w_E7 := Dl.at (s := s) (w_Z11 _ _ (w_s11 _ _ (ne_of_none (w_Q7 _ _ w_e7) w_n9) (w_P7 _ _ w_e7))) w_o7
    have w_E8 := Dl.at (s := s) (w_Z11 _ _ (w_s11 _ _ (ne_of_none (w_Q8 _ _ w_e8) w_n9) (w_P8 _ _ w_e8))) w_o8
    have w_E9 := Dl.at (s := s) (w_Z11 _ _ w_f) w_o9
    have w_E10 := Dl.at (s := s) (w_Z11 _ _ (w_s11 _ _ (ne_of_none (w_R9 _ _ w_e9) w_n10).symm (w_P10 _ _ w_e10))) w_o10
    have hwr := w_E9
    have src := src.same w_S0
    have R := R.nl (NL.of w_S0)
    have tabs := Tabs.nl tabs (NL.of w_S0)
    have hL := w_S0 _ _ hL
    have g1 : ∀ x ∈ [(.non : V), (.ref w_a1 : V), (.ref w_a2 : V), (.ref w_a3 : V), (.ref w_a4 : V), (.ref w_a5 : V), (.ref w_a6 : V), (.ref w_a7 : V), (.ref w_a8 : V), (.int 5 : V), (.ref w_a10 : V)], NoOrd (Dl s w_H11) 3 x := fun x hx => by
      simp only [List.mem_cons, List.mem_nil_iff, or_false] at hx
      rcases hx with rfl | rfl | rfl | rfl | rfl | rfl | rfl | rfl | rfl | rfl | rfl
      · exact .kind .non (by decide)
      · exact .kind (.tup w_E1) (by decide)
      · exact .len w_E2 (by show 2 ≠ 3; decide)
      · exact .srt (ns := [0, 1, 1]) w_E3 (by decide)
      · exact .srt (ns := [0, 1, 3]) w_E4 (by decide)
      · exact .len w_E5 (by show 4 ≠ 3; decide)
      · exact .item (pre := [0]) w_E6 (.bl _) rfl
      · exact .item (pre := []) w_E7 (.str _) rfl
      · exact .kind (.dK w_E8) (by decide)
      · exact .kind (.int _) (by decide)
      · exact .srt (ns := [0, -1, 1]) w_E10 (by decide)
    have len1 : ([(.non : V), (.ref w_a1 : V), (.ref w_a2 : V), (.ref w_a3 : V), (.ref w_a4 : V), (.ref w_a5 : V), (.ref w_a6 : V), (.ref w_a7 : V), (.ref w_a8 : V), (.int 5 : V), (.ref w_a10 : V)] : List V).length = 11 := rfl
    generalize ([(.non : V), (.ref w_a1 : V), (.ref w_a2 : V), (.ref w_a3 : V), (.ref w_a4 : V), (.ref w_a5 : V), (.ref w_a6 : V), (.ref w_a7 : V), (.ref w_a8 : V), (.int 5 : V), (.ref w_a10 : V)] : List V) = L1 at hwr g1 len1
    have nwr : w_a9 ≠ s := w_o9
    -- no order
    refine ⟨tabs, fun Hw exW txW E1 N1 Hx sx hE hN => ?_⟩
    have srcx := (src.ext exW).same sx
    obtain ⟨yx, hyx⟩ := srcx.has
    refine ⟨_, rfl, _, rfl, _, rfl, s, w_a9, L1, 0, rfl, nwr.symm, sx _ _ (ExtN.lst exW (Dl.sub s _ _ _ hwr fun _ z => nomatch z)), by rw [len1]; decide, by rw [len1]; decide, srcx, by decide, fun v Hv hv srcv kv => ?_⟩
    have Rv := ((R.ext exW).nl (NL.of sx)).nl (Kp.nl kv hyx)
    refine ⟨r, B, _, _, 1, 0, v, rfl, Rv, ((((g1 v hv).ext (Dl.ext exW)).ext (Dl.ext (LamX.ExtN.of sx))).ext (Dl.kp kv)).ext (Dl.sub s _), said_bd hE fun q Hu hq su => ?_⟩
    refine ⟨(by show 2 ≤ sizeLine; decide), fun q6 m6 => ?_⟩
    have S6 := Same.upd (o := .tup [.str "bound", .str "order"]) m6
    refine ⟨tgD "bound" "order", tgD "bound" "order", dpTg (S6 _ _ hq), dpTg upd_same, shTg ok_bound ok_order, shTg ok_bound ok_order, ?_⟩
    rw [eqTg ok_bound ok_order]
    have sU := su.trans S6
    have ks : KS s _ (upd Hu q6 (.tup [.str "bound", .str "order"])) := ((KS.ext exW).trans (KS.of (Kp.of sx))).trans ((KS.of kv).trans (KS.of (Kp.of sU)))
    have R := Rv.nl (NL.of sU)
    have src := srcv.same sU
    have tabs := Tabs.nl (Tabs.nl (Tabs.nl txW (NL.of sx)) (Kp.nl kv hyx)) (NL.of sU)
    have hL := ks _ _ nls hL fun _ z => nomatch z
    generalize upd Hu q6 (.tup [.str "bound", .str "order"]) = HZ at R src tabs hL ⊢
    refine ⟨_, rfl, iteF ?_⟩
    clear Rv srcx hyx srcv kv sU ks exW txW sx hE hN hq su S6 m6 hwr g1 len1 nwr
    obtain ⟨yz, hyz⟩ := src.has
    refine ⟨_, rfl, 1, rfl, (by show 1 ≤ sizeLine; decide), fun u_a1 u_n1 => ?_⟩
    have u_o1 : u_a1 ≠ s := fun z => by rw [z, hyz] at u_n1; cases u_n1
    have u_s1 := Same.upd (o := .lst [.int 0]) u_n1
    have u_e1 : upd HZ u_a1 (.lst [.int 0]) u_a1 = some (.lst [.int 0]) := upd_same
    have u_r1 := u_s1 _ _ hyz
    generalize upd HZ u_a1 (.lst [.int 0]) = u_H1 at u_s1 u_e1 u_r1 ⊢
    refine ⟨(by show 1 ≤ sizeLine; decide), fun u_a2 u_n2 => ?_⟩
    have u_o2 : u_a2 ≠ s := fun z => by rw [z, u_r1] at u_n2; cases u_n2
    have u_s2 := Same.upd (o := .tup [.int 0]) u_n2
    have u_e2 : upd u_H1 u_a2 (.tup [.int 0]) u_a2 = some (.tup [.int 0]) := upd_same
    have u_r2 := u_s2 _ _ u_r1
    generalize upd u_H1 u_a2 (.tup [.int 0]) = u_H2 at u_s2 u_e2 u_r2 ⊢
    refine fun u_a3 u_n3 => ?_
    have u_o3 : u_a3 ≠ s := fun z => by rw [z, u_r2] at u_n3; cases u_n3
    have u_s3 := Same.upd (o := .dK []) u_n3
    have u_e3 : upd u_H2 u_a3 (.dK []) u_a3 = some (.dK []) := upd_same
    have u_r3 := u_s3 _ _ u_r2
    generalize upd u_H2 u_a3 (.dK []) = u_H3 at u_s3 u_e3 u_r3 ⊢
    refine ⟨_, _, rfl, rfl, cp20, _, _, rfl, rfl, (by show 8 ≤ sizeLine; decide), fun u_a4 u_n4 => ?_⟩
    have u_o4 : u_a4 ≠ s := fun z => by rw [z, u_r3] at u_n4; cases u_n4
    have u_s4 := Same.upd (o := .lst [(.non : V), (.int (-1) : V), (.bl true : V), (.str "0" : V), (.ref u_a1 : V), (.ref u_a2 : V), (.ref u_a3 : V), (.int (0 - (10 : Int) ^ (20 : Int).toNat) : V)]) u_n4
    have u_e4 : upd u_H3 u_a4 (.lst [(.non : V), (.int (-1) : V), (.bl true : V), (.str "0" : V), (.ref u_a1 : V), (.ref u_a2 : V), (.ref u_a3 : V), (.int (0 - (10 : Int) ^ (20 : Int).toNat) : V)]) u_a4 = some (.lst [(.non : V), (.int (-1) : V), (.bl true : V), (.str "0" : V), (.ref u_a1 : V), (.ref u_a2 : V), (.ref u_a3 : V), (.int (0 - (10 : Int) ^ (20 : Int).toNat) : V)]) := upd_same
    have u_r4 := u_s4 _ _ u_r3
    generalize upd u_H3 u_a4 (.lst [(.non : V), (.int (-1) : V), (.bl true : V), (.str "0" : V), (.ref u_a1 : V), (.ref u_a2 : V), (.ref u_a3 : V), (.int (0 - (10 : Int) ^ (20 : Int).toNat) : V)]) = u_H4 at u_s4 u_e4 u_r4 ⊢
    have u_S4 := Same.refl u_H4
    have u_S3 := u_s4.trans u_S4
    have u_S2 := u_s3.trans u_S3
    have u_S1 := u_s2.trans u_S2
    have u_S0 := u_s1.trans u_S1
    have u_E1 := Dl.at (s := s) (u_S1 _ _ u_e1) u_o1
    have u_E2 := Dl.at (s := s) (u_S2 _ _ u_e2) u_o2
    have u_E3 := Dl.at (s := s) (u_S3 _ _ u_e3) u_o3
    have u_E4 := Dl.at (s := s) (u_S4 _ _ u_e4) u_o4
    have hod := Dl.sub s _ _ _ u_E4 fun _ z => nomatch z
    have src := src.same u_S0
    have R := R.nl (NL.of u_S0)
    have tabs := Tabs.nl tabs (NL.of u_S0)
    have hL := u_S0 _ _ hL
    obtain ⟨yo, hyo⟩ := src.has
    have g2 : ∀ x ∈ [(.non : V), (.int (-1) : V), (.bl true : V), (.str "0" : V), (.ref u_a1 : V), (.ref u_a2 : V), (.ref u_a3 : V), (.int (0 - (10 : Int) ^ (20 : Int).toNat) : V)], Od41 (Dl s u_H4) x := fun x hx => by
      simp only [List.mem_cons, List.mem_nil_iff, or_false] at hx
      rcases hx with rfl | rfl | rfl | rfl | rfl | rfl | rfl | rfl
      · exact .non
      · exact .neg
      · exact (.bl _)
      · exact .str
      · exact (.lst u_E1)
      · exact (.tup u_E2)
      · exact (.dic u_E3)
      · rw [show (0 : Int) - (10 : Int) ^ (20 : Int).toNat = -100000000000000000000 by decide +kernel]
        exact .far
    have len2 : ([(.non : V), (.int (-1) : V), (.bl true : V), (.str "0" : V), (.ref u_a1 : V), (.ref u_a2 : V), (.ref u_a3 : V), (.int (0 - (10 : Int) ^ (20 : Int).toNat) : V)] : List V).length = 8 := rfl
    generalize ([(.non : V), (.int (-1) : V), (.bl true : V), (.str "0" : V), (.ref u_a1 : V), (.ref u_a2 : V), (.ref u_a3 : V), (.int (0 - (10 : Int) ^ (20 : Int).toNat) : V)] : List V) = L2 at hod g2 len2
    have nod : u_a4 ≠ s := u_o4
    refine ⟨s, u_a4, L2, 1101, rfl, nod.symm, hod, by rw [len2]; decide, by rw [len2]; decide, src, by decide, fun odd HO ho src kO => ?_⟩
    have od := ((g2 odd ho).ext (Dl.kp kO)).ext (Dl.sub s _)
    have R := R.nl (Kp.nl kO hyo)
    have tabs := Tabs.nl tabs (Kp.nl kO hyo)
    have hL := kO _ _ nls hL
    clear g2 hod len2 nod hyo hyz kO
    show gName 4 odd _ _ _
    have e20 : (10 : Int) ^ (20 : Int).toNat = 100000000000000000000 := by decide +kernel
    obtain ⟨HB, hHB⟩ : ∃ HB, HB = HO := ⟨_, rfl⟩
    rw [← hHB] at R tabs hL od src ⊢
    clear hHB
    have nxt : ∀ H', KS s HB H' → H' l3 = some (.lst its) := fun H' ks => ks _ _ nls hL fun _ z => nomatch z
    -- indices refused
    refine ⟨_, rfl, _, _, rfl, rfl, cp20, (by show 3 ≤ sizeLine; decide), fun li nli => ?_⟩
    have Si := Same.upd (o := .lst [odd, .int 3, .int ((10 : Int) ^ (20 : Int).toNat)]) nli
    have ei := upd_same (H := HB) (a := li) (o := .lst [odd, .int 3, .int ((10 : Int) ^ (20 : Int).toNat)])
    have R := R.nl (NL.of Si)
    have tabs := Tabs.nl tabs (NL.of Si)
    have src := src.same Si
    have od := od.ext (LamX.ExtN.of Si)
    have nxt : ∀ H', KS s (upd HB li (.lst [odd, .int 3, .int ((10 : Int) ^ (20 : Int).toNat)])) H' → H' l3 = some (.lst its) := fun H' ks => nxt H' ((KS.of (Kp.of Si)).trans ks)
    generalize upd HB li (.lst [odd, .int 3, .int ((10 : Int) ^ (20 : Int).toNat)]) = HI at ei R tabs src od nxt ⊢
    have gi : ∀ v ∈ [odd, .int 3, .int ((10 : Int) ^ (20 : Int).toNat)], ∀ Hy, LamX.ExtN HI Hy → Wb Hy 0 2 v ∧ ∃ z, ReprG g0 Hy v z ∧ PyData.strOk z = true := fun v hv Hy ex => by
      simp only [List.mem_cons, List.mem_nil_iff, or_false] at hv
      rcases hv with rfl | rfl | rfl
      · exact ⟨(od.ext ex).wb (by decide), (od.ext ex).rep g0⟩
      · exact ⟨⟨_, .int _, by decide⟩, _, .plain (.int _ (by decide +kernel)), by decide +kernel⟩
      · rw [e20]
        exact ⟨⟨_, .int _, by decide⟩, _, .plain (.int _ (by decide +kernel)), by decide +kernel⟩
    generalize ([odd, .int 3, .int ((10 : Int) ^ (20 : Int).toNat)] : List V) = L3 at ei gi
    refine ⟨li, rfl, ⟨_, SqL.of ei⟩, ?_⟩
    refine for_list (K := K) (a := li) (xs := L3) (fun i σ Hx => ∃ v2 v3 v7 v8 : Option V, σ = [some (.ref a), some (.int cc), v2, v3, some odd, some (.ref r), some (.ref s), v7, v8, some (.ref w_a9), none] ∧ LamX.ExtN HI Hx ∧ LamX.Tabs (LT L) Hx) ⟨v2, v3, v7, v8, rfl, LamX.ExtN.refl _, tabs⟩ (fun i σ Hx _ ⟨_, _, _, _, _, ex, _⟩ => SqL.of (ExtN.lst ex ei)) ?_ ?_
    · rintro i v σ Hx hxi ⟨v2, v3, v7, v8, rfl, ex, tabs⟩
      have gv := gi v (List.mem_of_getElem? hxi)
      have R := R.ext ex
      refine ⟨tabs, fun K1 f1 c1 G1 ok1 t1 ex1 tx1 kp1 => ⟨tx1, fun K2 f2 c2 G2 ok2 t2 ex2 tx2 kp2 => ⟨(by show 2 ≤ sizeLine; decide), fun la nla => ?_⟩⟩⟩
      have Sa := Same.upd (o := .lst [.ref f1, .ref f2]) nla
      have ea := upd_same (H := G2) (a := la) (o := .lst [.ref f1, .ref f2])
      have kp1 := (kp1.ext ex2).ext (LamX.ExtN.of Sa)
      have kp2 := kp2.ext (LamX.ExtN.of Sa)
      have exA := (ex1.trans ex2).trans (LamX.ExtN.of Sa)
      have tabs := Tabs.nl tx2 (NL.of Sa)
      generalize upd G2 la (.lst [.ref f1, .ref f2]) = Z2 at ea kp1 kp2 exA tabs ⊢
      refine ⟨_, rfl, tabs, fun K3 f3 c3 G3 ok3 t3 ex3 tx3 kp3 => ⟨tx3, fun K4 f4 c4 G4 ok4 t4 ex4 tx4 kp4 => ⟨(by show 2 ≤ sizeLine; decide), fun lb nlb => ?_⟩⟩⟩
      have Sb := Same.upd (o := .lst [.ref f3, .ref f4]) nlb
      have eb := upd_same (H := G4) (a := lb) (o := .lst [.ref f3, .ref f4])
      have ea := Sb _ _ (ExtN.lst ex4 (ExtN.lst ex3 ea))
      have kp1 := ((kp1.ext ex3).ext ex4).ext (LamX.ExtN.of Sb)
      have kp2 := ((kp2.ext ex3).ext ex4).ext (LamX.ExtN.of Sb)
      have kp3 := (kp3.ext ex4).ext (LamX.ExtN.of Sb)
      have kp4 := kp4.ext (LamX.ExtN.of Sb)
      have exB := ((exA.trans ex3).trans ex4).trans (LamX.ExtN.of Sb)
      have tabs := Tabs.nl tx4 (NL.of Sb)
      generalize upd G4 lb (.lst [.ref f3, .ref f4]) = Z4 at ea eb kp1 kp2 kp3 kp4 exB tabs ⊢
      refine ⟨la, lb, _, _, rfl, rfl, ea, eb, small2 (Nat.le_of_ble_eq_true rfl), fun lc nlc => ?_⟩
      have Sc := Same.upd (o := .lst ([.ref f1, .ref f2] ++ [.ref f3, .ref f4])) nlc
      have ec : upd Z4 lc (.lst ([.ref f1, .ref f2] ++ [.ref f3, .ref f4])) lc = some (.lst [.ref f1, .ref f2, .ref f3, .ref f4]) := upd_same
      have kp1 := kp1.ext (LamX.ExtN.of Sc)
      have kp2 := kp2.ext (LamX.ExtN.of Sc)
      have kp3 := kp3.ext (LamX.ExtN.of Sc)
      have kp4 := kp4.ext (LamX.ExtN.of Sc)
      have exC := exB.trans (LamX.ExtN.of Sc)
      have tabs := Tabs.nl tabs (NL.of Sc)
      generalize upd Z4 lc (.lst ([.ref f1, .ref f2] ++ [.ref f3, .ref f4])) = Z5 at ec kp1 kp2 kp3 kp4 exC tabs ⊢
      obtain ⟨z, rz, zok⟩ := (gv Z5 (ex.trans exC)).2
      have A1 : AskU (cxOf CX0 P w K mg base N_law "law" (defScope st_law) aLaw (.ref L.k_law) A outer S H E).nox K L g0 [some (.ref a), some (.int cc), some (.ref lc), some v, some odd, some (.ref r), some (.ref s), v7, v8, some (.ref w_a9), none] [.str "index", .str z] Z5 (.ref f1) := ⟨K1, f1, c1, rfl, ok1, kp1, fun Hy Q N E eH hE kk => by
        rw [t1]
        have rzy := rz.mv fun b o _ e n => eH _ _ e n
        have Ry := (R.ext exC).ext eH
        have wy := (gv Hy ((ex.trans exC).trans eH)).1
        exact ⟨_, rfl, _, rfl, r, B, _, _, 1, 0, v, rfl, Ry, wy, said_ix hE rzy kk⟩⟩
      have A2 : AskU (cxOf CX0 P w K mg base N_law "law" (defScope st_law) aLaw (.ref L.k_law) A outer S H E).nox K L g0 [some (.ref a), some (.int cc), some (.ref lc), some v, some odd, some (.ref r), some (.ref s), v7, v8, some (.ref w_a9), none] [.str "index", .str z] Z5 (.ref f2) := ⟨K2, f2, c2, rfl, ok2, kp2, fun Hy Q N E eH hE kk => by
        rw [t2]
        have rzy := rz.mv fun b o _ e n => eH _ _ e n
        have Ry := (R.ext exC).ext eH
        have wy := (gv Hy ((ex.trans exC).trans eH)).1
        exact ⟨_, rfl, _, rfl, _, rfl, r, B, _, _, 1, 0, v, odd, rfl, Ry, .inl ⟨wy, said_ix hE rzy kk⟩⟩⟩
      have A3 : AskU (cxOf CX0 P w K mg base N_law "law" (defScope st_law) aLaw (.ref L.k_law) A outer S H E).nox K L g0 [some (.ref a), some (.int cc), some (.ref lc), some v, some odd, some (.ref r), some (.ref s), v7, v8, some (.ref w_a9), none] [.str "index", .str z] Z5 (.ref f3) := ⟨K3, f3, c3, rfl, ok3, kp3, fun Hy Q N E eH hE kk => by
        rw [t3]
        have rzy := rz.mv fun b o _ e n => eH _ _ e n
        have Ry := (R.ext exC).ext eH
        have wy := (gv Hy ((ex.trans exC).trans eH)).1
        exact ⟨_, rfl, _, rfl, .inr ⟨r, B, _, _, 1, 0, v, rfl, Ry, .inl ⟨wy, said_ix hE rzy kk⟩⟩⟩⟩
      have A4 : AskU (cxOf CX0 P w K mg base N_law "law" (defScope st_law) aLaw (.ref L.k_law) A outer S H E).nox K L g0 [some (.ref a), some (.int cc), some (.ref lc), some v, some odd, some (.ref r), some (.ref s), v7, v8, some (.ref w_a9), none] [.str "index", .str z] Z5 (.ref f4) := ⟨K4, f4, c4, rfl, ok4, kp4, fun Hy Q N E eH hE kk => by
        rw [t4]
        have rzy := rz.mv fun b o _ e n => eH _ _ e n
        have Ry := (R.ext exC).ext eH
        have wy := (gv Hy ((ex.trans exC).trans eH)).1
        exact ⟨_, rfl, _, rfl, _, rfl, .inr ⟨r, B, _, _, 1, 0, v, odd, rfl, Ry, .inl ⟨wy, said_ix hE rzy kk⟩⟩⟩⟩
      have allA : ∀ x ∈ ([.ref f1, .ref f2, .ref f3, .ref f4] : List V), AskU (cxOf CX0 P w K mg base N_law "law" (defScope st_law) aLaw (.ref L.k_law) A outer S H E).nox K L g0 [some (.ref a), some (.int cc), some (.ref lc), some v, some odd, some (.ref r), some (.ref s), v7, v8, some (.ref w_a9), none] [.str "index", .str z] Z5 x := fun x hx => by
        simp only [List.mem_cons, List.mem_nil_iff, or_false] at hx
        rcases hx with rfl | rfl | rfl | rfl
        · exact A1
        · exact A2
        · exact A3
        · exact A4
      refine ⟨.ref lc, rfl, lc, rfl, ⟨_, SqL.of ec⟩, fun D nD => ?_⟩
      have S0 := Same.upd (o := .lst []) nD
      refine lc_list (K := K) (a := lc) (xs := [.ref f1, .ref f2, .ref f3, .ref f4]) (fun j Hy => Hy D = some (.lst []) ∧ LamX.ExtN Z5 Hy ∧ LamX.Tabs (LT L) Hy) ⟨upd_same, LamX.ExtN.of S0, Tabs.nl tabs (NL.of S0)⟩ (fun j Hy _ ⟨_, ex, _⟩ => SqL.of (ExtN.lst ex ec)) ?_ ?_
      · rintro j x Hy hxj ⟨hD, exY, tx⟩
        obtain ⟨Lm, fx, cx, rfl, ok, kp, ask⟩ := allA x (List.mem_of_getElem? hxj)
        refine ⟨rfl, ⟨_, rfl, Lm, fx, cx, rfl, ok, kp.ext exY, fun E2 N2 Hs ss hE2 _ => ask Hs _ N2 E2 (exY.trans (LamX.ExtN.of ss)) hE2 fun p H5 hp s5 => ?_⟩⟩
        have sS := ss.trans s5
        refine ⟨_, rfl, _, _, rfl, rz.mv fun b o _ e n => sS _ _ (exY _ _ e n), (by show 2 ≤ sizeLine; decide), fun q6 m6 => ?_⟩
        have S6 := Same.upd (o := .tup [.str "index", .str z]) m6
        refine ⟨tgD "index" z, tgD "index" z, dpTg (S6 _ _ hp), dpTg upd_same, shTg ok_index zok, shTg ok_index zok, ?_⟩
        rw [eqTg ok_index zok]
        have sT := sS.trans S6
        exact ⟨_, rfl, iteF ⟨sT _ _ hD, exY.trans (LamX.ExtN.of sT), Tabs.nl tx (NL.of sT)⟩⟩
      rintro Hy ⟨hD, exY, tx⟩
      refine ⟨(by show 0 ≤ sizeLine; decide), fun p9 n9 => ?_⟩
      have s9 := Same.upd (o := .lst []) n9
      exact ⟨.list [], .list [], .lst (SqL.of (s9 _ _ hD)) .nil, .lst (SqL.of upd_same) .nil, rfl, rfl, ⟨_, rfl, iteF ⟨_, _, _, _, rfl, (ex.trans exC).trans (exY.trans (LamX.ExtN.of s9)), Tabs.nl tx (NL.of s9)⟩⟩⟩
    rintro σ HJ ⟨v2, v3, v7, v8, rfl, exJ, tabs⟩
    have R := R.ext exJ
    have od := od.ext exJ
    have src := src.ext exJ
    have nxt : ∀ H', KS s HJ H' → H' l3 = some (.lst its) := fun H' ks => nxt H' ((KS.ext exJ).trans ks)
    clear exJ gi ei
    -- waits refused
    have e30 : (10 : Int) ^ (30 : Int).toNat + 1 = 1000000000000000000000000000001 := by decide +kernel
    have cp30 : CPow 10 30 := ⟨by decide, by decide, by decide⟩
    have okwait : PyData.strOk "wait" = true := by decide +kernel
    have okmost : PyData.strOk "most" = true := by decide +kernel
    refine ⟨_, rfl, _, _, rfl, rfl, cp30, _, _, rfl, rfl, (by show 3 ≤ sizeLine; decide), fun lw nlw => ?_⟩
    have Sw := Same.upd (o := .lst [odd, .int 0, .int ((10 : Int) ^ (30 : Int).toNat + 1)]) nlw
    have ew := upd_same (H := HJ) (a := lw) (o := .lst [odd, .int 0, .int ((10 : Int) ^ (30 : Int).toNat + 1)])
    have R := R.nl (NL.of Sw)
    have tabs := Tabs.nl tabs (NL.of Sw)
    have src := src.same Sw
    have od := od.ext (LamX.ExtN.of Sw)
    have nxt : ∀ H', KS s (upd HJ lw (.lst [odd, .int 0, .int ((10 : Int) ^ (30 : Int).toNat + 1)])) H' → H' l3 = some (.lst its) := fun H' ks => nxt H' ((KS.of (Kp.of Sw)).trans ks)
    generalize upd HJ lw (.lst [odd, .int 0, .int ((10 : Int) ^ (30 : Int).toNat + 1)]) = HW at ew R tabs src od nxt ⊢
    have gw : ∀ v ∈ [odd, .int 0, .int ((10 : Int) ^ (30 : Int).toNat + 1)], ∀ Hy, LamX.ExtN HW Hy → ∀ l : Int, 1 ≤ l → Wb Hy l 1000000000000000000000000000000 v := fun v hv Hy ex l l1 => by
      simp only [List.mem_cons, List.mem_nil_iff, or_false] at hv
      rcases hv with rfl | rfl | rfl
      · exact (od.ext ex).wb (by omega)
      · refine ⟨_, .int _, ?_⟩
        show (true && (decide (l ≤ 0) && _)) = false
        rw [decide_eq_false (show ¬ l ≤ 0 by omega)]
        rfl
      · rw [e30]
        refine ⟨_, .int _, ?_⟩
        show (true && (decide (l ≤ 1000000000000000000000000000001) && decide ((1000000000000000000000000000001 : Int) ≤ 1000000000000000000000000000000))) = false
        rw [decide_eq_false (show ¬ (1000000000000000000000000000001 : Int) ≤ 1000000000000000000000000000000 by decide), Bool.and_false]
        rfl
    generalize ([odd, .int 0, .int ((10 : Int) ^ (30 : Int).toNat + 1)] : List V) = L4 at ew gw
    refine ⟨lw, rfl, ⟨_, SqL.of ew⟩, ?_⟩
    refine for_list (K := K) (a := lw) (xs := L4) (fun i σ Hx => ∃ v7 : Option V, σ = [some (.ref a), some (.int cc), v2, v3, some odd, some (.ref r), some (.ref s), v7, v8, some (.ref w_a9), none] ∧ LamX.ExtN HW Hx ∧ LamX.Tabs (LT L) Hx) ⟨v7, rfl, LamX.ExtN.refl _, tabs⟩ (fun i σ Hx _ ⟨_, _, ex, _⟩ => SqL.of (ExtN.lst ex ew)) ?_ ?_
    · rintro i v σ Hy hxi ⟨v7, rfl, ex, tabs⟩
      have hv := List.mem_of_getElem? hxi
      have R := R.ext ex
      refine ⟨tabs, fun Hw exW txW E1 N1 Hx sx hE hN => ?_⟩
      have Rw := (R.ext exW).nl (NL.of sx)
      have exx := exW.trans (LamX.ExtN.of sx)
      refine ⟨_, rfl, _, rfl, r, B, _, _, 1, 0, .int 1, v, rfl, Rw, .inr ⟨1, rfl, by show 1 < 3; decide, gw v hv _ (ex.trans exx) 1 (by decide), said_bd hE fun q Hu hq su => ?_⟩⟩
      refine ⟨(by show 2 ≤ sizeLine; decide), fun q6 m6 => ?_⟩
      have S6 := Same.upd (o := .tup [.str "bound", .str "wait"]) m6
      refine ⟨tgD "bound" "wait", tgD "bound" "wait", dpTg (S6 _ _ hq), dpTg upd_same, shTg ok_bound okwait, shTg ok_bound okwait, ?_⟩
      rw [eqTg ok_bound okwait]
      have exZ := exx.trans (LamX.ExtN.of (su.trans S6))
      have tabs := Tabs.nl (Tabs.nl txW (NL.of sx)) (NL.of (su.trans S6))
      generalize upd Hu q6 (.tup [.str "bound", .str "wait"]) = HP at exZ tabs ⊢
      refine ⟨_, rfl, iteF ?_⟩
      have exP := exZ
      have R := R.ext exZ
      refine ⟨tabs, fun Hw exW txW E1 N1 Hx sx hE hN => ?_⟩
      have Rw := (R.ext exW).nl (NL.of sx)
      have exx := exW.trans (LamX.ExtN.of sx)
      refine ⟨_, rfl, _, rfl, .inr ⟨r, B, _, _, 1, 0, .int 1, v, rfl, Rw, .inr ⟨1, _, rfl, rfl, .inl ⟨gw v hv _ ((ex.trans exP).trans exx) 4 (by decide), said_bd hE fun q Hu hq su => ?_⟩⟩⟩⟩
      refine ⟨(by show 2 ≤ sizeLine; decide), fun q6 m6 => ?_⟩
      have S6 := Same.upd (o := .tup [.str "bound", .str "most"]) m6
      refine ⟨tgD "bound" "most", tgD "bound" "most", dpTg (S6 _ _ hq), dpTg upd_same, shTg ok_bound okmost, shTg ok_bound okmost, ?_⟩
      rw [eqTg ok_bound okmost]
      have exZ := exx.trans (LamX.ExtN.of (su.trans S6))
      have tabs := Tabs.nl (Tabs.nl txW (NL.of sx)) (NL.of (su.trans S6))
      generalize upd Hu q6 (.tup [.str "bound", .str "most"]) = HQ at exZ tabs ⊢
      refine ⟨_, rfl, iteF ?_⟩
      exact ⟨_, rfl, (ex.trans exP).trans exZ, tabs⟩
    rintro σ HK ⟨v7, rfl, exK, tabs⟩
    have R := R.ext exK
    have src := src.ext exK
    have nxt : ∀ H', KS s HK H' → H' l3 = some (.lst its) := fun H' ks => nxt H' ((KS.ext exK).trans ks)
    refine ⟨tabs, fun Hw exW txW E1 N1 Hx sx hE hN => ?_⟩
    have Rw := (R.ext exW).nl (NL.of sx)
    have exx := exW.trans (LamX.ExtN.of sx)
    refine ⟨_, rfl, .inr ⟨r, B, _, _, 1, 0, .int 2, .int 8, rfl, Rw, .inr ⟨2, _, rfl, rfl, .inl ⟨⟨_, .int _, by decide⟩, said_bd hE fun q Hu hq su => ?_⟩⟩⟩⟩
    refine ⟨(by show 2 ≤ sizeLine; decide), fun q6 m6 => ?_⟩
    have S6 := Same.upd (o := .tup [.str "bound", .str "most"]) m6
    refine ⟨tgD "bound" "most", tgD "bound" "most", dpTg (S6 _ _ hq), dpTg upd_same, shTg ok_bound okmost, shTg ok_bound okmost, ?_⟩
    rw [eqTg ok_bound okmost]
    have exZ := exx.trans (LamX.ExtN.of (su.trans S6))
    have tabs := Tabs.nl (Tabs.nl txW (NL.of sx)) (NL.of (su.trans S6))
    generalize upd Hu q6 (.tup [.str "bound", .str "most"]) = HR at exZ tabs ⊢
    refine ⟨_, rfl, iteF ?_⟩
    have R := R.ext exZ
    have src := src.ext exZ
    have nxt : ∀ H', KS s HR H' → H' l3 = some (.lst its) := fun H' ks => nxt H' ((KS.ext exZ).trans ks)
    -- wide rows
    refine ⟨(by show 3 ≤ sizeLine; decide), fun t1 n1 => ⟨(by show 1 ≤ sizeLine; decide), fun q1 n2 => ?_⟩⟩
    have S1 := Same.upd (o := .tup [.int 1, .int 5, .int 1]) n1
    have e1 := upd_same (H := HR) (a := t1) (o := .tup [.int 1, .int 5, .int 1])
    generalize upd HR t1 (.tup [.int 1, .int 5, .int 1]) = I1 at S1 e1 n2 ⊢
    have S2 := Same.upd (o := .lst [.ref t1]) n2
    have eq1 := upd_same (H := I1) (a := q1) (o := .lst [.ref t1])
    have e1 := S2 _ _ e1
    have S12 := S1.trans S2
    have src := src.same S12
    have nq1 : q1 ≠ s := by
      obtain ⟨y, hy⟩ := src.has
      obtain ⟨y1, hy1⟩ : ∃ y, I1 s = some y := by
        by_cases c : s = q1
        · exfalso
          obtain ⟨x, yy, z, h, _⟩ := src
          rw [c, upd_same] at h
          cases h
        · exact ⟨_, by rw [← upd_ne (H := I1) (o := .lst [.ref t1]) c]; exact hy⟩
      exact (ne_of_none hy1 n2).symm
    generalize upd I1 q1 (.lst [.ref t1]) = I2 at S2 S12 e1 eq1 src ⊢
    refine ⟨_, rfl, s, 5, _, rfl, by decide, by decide, src, by omega, fun r7 Hd r70 r71 srcd kd => ⟨_, _, rfl, rfl, ?_⟩⟩
    have e1 := kd _ _ (src.ne e1) e1
    have eq1 := kd _ _ nq1 eq1
    obtain ⟨yd, hyd⟩ := src.has
    have tabs := Tabs.nl (Tabs.nl tabs (NL.of S12)) (Kp.nl kd hyd)
    have nxt : ∀ H', KS s Hd H' → H' l3 = some (.lst its) := fun H' ks => nxt H' ((KS.of (Kp.of S12)).trans ((KS.of kd).trans ks))
    refine ⟨q1, 8 + r7, [.ref t1], rfl, rfl, eq1, by omega, by omega, Nat.le_trans (show 1 * (8 + r7).toNat ≤ 20 by omega) (by decide), fun q2 n3 => ?_⟩
    obtain ⟨N, hN⟩ : ∃ N : Nat, (8 + r7).toNat = N := ⟨_, rfl⟩
    have N8 : 8 ≤ N ∧ N ≤ 12 := by omega
    rw [hN]
    have S3 := Same.upd (o := .lst (List.replicate N [V.ref t1]).flatten) n3
    have e1 := S3 _ _ e1
    have e2 : upd Hd q2 (.lst (List.replicate N [V.ref t1]).flatten) q2 = some (.lst (List.replicate N (V.ref t1))) := by rw [upd_same, List.flatten_replicate_singleton]
    generalize upd Hd q2 (.lst (List.replicate N [V.ref t1]).flatten) = I3 at S3 e1 e2 ⊢
    have bt : ∀ n : Nat, Brs I3 (List.replicate n (V.ref t1)) (List.replicate n ((1, 5, 1) : Tri)) := fun n => by
      induction n with
      | zero => exact .nil
      | succ n ih => exact .cons ⟨_, rfl, e1⟩ ih
    refine row_made38 e2 (ts := List.replicate N (1, 5, 1)) (bt N) (fun t ht => by rw [List.eq_of_mem_replicate ht]; exact ⟨by decide, by decide, by decide, by decide, by decide, by decide⟩) (by rw [List.length_replicate]; omega) ⟨by decide, by decide, by decide, by decide⟩ fun r2 B2 I4 R2 s4 n4 => ?_
    have S34 := S3.trans s4
    have srcd := srcd.same S34
    have tabs := Tabs.nl tabs (NL.of S34)
    have nxt : ∀ H', KS s I4 H' → H' l3 = some (.lst its) := fun H' ks => nxt H' ((KS.of (Kp.of S34)).trans ks)
    refine ⟨tabs, fun K1 f1 c1 G1 ok1 t1 ex1 tx1 kp1 => ⟨tx1, fun K2 f2 c2 G2 ok2 t2 ex2 tx2 kp2 => ⟨(by show 2 ≤ sizeLine; decide), fun la nla => ?_⟩⟩⟩
    have Sa := Same.upd (o := .lst [.ref f1, .ref f2]) nla
    have ea := upd_same (H := G2) (a := la) (o := .lst [.ref f1, .ref f2])
    have kp1 := (kp1.ext ex2).ext (LamX.ExtN.of Sa)
    have kp2 := kp2.ext (LamX.ExtN.of Sa)
    have exA := (ex1.trans ex2).trans (LamX.ExtN.of Sa)
    have tabs := Tabs.nl tx2 (NL.of Sa)
    generalize upd G2 la (.lst [.ref f1, .ref f2]) = Z2 at ea kp1 kp2 exA tabs ⊢
    have allA : ∀ x ∈ ([.ref f1, .ref f2] : List V), AskU (cxOf CX0 P w K mg base N_law "law" (defScope st_law) aLaw (.ref L.k_law) A outer S H E).nox K L g0 [some (.ref a), some (.int cc), some (.ref la), v3, some odd, some (.ref r), some (.ref s), v7, some (.ref r2), some (.ref w_a9), none] [.str "limit", .int 7] Z2 x := fun x hx => by
      simp only [List.mem_cons, List.mem_nil_iff, or_false] at hx
      rcases hx with rfl | rfl
      · refine ⟨K1, f1, c1, rfl, ok1, kp1, fun Hy Q N' E eH hE kk => ?_⟩
        rw [t1]
        exact ⟨_, rfl, r2, B2, _, _, 1, 0, rfl, (R2.ext exA).ext eH, by rw [List.length_replicate]; omega, said_lm hE kk⟩
      · refine ⟨K2, f2, c2, rfl, ok2, kp2, fun Hy Q N' E eH hE kk => ?_⟩
        rw [t2]
        exact ⟨_, rfl, r2, B2, _, _, 1, 0, rfl, (R2.ext exA).ext eH, by rw [List.length_replicate]; omega, said_lm hE kk⟩
    refine ⟨.ref la, rfl, la, rfl, ⟨_, SqL.of ea⟩, fun D nD => ?_⟩
    refine asks_us (X := (cxOf CX0 P w K mg base N_law "law" (defScope st_law) aLaw (.ref L.k_law) A outer S H E).nox) 10 rfl (fun _ => rfl) ea (Nat.le_of_ble_eq_true rfl) allA tabs nD fun ys HE hD ly yl exE tabs => ?_
    refine ⟨(by show 2 ≤ sizeLine; decide), fun q6 m6 => ⟨(by show 1 ≤ sizeLine; decide), fun q7 m7 => ⟨q7, 2, [.ref q6], rfl, rfl, upd_same, by decide, by decide, (by show 1 * 2 ≤ sizeLine; decide), fun q8 m8 => ?_⟩⟩⟩
    have S6 := Same.upd (o := .tup [.str "limit", .int 7]) m6
    have S7 := Same.upd (o := .lst [.ref q6]) m7
    have S8 := Same.upd (o := .lst (List.replicate (2 : Int).toNat [V.ref q6]).flatten) m8
    have SS := (S6.trans S7).trans S8
    have h6 := S8 _ _ (S7 _ _ (upd_same (H := HE) (a := q6) (o := .tup [.str "limit", .int 7])))
    have dys := tus_dp (K := K) (us := [.str "limit", .int 7]) (d := lmD 7) (fun p h => dpLm h) fun y hy => (show TuAt [.str "limit", .int 7] _ y by obtain ⟨u, e1, e2⟩ := ly y hy; exact ⟨u, e1, SS _ _ e2⟩)
    rw [yl] at dys
    have shL : SeqAt.shaped (.list [lmD 7, lmD 7]) = true := Bool.and_eq_true_iff.mpr ⟨by simp [lmD, PyData.canLay0, PyData.canLayAll0]; decide +kernel, decide_eq_true (by simp [lmD, PyData.depth, PyData.depthAll])⟩
    refine ⟨.list [lmD 7, lmD 7], .list [lmD 7, lmD 7], .lst (SqL.of (SS _ _ hD)) dys, .lst (SqL.of upd_same) (.cons (dpLm h6) (.cons (dpLm h6) .nil)), shL, shL, ?_⟩
    rw [SeqAt.eqv_refl _ (Bool.and_eq_true_iff.mp shL).1]
    have exF := (exA.trans exE).trans (LamX.ExtN.of SS)
    refine ⟨_, rfl, iteF ⟨_, rfl, s, _, rfl, srcd.ext exF, by omega, Tabs.nl tabs (NL.of SS), fun HL kl tl => ⟨_, rfl, iteF ⟨_, _, _, _, _, _, _, _, _, rfl, nxt HL ((KS.ext exF).trans kl), tl⟩⟩⟩⟩
end
/-! ### the end -/
theorem bn_q0 (kV doc pm : Value) (an : Option Addr) (cdv ct : Value) (us : List Value) (hl : us.length = (["value"] : List Str).length) : bindArgs (PySem.W.fnOf "is_integer" "is_integer" (defArgs st_is_integer) (defBody st_is_integer) (defScope st_is_integer) .none kV doc pm an cdv ct) ⟨us, []⟩ = pure ((["value"] : List Str).zip us) :=
  match us, hl with | [_], _ => rfl
theorem bn_q1 (kV doc pm : Value) (an : Option Addr) (cdv ct : Value) (us : List Value) (hl : us.length = (["value", "least"] : List Str).length) : bindArgs (PySem.W.fnOf "is_at_least" "is_at_least" (defArgs st_is_at_least) (defBody st_is_at_least) (defScope st_is_at_least) .none kV doc pm an cdv ct) ⟨us, []⟩ = pure ((["value", "least"] : List Str).zip us) :=
  match us, hl with | [_, _], _ => rfl
theorem bn_q2 (kV doc pm : Value) (an : Option Addr) (cdv ct : Value) (us : List Value) (hl : us.length = (["value", "least", "most"] : List Str).length) : bindArgs (PySem.W.fnOf "is_within" "is_within" (defArgs st_is_within) (defBody st_is_within) (defScope st_is_within) .none kV doc pm an cdv ct) ⟨us, []⟩ = pure ((["value", "least", "most"] : List Str).zip us) :=
  match us, hl with | [_, _, _], _ => rfl
theorem bn_q3 (kV doc pm : Value) (an : Option Addr) (cdv ct : Value) (us : List Value) (hl : us.length = (["distance", "step"] : List Str).length) : bindArgs (PySem.W.fnOf "steps_to" "steps_to" (defArgs st_steps_to) (defBody st_steps_to) (defScope st_steps_to) .none kV doc pm an cdv ct) ⟨us, []⟩ = pure ((["distance", "step"] : List Str).zip us) :=
  match us, hl with | [_, _], _ => rfl
theorem bn_q4 (kV doc pm : Value) (an : Option Addr) (cdv ct : Value) (us : List Value) (hl : us.length = (["value", "unit"] : List Str).length) : bindArgs (PySem.W.fnOf "rounded_up" "rounded_up" (defArgs st_rounded_up) (defBody st_rounded_up) (defScope st_rounded_up) .none kV doc pm an cdv ct) ⟨us, []⟩ = pure ((["value", "unit"] : List Str).zip us) :=
  match us, hl with | [_, _], _ => rfl
theorem bn_q5 (kV doc pm : Value) (an : Option Addr) (cdv ct : Value) (us : List Value) (hl : us.length = (["value"] : List Str).length) : bindArgs (PySem.W.fnOf "is_breaker" "is_breaker" (defArgs st_is_breaker) (defBody st_is_breaker) (defScope st_is_breaker) .none kV doc pm an cdv ct) ⟨us, []⟩ = pure ((["value"] : List Str).zip us) :=
  match us, hl with | [_], _ => rfl
theorem bn_q6 (kV doc pm : Value) (an : Option Addr) (cdv ct : Value) (us : List Value) (hl : us.length = (["breakers", "part"] : List Str).length) : bindArgs (PySem.W.fnOf "check_breakers" "check_breakers" (defArgs st_check_breakers) (defBody st_check_breakers) (defScope st_check_breakers) .none kV doc pm an cdv ct) ⟨us, []⟩ = pure ((["breakers", "part"] : List Str).zip us) :=
  match us, hl with | [_, _], _ => rfl
theorem bn_q7 (kV doc pm : Value) (an : Option Addr) (cdv ct : Value) (us : List Value) (hl : us.length = (["step"] : List Str).length) : bindArgs (PySem.W.fnOf "check_step" "check_step" (defArgs st_check_step) (defBody st_check_step) (defScope st_check_step) .none kV doc pm an cdv ct) ⟨us, []⟩ = pure ((["step"] : List Str).zip us) :=
  match us, hl with | [_], _ => rfl
theorem bn_q8 (kV doc pm : Value) (an : Option Addr) (cdv ct : Value) (us : List Value) (hl : us.length = (["row"] : List Str).length) : bindArgs (PySem.W.fnOf "periods" "periods" (defArgs st_periods) (defBody st_periods) (defScope st_periods) .none kV doc pm an cdv ct) ⟨us, []⟩ = pure ((["row"] : List Str).zip us) :=
  match us, hl with | [_], _ => rfl
theorem bn_q9 (kV doc pm : Value) (an : Option Addr) (cdv ct : Value) (us : List Value) (hl : us.length = (["row"] : List Str).length) : bindArgs (PySem.W.fnOf "row_period" "row_period" (defArgs st_row_period) (defBody st_row_period) (defScope st_row_period) .none kV doc pm an cdv ct) ⟨us, []⟩ = pure ((["row"] : List Str).zip us) :=
  match us, hl with | [_], _ => rfl
theorem bn_q10 (kV doc pm : Value) (an : Option Addr) (cdv ct : Value) (us : List Value) (hl : us.length = (["row", "index"] : List Str).length) : bindArgs (PySem.W.fnOf "check_index" "check_index" (defArgs st_check_index) (defBody st_check_index) (defScope st_check_index) .none kV doc pm an cdv ct) ⟨us, []⟩ = pure ((["row", "index"] : List Str).zip us) :=
  match us, hl with | [_, _], _ => rfl
theorem bn_q11 (kV doc pm : Value) (an : Option Addr) (cdv ct : Value) (us : List Value) (hl : us.length = (["row", "breakers"] : List Str).length) : bindArgs (PySem.W.fnOf "row_of" "row_of" (defArgs st_row_of) (defBody st_row_of) (defScope st_row_of) .none kV doc pm an cdv ct) ⟨us, []⟩ = pure ((["row", "breakers"] : List Str).zip us) :=
  match us, hl with | [_, _], _ => rfl
theorem bn_q12 (kV doc pm : Value) (an : Option Addr) (cdv ct : Value) (us : List Value) (hl : us.length = (["value", "length"] : List Str).length) : bindArgs (PySem.W.fnOf "is_order" "is_order" (defArgs st_is_order) (defBody st_is_order) (defScope st_is_order) .none kV doc pm an cdv ct) ⟨us, []⟩ = pure ((["value", "length"] : List Str).zip us) :=
  match us, hl with | [_, _], _ => rfl
theorem bn_q13 (kV doc pm : Value) (an : Option Addr) (cdv ct : Value) (us : List Value) (hl : us.length = (["row", "order"] : List Str).length) : bindArgs (PySem.W.fnOf "reordered" "reordered" (defArgs st_reordered) (defBody st_reordered) (defScope st_reordered) .none kV doc pm an cdv ct) ⟨us, []⟩ = pure ((["row", "order"] : List Str).zip us) :=
  match us, hl with | [_, _], _ => rfl
theorem bn_q14 (kV doc pm : Value) (an : Option Addr) (cdv ct : Value) (us : List Value) (hl : us.length = (["row"] : List Str).length) : bindArgs (PySem.W.fnOf "all_orders" "all_orders" (defArgs st_all_orders) (defBody st_all_orders) (defScope st_all_orders) .none kV doc pm an cdv ct) ⟨us, []⟩ = pure ((["row"] : List Str).zip us) :=
  match us, hl with | [_], _ => rfl
theorem bn_q15 (kV doc pm : Value) (an : Option Addr) (cdv ct : Value) (us : List Value) (hl : us.length = (["row"] : List Str).length) : bindArgs (PySem.W.fnOf "best_order" "best_order" (defArgs st_best_order) (defBody st_best_order) (defScope st_best_order) .none kV doc pm an cdv ct) ⟨us, []⟩ = pure ((["row"] : List Str).zip us) :=
  match us, hl with | [_], _ => rfl
theorem bn_q16 (kV doc pm : Value) (an : Option Addr) (cdv ct : Value) (us : List Value) (hl : us.length = (["row"] : List Str).length) : bindArgs (PySem.W.fnOf "worst_order" "worst_order" (defArgs st_worst_order) (defBody st_worst_order) (defScope st_worst_order) .none kV doc pm an cdv ct) ⟨us, []⟩ = pure ((["row"] : List Str).zip us) :=
  match us, hl with | [_], _ => rfl
theorem bn_q17 (kV doc pm : Value) (an : Option Addr) (cdv ct : Value) (us : List Value) (hl : us.length = (["row", "index"] : List Str).length) : bindArgs (PySem.W.fnOf "without" "without" (defArgs st_without) (defBody st_without) (defScope st_without) .none kV doc pm an cdv ct) ⟨us, []⟩ = pure ((["row", "index"] : List Str).zip us) :=
  match us, hl with | [_, _], _ => rfl
theorem bn_q18 (kV doc pm : Value) (an : Option Addr) (cdv ct : Value) (us : List Value) (hl : us.length = (["row", "index", "wait"] : List Str).length) : bindArgs (PySem.W.fnOf "with_wait" "with_wait" (defArgs st_with_wait) (defBody st_with_wait) (defScope st_with_wait) .none kV doc pm an cdv ct) ⟨us, []⟩ = pure ((["row", "index", "wait"] : List Str).zip us) :=
  match us, hl with | [_, _, _], _ => rfl
theorem bn_q19 (kV doc pm : Value) (an : Option Addr) (cdv ct : Value) (us : List Value) (hl : us.length = (["period", "breakers"] : List Str).length) : bindArgs (PySem.W.fnOf "period_behind" "period_behind" (defArgs st_period_behind) (defBody st_period_behind) (defScope st_period_behind) .none kV doc pm an cdv ct) ⟨us, []⟩ = pure ((["period", "breakers"] : List Str).zip us) :=
  match us, hl with | [_, _], _ => rfl
theorem bn_q20 (kV doc pm : Value) (an : Option Addr) (cdv ct : Value) (us : List Value) (hl : us.length = (["row", "index"] : List Str).length) : bindArgs (PySem.W.fnOf "harmful_lowerings" "harmful_lowerings" (defArgs st_harmful_lowerings) (defBody st_harmful_lowerings) (defScope st_harmful_lowerings) .none kV doc pm an cdv ct) ⟨us, []⟩ = pure ((["row", "index"] : List Str).zip us) :=
  match us, hl with | [_, _], _ => rfl
theorem bn_q21 (kV doc pm : Value) (an : Option Addr) (cdv ct : Value) (us : List Value) (hl : us.length = (["row", "index", "most"] : List Str).length) : bindArgs (PySem.W.fnOf "best_raise" "best_raise" (defArgs st_best_raise) (defBody st_best_raise) (defScope st_best_raise) .none kV doc pm an cdv ct) ⟨us, []⟩ = pure ((["row", "index", "most"] : List Str).zip us) :=
  match us, hl with | [_, _, _], _ => rfl
theorem bn_q22 (kV doc pm : Value) (an : Option Addr) (cdv ct : Value) (us : List Value) (hl : us.length = (["_law_cell"] : List Str).length) : bindArgs (PySem.W.fnOf "_law_source_of" "_law_source_of" (defArgs st__law_source_of) (defBody st__law_source_of) (defScope st__law_source_of) .none kV doc pm an cdv ct) ⟨us, []⟩ = pure ((["_law_cell"] : List Str).zip us) :=
  match us, hl with | [_], _ => rfl
theorem bn_q23 (kV doc pm : Value) (an : Option Addr) (cdv ct : Value) (us : List Value) (hl : us.length = (["_law_source", "_law_many"] : List Str).length) : bindArgs (PySem.W.fnOf "_law_next" "_law_next" (defArgs st__law_next) (defBody st__law_next) (defScope st__law_next) .none kV doc pm an cdv ct) ⟨us, []⟩ = pure ((["_law_source", "_law_many"] : List Str).zip us) :=
  match us, hl with | [_, _], _ => rfl
theorem bn_q24 (kV doc pm : Value) (an : Option Addr) (cdv ct : Value) (us : List Value) (hl : us.length = (["_law_source", "_law_options"] : List Str).length) : bindArgs (PySem.W.fnOf "_law_one" "_law_one" (defArgs st__law_one) (defBody st__law_one) (defScope st__law_one) .none kV doc pm an cdv ct) ⟨us, []⟩ = pure ((["_law_source", "_law_options"] : List Str).zip us) :=
  match us, hl with | [_, _], _ => rfl
theorem bn_q25 (kV doc pm : Value) (an : Option Addr) (cdv ct : Value) (us : List Value) (hl : us.length = (["_law_script", "_law_k"] : List Str).length) : bindArgs (PySem.W.fnOf "_law_cell_at" "_law_cell_at" (defArgs st__law_cell_at) (defBody st__law_cell_at) (defScope st__law_cell_at) .none kV doc pm an cdv ct) ⟨us, []⟩ = pure ((["_law_script", "_law_k"] : List Str).zip us) :=
  match us, hl with | [_, _], _ => rfl
theorem bn_q26 (kV doc pm : Value) (an : Option Addr) (cdv ct : Value) (us : List Value) (hl : us.length = (["_law_call"] : List Str).length) : bindArgs (PySem.W.fnOf "_law_raised" "_law_raised" (defArgs st__law_raised) (defBody st__law_raised) (defScope st__law_raised) .none kV doc pm an cdv ct) ⟨us, []⟩ = pure ((["_law_call"] : List Str).zip us) :=
  match us, hl with | [_], _ => rfl
theorem bn_q27 (kV doc pm : Value) (an : Option Addr) (cdv ct : Value) (us : List Value) (hl : us.length = (["_law_source"] : List Str).length) : bindArgs (PySem.W.fnOf "_law_limits_right" "_law_limits_right" (defArgs st__law_limits_right) (defBody st__law_limits_right) (defScope st__law_limits_right) .none kV doc pm an cdv ct) ⟨us, []⟩ = pure ((["_law_source"] : List Str).zip us) :=
  match us, hl with | [_], _ => rfl
theorem bn_q28 (kV doc pm : Value) (an : Option Addr) (cdv ct : Value) (us : List Value) (hl : us.length = (["_law_unit", "_law_last", "_law_many"] : List Str).length) : bindArgs (PySem.W.fnOf "_law_due_ranges" "_law_due_ranges" (defArgs st__law_due_ranges) (defBody st__law_due_ranges) (defScope st__law_due_ranges) .none kV doc pm an cdv ct) ⟨us, []⟩ = pure ((["_law_unit", "_law_last", "_law_many"] : List Str).zip us) :=
  match us, hl with | [_, _, _], _ => rfl
theorem bn_q29 (kV doc pm : Value) (an : Option Addr) (cdv ct : Value) (us : List Value) (hl : us.length = (["_law_source"] : List Str).length) : bindArgs (PySem.W.fnOf "_law_later_right" "_law_later_right" (defArgs st__law_later_right) (defBody st__law_later_right) (defScope st__law_later_right) .none kV doc pm an cdv ct) ⟨us, []⟩ = pure ((["_law_source"] : List Str).zip us) :=
  match us, hl with | [_], _ => rfl
theorem bn_q30 (kV doc pm : Value) (an : Option Addr) (cdv ct : Value) (us : List Value) (hl : us.length = (["self"] : List Str).length) : bindArgs (PySem.W.fnOf "breaker_list" "Row.breaker_list" (defArgs st_Row_breaker_list) (defBody st_Row_breaker_list) (defScope st_Row_breaker_list) .none kV doc pm an cdv ct) ⟨us, []⟩ = pure ((["self"] : List Str).zip us) :=
  match us, hl with | [_], _ => rfl
theorem bn_q31 (kV doc pm : Value) (an : Option Addr) (cdv ct : Value) (us : List Value) (hl : us.length = (["self"] : List Str).length) : bindArgs (PySem.W.fnOf "step_length" "Row.step_length" (defArgs st_Row_step_length) (defBody st_Row_step_length) (defScope st_Row_step_length) .none kV doc pm an cdv ct) ⟨us, []⟩ = pure ((["self"] : List Str).zip us) :=
  match us, hl with | [_], _ => rfl
theorem bn_q32 (kV doc pm : Value) (an : Option Addr) (cdv ct : Value) (us : List Value) (hl : us.length = (["self"] : List Str).length) : bindArgs (PySem.W.fnOf "phase_time" "Row.phase_time" (defArgs st_Row_phase_time) (defBody st_Row_phase_time) (defScope st_Row_phase_time) .none kV doc pm an cdv ct) ⟨us, []⟩ = pure ((["self"] : List Str).zip us) :=
  match us, hl with | [_], _ => rfl
theorem bn_q33 (kV doc pm : Value) (an : Option Addr) (cdv ct : Value) (us : List Value) (hl : us.length = (["self"] : List Str).length) : bindArgs (PySem.W.fnOf "__len__" "Row.__len__" (defArgs st_Row_len) (defBody st_Row_len) (defScope st_Row_len) .none kV doc pm an cdv ct) ⟨us, []⟩ = pure ((["self"] : List Str).zip us) :=
  match us, hl with | [_], _ => rfl
theorem bn_q34 (kV doc pm : Value) (an : Option Addr) (cdv ct : Value) (us : List Value) (hl : us.length = (["self", "at"] : List Str).length) : bindArgs (PySem.W.fnOf "__getitem__" "Row.__getitem__" (defArgs st_Row_getitem) (defBody st_Row_getitem) (defScope st_Row_getitem) .none kV doc pm an cdv ct) ⟨us, []⟩ = pure ((["self", "at"] : List Str).zip us) :=
  match us, hl with | [_, _], _ => rfl
theorem bn_q35 (kV doc pm : Value) (an : Option Addr) (cdv ct : Value) (us : List Value) (hl : us.length = (["self", "x"] : List Str).length) : bindArgs (PySem.W.fnOf "__contains__" "Row.__contains__" (defArgs st_Row_contains) (defBody st_Row_contains) (defScope st_Row_contains) .none kV doc pm an cdv ct) ⟨us, []⟩ = pure ((["self", "x"] : List Str).zip us) :=
  match us, hl with | [_, _], _ => rfl
theorem bn_q36 (kV doc pm : Value) (an : Option Addr) (cdv ct : Value) (us : List Value) (hl : us.length = (["self", "other"] : List Str).length) : bindArgs (PySem.W.fnOf "__add__" "Row.__add__" (defArgs st_Row_add) (defBody st_Row_add) (defScope st_Row_add) .none kV doc pm an cdv ct) ⟨us, []⟩ = pure ((["self", "other"] : List Str).zip us) :=
  match us, hl with | [_, _], _ => rfl
theorem bn_q37 (kV doc pm : Value) (an : Option Addr) (cdv ct : Value) (us : List Value) (hl : us.length = (["self", "other"] : List Str).length) : bindArgs (PySem.W.fnOf "__eq__" "Row.__eq__" (defArgs st_Row_eq) (defBody st_Row_eq) (defScope st_Row_eq) .none kV doc pm an cdv ct) ⟨us, []⟩ = pure ((["self", "other"] : List Str).zip us) :=
  match us, hl with | [_, _], _ => rfl
theorem bn_NInvalidIndex (kV doc pm : Value) (an : Option Addr) (cdv ct : Value) (us : List Value) (hl : us.length = (["self", "index"] : List Str).length) : bindArgs (PySem.W.fnOf "__init__" "InvalidIndex.__init__" (defArgs st_InvalidIndex_init) (defBody st_InvalidIndex_init) (defScope st_InvalidIndex_init) .none kV doc pm an cdv ct) ⟨us, []⟩ = pure ((["self", "index"] : List Str).zip us) :=
  match us, hl with | [_, _], _ => rfl
theorem bn_NInvalidBound (kV doc pm : Value) (an : Option Addr) (cdv ct : Value) (us : List Value) (hl : us.length = (["self", "part"] : List Str).length) : bindArgs (PySem.W.fnOf "__init__" "InvalidBound.__init__" (defArgs st_InvalidBound_init) (defBody st_InvalidBound_init) (defScope st_InvalidBound_init) .none kV doc pm an cdv ct) ⟨us, []⟩ = pure ((["self", "part"] : List Str).zip us) :=
  match us, hl with | [_, _], _ => rfl
theorem bn_NLimitExceeded (kV doc pm : Value) (an : Option Addr) (cdv ct : Value) (us : List Value) (hl : us.length = (["self", "limit"] : List Str).length) : bindArgs (PySem.W.fnOf "__init__" "LimitExceeded.__init__" (defArgs st_LimitExceeded_init) (defBody st_LimitExceeded_init) (defScope st_LimitExceeded_init) .none kV doc pm an cdv ct) ⟨us, []⟩ = pure ((["self", "limit"] : List Str).zip us) :=
  match us, hl with | [_, _], _ => rfl
theorem mk_dfn {K : PySem.W.Frag} {h : Heap} {mg : Str → Option Value} {x : Str} {st : Stmt} {f : Addr} {ps : List Str} {oc : Value} {od an : Option Addr} {sl : Array (Option Value)} {kV dc pm cd ct : Value} (X : K.In h) (G : h.Ns mainGlobals mg) (a : PySem.W.nsIn K mainGlobals x = some (some (.ref f)))
    (l : K.lookup f = some ⟨oc, od, .func (PySem.W.fnOf x x (defArgs st) (defBody st) (defScope st) .none kV dc pm an cd ct), sl⟩) (c : PySem.W.codeIn K cd x = true) (k : PySem.W.keepIn K (.ref f) = true)
    (hb : ∀ (kV doc pm : Value) (an : Option Addr) (cdv ct : Value) (us : List Value), us.length = ps.length → bindArgs (PySem.W.fnOf x x (defArgs st) (defBody st) (defScope st) .none kV doc pm an cdv ct) ⟨us, []⟩ = pure (ps.zip us)) : Dfn K mg x st f ps :=
  ⟨⟨_, fun_mk l c k, (fun_mk l c k).binds hb⟩, PySem.W.mg_of X G a⟩
theorem mk_mth {K : PySem.W.Frag} {C : Addr} {x q : Str} {st : Stmt} {f : Addr} {ps : List Str} {oc : Value} {od an : Option Addr} {sl : Array (Option Value)} {kV dc pm cd ct : Value} (a : PySem.W.findIn K (.ref C) x = some (some (.ref f))) (i : PySem.W.isFn K (.ref f) = true) (fk : PySem.W.fnIn K f = true)
    (l : K.lookup f = some ⟨oc, od, .func (PySem.W.fnOf x q (defArgs st) (defBody st) (defScope st) .none kV dc pm an cd ct), sl⟩) (c : PySem.W.codeIn K cd q = true) (k : PySem.W.keepIn K (.ref f) = true)
    (hb : ∀ (kV doc pm : Value) (an : Option Addr) (cdv ct : Value) (us : List Value), us.length = ps.length → bindArgs (PySem.W.fnOf x q (defArgs st) (defBody st) (defScope st) .none kV doc pm an cdv ct) ⟨us, []⟩ = pure (ps.zip us)) : Mth K C x q st f ps :=
  ⟨⟨_, fun_mk l c k, (fun_mk l c k).binds hb⟩, a, i, fk⟩
set_option maxHeartbeats 16000000 in
theorem all_mk {P : Program} {w : World} {K : PySem.W.Frag} {h : Heap} {mg : Str → Option Value} {lv : List (Str × PySem.W.WData)} {fa aLaw fq0 fq1 fq2 fq3 fq4 fq5 fq6 fq7 fq8 fq9 fq10 fq11 fq12 fq13 fq14 fq15 fq16 fq17 fq18 fq19 fq20 fq21 fq22 fq23 fq24 fq25 fq26 fq27 kcq27 ktq27 fq28 fq29 kcq29 ktq29 kcY ktY CRow aIRow aDRow fq30 fq31 fq32 fq33 fq34 fq35 fq36 fq37 EBreakerError EInvalidRow EInvalidIndex EInvalidBound ELimitExceeded aIInvalidIndex aIInvalidBound aILimitExceeded : Addr} {nmInvalidIndex qnInvalidIndex : Str} {nnInvalidIndex : Addr} {bsInvalidIndex sbInvalidIndex : List Value} {snInvalidIndex : List Str} {abInvalidIndex : Bool} {coInvalidIndex : Option Bool} {ddInvalidIndex : Option Addr} {u0InvalidIndex u1InvalidIndex u2InvalidIndex u3InvalidIndex u5InvalidIndex : Option Value} {nmInvalidBound qnInvalidBound : Str} {nnInvalidBound : Addr} {bsInvalidBound sbInvalidBound : List Value} {snInvalidBound : List Str} {abInvalidBound : Bool} {coInvalidBound : Option Bool} {ddInvalidBound : Option Addr} {u0InvalidBound u1InvalidBound u2InvalidBound u3InvalidBound u5InvalidBound : Option Value} {nmLimitExceeded qnLimitExceeded : Str} {nnLimitExceeded : Addr} {bsLimitExceeded sbLimitExceeded : List Value} {snLimitExceeded : List Str} {abLimitExceeded : Bool} {coLimitExceeded : Option Bool} {ddLimitExceeded : Option Addr} {u0LimitExceeded u1LimitExceeded u2LimitExceeded u3LimitExceeded u5LimitExceeded : Option Value} {tkRow tNMOST_BREAKERS tNMOST_ORDERED tNMOST_PERIODS : Tok} {odq0 anq0 odq1 anq1 odq2 anq2 odq3 anq3 odq4 anq4 odq5 anq5 odq6 anq6 odq7 anq7 odq8 anq8 odq9 anq9 odq10 anq10 odq11 anq11 odq12 anq12 odq13 anq13 odq14 anq14 odq15 anq15 odq16 anq16 odq17 anq17 odq18 anq18 odq19 anq19 odq20 anq20 odq21 anq21 odq22 anq22 odq23 anq23 odq24 anq24 odq25 anq25 odq26 anq26 odq27 anq27 odq28 anq28 odq29 anq29 odq30 anq30 odq31 anq31 odq32 anq32 odq33 anq33 odq34 anq34 odq35 anq35 odq36 anq36 odq37 anq37 odY anY odNRow anNRow odNInvalidIndex anNInvalidIndex odNInvalidBound anNInvalidBound odNLimitExceeded anNLimitExceeded : Option Addr} {slq0 slq1 slq2 slq3 slq4 slq5 slq6 slq7 slq8 slq9 slq10 slq11 slq12 slq13 slq14 slq15 slq16 slq17 slq18 slq19 slq20 slq21 slq22 slq23 slq24 slq25 slq26 slq27 slq28 slq29 slq30 slq31 slq32 slq33 slq34 slq35 slq36 slq37 slY slNRow slNInvalidIndex slNInvalidBound slNLimitExceeded : Array (Option Value)} {ocq0 kVq0 dcq0 pmq0 cdq0 ctq0 ocq1 kVq1 dcq1 pmq1 cdq1 ctq1 ocq2 kVq2 dcq2 pmq2 cdq2 ctq2 ocq3 kVq3 dcq3 pmq3 cdq3 ctq3 ocq4 kVq4 dcq4 pmq4 cdq4 ctq4 ocq5 kVq5 dcq5 pmq5 cdq5 ctq5 ocq6 kVq6 dcq6 pmq6 cdq6 ctq6 ocq7 kVq7 dcq7 pmq7 cdq7 ctq7 ocq8 kVq8 dcq8 pmq8 cdq8 ctq8 ocq9 kVq9 dcq9 pmq9 cdq9 ctq9 ocq10 kVq10 dcq10 pmq10 cdq10 ctq10 ocq11 kVq11 dcq11 pmq11 cdq11 ctq11 ocq12 kVq12 dcq12 pmq12 cdq12 ctq12 ocq13 kVq13 dcq13 pmq13 cdq13 ctq13 ocq14 kVq14 dcq14 pmq14 cdq14 ctq14 ocq15 kVq15 dcq15 pmq15 cdq15 ctq15 ocq16 kVq16 dcq16 pmq16 cdq16 ctq16 ocq17 kVq17 dcq17 pmq17 cdq17 ctq17 ocq18 kVq18 dcq18 pmq18 cdq18 ctq18 ocq19 kVq19 dcq19 pmq19 cdq19 ctq19 ocq20 kVq20 dcq20 pmq20 cdq20 ctq20 ocq21 kVq21 dcq21 pmq21 cdq21 ctq21 ocq22 kVq22 dcq22 pmq22 cdq22 ctq22 ocq23 kVq23 dcq23 pmq23 cdq23 ctq23 ocq24 kVq24 dcq24 pmq24 cdq24 ctq24 ocq25 kVq25 dcq25 pmq25 cdq25 ctq25 ocq26 kVq26 dcq26 pmq26 cdq26 ctq26 ocq27 kVq27 dcq27 pmq27 ctq27 ocq28 kVq28 dcq28 pmq28 cdq28 ctq28 ocq29 kVq29 dcq29 pmq29 ctq29 ocq30 kVq30 dcq30 pmq30 cdq30 ctq30 ocq31 kVq31 dcq31 pmq31 cdq31 ctq31 ocq32 kVq32 dcq32 pmq32 cdq32 ctq32 ocq33 kVq33 dcq33 pmq33 cdq33 ctq33 ocq34 kVq34 dcq34 pmq34 cdq34 ctq34 ocq35 kVq35 dcq35 pmq35 cdq35 ctq35 ocq36 kVq36 dcq36 pmq36 cdq36 ctq36 ocq37 kVq37 dcq37 pmq37 cdq37 ctq37 ocY kVY dcY pmY ctY ocNRow dcNRow pmNRow cdNRow ctNRow ocNInvalidIndex kVNInvalidIndex dcNInvalidIndex pmNInvalidIndex cdNInvalidIndex ctNInvalidIndex ocNInvalidBound kVNInvalidBound dcNInvalidBound pmNInvalidBound cdNInvalidBound ctNInvalidBound ocNLimitExceeded kVNLimitExceeded dcNLimitExceeded pmNLimitExceeded cdNLimitExceeded ctNLimitExceeded : Value}
    (X : K.In h) (G : h.Ns mainGlobals mg) (LL : PySem.W.LooseAre lv mg h) (hLMOST_COUNT : (("MOST_COUNT" : Str), PySem.W.WData.int 1000000000000) ∈ lv) (hLMOST_TIME : (("MOST_TIME" : Str), PySem.W.WData.int 1000000000000000000000000000000) ∈ lv) (hfa : mg "law" = some (.ref fa))
    (aq0 : PySem.W.nsIn K mainGlobals "is_integer" = some (some (.ref fq0)))
    (lq0 : K.lookup fq0 = some ⟨ocq0, odq0, .func (PySem.W.fnOf "is_integer" "is_integer" (defArgs st_is_integer) (defBody st_is_integer) (defScope st_is_integer) .none kVq0 dcq0 pmq0 anq0 cdq0 ctq0), slq0⟩)
    (cq0 : PySem.W.codeIn K cdq0 "is_integer" = true)
    (kq0 : PySem.W.keepIn K (.ref fq0) = true)
    (aq1 : PySem.W.nsIn K mainGlobals "is_at_least" = some (some (.ref fq1)))
    (lq1 : K.lookup fq1 = some ⟨ocq1, odq1, .func (PySem.W.fnOf "is_at_least" "is_at_least" (defArgs st_is_at_least) (defBody st_is_at_least) (defScope st_is_at_least) .none kVq1 dcq1 pmq1 anq1 cdq1 ctq1), slq1⟩)
    (cq1 : PySem.W.codeIn K cdq1 "is_at_least" = true)
    (kq1 : PySem.W.keepIn K (.ref fq1) = true)
    (aq2 : PySem.W.nsIn K mainGlobals "is_within" = some (some (.ref fq2)))
    (lq2 : K.lookup fq2 = some ⟨ocq2, odq2, .func (PySem.W.fnOf "is_within" "is_within" (defArgs st_is_within) (defBody st_is_within) (defScope st_is_within) .none kVq2 dcq2 pmq2 anq2 cdq2 ctq2), slq2⟩)
    (cq2 : PySem.W.codeIn K cdq2 "is_within" = true)
    (kq2 : PySem.W.keepIn K (.ref fq2) = true)
    (aq3 : PySem.W.nsIn K mainGlobals "steps_to" = some (some (.ref fq3)))
    (lq3 : K.lookup fq3 = some ⟨ocq3, odq3, .func (PySem.W.fnOf "steps_to" "steps_to" (defArgs st_steps_to) (defBody st_steps_to) (defScope st_steps_to) .none kVq3 dcq3 pmq3 anq3 cdq3 ctq3), slq3⟩)
    (cq3 : PySem.W.codeIn K cdq3 "steps_to" = true)
    (kq3 : PySem.W.keepIn K (.ref fq3) = true)
    (aq4 : PySem.W.nsIn K mainGlobals "rounded_up" = some (some (.ref fq4)))
    (lq4 : K.lookup fq4 = some ⟨ocq4, odq4, .func (PySem.W.fnOf "rounded_up" "rounded_up" (defArgs st_rounded_up) (defBody st_rounded_up) (defScope st_rounded_up) .none kVq4 dcq4 pmq4 anq4 cdq4 ctq4), slq4⟩)
    (cq4 : PySem.W.codeIn K cdq4 "rounded_up" = true)
    (kq4 : PySem.W.keepIn K (.ref fq4) = true)
    (aq5 : PySem.W.nsIn K mainGlobals "is_breaker" = some (some (.ref fq5)))
    (lq5 : K.lookup fq5 = some ⟨ocq5, odq5, .func (PySem.W.fnOf "is_breaker" "is_breaker" (defArgs st_is_breaker) (defBody st_is_breaker) (defScope st_is_breaker) .none kVq5 dcq5 pmq5 anq5 cdq5 ctq5), slq5⟩)
    (cq5 : PySem.W.codeIn K cdq5 "is_breaker" = true)
    (kq5 : PySem.W.keepIn K (.ref fq5) = true)
    (aq6 : PySem.W.nsIn K mainGlobals "check_breakers" = some (some (.ref fq6)))
    (lq6 : K.lookup fq6 = some ⟨ocq6, odq6, .func (PySem.W.fnOf "check_breakers" "check_breakers" (defArgs st_check_breakers) (defBody st_check_breakers) (defScope st_check_breakers) .none kVq6 dcq6 pmq6 anq6 cdq6 ctq6), slq6⟩)
    (cq6 : PySem.W.codeIn K cdq6 "check_breakers" = true)
    (kq6 : PySem.W.keepIn K (.ref fq6) = true)
    (aq7 : PySem.W.nsIn K mainGlobals "check_step" = some (some (.ref fq7)))
    (lq7 : K.lookup fq7 = some ⟨ocq7, odq7, .func (PySem.W.fnOf "check_step" "check_step" (defArgs st_check_step) (defBody st_check_step) (defScope st_check_step) .none kVq7 dcq7 pmq7 anq7 cdq7 ctq7), slq7⟩)
    (cq7 : PySem.W.codeIn K cdq7 "check_step" = true)
    (kq7 : PySem.W.keepIn K (.ref fq7) = true)
    (aq8 : PySem.W.nsIn K mainGlobals "periods" = some (some (.ref fq8)))
    (lq8 : K.lookup fq8 = some ⟨ocq8, odq8, .func (PySem.W.fnOf "periods" "periods" (defArgs st_periods) (defBody st_periods) (defScope st_periods) .none kVq8 dcq8 pmq8 anq8 cdq8 ctq8), slq8⟩)
    (cq8 : PySem.W.codeIn K cdq8 "periods" = true)
    (kq8 : PySem.W.keepIn K (.ref fq8) = true)
    (aq9 : PySem.W.nsIn K mainGlobals "row_period" = some (some (.ref fq9)))
    (lq9 : K.lookup fq9 = some ⟨ocq9, odq9, .func (PySem.W.fnOf "row_period" "row_period" (defArgs st_row_period) (defBody st_row_period) (defScope st_row_period) .none kVq9 dcq9 pmq9 anq9 cdq9 ctq9), slq9⟩)
    (cq9 : PySem.W.codeIn K cdq9 "row_period" = true)
    (kq9 : PySem.W.keepIn K (.ref fq9) = true)
    (aq10 : PySem.W.nsIn K mainGlobals "check_index" = some (some (.ref fq10)))
    (lq10 : K.lookup fq10 = some ⟨ocq10, odq10, .func (PySem.W.fnOf "check_index" "check_index" (defArgs st_check_index) (defBody st_check_index) (defScope st_check_index) .none kVq10 dcq10 pmq10 anq10 cdq10 ctq10), slq10⟩)
    (cq10 : PySem.W.codeIn K cdq10 "check_index" = true)
    (kq10 : PySem.W.keepIn K (.ref fq10) = true)
    (aq11 : PySem.W.nsIn K mainGlobals "row_of" = some (some (.ref fq11)))
    (lq11 : K.lookup fq11 = some ⟨ocq11, odq11, .func (PySem.W.fnOf "row_of" "row_of" (defArgs st_row_of) (defBody st_row_of) (defScope st_row_of) .none kVq11 dcq11 pmq11 anq11 cdq11 ctq11), slq11⟩)
    (cq11 : PySem.W.codeIn K cdq11 "row_of" = true)
    (kq11 : PySem.W.keepIn K (.ref fq11) = true)
    (aq12 : PySem.W.nsIn K mainGlobals "is_order" = some (some (.ref fq12)))
    (lq12 : K.lookup fq12 = some ⟨ocq12, odq12, .func (PySem.W.fnOf "is_order" "is_order" (defArgs st_is_order) (defBody st_is_order) (defScope st_is_order) .none kVq12 dcq12 pmq12 anq12 cdq12 ctq12), slq12⟩)
    (cq12 : PySem.W.codeIn K cdq12 "is_order" = true)
    (kq12 : PySem.W.keepIn K (.ref fq12) = true)
    (aq13 : PySem.W.nsIn K mainGlobals "reordered" = some (some (.ref fq13)))
    (lq13 : K.lookup fq13 = some ⟨ocq13, odq13, .func (PySem.W.fnOf "reordered" "reordered" (defArgs st_reordered) (defBody st_reordered) (defScope st_reordered) .none kVq13 dcq13 pmq13 anq13 cdq13 ctq13), slq13⟩)
    (cq13 : PySem.W.codeIn K cdq13 "reordered" = true)
    (kq13 : PySem.W.keepIn K (.ref fq13) = true)
    (aq14 : PySem.W.nsIn K mainGlobals "all_orders" = some (some (.ref fq14)))
    (lq14 : K.lookup fq14 = some ⟨ocq14, odq14, .func (PySem.W.fnOf "all_orders" "all_orders" (defArgs st_all_orders) (defBody st_all_orders) (defScope st_all_orders) .none kVq14 dcq14 pmq14 anq14 cdq14 ctq14), slq14⟩)
    (cq14 : PySem.W.codeIn K cdq14 "all_orders" = true)
    (kq14 : PySem.W.keepIn K (.ref fq14) = true)
    (aq15 : PySem.W.nsIn K mainGlobals "best_order" = some (some (.ref fq15)))
    (lq15 : K.lookup fq15 = some ⟨ocq15, odq15, .func (PySem.W.fnOf "best_order" "best_order" (defArgs st_best_order) (defBody st_best_order) (defScope st_best_order) .none kVq15 dcq15 pmq15 anq15 cdq15 ctq15), slq15⟩)
    (cq15 : PySem.W.codeIn K cdq15 "best_order" = true)
    (kq15 : PySem.W.keepIn K (.ref fq15) = true)
    (aq16 : PySem.W.nsIn K mainGlobals "worst_order" = some (some (.ref fq16)))
    (lq16 : K.lookup fq16 = some ⟨ocq16, odq16, .func (PySem.W.fnOf "worst_order" "worst_order" (defArgs st_worst_order) (defBody st_worst_order) (defScope st_worst_order) .none kVq16 dcq16 pmq16 anq16 cdq16 ctq16), slq16⟩)
    (cq16 : PySem.W.codeIn K cdq16 "worst_order" = true)
    (kq16 : PySem.W.keepIn K (.ref fq16) = true)
    (aq17 : PySem.W.nsIn K mainGlobals "without" = some (some (.ref fq17)))
    (lq17 : K.lookup fq17 = some ⟨ocq17, odq17, .func (PySem.W.fnOf "without" "without" (defArgs st_without) (defBody st_without) (defScope st_without) .none kVq17 dcq17 pmq17 anq17 cdq17 ctq17), slq17⟩)
    (cq17 : PySem.W.codeIn K cdq17 "without" = true)
    (kq17 : PySem.W.keepIn K (.ref fq17) = true)
    (aq18 : PySem.W.nsIn K mainGlobals "with_wait" = some (some (.ref fq18)))
    (lq18 : K.lookup fq18 = some ⟨ocq18, odq18, .func (PySem.W.fnOf "with_wait" "with_wait" (defArgs st_with_wait) (defBody st_with_wait) (defScope st_with_wait) .none kVq18 dcq18 pmq18 anq18 cdq18 ctq18), slq18⟩)
    (cq18 : PySem.W.codeIn K cdq18 "with_wait" = true)
    (kq18 : PySem.W.keepIn K (.ref fq18) = true)
    (aq19 : PySem.W.nsIn K mainGlobals "period_behind" = some (some (.ref fq19)))
    (lq19 : K.lookup fq19 = some ⟨ocq19, odq19, .func (PySem.W.fnOf "period_behind" "period_behind" (defArgs st_period_behind) (defBody st_period_behind) (defScope st_period_behind) .none kVq19 dcq19 pmq19 anq19 cdq19 ctq19), slq19⟩)
    (cq19 : PySem.W.codeIn K cdq19 "period_behind" = true)
    (kq19 : PySem.W.keepIn K (.ref fq19) = true)
    (aq20 : PySem.W.nsIn K mainGlobals "harmful_lowerings" = some (some (.ref fq20)))
    (lq20 : K.lookup fq20 = some ⟨ocq20, odq20, .func (PySem.W.fnOf "harmful_lowerings" "harmful_lowerings" (defArgs st_harmful_lowerings) (defBody st_harmful_lowerings) (defScope st_harmful_lowerings) .none kVq20 dcq20 pmq20 anq20 cdq20 ctq20), slq20⟩)
    (cq20 : PySem.W.codeIn K cdq20 "harmful_lowerings" = true)
    (kq20 : PySem.W.keepIn K (.ref fq20) = true)
    (aq21 : PySem.W.nsIn K mainGlobals "best_raise" = some (some (.ref fq21)))
    (lq21 : K.lookup fq21 = some ⟨ocq21, odq21, .func (PySem.W.fnOf "best_raise" "best_raise" (defArgs st_best_raise) (defBody st_best_raise) (defScope st_best_raise) .none kVq21 dcq21 pmq21 anq21 cdq21 ctq21), slq21⟩)
    (cq21 : PySem.W.codeIn K cdq21 "best_raise" = true)
    (kq21 : PySem.W.keepIn K (.ref fq21) = true)
    (aq22 : PySem.W.nsIn K mainGlobals "_law_source_of" = some (some (.ref fq22)))
    (lq22 : K.lookup fq22 = some ⟨ocq22, odq22, .func (PySem.W.fnOf "_law_source_of" "_law_source_of" (defArgs st__law_source_of) (defBody st__law_source_of) (defScope st__law_source_of) .none kVq22 dcq22 pmq22 anq22 cdq22 ctq22), slq22⟩)
    (cq22 : PySem.W.codeIn K cdq22 "_law_source_of" = true)
    (kq22 : PySem.W.keepIn K (.ref fq22) = true)
    (aq23 : PySem.W.nsIn K mainGlobals "_law_next" = some (some (.ref fq23)))
    (lq23 : K.lookup fq23 = some ⟨ocq23, odq23, .func (PySem.W.fnOf "_law_next" "_law_next" (defArgs st__law_next) (defBody st__law_next) (defScope st__law_next) .none kVq23 dcq23 pmq23 anq23 cdq23 ctq23), slq23⟩)
    (cq23 : PySem.W.codeIn K cdq23 "_law_next" = true)
    (kq23 : PySem.W.keepIn K (.ref fq23) = true)
    (aq24 : PySem.W.nsIn K mainGlobals "_law_one" = some (some (.ref fq24)))
    (lq24 : K.lookup fq24 = some ⟨ocq24, odq24, .func (PySem.W.fnOf "_law_one" "_law_one" (defArgs st__law_one) (defBody st__law_one) (defScope st__law_one) .none kVq24 dcq24 pmq24 anq24 cdq24 ctq24), slq24⟩)
    (cq24 : PySem.W.codeIn K cdq24 "_law_one" = true)
    (kq24 : PySem.W.keepIn K (.ref fq24) = true)
    (aq25 : PySem.W.nsIn K mainGlobals "_law_cell_at" = some (some (.ref fq25)))
    (lq25 : K.lookup fq25 = some ⟨ocq25, odq25, .func (PySem.W.fnOf "_law_cell_at" "_law_cell_at" (defArgs st__law_cell_at) (defBody st__law_cell_at) (defScope st__law_cell_at) .none kVq25 dcq25 pmq25 anq25 cdq25 ctq25), slq25⟩)
    (cq25 : PySem.W.codeIn K cdq25 "_law_cell_at" = true)
    (kq25 : PySem.W.keepIn K (.ref fq25) = true)
    (aq26 : PySem.W.nsIn K mainGlobals "_law_raised" = some (some (.ref fq26)))
    (lq26 : K.lookup fq26 = some ⟨ocq26, odq26, .func (PySem.W.fnOf "_law_raised" "_law_raised" (defArgs st__law_raised) (defBody st__law_raised) (defScope st__law_raised) .none kVq26 dcq26 pmq26 anq26 cdq26 ctq26), slq26⟩)
    (cq26 : PySem.W.codeIn K cdq26 "_law_raised" = true)
    (kq26 : PySem.W.keepIn K (.ref fq26) = true)
    (aq27 : PySem.W.nsIn K mainGlobals "_law_limits_right" = some (some (.ref fq27)))
    (lq27 : K.lookup fq27 = some ⟨ocq27, odq27, .func (PySem.W.fnOf "_law_limits_right" "_law_limits_right" (defArgs st__law_limits_right) (defBody st__law_limits_right) (defScope st__law_limits_right) .none kVq27 dcq27 pmq27 anq27 (.ref kcq27) ctq27), slq27⟩)
    (cq27 : PySem.W.codeIn K (.ref kcq27) "_law_limits_right" = true)
    (kq27 : PySem.W.keepIn K (.ref fq27) = true)
    (aq28 : PySem.W.nsIn K mainGlobals "_law_due_ranges" = some (some (.ref fq28)))
    (lq28 : K.lookup fq28 = some ⟨ocq28, odq28, .func (PySem.W.fnOf "_law_due_ranges" "_law_due_ranges" (defArgs st__law_due_ranges) (defBody st__law_due_ranges) (defScope st__law_due_ranges) .none kVq28 dcq28 pmq28 anq28 cdq28 ctq28), slq28⟩)
    (cq28 : PySem.W.codeIn K cdq28 "_law_due_ranges" = true)
    (kq28 : PySem.W.keepIn K (.ref fq28) = true)
    (aq29 : PySem.W.nsIn K mainGlobals "_law_later_right" = some (some (.ref fq29)))
    (lq29 : K.lookup fq29 = some ⟨ocq29, odq29, .func (PySem.W.fnOf "_law_later_right" "_law_later_right" (defArgs st__law_later_right) (defBody st__law_later_right) (defScope st__law_later_right) .none kVq29 dcq29 pmq29 anq29 (.ref kcq29) ctq29), slq29⟩)
    (cq29 : PySem.W.codeIn K (.ref kcq29) "_law_later_right" = true)
    (kq29 : PySem.W.keepIn K (.ref fq29) = true)
    (gcRow : PySem.W.nsIn K mainGlobals "Row" = some (some (.ref CRow)))
    (gRow0 : PySem.W.plainGet K CRow Str.empty = true)
    (gRow1 : PySem.W.hasDictIn K CRow = true)
    (gRow2 : PySem.W.plainOver K CRow = true)
    (gRow3 : PySem.W.findIn K (.ref CRow) "__setattr__" = some (some (.builtin "object.__setattr__")))
    (gRow4 : PySem.W.makesIn K CRow = true)
    (gRow5 : PySem.W.keepIn K (.ref CRow) = true)
    (gRow6 : PySem.W.isClsIn K CRow = true)
    (gRow7 : PySem.W.typeIn K (.ref CRow) = some (.type "type"))
    (gRow8 : PySem.W.findIn K (.ref CRow) "__class__" = some (some (.builtin "object.__class__")))
    (gRow9 : PySem.W.mroIn K CRow (.type "object") = some true)
    (gRow10 : PySem.W.selfFirst K CRow = true)
    (gRow11 : PySem.W.findIn K (.ref CRow) "__ne__" = some (some (.builtin "object.__ne__")))
    (gO1 : PySem.W.specialIn K (.builtin "object.__class__") "__get__" = some (some (.builtin "getset_descriptor.__get__")))
    (gO2 : PySem.W.takesIn K (.builtin "object.__class__") = some true)
    (nfRow_breakers : PySem.W.findIn K (.ref CRow) "breakers" = some none)
    (nfRow_step : PySem.W.findIn K (.ref CRow) "step" = some none)
    (nfRow_phase : PySem.W.findIn K (.ref CRow) "phase" = some none)
    (aNRow : PySem.W.findIn K (.ref CRow) "__init__" = some (some (.ref aIRow)))
    (iNRow : PySem.W.isFn K (.ref aIRow) = true)
    (lNRow : K.lookup aIRow = some ⟨ocNRow, odNRow, .func (PySem.W.fnOf "__init__" "Row.__init__" (defArgs st_Row_init) (defBody st_Row_init) (defScope st_Row_init) .none (.ref aDRow) dcNRow pmNRow anNRow cdNRow ctNRow), slNRow⟩)
    (cNRow : PySem.W.codeIn K cdNRow "Row.__init__" = true)
    (kNRow : PySem.W.keepIn K (.ref aIRow) = true)
    (dRow : PySem.W.nsIn K aDRow "phase" = some (some (.int 0 tkRow)))
    (aq30 : PySem.W.findIn K (.ref CRow) "breaker_list" = some (some (.ref fq30)))
    (iq30 : PySem.W.isFn K (.ref fq30) = true)
    (nq30 : PySem.W.fnIn K fq30 = true)
    (lq30 : K.lookup fq30 = some ⟨ocq30, odq30, .func (PySem.W.fnOf "breaker_list" "Row.breaker_list" (defArgs st_Row_breaker_list) (defBody st_Row_breaker_list) (defScope st_Row_breaker_list) .none kVq30 dcq30 pmq30 anq30 cdq30 ctq30), slq30⟩)
    (cq30 : PySem.W.codeIn K cdq30 "Row.breaker_list" = true)
    (kq30 : PySem.W.keepIn K (.ref fq30) = true)
    (aq31 : PySem.W.findIn K (.ref CRow) "step_length" = some (some (.ref fq31)))
    (iq31 : PySem.W.isFn K (.ref fq31) = true)
    (nq31 : PySem.W.fnIn K fq31 = true)
    (lq31 : K.lookup fq31 = some ⟨ocq31, odq31, .func (PySem.W.fnOf "step_length" "Row.step_length" (defArgs st_Row_step_length) (defBody st_Row_step_length) (defScope st_Row_step_length) .none kVq31 dcq31 pmq31 anq31 cdq31 ctq31), slq31⟩)
    (cq31 : PySem.W.codeIn K cdq31 "Row.step_length" = true)
    (kq31 : PySem.W.keepIn K (.ref fq31) = true)
    (aq32 : PySem.W.findIn K (.ref CRow) "phase_time" = some (some (.ref fq32)))
    (iq32 : PySem.W.isFn K (.ref fq32) = true)
    (nq32 : PySem.W.fnIn K fq32 = true)
    (lq32 : K.lookup fq32 = some ⟨ocq32, odq32, .func (PySem.W.fnOf "phase_time" "Row.phase_time" (defArgs st_Row_phase_time) (defBody st_Row_phase_time) (defScope st_Row_phase_time) .none kVq32 dcq32 pmq32 anq32 cdq32 ctq32), slq32⟩)
    (cq32 : PySem.W.codeIn K cdq32 "Row.phase_time" = true)
    (kq32 : PySem.W.keepIn K (.ref fq32) = true)
    (aq33 : PySem.W.findIn K (.ref CRow) "__len__" = some (some (.ref fq33)))
    (iq33 : PySem.W.isFn K (.ref fq33) = true)
    (nq33 : PySem.W.fnIn K fq33 = true)
    (lq33 : K.lookup fq33 = some ⟨ocq33, odq33, .func (PySem.W.fnOf "__len__" "Row.__len__" (defArgs st_Row_len) (defBody st_Row_len) (defScope st_Row_len) .none kVq33 dcq33 pmq33 anq33 cdq33 ctq33), slq33⟩)
    (cq33 : PySem.W.codeIn K cdq33 "Row.__len__" = true)
    (kq33 : PySem.W.keepIn K (.ref fq33) = true)
    (aq34 : PySem.W.findIn K (.ref CRow) "__getitem__" = some (some (.ref fq34)))
    (iq34 : PySem.W.isFn K (.ref fq34) = true)
    (nq34 : PySem.W.fnIn K fq34 = true)
    (lq34 : K.lookup fq34 = some ⟨ocq34, odq34, .func (PySem.W.fnOf "__getitem__" "Row.__getitem__" (defArgs st_Row_getitem) (defBody st_Row_getitem) (defScope st_Row_getitem) .none kVq34 dcq34 pmq34 anq34 cdq34 ctq34), slq34⟩)
    (cq34 : PySem.W.codeIn K cdq34 "Row.__getitem__" = true)
    (kq34 : PySem.W.keepIn K (.ref fq34) = true)
    (aq35 : PySem.W.findIn K (.ref CRow) "__contains__" = some (some (.ref fq35)))
    (iq35 : PySem.W.isFn K (.ref fq35) = true)
    (nq35 : PySem.W.fnIn K fq35 = true)
    (lq35 : K.lookup fq35 = some ⟨ocq35, odq35, .func (PySem.W.fnOf "__contains__" "Row.__contains__" (defArgs st_Row_contains) (defBody st_Row_contains) (defScope st_Row_contains) .none kVq35 dcq35 pmq35 anq35 cdq35 ctq35), slq35⟩)
    (cq35 : PySem.W.codeIn K cdq35 "Row.__contains__" = true)
    (kq35 : PySem.W.keepIn K (.ref fq35) = true)
    (aq36 : PySem.W.findIn K (.ref CRow) "__add__" = some (some (.ref fq36)))
    (iq36 : PySem.W.isFn K (.ref fq36) = true)
    (nq36 : PySem.W.fnIn K fq36 = true)
    (lq36 : K.lookup fq36 = some ⟨ocq36, odq36, .func (PySem.W.fnOf "__add__" "Row.__add__" (defArgs st_Row_add) (defBody st_Row_add) (defScope st_Row_add) .none kVq36 dcq36 pmq36 anq36 cdq36 ctq36), slq36⟩)
    (cq36 : PySem.W.codeIn K cdq36 "Row.__add__" = true)
    (kq36 : PySem.W.keepIn K (.ref fq36) = true)
    (aq37 : PySem.W.findIn K (.ref CRow) "__eq__" = some (some (.ref fq37)))
    (iq37 : PySem.W.isFn K (.ref fq37) = true)
    (nq37 : PySem.W.fnIn K fq37 = true)
    (lq37 : K.lookup fq37 = some ⟨ocq37, odq37, .func (PySem.W.fnOf "__eq__" "Row.__eq__" (defArgs st_Row_eq) (defBody st_Row_eq) (defScope st_Row_eq) .none kVq37 dcq37 pmq37 anq37 cdq37 ctq37), slq37⟩)
    (cq37 : PySem.W.codeIn K cdq37 "Row.__eq__" = true)
    (kq37 : PySem.W.keepIn K (.ref fq37) = true)
    (geBreakerError : PySem.W.nsIn K mainGlobals "BreakerError" = some (some (.ref EBreakerError)))
    (xaBreakerError : PySem.W.findIn K (.ref EBreakerError) "__getattribute__" = some (some (.builtin "BaseException.__getattribute__")))
    (xbBreakerError : PySem.W.findIn K (.ref EBreakerError) "__getattr__" = some none)
    (xcBreakerError : PySem.W.subIn K (.ref EBreakerError) (.type "BaseException") = some true)
    (xdBreakerError : PySem.W.hasDictIn K EBreakerError = true)
    (xeBreakerError : PySem.W.typeIn K (.ref EBreakerError) = some (.type "type"))
    (geInvalidRow : PySem.W.nsIn K mainGlobals "InvalidRow" = some (some (.ref EInvalidRow)))
    (xaInvalidRow : PySem.W.findIn K (.ref EInvalidRow) "__getattribute__" = some (some (.builtin "BaseException.__getattribute__")))
    (xbInvalidRow : PySem.W.findIn K (.ref EInvalidRow) "__getattr__" = some none)
    (xcInvalidRow : PySem.W.subIn K (.ref EInvalidRow) (.type "BaseException") = some true)
    (xdInvalidRow : PySem.W.hasDictIn K EInvalidRow = true)
    (xeInvalidRow : PySem.W.typeIn K (.ref EInvalidRow) = some (.type "type"))
    (geInvalidIndex : PySem.W.nsIn K mainGlobals "InvalidIndex" = some (some (.ref EInvalidIndex)))
    (xaInvalidIndex : PySem.W.findIn K (.ref EInvalidIndex) "__getattribute__" = some (some (.builtin "BaseException.__getattribute__")))
    (xbInvalidIndex : PySem.W.findIn K (.ref EInvalidIndex) "__getattr__" = some none)
    (xcInvalidIndex : PySem.W.subIn K (.ref EInvalidIndex) (.type "BaseException") = some true)
    (xdInvalidIndex : PySem.W.hasDictIn K EInvalidIndex = true)
    (xeInvalidIndex : PySem.W.typeIn K (.ref EInvalidIndex) = some (.type "type"))
    (geInvalidBound : PySem.W.nsIn K mainGlobals "InvalidBound" = some (some (.ref EInvalidBound)))
    (xaInvalidBound : PySem.W.findIn K (.ref EInvalidBound) "__getattribute__" = some (some (.builtin "BaseException.__getattribute__")))
    (xbInvalidBound : PySem.W.findIn K (.ref EInvalidBound) "__getattr__" = some none)
    (xcInvalidBound : PySem.W.subIn K (.ref EInvalidBound) (.type "BaseException") = some true)
    (xdInvalidBound : PySem.W.hasDictIn K EInvalidBound = true)
    (xeInvalidBound : PySem.W.typeIn K (.ref EInvalidBound) = some (.type "type"))
    (geLimitExceeded : PySem.W.nsIn K mainGlobals "LimitExceeded" = some (some (.ref ELimitExceeded)))
    (xaLimitExceeded : PySem.W.findIn K (.ref ELimitExceeded) "__getattribute__" = some (some (.builtin "BaseException.__getattribute__")))
    (xbLimitExceeded : PySem.W.findIn K (.ref ELimitExceeded) "__getattr__" = some none)
    (xcLimitExceeded : PySem.W.subIn K (.ref ELimitExceeded) (.type "BaseException") = some true)
    (xdLimitExceeded : PySem.W.hasDictIn K ELimitExceeded = true)
    (xeLimitExceeded : PySem.W.typeIn K (.ref ELimitExceeded) = some (.type "type"))
    (xoInvalidIndex : K.lookup EInvalidIndex = some (excClassObj nmInvalidIndex qnInvalidIndex EInvalidIndex nnInvalidIndex bsInvalidIndex [.ref EBreakerError, .type "ArithmeticError", .type "Exception", .type "BaseException", .type "object"] true snInvalidIndex sbInvalidIndex abInvalidIndex coInvalidIndex ddInvalidIndex u0InvalidIndex u1InvalidIndex u2InvalidIndex u3InvalidIndex u5InvalidIndex "ArithmeticError.__new__"))
    (xsInvalidIndex : PySem.W.findIn K (.ref EInvalidIndex) "__setattr__" = some (some (.builtin "object.__setattr__")))
    (xkInvalidIndex : PySem.W.keepIn K (.ref EInvalidIndex) = true)
    (aNInvalidIndex : PySem.W.findIn K (.ref EInvalidIndex) "__init__" = some (some (.ref aIInvalidIndex)))
    (tNInvalidIndex : PySem.W.typeIn K (.ref aIInvalidIndex) = some (.type "function"))
    (lNInvalidIndex : K.lookup aIInvalidIndex = some ⟨ocNInvalidIndex, odNInvalidIndex, .func (PySem.W.fnOf "__init__" "InvalidIndex.__init__" (defArgs st_InvalidIndex_init) (defBody st_InvalidIndex_init) (defScope st_InvalidIndex_init) .none kVNInvalidIndex dcNInvalidIndex pmNInvalidIndex anNInvalidIndex cdNInvalidIndex ctNInvalidIndex), slNInvalidIndex⟩)
    (cNInvalidIndex : PySem.W.codeIn K cdNInvalidIndex "InvalidIndex.__init__" = true)
    (kNInvalidIndex : PySem.W.keepIn K (.ref aIInvalidIndex) = true)
    (neInvalidIndex_part : PySem.W.findIn K (.ref EInvalidIndex) "part" = some none)
    (neInvalidIndex_at : PySem.W.findIn K (.ref EInvalidIndex) "at" = some none)
    (neInvalidIndex_index : PySem.W.findIn K (.ref EInvalidIndex) "index" = some none)
    (neInvalidIndex_limit : PySem.W.findIn K (.ref EInvalidIndex) "limit" = some none)
    (xlInvalidIndex : PySem.W.findIn K (.ref EInvalidIndex) "__class__" = some (some (.builtin "object.__class__")))
    (xmInvalidIndex : PySem.W.mroIn K EInvalidIndex (.type "object") = some true)
    (seInvalidIndex_BreakerError : PySem.W.subIn K (.ref EInvalidIndex) (.ref EBreakerError) = some true)
    (seInvalidIndex_InvalidRow : PySem.W.subIn K (.ref EInvalidIndex) (.ref EInvalidRow) = some false)
    (seInvalidIndex_InvalidIndex : PySem.W.subIn K (.ref EInvalidIndex) (.ref EInvalidIndex) = some true)
    (seInvalidIndex_InvalidBound : PySem.W.subIn K (.ref EInvalidIndex) (.ref EInvalidBound) = some false)
    (seInvalidIndex_LimitExceeded : PySem.W.subIn K (.ref EInvalidIndex) (.ref ELimitExceeded) = some false)
    (saInvalidIndex : PySem.W.subIn K (.ref EInvalidIndex) (.type "ArithmeticError") = some true)
    (xoInvalidBound : K.lookup EInvalidBound = some (excClassObj nmInvalidBound qnInvalidBound EInvalidBound nnInvalidBound bsInvalidBound [.ref EBreakerError, .type "ArithmeticError", .type "Exception", .type "BaseException", .type "object"] true snInvalidBound sbInvalidBound abInvalidBound coInvalidBound ddInvalidBound u0InvalidBound u1InvalidBound u2InvalidBound u3InvalidBound u5InvalidBound "ArithmeticError.__new__"))
    (xsInvalidBound : PySem.W.findIn K (.ref EInvalidBound) "__setattr__" = some (some (.builtin "object.__setattr__")))
    (xkInvalidBound : PySem.W.keepIn K (.ref EInvalidBound) = true)
    (aNInvalidBound : PySem.W.findIn K (.ref EInvalidBound) "__init__" = some (some (.ref aIInvalidBound)))
    (tNInvalidBound : PySem.W.typeIn K (.ref aIInvalidBound) = some (.type "function"))
    (lNInvalidBound : K.lookup aIInvalidBound = some ⟨ocNInvalidBound, odNInvalidBound, .func (PySem.W.fnOf "__init__" "InvalidBound.__init__" (defArgs st_InvalidBound_init) (defBody st_InvalidBound_init) (defScope st_InvalidBound_init) .none kVNInvalidBound dcNInvalidBound pmNInvalidBound anNInvalidBound cdNInvalidBound ctNInvalidBound), slNInvalidBound⟩)
    (cNInvalidBound : PySem.W.codeIn K cdNInvalidBound "InvalidBound.__init__" = true)
    (kNInvalidBound : PySem.W.keepIn K (.ref aIInvalidBound) = true)
    (neInvalidBound_part : PySem.W.findIn K (.ref EInvalidBound) "part" = some none)
    (neInvalidBound_at : PySem.W.findIn K (.ref EInvalidBound) "at" = some none)
    (neInvalidBound_index : PySem.W.findIn K (.ref EInvalidBound) "index" = some none)
    (neInvalidBound_limit : PySem.W.findIn K (.ref EInvalidBound) "limit" = some none)
    (xlInvalidBound : PySem.W.findIn K (.ref EInvalidBound) "__class__" = some (some (.builtin "object.__class__")))
    (xmInvalidBound : PySem.W.mroIn K EInvalidBound (.type "object") = some true)
    (seInvalidBound_BreakerError : PySem.W.subIn K (.ref EInvalidBound) (.ref EBreakerError) = some true)
    (seInvalidBound_InvalidRow : PySem.W.subIn K (.ref EInvalidBound) (.ref EInvalidRow) = some false)
    (seInvalidBound_InvalidIndex : PySem.W.subIn K (.ref EInvalidBound) (.ref EInvalidIndex) = some false)
    (seInvalidBound_InvalidBound : PySem.W.subIn K (.ref EInvalidBound) (.ref EInvalidBound) = some true)
    (seInvalidBound_LimitExceeded : PySem.W.subIn K (.ref EInvalidBound) (.ref ELimitExceeded) = some false)
    (saInvalidBound : PySem.W.subIn K (.ref EInvalidBound) (.type "ArithmeticError") = some true)
    (xoLimitExceeded : K.lookup ELimitExceeded = some (excClassObj nmLimitExceeded qnLimitExceeded ELimitExceeded nnLimitExceeded bsLimitExceeded [.ref EBreakerError, .type "ArithmeticError", .type "Exception", .type "BaseException", .type "object"] true snLimitExceeded sbLimitExceeded abLimitExceeded coLimitExceeded ddLimitExceeded u0LimitExceeded u1LimitExceeded u2LimitExceeded u3LimitExceeded u5LimitExceeded "ArithmeticError.__new__"))
    (xsLimitExceeded : PySem.W.findIn K (.ref ELimitExceeded) "__setattr__" = some (some (.builtin "object.__setattr__")))
    (xkLimitExceeded : PySem.W.keepIn K (.ref ELimitExceeded) = true)
    (aNLimitExceeded : PySem.W.findIn K (.ref ELimitExceeded) "__init__" = some (some (.ref aILimitExceeded)))
    (tNLimitExceeded : PySem.W.typeIn K (.ref aILimitExceeded) = some (.type "function"))
    (lNLimitExceeded : K.lookup aILimitExceeded = some ⟨ocNLimitExceeded, odNLimitExceeded, .func (PySem.W.fnOf "__init__" "LimitExceeded.__init__" (defArgs st_LimitExceeded_init) (defBody st_LimitExceeded_init) (defScope st_LimitExceeded_init) .none kVNLimitExceeded dcNLimitExceeded pmNLimitExceeded anNLimitExceeded cdNLimitExceeded ctNLimitExceeded), slNLimitExceeded⟩)
    (cNLimitExceeded : PySem.W.codeIn K cdNLimitExceeded "LimitExceeded.__init__" = true)
    (kNLimitExceeded : PySem.W.keepIn K (.ref aILimitExceeded) = true)
    (neLimitExceeded_part : PySem.W.findIn K (.ref ELimitExceeded) "part" = some none)
    (neLimitExceeded_at : PySem.W.findIn K (.ref ELimitExceeded) "at" = some none)
    (neLimitExceeded_index : PySem.W.findIn K (.ref ELimitExceeded) "index" = some none)
    (neLimitExceeded_limit : PySem.W.findIn K (.ref ELimitExceeded) "limit" = some none)
    (xlLimitExceeded : PySem.W.findIn K (.ref ELimitExceeded) "__class__" = some (some (.builtin "object.__class__")))
    (xmLimitExceeded : PySem.W.mroIn K ELimitExceeded (.type "object") = some true)
    (seLimitExceeded_BreakerError : PySem.W.subIn K (.ref ELimitExceeded) (.ref EBreakerError) = some true)
    (seLimitExceeded_InvalidRow : PySem.W.subIn K (.ref ELimitExceeded) (.ref EInvalidRow) = some false)
    (seLimitExceeded_InvalidIndex : PySem.W.subIn K (.ref ELimitExceeded) (.ref EInvalidIndex) = some false)
    (seLimitExceeded_InvalidBound : PySem.W.subIn K (.ref ELimitExceeded) (.ref EInvalidBound) = some false)
    (seLimitExceeded_LimitExceeded : PySem.W.subIn K (.ref ELimitExceeded) (.ref ELimitExceeded) = some true)
    (saLimitExceeded : PySem.W.subIn K (.ref ELimitExceeded) (.type "ArithmeticError") = some true)
    (gNMOST_BREAKERS : PySem.W.nsIn K mainGlobals "MOST_BREAKERS" = some (some (.int 12 tNMOST_BREAKERS)))
    (gNMOST_ORDERED : PySem.W.nsIn K mainGlobals "MOST_ORDERED" = some (some (.int 7 tNMOST_ORDERED)))
    (gNMOST_PERIODS : PySem.W.nsIn K mainGlobals "MOST_PERIODS" = some (some (.int 2000 tNMOST_PERIODS)))
    (aY : PySem.W.nsIn K mainGlobals "law" = some (some (.ref aLaw)))
    (lY : K.lookup aLaw = some ⟨ocY, odY, .func (PySem.W.fnOf "law" "law" (defArgs st_law) (defBody st_law) (defScope st_law) .none kVY dcY pmY anY (.ref kcY) ctY), slY⟩)
    (cY : PySem.W.codeIn K (.ref kcY) "law" = true)
    (kY : PySem.W.keepIn K (.ref aLaw) = true)
    (z_ArithmeticError : PySem.W.nsIn K mainGlobals "ArithmeticError" = some none)
    (z_bool : PySem.W.nsIn K mainGlobals "bool" = some none)
    (z_enumerate : PySem.W.nsIn K mainGlobals "enumerate" = some none)
    (z_int : PySem.W.nsIn K mainGlobals "int" = some none)
    (z_isinstance : PySem.W.nsIn K mainGlobals "isinstance" = some none)
    (z_len : PySem.W.nsIn K mainGlobals "len" = some none)
    (z_list : PySem.W.nsIn K mainGlobals "list" = some none)
    (z_max : PySem.W.nsIn K mainGlobals "max" = some none)
    (z_min : PySem.W.nsIn K mainGlobals "min" = some none)
    (z_range : PySem.W.nsIn K mainGlobals "range" = some none)
    (z_repr : PySem.W.nsIn K mainGlobals "repr" = some none)
    (z_sorted : PySem.W.nsIn K mainGlobals "sorted" = some none)
    (z_tuple : PySem.W.nsIn K mainGlobals "tuple" = some none)
    (tbq27 : TabE K h kcq27 ktq27)
    (tbq29 : TabE K h kcq29 ktq29)
    (tbY : TabE K h kcY ktY)
    (ntq27_q29 : ktq27 ≠ ktq29)
    (ntq27_Y : ktq27 ≠ ktY)
    (ntq29_Y : ktq29 ≠ ktY) :
    ∃ (fd : FuncData) (cs : List (Addr × Addr)) (sp : Sp), (∀ p ∈ cs, TabE K h p.1 p.2) ∧ (∀ (s : Shared) (v : Value), BindsTo s fd ⟨[v], []⟩ [("_law_script", v)]) ∧ (∀ (H : Hp) (a : Addr) (ns : List Int), ns.length ≤ 63 → (∀ z ∈ ns, Builtin.Int.intBits z ≤ 1048576) → (∀ p ∈ cs, H p.2 = some (.tbl #[])) → SqL K H a (ns.map V.int) → sp [.ref a] H (fun v _ => v = .bl true) fun _ _ _ => False) ∧ ∀ base : Heap, K.In base → base.Ns mainGlobals mg → (∀ p ∈ cs, LamX.TabB base mg p.1 p.2) → FnOk P w K mg base CX0 14 fa fd ["_law_script"] sp := by
  have e := hfa.symm.trans (PySem.W.mg_of X G aY)
  cases e
  obtain ⟨vMOST_COUNT, hvMOST_COUNT, rMOST_COUNT⟩ := LL.val _ hLMOST_COUNT
  obtain ⟨tMOST_COUNT, rfl, -⟩ := PySem.W.readsW_int_inv rMOST_COUNT
  obtain ⟨vMOST_TIME, hvMOST_TIME, rMOST_TIME⟩ := LL.val _ hLMOST_TIME
  obtain ⟨tMOST_TIME, rfl, -⟩ := PySem.W.readsW_int_inv rMOST_TIME
  have T : LX K mg ⟨fq0, fq1, fq2, fq3, fq4, fq5, fq6, fq7, fq8, fq9, fq10, fq11, fq12, fq13, fq14, fq15, fq16, fq17, fq18, fq19, fq20, fq21, fq22, fq23, fq24, fq25, fq26, fq27, kcq27, ktq27, fq28, fq29, kcq29, ktq29, kcY, ktY, CRow, aIRow, fq30, fq31, fq32, fq33, fq34, fq35, fq36, fq37, EBreakerError, EInvalidRow, EInvalidIndex, EInvalidBound, ELimitExceeded, aIInvalidIndex, aIInvalidBound, aILimitExceeded⟩ := ⟨PySem.W.mg_none_of X G z_ArithmeticError,
    PySem.W.mg_none_of X G z_bool,
    PySem.W.mg_none_of X G z_enumerate,
    PySem.W.mg_none_of X G z_int,
    PySem.W.mg_none_of X G z_isinstance,
    PySem.W.mg_none_of X G z_len,
    PySem.W.mg_none_of X G z_list,
    PySem.W.mg_none_of X G z_max,
    PySem.W.mg_none_of X G z_min,
    PySem.W.mg_none_of X G z_range,
    PySem.W.mg_none_of X G z_repr,
    PySem.W.mg_none_of X G z_sorted,
    PySem.W.mg_none_of X G z_tuple,
    ⟨_, PySem.W.mg_of X G gNMOST_BREAKERS⟩,
    ⟨_, hvMOST_COUNT⟩,
    ⟨_, hvMOST_TIME⟩,
    ⟨_, PySem.W.mg_of X G gNMOST_ORDERED⟩,
    ⟨_, PySem.W.mg_of X G gNMOST_PERIODS⟩,
    mk_dfn X G aq0 lq0 cq0 kq0 bn_q0,
    mk_dfn X G aq1 lq1 cq1 kq1 bn_q1,
    mk_dfn X G aq2 lq2 cq2 kq2 bn_q2,
    mk_dfn X G aq3 lq3 cq3 kq3 bn_q3,
    mk_dfn X G aq4 lq4 cq4 kq4 bn_q4,
    mk_dfn X G aq5 lq5 cq5 kq5 bn_q5,
    mk_dfn X G aq6 lq6 cq6 kq6 bn_q6,
    mk_dfn X G aq7 lq7 cq7 kq7 bn_q7,
    mk_dfn X G aq8 lq8 cq8 kq8 bn_q8,
    mk_dfn X G aq9 lq9 cq9 kq9 bn_q9,
    mk_dfn X G aq10 lq10 cq10 kq10 bn_q10,
    mk_dfn X G aq11 lq11 cq11 kq11 bn_q11,
    mk_dfn X G aq12 lq12 cq12 kq12 bn_q12,
    mk_dfn X G aq13 lq13 cq13 kq13 bn_q13,
    mk_dfn X G aq14 lq14 cq14 kq14 bn_q14,
    mk_dfn X G aq15 lq15 cq15 kq15 bn_q15,
    mk_dfn X G aq16 lq16 cq16 kq16 bn_q16,
    mk_dfn X G aq17 lq17 cq17 kq17 bn_q17,
    mk_dfn X G aq18 lq18 cq18 kq18 bn_q18,
    mk_dfn X G aq19 lq19 cq19 kq19 bn_q19,
    mk_dfn X G aq20 lq20 cq20 kq20 bn_q20,
    mk_dfn X G aq21 lq21 cq21 kq21 bn_q21,
    mk_dfn X G aq22 lq22 cq22 kq22 bn_q22,
    mk_dfn X G aq23 lq23 cq23 kq23 bn_q23,
    mk_dfn X G aq24 lq24 cq24 kq24 bn_q24,
    mk_dfn X G aq25 lq25 cq25 kq25 bn_q25,
    mk_dfn X G aq26 lq26 cq26 kq26 bn_q26,
    mk_dfnT X G aq27 lq27 cq27 kq27 bn_q27,
    mk_dfn X G aq28 lq28 cq28 kq28 bn_q28,
    mk_dfnT X G aq29 lq29 cq29 kq29 bn_q29,
    ntq27_q29,
    ntq27_Y,
    ntq29_Y,
    PySem.W.mg_of X G gcRow,
    ⟨⟨gRow0, gRow1, gRow2, gRow3⟩, gRow6, gRow7, gRow8, gO1, gO2, gRow9, gRow10, gRow11⟩,
    ⟨gRow4, aNRow, iNRow, gRow5⟩,
    nfRow_breakers,
    nfRow_step,
    nfRow_phase,
    ⟨_, ⟨⟨ocNRow, odNRow, .none, .ref aDRow, dcNRow, pmNRow, anNRow, cdNRow, ctNRow, slNRow, rfl, lNRow, cNRow, .inl ⟨rfl, rfl⟩, .inr ⟨aDRow, rfl, fun q hq => by rw [List.mem_singleton.mp hq]; exact ⟨_, dRow, _, rfl⟩⟩⟩, kNRow⟩⟩,
    mk_mth aq30 iq30 nq30 lq30 cq30 kq30 bn_q30,
    mk_mth aq31 iq31 nq31 lq31 cq31 kq31 bn_q31,
    mk_mth aq32 iq32 nq32 lq32 cq32 kq32 bn_q32,
    mk_mth aq33 iq33 nq33 lq33 cq33 kq33 bn_q33,
    mk_mth aq34 iq34 nq34 lq34 cq34 kq34 bn_q34,
    mk_mth aq35 iq35 nq35 lq35 cq35 kq35 bn_q35,
    mk_mth aq36 iq36 nq36 lq36 cq36 kq36 bn_q36,
    mk_mth aq37 iq37 nq37 lq37 cq37 kq37 bn_q37,
    PySem.W.mg_of X G geBreakerError,
    ⟨xaBreakerError, xbBreakerError, xcBreakerError, xdBreakerError⟩,
    xeBreakerError,
    PySem.W.mg_of X G geInvalidRow,
    ⟨xaInvalidRow, xbInvalidRow, xcInvalidRow, xdInvalidRow⟩,
    xeInvalidRow,
    PySem.W.mg_of X G geInvalidIndex,
    ⟨xaInvalidIndex, xbInvalidIndex, xcInvalidIndex, xdInvalidIndex⟩,
    xeInvalidIndex,
    PySem.W.mg_of X G geInvalidBound,
    ⟨xaInvalidBound, xbInvalidBound, xcInvalidBound, xdInvalidBound⟩,
    xeInvalidBound,
    PySem.W.mg_of X G geLimitExceeded,
    ⟨xaLimitExceeded, xbLimitExceeded, xcLimitExceeded, xdLimitExceeded⟩,
    xeLimitExceeded,
    ⟨⟨_, _, _, _, _, _, _, _, _, _, _, _, _, _, _, xoInvalidIndex, by rfl⟩, xsInvalidIndex, xcInvalidIndex, xeInvalidIndex, xkInvalidIndex⟩,
    aNInvalidIndex,
    tNInvalidIndex,
    ⟨_, fun_mk lNInvalidIndex cNInvalidIndex kNInvalidIndex, (fun_mk lNInvalidIndex cNInvalidIndex kNInvalidIndex).binds bn_NInvalidIndex⟩,
    neInvalidIndex_part,
    neInvalidIndex_at,
    neInvalidIndex_index,
    neInvalidIndex_limit,
    ⟨xaInvalidIndex, xbInvalidIndex, xcInvalidIndex, xdInvalidIndex, xlInvalidIndex, gO1, gO2, xmInvalidIndex⟩,
    seInvalidIndex_BreakerError,
    seInvalidIndex_InvalidRow,
    seInvalidIndex_InvalidIndex,
    seInvalidIndex_InvalidBound,
    seInvalidIndex_LimitExceeded,
    saInvalidIndex,
    ⟨⟨_, _, _, _, _, _, _, _, _, _, _, _, _, _, _, xoInvalidBound, by rfl⟩, xsInvalidBound, xcInvalidBound, xeInvalidBound, xkInvalidBound⟩,
    aNInvalidBound,
    tNInvalidBound,
    ⟨_, fun_mk lNInvalidBound cNInvalidBound kNInvalidBound, (fun_mk lNInvalidBound cNInvalidBound kNInvalidBound).binds bn_NInvalidBound⟩,
    neInvalidBound_part,
    neInvalidBound_at,
    neInvalidBound_index,
    neInvalidBound_limit,
    ⟨xaInvalidBound, xbInvalidBound, xcInvalidBound, xdInvalidBound, xlInvalidBound, gO1, gO2, xmInvalidBound⟩,
    seInvalidBound_BreakerError,
    seInvalidBound_InvalidRow,
    seInvalidBound_InvalidIndex,
    seInvalidBound_InvalidBound,
    seInvalidBound_LimitExceeded,
    saInvalidBound,
    ⟨⟨_, _, _, _, _, _, _, _, _, _, _, _, _, _, _, xoLimitExceeded, by rfl⟩, xsLimitExceeded, xcLimitExceeded, xeLimitExceeded, xkLimitExceeded⟩,
    aNLimitExceeded,
    tNLimitExceeded,
    ⟨_, fun_mk lNLimitExceeded cNLimitExceeded kNLimitExceeded, (fun_mk lNLimitExceeded cNLimitExceeded kNLimitExceeded).binds bn_NLimitExceeded⟩,
    neLimitExceeded_part,
    neLimitExceeded_at,
    neLimitExceeded_index,
    neLimitExceeded_limit,
    ⟨xaLimitExceeded, xbLimitExceeded, xcLimitExceeded, xdLimitExceeded, xlLimitExceeded, gO1, gO2, xmLimitExceeded⟩,
    seLimitExceeded_BreakerError,
    seLimitExceeded_InvalidRow,
    seLimitExceeded_InvalidIndex,
    seLimitExceeded_InvalidBound,
    seLimitExceeded_LimitExceeded,
    saLimitExceeded⟩
  have tbs : ∀ p ∈ [(kcq27, ktq27), (kcq29, ktq29), (kcY, ktY)], TabE K h p.1 p.2 := by
    intro p hp
    simp only [List.mem_cons, List.mem_nil_iff, or_false] at hp
    rcases hp with rfl | rfl | rfl
    · exact tbq27
    · exact tbq29
    · exact tbY
  refine ⟨_, [(kcq27, ktq27), (kcq29, ktq29), (kcY, ktY)], spLawT K _, tbs, fun s v => .of_eq rfl, fun H a ns hl _ hH hS => ⟨a, ns, rfl, hS, hl, ?_, fun _ => rfl⟩, fun base _ _ hB => ok_law ⟨⟨_, _, _, _, _, _, _, _, rfl, lY, cY⟩, kY⟩ T ⟨hB (kcq27, ktq27) (.head _), hB (kcq29, ktq29) (.tail _ (.head _)), hB (kcY, ktY) (.tail _ (.tail _ (.head _)))⟩⟩
  intro p hp
  simp only [LT, List.mem_cons, List.mem_nil_iff, or_false] at hp
  rcases hp with rfl | rfl | rfl
  · exact LamX.TabS.nil (hH (kcq27, ktq27) (.head _))
  · exact LamX.TabS.nil (hH (kcq29, ktq29) (.tail _ (.head _)))
  · exact LamX.TabS.nil (hH (kcY, ktY) (.tail _ (.tail _ (.head _))))
/-- the end, with tables of code objects and what the loose names hold -/
theorem walk_tabs {l : PySem.W.OpenLaw} {q p : Program} {lv : List (Str × PySem.W.WData)} {loose : List Str} {YP : World → Heap → Prop} {d : DefRec} {K : Params → PySem.W.Frag} (hn : l.most = some 63) (hd : d.params.defaults = []) (hY : ∀ (w : World) (h : Heap), YP w h → (K w.params).In h)
    (F : ∀ (w : World) (mg : Str → Option Value) (fa : Addr) (h : Heap), YP w h → (K w.params).In h → h.Ns mainGlobals mg → PySem.W.LooseAre lv mg h → mg d.name = some (.ref fa) →
      ∃ (fd : FuncData) (cs : List (Addr × Addr)) (sp : Sp), (∀ p ∈ cs, TabE (K w.params) h p.1 p.2) ∧ (∀ (s : Shared) (v : Value), BindsTo s fd ⟨[v], []⟩ [("_law_script", v)]) ∧ (∀ (H : Hp) (a : Addr) (ns : List Int), ns.length ≤ 63 → (∀ z ∈ ns, Builtin.Int.intBits z ≤ 1048576) → (∀ p ∈ cs, H p.2 = some (.tbl #[])) → SqL (K w.params) H a (ns.map V.int) → sp [.ref a] H (fun v _ => v = .bl true) fun _ _ _ => False) ∧ ∀ base : Heap, (K w.params).In base → base.Ns mainGlobals mg → (∀ p ∈ cs, LamX.TabB base mg p.1 p.2) → FnOk l.prog w (K w.params) mg base CX0 14 fa fd ["_law_script"] sp) :
    PySem.W.WalkO q loose (PySem.W.XL p lv) YP l.row.toRowW d [] (fun f vs => PySem.call f vs) := Att.attach_callB hn hd fun w _ s₁ mg mb fa _ _ _ _ a vs ns G Y _ _ _ hmg hobj hints hlen hbits hg => by
  obtain ⟨fd, cs, sp, hT, hb, hsp, hF⟩ := F w mg fa s₁.heap Y (hY w s₁.heap Y) G.T.g G.X.2 hmg
  exact LamX.law_callTs (hY w s₁.heap Y) G.T.g G.T.b G.T.builtins G.T.nolimit hg (fun p hp => (hT p hp).1) (fun p hp => (hT p hp).2.2) (fun p hp => PySem.W.codeHd_of_K (hY w s₁.heap Y) (hT p hp).2.1) G.T.bmain hobj hints (Nat.le_trans hlen (by decide)) ⟨rfl, by decide, by decide⟩ hF hb (fun H hH hS => hsp H a ns hlen hbits hH hS) fun _ _ _ z => z

end Toy
open PySem PySem.W PyProof.Rows
set_option maxRecDepth 100000 in
set_option maxHeartbeats 0 in
theorem PySem.Challenge.cw_breakerrow_k41_invalid_orders_and_waits_holds : PySem.Challenge.rw_breakerrow_k41_invalid_orders_and_waits.Holds := by
  w_on; o_law; k_head; (case hw => w_witness2)
  k_fill
  refine Toy.walk_tabs (l := PySem.Challenge.rw_breakerrow_k41_invalid_orders_and_waits) rfl rfl (fun w h Y => PySem.W.km_in_of Y) ?F
  intro w mg fa h Y KX G LL hmg
  have hT := PySem.W.km_tabs_of Y
  refine' Toy.all_mk KX G LL (by first | exact .head _ | exact .tail _ (.head _) | exact .tail _ (.tail _ (.head _)) | exact .tail _ (.tail _ (.tail _ (.head _))) | exact .tail _ (.tail _ (.tail _ (.tail _ (.head _)))) | exact .tail _ (.tail _ (.tail _ (.tail _ (.tail _ (.head _))))) | exact .tail _ (.tail _ (.tail _ (.tail _ (.tail _ (.tail _ (.head _)))))) | exact .tail _ (.tail _ (.tail _ (.tail _ (.tail _ (.tail _ (.tail _ (.head _))))))) | exact .tail _ (.tail _ (.tail _ (.tail _ (.tail _ (.tail _ (.tail _ (.tail _ (.head _)))))))) | exact .tail _ (.tail _ (.tail _ (.tail _ (.tail _ (.tail _ (.tail _ (.tail _ (.tail _ (.head _)))))))))) (by first | exact .head _ | exact .tail _ (.head _) | exact .tail _ (.tail _ (.head _)) | exact .tail _ (.tail _ (.tail _ (.head _))) | exact .tail _ (.tail _ (.tail _ (.tail _ (.head _)))) | exact .tail _ (.tail _ (.tail _ (.tail _ (.tail _ (.head _))))) | exact .tail _ (.tail _ (.tail _ (.tail _ (.tail _ (.tail _ (.head _)))))) | exact .tail _ (.tail _ (.tail _ (.tail _ (.tail _ (.tail _ (.tail _ (.head _))))))) | exact .tail _ (.tail _ (.tail _ (.tail _ (.tail _ (.tail _ (.tail _ (.tail _ (.head _)))))))) | exact .tail _ (.tail _ (.tail _ (.tail _ (.tail _ (.tail _ (.tail _ (.tail _ (.tail _ (.head _)))))))))) hmg ?aq0 ?lq0 ?cq0 ?kq0 ?aq1 ?lq1 ?cq1 ?kq1 ?aq2 ?lq2 ?cq2 ?kq2 ?aq3 ?lq3 ?cq3 ?kq3 ?aq4 ?lq4 ?cq4 ?kq4 ?aq5 ?lq5 ?cq5 ?kq5 ?aq6 ?lq6 ?cq6 ?kq6 ?aq7 ?lq7 ?cq7 ?kq7 ?aq8 ?lq8 ?cq8 ?kq8 ?aq9 ?lq9 ?cq9 ?kq9 ?aq10 ?lq10 ?cq10 ?kq10 ?aq11 ?lq11 ?cq11 ?kq11 ?aq12 ?lq12 ?cq12 ?kq12 ?aq13 ?lq13 ?cq13 ?kq13 ?aq14 ?lq14 ?cq14 ?kq14 ?aq15 ?lq15 ?cq15 ?kq15 ?aq16 ?lq16 ?cq16 ?kq16 ?aq17 ?lq17 ?cq17 ?kq17 ?aq18 ?lq18 ?cq18 ?kq18 ?aq19 ?lq19 ?cq19 ?kq19 ?aq20 ?lq20 ?cq20 ?kq20 ?aq21 ?lq21 ?cq21 ?kq21 ?aq22 ?lq22 ?cq22 ?kq22 ?aq23 ?lq23 ?cq23 ?kq23 ?aq24 ?lq24 ?cq24 ?kq24 ?aq25 ?lq25 ?cq25 ?kq25 ?aq26 ?lq26 ?cq26 ?kq26 ?aq27 ?lq27 ?cq27 ?kq27 ?aq28 ?lq28 ?cq28 ?kq28 ?aq29 ?lq29 ?cq29 ?kq29 ?gcRow ?gRow0 ?gRow1 ?gRow2 ?gRow3 ?gRow4 ?gRow5 ?gRow6 ?gRow7 ?gRow8 ?gRow9 ?gRow10 ?gRow11 ?gO1 ?gO2 ?nfRow_breakers ?nfRow_step ?nfRow_phase ?aNRow ?iNRow ?lNRow ?cNRow ?kNRow ?dRow ?aq30 ?iq30 ?nq30 ?lq30 ?cq30 ?kq30 ?aq31 ?iq31 ?nq31 ?lq31 ?cq31 ?kq31 ?aq32 ?iq32 ?nq32 ?lq32 ?cq32 ?kq32 ?aq33 ?iq33 ?nq33 ?lq33 ?cq33 ?kq33 ?aq34 ?iq34 ?nq34 ?lq34 ?cq34 ?kq34 ?aq35 ?iq35 ?nq35 ?lq35 ?cq35 ?kq35 ?aq36 ?iq36 ?nq36 ?lq36 ?cq36 ?kq36 ?aq37 ?iq37 ?nq37 ?lq37 ?cq37 ?kq37 ?geBreakerError ?xaBreakerError ?xbBreakerError ?xcBreakerError ?xdBreakerError ?xeBreakerError ?geInvalidRow ?xaInvalidRow ?xbInvalidRow ?xcInvalidRow ?xdInvalidRow ?xeInvalidRow ?geInvalidIndex ?xaInvalidIndex ?xbInvalidIndex ?xcInvalidIndex ?xdInvalidIndex ?xeInvalidIndex ?geInvalidBound ?xaInvalidBound ?xbInvalidBound ?xcInvalidBound ?xdInvalidBound ?xeInvalidBound ?geLimitExceeded ?xaLimitExceeded ?xbLimitExceeded ?xcLimitExceeded ?xdLimitExceeded ?xeLimitExceeded ?xoInvalidIndex ?xsInvalidIndex ?xkInvalidIndex ?aNInvalidIndex ?tNInvalidIndex ?lNInvalidIndex ?cNInvalidIndex ?kNInvalidIndex ?neInvalidIndex_part ?neInvalidIndex_at ?neInvalidIndex_index ?neInvalidIndex_limit ?xlInvalidIndex ?xmInvalidIndex ?seInvalidIndex_BreakerError ?seInvalidIndex_InvalidRow ?seInvalidIndex_InvalidIndex ?seInvalidIndex_InvalidBound ?seInvalidIndex_LimitExceeded ?saInvalidIndex ?xoInvalidBound ?xsInvalidBound ?xkInvalidBound ?aNInvalidBound ?tNInvalidBound ?lNInvalidBound ?cNInvalidBound ?kNInvalidBound ?neInvalidBound_part ?neInvalidBound_at ?neInvalidBound_index ?neInvalidBound_limit ?xlInvalidBound ?xmInvalidBound ?seInvalidBound_BreakerError ?seInvalidBound_InvalidRow ?seInvalidBound_InvalidIndex ?seInvalidBound_InvalidBound ?seInvalidBound_LimitExceeded ?saInvalidBound ?xoLimitExceeded ?xsLimitExceeded ?xkLimitExceeded ?aNLimitExceeded ?tNLimitExceeded ?lNLimitExceeded ?cNLimitExceeded ?kNLimitExceeded ?neLimitExceeded_part ?neLimitExceeded_at ?neLimitExceeded_index ?neLimitExceeded_limit ?xlLimitExceeded ?xmLimitExceeded ?seLimitExceeded_BreakerError ?seLimitExceeded_InvalidRow ?seLimitExceeded_InvalidIndex ?seLimitExceeded_InvalidBound ?seLimitExceeded_LimitExceeded ?saLimitExceeded ?gNMOST_BREAKERS ?gNMOST_ORDERED ?gNMOST_PERIODS ?aY ?lY ?cY ?kY ?z_ArithmeticError ?z_bool ?z_enumerate ?z_int ?z_isinstance ?z_len ?z_list ?z_max ?z_min ?z_range ?z_repr ?z_sorted ?z_tuple ?tbq27 ?tbq29 ?tbY ?ntq27_q29 ?ntq27_Y ?ntq29_Y
  (case aq0 => k_is)
  (case lq0 => k_is)
  (case cq0 => k_is)
  (case kq0 => k_is)
  (case aq1 => k_is)
  (case lq1 => k_is)
  (case cq1 => k_is)
  (case kq1 => k_is)
  (case aq2 => k_is)
  (case lq2 => k_is)
  (case cq2 => k_is)
  (case kq2 => k_is)
  (case aq3 => k_is)
  (case lq3 => k_is)
  (case cq3 => k_is)
  (case kq3 => k_is)
  (case aq4 => k_is)
  (case lq4 => k_is)
  (case cq4 => k_is)
  (case kq4 => k_is)
  (case aq5 => k_is)
  (case lq5 => k_is)
  (case cq5 => k_is)
  (case kq5 => k_is)
  (case aq6 => k_is)
  (case lq6 => k_is)
  (case cq6 => k_is)
  (case kq6 => k_is)
  (case aq7 => k_is)
  (case lq7 => k_is)
  (case cq7 => k_is)
  (case kq7 => k_is)
  (case aq8 => k_is)
  (case lq8 => k_is)
  (case cq8 => k_is)
  (case kq8 => k_is)
  (case aq9 => k_is)
  (case lq9 => k_is)
  (case cq9 => k_is)
  (case kq9 => k_is)
  (case aq10 => k_is)
  (case lq10 => k_is)
  (case cq10 => k_is)
  (case kq10 => k_is)
  (case aq11 => k_is)
  (case lq11 => k_is)
  (case cq11 => k_is)
  (case kq11 => k_is)
  (case aq12 => k_is)
  (case lq12 => k_is)
  (case cq12 => k_is)
  (case kq12 => k_is)
  (case aq13 => k_is)
  (case lq13 => k_is)
  (case cq13 => k_is)
  (case kq13 => k_is)
  (case aq14 => k_is)
  (case lq14 => k_is)
  (case cq14 => k_is)
  (case kq14 => k_is)
  (case aq15 => k_is)
  (case lq15 => k_is)
  (case cq15 => k_is)
  (case kq15 => k_is)
  (case aq16 => k_is)
  (case lq16 => k_is)
  (case cq16 => k_is)
  (case kq16 => k_is)
  (case aq17 => k_is)
  (case lq17 => k_is)
  (case cq17 => k_is)
  (case kq17 => k_is)
  (case aq18 => k_is)
  (case lq18 => k_is)
  (case cq18 => k_is)
  (case kq18 => k_is)
  (case aq19 => k_is)
  (case lq19 => k_is)
  (case cq19 => k_is)
  (case kq19 => k_is)
  (case aq20 => k_is)
  (case lq20 => k_is)
  (case cq20 => k_is)
  (case kq20 => k_is)
  (case aq21 => k_is)
  (case lq21 => k_is)
  (case cq21 => k_is)
  (case kq21 => k_is)
  (case aq22 => k_is)
  (case lq22 => k_is)
  (case cq22 => k_is)
  (case kq22 => k_is)
  (case aq23 => k_is)
  (case lq23 => k_is)
  (case cq23 => k_is)
  (case kq23 => k_is)
  (case aq24 => k_is)
  (case lq24 => k_is)
  (case cq24 => k_is)
  (case kq24 => k_is)
  (case aq25 => k_is)
  (case lq25 => k_is)
  (case cq25 => k_is)
  (case kq25 => k_is)
  (case aq26 => k_is)
  (case lq26 => k_is)
  (case cq26 => k_is)
  (case kq26 => k_is)
  (case aq27 => k_is)
  (case lq27 => k_is)
  (case cq27 => k_is)
  (case kq27 => k_is)
  (case aq28 => k_is)
  (case lq28 => k_is)
  (case cq28 => k_is)
  (case kq28 => k_is)
  (case aq29 => k_is)
  (case lq29 => k_is)
  (case cq29 => k_is)
  (case kq29 => k_is)
  (case gcRow => k_is)
  (case gRow0 => k_is)
  (case gRow1 => k_is)
  (case gRow2 => k_is)
  (case gRow3 => k_is)
  (case gRow4 => k_is)
  (case gRow5 => k_is)
  (case gRow6 => k_is)
  (case gRow7 => k_is)
  (case gRow8 => k_is)
  (case gRow9 => k_is)
  (case gRow10 => k_is)
  (case gRow11 => k_is)
  (case gO1 => k_is)
  (case gO2 => k_is)
  (case nfRow_breakers => k_is)
  (case nfRow_step => k_is)
  (case nfRow_phase => k_is)
  (case aNRow => k_is)
  (case iNRow => k_is)
  (case lNRow => k_is)
  (case cNRow => k_is)
  (case kNRow => k_is)
  (case dRow => k_is)
  (case aq30 => k_is)
  (case iq30 => k_is)
  (case nq30 => k_is)
  (case lq30 => k_is)
  (case cq30 => k_is)
  (case kq30 => k_is)
  (case aq31 => k_is)
  (case iq31 => k_is)
  (case nq31 => k_is)
  (case lq31 => k_is)
  (case cq31 => k_is)
  (case kq31 => k_is)
  (case aq32 => k_is)
  (case iq32 => k_is)
  (case nq32 => k_is)
  (case lq32 => k_is)
  (case cq32 => k_is)
  (case kq32 => k_is)
  (case aq33 => k_is)
  (case iq33 => k_is)
  (case nq33 => k_is)
  (case lq33 => k_is)
  (case cq33 => k_is)
  (case kq33 => k_is)
  (case aq34 => k_is)
  (case iq34 => k_is)
  (case nq34 => k_is)
  (case lq34 => k_is)
  (case cq34 => k_is)
  (case kq34 => k_is)
  (case aq35 => k_is)
  (case iq35 => k_is)
  (case nq35 => k_is)
  (case lq35 => k_is)
  (case cq35 => k_is)
  (case kq35 => k_is)
  (case aq36 => k_is)
  (case iq36 => k_is)
  (case nq36 => k_is)
  (case lq36 => k_is)
  (case cq36 => k_is)
  (case kq36 => k_is)
  (case aq37 => k_is)
  (case iq37 => k_is)
  (case nq37 => k_is)
  (case lq37 => k_is)
  (case cq37 => k_is)
  (case kq37 => k_is)
  (case geBreakerError => k_is)
  (case xaBreakerError => k_is)
  (case xbBreakerError => k_is)
  (case xcBreakerError => k_is)
  (case xdBreakerError => k_is)
  (case xeBreakerError => k_is)
  (case geInvalidRow => k_is)
  (case xaInvalidRow => k_is)
  (case xbInvalidRow => k_is)
  (case xcInvalidRow => k_is)
  (case xdInvalidRow => k_is)
  (case xeInvalidRow => k_is)
  (case geInvalidIndex => k_is)
  (case xaInvalidIndex => k_is)
  (case xbInvalidIndex => k_is)
  (case xcInvalidIndex => k_is)
  (case xdInvalidIndex => k_is)
  (case xeInvalidIndex => k_is)
  (case geInvalidBound => k_is)
  (case xaInvalidBound => k_is)
  (case xbInvalidBound => k_is)
  (case xcInvalidBound => k_is)
  (case xdInvalidBound => k_is)
  (case xeInvalidBound => k_is)
  (case geLimitExceeded => k_is)
  (case xaLimitExceeded => k_is)
  (case xbLimitExceeded => k_is)
  (case xcLimitExceeded => k_is)
  (case xdLimitExceeded => k_is)
  (case xeLimitExceeded => k_is)
  (case xoInvalidIndex => k_is)
  (case xsInvalidIndex => k_is)
  (case xkInvalidIndex => k_is)
  (case aNInvalidIndex => k_is)
  (case tNInvalidIndex => k_is)
  (case lNInvalidIndex => k_is)
  (case cNInvalidIndex => k_is)
  (case kNInvalidIndex => k_is)
  (case neInvalidIndex_part => k_is)
  (case neInvalidIndex_at => k_is)
  (case neInvalidIndex_index => k_is)
  (case neInvalidIndex_limit => k_is)
  (case xlInvalidIndex => k_is)
  (case xmInvalidIndex => k_is)
  (case seInvalidIndex_BreakerError => k_is)
  (case seInvalidIndex_InvalidRow => k_is)
  (case seInvalidIndex_InvalidIndex => k_is)
  (case seInvalidIndex_InvalidBound => k_is)
  (case seInvalidIndex_LimitExceeded => k_is)
  (case saInvalidIndex => k_is)
  (case xoInvalidBound => k_is)
  (case xsInvalidBound => k_is)
  (case xkInvalidBound => k_is)
  (case aNInvalidBound => k_is)
  (case tNInvalidBound => k_is)
  (case lNInvalidBound => k_is)
  (case cNInvalidBound => k_is)
  (case kNInvalidBound => k_is)
  (case neInvalidBound_part => k_is)
  (case neInvalidBound_at => k_is)
  (case neInvalidBound_index => k_is)
  (case neInvalidBound_limit => k_is)
  (case xlInvalidBound => k_is)
  (case xmInvalidBound => k_is)
  (case seInvalidBound_BreakerError => k_is)
  (case seInvalidBound_InvalidRow => k_is)
  (case seInvalidBound_InvalidIndex => k_is)
  (case seInvalidBound_InvalidBound => k_is)
  (case seInvalidBound_LimitExceeded => k_is)
  (case saInvalidBound => k_is)
  (case xoLimitExceeded => k_is)
  (case xsLimitExceeded => k_is)
  (case xkLimitExceeded => k_is)
  (case aNLimitExceeded => k_is)
  (case tNLimitExceeded => k_is)
  (case lNLimitExceeded => k_is)
  (case cNLimitExceeded => k_is)
  (case kNLimitExceeded => k_is)
  (case neLimitExceeded_part => k_is)
  (case neLimitExceeded_at => k_is)
  (case neLimitExceeded_index => k_is)
  (case neLimitExceeded_limit => k_is)
  (case xlLimitExceeded => k_is)
  (case xmLimitExceeded => k_is)
  (case seLimitExceeded_BreakerError => k_is)
  (case seLimitExceeded_InvalidRow => k_is)
  (case seLimitExceeded_InvalidIndex => k_is)
  (case seLimitExceeded_InvalidBound => k_is)
  (case seLimitExceeded_LimitExceeded => k_is)
  (case saLimitExceeded => k_is)
  (case gNMOST_BREAKERS => k_is)
  (case gNMOST_ORDERED => k_is)
  (case gNMOST_PERIODS => k_is)
  (case aY => k_is)
  (case lY => k_is)
  (case cY => k_is)
  (case kY => k_is)
  (case z_ArithmeticError => k_is)
  (case z_bool => k_is)
  (case z_enumerate => k_is)
  (case z_int => k_is)
  (case z_isinstance => k_is)
  (case z_len => k_is)
  (case z_list => k_is)
  (case z_max => k_is)
  (case z_min => k_is)
  (case z_range => k_is)
  (case z_repr => k_is)
  (case z_sorted => k_is)
  (case z_tuple => k_is)
  (case tbq27 => first | exact Toy.tabE_of (hT _ (.tail _ (.head _))) (by kernel_rfl) (by kernel_rfl))
  (case tbq29 => first | exact Toy.tabE_of (hT _ (.head _)) (by kernel_rfl) (by kernel_rfl))
  (case tbY => first | exact Toy.tabE_of (hT _ (.tail _ (.tail _ (.head _)))) (by kernel_rfl) (by kernel_rfl))
  (case ntq27_q29 => decide)
  (case ntq27_Y => decide)
  (case ntq29_Y => decide)
